import PyProof.Rows.All
import Wide.All
import OpenK.AllK
import Wide.FinOn
import HandS.ForMost
import HandS.Wide
import HandS.IsInst
import HandS.EndBits
import HandS.Style
import HandS.SortInts
import HandS.Evl
import HandS.TupMul
import HandS.WordsExc
import HandS.ExcOwn
import HandS.Exc
import HandS.ExcInit
import HandS.ExcField
import KE.KExcIs
import HandS.TryMany
import HandS.Conv
import HandS.Zip
import HandS.CallLocal
import HandS.Defaults
import HandS.Strs
import HandS.SetKeys
import HandS.SetBool
import HandS.Slots
import HandS.SlotsOwn
import HandS.Property
import HandS.ClsMeth
import HandS.MakeKwOnly
import HandS.FStr
import HandS.CallSlots
import HandS.ExcIs
import HandS.SetFor
import HandS.Text
import HandS.Rev
import HandS.Star
import HandS.TupAny
import HandS.DictTup
import HandS.ListItems
import HandS.Deep
import HandS.Zip
import HandS.AnyAll
import PySem.Challenge.RW_wholepages_k17_worlds_listed
set_option Elab.async false
set_option linter.all false
set_option maxRecDepth 100000
set_option maxHeartbeats 4000000

/-! ## Common: steps of a reading, heaps, the law's own helpers -/
namespace Y
open PySem PySem.Spec PyProof.Rows L2
/-! ### steps -/
section
variable {K : PySem.W.Frag} {σ : L2.St} {H : Hp} {D : Ends} {ta tb te tc : TE} {t u : TS} {c d : TT} {Q : VK} {R : Bool → Hp → Prop}
theorem c_seq (h : t { D with nx := u D } σ H) : tSeq t u D σ H := h
theorem st_of {t : TS} {σ0 : L2.St} (e : σ0 = σ) (h : t D σ H) : t D σ0 H := by
  rw [e]
  exact h
theorem c_next (h : D.nx σ H) : tNext D σ H := h
theorem c_asg {g : TG} (h : te σ H fun x H1 => g x σ H1 D.nx) : tAsg te g D σ H := h
theorem c_gname {i : Nat} {v : V} {Q : L2.St → Hp → Prop} (h : Q (σ.set i (some v)) H) : gName i v σ H Q := h
theorem c_gsub {to ti : TE} {s : TSet} {v : V} {Q : L2.St → Hp → Prop} (h : to σ H fun o H1 => ti σ H1 fun i H2 => s o i v H2 fun H3 => Q σ H3) : gSub to ti s v σ H Q := h
theorem c_drop (h : te σ H fun _ H1 => D.nx σ H1) : tDrop te D σ H := h
theorem c_ret (h : te σ H D.rt) : tRet te D σ H := h
theorem c_retN (h : D.rt .non H) : tRetN D σ H := h
theorem c_ifs (h : c σ H fun b H1 => if b = true then t D σ H1 else u D σ H1) : tIfS c t u D σ H := h
theorem c_var {i : Nat} {v : V} (e : σ[i]? = some (some v)) (h : Q v H) : tVar i σ H Q := ⟨v, e, h⟩
theorem c_c {v : V} (h : Q v H) : tC v σ H Q := h
theorem c_op {r : R2} (h : ta σ H fun x H1 => tb σ H1 fun y H2 => r x y H2 Q) : tOp r ta tb σ H Q := h
theorem c_un {r : V → Hp → VK → Prop} (h : ta σ H fun x H1 => r x H1 Q) : tUn r ta σ H Q := h
theorem c_test (h : te σ H fun x H1 => ∃ k, x = .bl k ∧ R k H1) : tTest te σ H R := h
theorem c_B (h : te σ H fun x H1 => ∃ k, x = .bl k ∧ R k H1) : tB te σ H R := h
theorem c_bl {k : Bool} (h : R k H) : ∃ k', V.bl k = .bl k' ∧ R k' H := ⟨k, rfl, h⟩
theorem c_and (h : c σ H fun b H1 => if b = true then d σ H1 R else R false H1) : tAnd c d σ H R := h
theorem c_or (h : c σ H fun b H1 => if b = true then R true H1 else d σ H1 R) : tOr c d σ H R := h
theorem c_not (h : c σ H fun b H1 => R (!b) H1) : tNot c σ H R := h
theorem c_andV (h : ta σ H fun x H1 => ∃ b, x = .bl b ∧ if b = true then tb σ H1 Q else Q (.bl false) H1) : tAndV ta tb σ H Q := h
theorem c_orV (h : ta σ H fun x H1 => ∃ b, x = .bl b ∧ if b = true then Q (.bl true) H1 else tb σ H1 Q) : tOrV ta tb σ H Q := h
theorem c_notV (h : ta σ H fun x H1 => ∃ b, x = .bl b ∧ Q (.bl (!b)) H1) : tNotV ta σ H Q := h
theorem c_if (h : c σ H fun b H1 => if b = true then ta σ H1 Q else tb σ H1 Q) : tIf c ta tb σ H Q := h
theorem c_CB {r : List V → Hp → VK → Prop} {t : TA} (h : t σ H fun vs H1 => r vs H1 Q) : tCB r t σ H Q := h
theorem c_nil {Q : List V → Hp → Prop} (h : Q [] H) : tNil σ H Q := h
theorem c_cons {tr : TA} {Q : List V → Hp → Prop} (h : ta σ H fun x H1 => tr σ H1 fun xs H2 => Q (x :: xs) H2) : tCons ta tr σ H Q := h
theorem c_call {sp : Sp} {dvs : List V} {E : XK} {t : TA} (h : t σ H fun vs H1 => sp (vs ++ dvs) H1 Q E) : tCall sp dvs E t σ H Q := h
theorem c_lst {t : TA} (h : t σ H fun xs H1 => xs.length ≤ sizeLine ∧ ∀ p, H1 p = none → Q (.ref p) (upd H1 p (.lst xs))) : tLst t σ H Q := h
theorem c_tup {t : TA} (h : t σ H fun xs H1 => xs.length ≤ sizeLine ∧ ∀ p, H1 p = none → Q (.ref p) (upd H1 p (.tup xs))) : tTup t σ H Q := h
theorem c_BM {T : String} {r : V → List V → Hp → VK → Prop} {to : TE} {t : TA} (h : to σ H fun x H1 => tyV K T x H1 ∧ t σ H1 fun xs H2 => r x xs H2 Q) : tBM K T r to t σ H Q := h
theorem c_BM0 {T : String} {r : V → List V → Hp → VK → Prop} {to : TE} (h : to σ H fun x H1 => tyV K T x H1 ∧ r x [] H1 Q) : tBM0 K T r to σ H Q := h
theorem c_chain {r r' : R2} (h : ta σ H fun x H1 => tb σ H1 fun y H2 => r x y H2 fun z H3 => ∃ k, z = .bl k ∧ if k = true then tc σ H3 fun w H4 => r' y w H4 Q else Q (.bl false) H3) : tChain r r' ta tb tc σ H Q := h
theorem c_for {wi : TI} {g : TG} {D : Ends} {xs : List V} {a : Addr} (hx : SqL K H a xs)
    (h : ∃ W : Nat → Nat → L2.St → Hp → Prop, (∃ m, W 0 m σ H) ∧ ∀ i m σ H, W i m σ H →
      ((Itl K a).stop i H ∧ D.nx σ H) ∨ ((Itl K a).go i H ∧ ∃ N : L2.St → Hp → Prop, (∀ σ' H', N σ' H' → ∃ m', m' < m ∧ W (i + 1) m' σ' H') ∧ ∀ x H', (Itl K a).yld i H x H' → g x σ H' fun σ2 H2 => t { D with nx := N, ct := N, bk := D.nx } σ2 H2)) :
    ∃ a', V.ref a = .ref a' ∧ (∃ xs, SqL K H a' xs) ∧ ∃ W : Nat → Nat → L2.St → Hp → Prop, (∃ m, W 0 m σ H) ∧ ∀ i m σ H, W i m σ H →
      ((Itl K a').stop i H ∧ D.nx σ H) ∨ ((Itl K a').go i H ∧ ∃ N : L2.St → Hp → Prop, (∀ σ' H', N σ' H' → ∃ m', m' < m ∧ W (i + 1) m' σ' H') ∧ ∀ x H', (Itl K a').yld i H x H' → g x σ H' fun σ2 H2 => t { D with nx := N, ct := N, bk := D.nx } σ2 H2) := ⟨a, rfl, ⟨xs, hx⟩, h⟩
/-- for x in xs, by what holds ahead of each turn -/
theorem c_forL {tl : TE} {g : TG} (h : tl σ H fun x H1 => ∃ a xs, x = .ref a ∧ SqL K H1 a xs ∧ ∃ Pv : Nat → L2.St → Hp → Prop, Pv 0 σ H1 ∧ (∀ i σ H, i ≤ xs.length → Pv i σ H → SqL K H a xs) ∧
      (∀ i x σ H, xs[i]? = some x → Pv i σ H → g x σ H fun σ2 H2 => t { D with nx := Pv (i + 1), ct := Pv (i + 1), bk := D.nx } σ2 H2) ∧ (∀ σ H, Pv xs.length σ H → D.nx σ H))
    (mono : ∀ Q Q' : VK, (∀ v H, Q v H → Q' v H) → tl σ H Q → tl σ H Q') : tFor (iList K tl) g t D σ H := by
  refine mono _ _ (fun v H1 h => ?_) h
  obtain ⟨a, xs, rfl, hx, Pv, h0, hl, hs, hd⟩ := h
  exact ⟨a, rfl, ⟨xs, hx⟩, for_list (xs := xs) Pv h0 hl hs hd⟩
theorem c_rng1 {ta : TA} {g : TG} (h : ta σ H fun vs H1 => ∃ j : Int, vs = [.int j] ∧ -(2 ^ 62) ≤ j ∧ j < 2 ^ 62 ∧ ∃ W : Nat → Nat → L2.St → Hp → Prop, (∃ m, W 0 m σ H1) ∧ ∀ i m σ H, W i m σ H →
      ((Itr 0 j.toNat).stop i H ∧ D.nx σ H) ∨ ((Itr 0 j.toNat).go i H ∧ ∃ N : L2.St → Hp → Prop, (∀ σ' H', N σ' H' → ∃ m', m' < m ∧ W (i + 1) m' σ' H') ∧ ∀ x H', (Itr 0 j.toNat).yld i H x H' → g x σ H' fun σ2 H2 => t { D with nx := N, ct := N, bk := D.nx } σ2 H2)) :
    tFor (iRng1 ta) g t D σ H := h
theorem c_forList {tl : TE} {g : TG} (h : tl σ H fun x H1 => ∃ a, x = .ref a ∧ (∃ xs, SqL K H1 a xs) ∧ ∃ W : Nat → Nat → L2.St → Hp → Prop, (∃ m, W 0 m σ H1) ∧ ∀ i m σ H, W i m σ H →
      ((Itl K a).stop i H ∧ D.nx σ H) ∨ ((Itl K a).go i H ∧ ∃ N : L2.St → Hp → Prop, (∀ σ' H', N σ' H' → ∃ m', m' < m ∧ W (i + 1) m' σ' H') ∧ ∀ x H', (Itl K a).yld i H x H' → g x σ H' fun σ2 H2 => t { D with nx := N, ct := N, bk := D.nx } σ2 H2)) :
    tFor (iList K tl) g t D σ H := h
theorem c_forTup {tl : TE} {g : TG} (h : tl σ H fun x H1 => ∃ a, x = .ref a ∧ (∃ xs, SqT K H1 a xs) ∧ ∃ W : Nat → Nat → L2.St → Hp → Prop, (∃ m, W 0 m σ H1) ∧ ∀ i m σ H, W i m σ H →
      ((Itt K a).stop i H ∧ D.nx σ H) ∨ ((Itt K a).go i H ∧ ∃ N : L2.St → Hp → Prop, (∀ σ' H', N σ' H' → ∃ m', m' < m ∧ W (i + 1) m' σ' H') ∧ ∀ x H', (Itt K a).yld i H x H' → g x σ H' fun σ2 H2 => t { D with nx := N, ct := N, bk := D.nx } σ2 H2)) :
    tFor (iTup K tl) g t D σ H := h
/-! operators by values -/
theorem r_I0 {g : Int → Int → V} {i j : Int} (h : Q (g i j) H) : rI0 g (.int i) (.int j) H Q := ⟨i, j, rfl, rfl, h⟩
theorem r_I {C : Int → Int → Prop} {g : Int → Int → V} {i j : Int} (hc : C i j) (h : Q (g i j) H) : rI C g (.int i) (.int j) H Q := ⟨i, j, rfl, rfl, hc, h⟩
theorem r_U {g : Int → V} {i : Int} (h : Q (g i) H) : rU g (.int i) H Q := ⟨i, rfl, h⟩
theorem dec_int {i j : Int} : decide (V.int i = V.int j) = decide (i = j) := by
  by_cases h : i = j
  · rw [decide_eq_true h, h, decide_eq_true rfl]
  · rw [decide_eq_false h, decide_eq_false fun z => h (V.int.inj z)]
theorem dec_bl {i j : Bool} : decide (V.bl i = V.bl j) = decide (i = j) := by cases i <;> cases j <;> rfl
theorem dec_str {i j : Str} : decide (V.str i = V.str j) = decide (i = j) := by
  by_cases h : i = j
  · rw [decide_eq_true h, h, decide_eq_true rfl]
  · rw [decide_eq_false h, decide_eq_false fun z => h (V.str.inj z)]
theorem r_eqI {i j : Int} (h : Q (.bl (decide (i = j))) H) : rEq (.int i) (.int j) H Q := ⟨rfl, by rw [dec_int]; exact h⟩
theorem r_neI {i j : Int} (h : Q (.bl (!decide (i = j))) H) : rNe (.int i) (.int j) H Q := ⟨rfl, by rw [dec_int]; exact h⟩
theorem r_eqB {i j : Bool} (h : Q (.bl (decide (i = j))) H) : rEq (.bl i) (.bl j) H Q := ⟨rfl, by rw [dec_bl]; exact h⟩
theorem r_neB {i j : Bool} (h : Q (.bl (!decide (i = j))) H) : rNe (.bl i) (.bl j) H Q := ⟨rfl, by rw [dec_bl]; exact h⟩
theorem r_eqS {i j : Str} (h : Q (.bl (decide (i = j))) H) : rEq (.str i) (.str j) H Q := ⟨rfl, by rw [dec_str]; exact h⟩
theorem r_neS {i j : Str} (h : Q (.bl (!decide (i = j))) H) : rNe (.str i) (.str j) H Q := ⟨rfl, by rw [dec_str]; exact h⟩
theorem r_isN {x : V} (h : Q (.bl (decide (x = .non))) H) : (fun (x y : V) (H : Hp) (Q : VK) => y = .non ∧ Q (.bl (decide (x = .non))) H) x .non H Q := ⟨rfl, h⟩
theorem r_ixL {p : Addr} {xs : List V} {i : Int} {v : V} (hx : SqL K H p xs) (ha : atI xs i = some v) (h : Q v H) : rIxL K (.ref p) (.int i) H Q := ⟨p, xs, i, v, rfl, rfl, hx, ha, h⟩
theorem r_ixT {p : Addr} {xs : List V} {i : Int} {v : V} (hx : SqT K H p xs) (ha : atI xs i = some v) (h : Q v H) : rIxT K (.ref p) (.int i) H Q := ⟨p, xs, i, v, rfl, rfl, hx, ha, h⟩
theorem r_inL {n : Bool} {p : Addr} {x : V} {xs : List V} (hx : SqL K H p xs) (h1 : flatV x = true) (h2 : xs.all flatV = true) (h : Q (.bl (if n then !inV x xs else inV x xs)) H) : rIn K n x (.ref p) H Q := ⟨p, xs, rfl, .inl hx, h1, h2, h⟩
theorem r_inT {n : Bool} {p : Addr} {x : V} {xs : List V} (hx : SqT K H p xs) (h1 : flatV x = true) (h2 : xs.all flatV = true) (h : Q (.bl (if n then !inV x xs else inV x xs)) H) : rIn K n x (.ref p) H Q := ⟨p, xs, rfl, .inr hx, h1, h2, h⟩
theorem r_lenL {p : Addr} {xs : List V} (hx : SqL K H p xs) (h : Q (.int xs.length) H) : (fun (xs : List V) (H : Hp) (Q : VK) => ∃ p ys, xs = [.ref p] ∧ (SqL K H p ys ∨ SqT K H p ys) ∧ Q (.int ys.length) H) [.ref p] H Q := ⟨p, xs, rfl, .inl hx, h⟩
theorem r_lenT {p : Addr} {xs : List V} (hx : SqT K H p xs) (h : Q (.int xs.length) H) : (fun (xs : List V) (H : Hp) (Q : VK) => ∃ p ys, xs = [.ref p] ∧ (SqL K H p ys ∨ SqT K H p ys) ∧ Q (.int ys.length) H) [.ref p] H Q := ⟨p, xs, rfl, .inr hx, h⟩
theorem r_app {p : Addr} {xs : List V} {y : V} (hx : H p = some (.lst xs)) (hl : xs.length < sizeLine) (h : Q .non (upd H p (.lst (xs ++ [y])))) : rAppend (.ref p) [y] H Q := ⟨p, xs, y, rfl, rfl, hx, hl, h⟩
theorem r_pop {p : Addr} {xs : List V} {y : V} (hx : H p = some (.lst (xs ++ [y]))) (h : Q y (upd H p (.lst xs))) : rPop (.ref p) [] H Q :=
  ⟨p, xs ++ [y], y, rfl, rfl, hx, by simp, by rw [List.dropLast_concat]; exact h⟩
theorem r_setL {p : Addr} {xs : List V} {i : Int} {j : Nat} {v : V} {Q : Hp → Prop} (hx : H p = some (.lst xs)) (hj : ixN xs.length i = some j) (h : Q (upd H p (.lst (xs.set j v)))) : rSetL (.ref p) (.int i) v H Q := ⟨p, xs, i, j, rfl, rfl, hx, hj, h⟩
theorem r_pow18 {H : Hp} {Q : VK} (h : Q (.int 1000000000000000000) H) : rI CPow (fun i j => .int (i ^ j.toNat)) (.int 10) (.int 18) H Q := r_I ⟨by decide, by decide, by decide⟩ h
theorem r_pow17 {H : Hp} {Q : VK} (h : Q (.int 100000000000000000) H) : rI CPow (fun i j => .int (i ^ j.toNat)) (.int 10) (.int 17) H Q := r_I ⟨by decide, by decide, by decide⟩ h
theorem ixn {n j : Nat} (h : j < n) : ixN n (j : Int) = some j := by
  unfold ixN
  rw [if_pos (by omega), if_pos (by omega)]
  rfl
theorem map_at {ns : List Int} {i : Nat} (h : i < ns.length) : (ns.map V.int)[i]? = some (.int ns[i]) := by
  rw [List.getElem?_map, List.getElem?_eq_getElem h]
  rfl
theorem r_tyL {p : Addr} {xs : List V} (hx : SqL K H p xs) {B : Prop} (h : B) : tyV K "list" (.ref p) H ∧ B := ⟨.inl ⟨rfl, _, hx⟩, h⟩
end
/-! ### tests -/
theorem i_T {b : Bool} {A B : Prop} (hb : b = true) (h : A) : if b = true then A else B := by
  rw [if_pos hb]
  exact h
theorem i_F {b : Bool} {A B : Prop} (hb : b = false) (h : B) : if b = true then A else B := by
  rw [hb, if_neg Bool.false_ne_true]
  exact h
theorem i_2 {b : Bool} {A B : Prop} (h1 : b = true → A) (h2 : b = false → B) : if b = true then A else B := by
  cases b with
  | true => exact i_T rfl (h1 rfl)
  | false => exact i_F rfl (h2 rfl)
theorem i_d {p : Prop} [Decidable p] {A B : Prop} (h1 : p → A) (h2 : ¬ p → B) : if decide p = true then A else B := by
  by_cases h : p
  · exact i_T (decide_eq_true h) (h1 h)
  · exact i_F (decide_eq_false h) (h2 h)
theorem i_n {p : Prop} [Decidable p] {A B : Prop} (h1 : ¬ p → A) (h2 : p → B) : if (!decide p) = true then A else B := by
  by_cases h : p
  · exact i_F (by rw [decide_eq_true h]; rfl) (h2 h)
  · exact i_T (by rw [decide_eq_false h]; rfl) (h1 h)
theorem small {n : Nat} (h : n ≤ 100000) : n ≤ sizeLine := Nat.le_trans h (by decide)
theorem smallLt {n : Nat} (h : n < 100000) : n < sizeLine := Nat.lt_of_lt_of_le h (by decide)
/-! ### heaps: what stays but at S -/
def Ex (S : Addr) (H H' : Hp) : Prop := ∀ a o, a ≠ S → H a = some o → H' a = some o
theorem Ex.refl (S : Addr) (H : Hp) : Ex S H H := fun _ _ _ h => h
theorem Ex.trans {S : Addr} {H H1 H2 : Hp} (a : Ex S H H1) (b : Ex S H1 H2) : Ex S H H2 := fun x o n h => b x o n (a x o n h)
theorem Ex.new {S : Addr} {H H1 : Hp} {p : Addr} {o : HO} (e : Ex S H H1) (h : H1 p = none) : Ex S H (upd H1 p o) := fun a u n ha => by
  rw [upd_ne (ne_of_none (e a u n ha) h)]
  exact e a u n ha
theorem Ex.mut {S : Addr} {H H1 : Hp} {p : Addr} {o : HO} (e : Ex S H H1) (h : H p = none) : Ex S H (upd H1 p o) := fun a u n ha => by
  rw [upd_ne (ne_of_none ha h)]
  exact e a u n ha
theorem Ex.at {S : Addr} {H H1 : Hp} {o : HO} (e : Ex S H H1) : Ex S H (upd H1 S o) := fun a u n ha => by
  rw [upd_ne n]
  exact e a u n ha
theorem Ex.same {S : Addr} {H H1 H2 : Hp} (e : Ex S H H1) (s : Same H1 H2) : Ex S H H2 := fun a u n ha => s a u (e a u n ha)
theorem same_new {H H1 : Hp} {p : Addr} {o : HO} (e : Same H H1) (h : H1 p = none) : Same H (upd H1 p o) := fun a u ha => by
  rw [upd_ne (ne_of_none (e a u ha) h)]
  exact e a u ha
theorem same_mut {H H1 : Hp} {p : Addr} {o : HO} (e : Same H H1) (h : H p = none) : Same H (upd H1 p o) := fun a u ha => by
  rw [upd_ne (ne_of_none ha h)]
  exact e a u ha
theorem same_tup {K : PySem.W.Frag} {H H' : Hp} {a : Addr} {xs : List V} (e : Same H H') (h : SqT K H a xs) : SqT K H' a xs := by
  rcases h with (h | ⟨o, h⟩) | h
  · exact .inl (.inl (e _ _ h))
  · exact .inl (.inr ⟨o, e _ _ h⟩)
  · exact .inr h
theorem Ex.seq {K : PySem.W.Frag} {S : Addr} {H H' : Hp} {a : Addr} {xs : List V} (e : Ex S H H') (n : a ≠ S) (h : SqL K H a xs) : SqL K H' a xs := by
  rcases h with (h | ⟨o, h⟩) | h
  · exact .inl (.inl (e _ _ n h))
  · exact .inl (.inr ⟨o, e _ _ n h⟩)
  · exact .inr h
theorem Ex.tup {K : PySem.W.Frag} {S : Addr} {H H' : Hp} {a : Addr} {xs : List V} (e : Ex S H H') (n : a ≠ S) (h : SqT K H a xs) : SqT K H' a xs := by
  rcases h with (h | ⟨o, h⟩) | h
  · exact .inl (.inl (e _ _ n h))
  · exact .inl (.inr ⟨o, e _ _ n h⟩)
  · exact .inr h
theorem sql {K : PySem.W.Frag} {H : Hp} {a : Addr} {xs : List V} (h : H a = some (.lst xs)) : SqL K H a xs := .inl (.inl h)
theorem sqt {K : PySem.W.Frag} {H : Hp} {a : Addr} {xs : List V} (h : H a = some (.tup xs)) : SqT K H a xs := .inl (.inl h)

theorem seq' {K : PySem.W.Frag} {H H' : Hp} {a : Addr} {xs : List V} (h : SqL K H a xs) (e : Same H H') : SqL K H' a xs := e.seq h
theorem tup' {K : PySem.W.Frag} {H H' : Hp} {a : Addr} {xs : List V} (h : SqT K H a xs) (e : Same H H') : SqT K H' a xs := same_tup e h
theorem same_at {H H' : Hp} {a : Addr} {o : HO} (e : Same H H') (h : H a = some o) : H' a = some o := e _ _ h
theorem ex_at {S : Addr} {H H' : Hp} {a : Addr} {o : HO} (e : Ex S H H') (n : a ≠ S) (h : H a = some o) : H' a = some o := e _ _ n h
theorem ne_nn {H : Hp} {a b : Addr} {o : HO} (h' : H b = none) (h : H a = some o) : a ≠ b := ne_of_none h h'
theorem ne_nn' {H : Hp} {a b : Addr} {o : HO} (h' : H b = none) (h : H a = some o) : b ≠ a := (ne_of_none h h').symm
section
variable {K : PySem.W.Frag} {σ : L2.St} {H : Hp} {tb te : TE} {c : TT} {Q : VK} {g : TG} {vs : List Nat}
theorem c_lcT (h : te σ H fun x H1 => ∃ a, x = .ref a ∧ (∃ xs, SqT K H1 a xs) ∧ ∀ D, H1 D = none → ∃ W : Nat → Nat → Hp → Prop, (∃ m, W 0 m (upd H1 D (.lst []))) ∧ ∀ i m G, W i m G →
      ((Itt K a).stop i G ∧ Q (.ref D) G) ∨ ((Itt K a).go i G ∧ ∃ Nx : Hp → Prop, (∀ G', Nx G' → ∃ m', m' < m ∧ W (i + 1) m' G') ∧ ∀ x G', (Itt K a).yld i G x G' → g x (wipe σ vs) G' fun σ2 H2 => wipe σ2 vs = wipe σ vs ∧ c σ2 H2 fun b H3 =>
        if b = true then tb σ2 H3 fun y H4 => ∃ acc, H4 D = some (.lst acc) ∧ acc.length < sizeLine ∧ Nx (upd H4 D (.lst (acc ++ [y]))) else Nx H3)) : tLc (iTup K te) g c tb vs σ H Q := h
theorem c_lcL (h : te σ H fun x H1 => ∃ a, x = .ref a ∧ (∃ xs, SqL K H1 a xs) ∧ ∀ D, H1 D = none → ∃ W : Nat → Nat → Hp → Prop, (∃ m, W 0 m (upd H1 D (.lst []))) ∧ ∀ i m G, W i m G →
      ((Itl K a).stop i G ∧ Q (.ref D) G) ∨ ((Itl K a).go i G ∧ ∃ Nx : Hp → Prop, (∀ G', Nx G' → ∃ m', m' < m ∧ W (i + 1) m' G') ∧ ∀ x G', (Itl K a).yld i G x G' → g x (wipe σ vs) G' fun σ2 H2 => wipe σ2 vs = wipe σ vs ∧ c σ2 H2 fun b H3 =>
        if b = true then tb σ2 H3 fun y H4 => ∃ acc, H4 D = some (.lst acc) ∧ acc.length < sizeLine ∧ Nx (upd H4 D (.lst (acc ++ [y]))) else Nx H3)) : tLc (iList K te) g c tb vs σ H Q := h
theorem c_lcR {ta : TA} (h : ta σ H fun us H1 => ∃ j : Int, us = [.int j] ∧ -(2 ^ 62) ≤ j ∧ j < 2 ^ 62 ∧ ∀ D, H1 D = none → ∃ W : Nat → Nat → Hp → Prop, (∃ m, W 0 m (upd H1 D (.lst []))) ∧ ∀ i m G, W i m G →
      ((Itr 0 j.toNat).stop i G ∧ Q (.ref D) G) ∨ ((Itr 0 j.toNat).go i G ∧ ∃ Nx : Hp → Prop, (∀ G', Nx G' → ∃ m', m' < m ∧ W (i + 1) m' G') ∧ ∀ x G', (Itr 0 j.toNat).yld i G x G' → g x (wipe σ vs) G' fun σ2 H2 => wipe σ2 vs = wipe σ vs ∧ c σ2 H2 fun b H3 =>
        if b = true then tb σ2 H3 fun y H4 => ∃ acc, H4 D = some (.lst acc) ∧ acc.length < sizeLine ∧ Nx (upd H4 D (.lst (acc ++ [y]))) else Nx H3)) : tLc (iRng1 ta) g c tb vs σ H Q := h
theorem c_yes {R : Bool → Hp → Prop} (h : R true H) : tYes σ H R := h
theorem in_bl (b : Bool) : ∀ bs : List Bool, inV (.bl b) (bs.map V.bl) = bs.contains b
  | [] => rfl
  | x :: r => by
    have ih := in_bl b r
    unfold inV at ih ⊢
    rw [List.map_cons, List.any_cons, ih, List.contains_cons]
    congr 1
    cases b <;> cases x <;> rfl
theorem flat_bl : ∀ bs : List Bool, (bs.map V.bl).all flatV = true
  | [] => rfl
  | x :: r => by
    rw [List.map_cons, List.all_cons, flat_bl r]
    rfl
end
/-! x is True, x is False where x may be None -/
def rIsW : R2 := fun x y H Q => ∃ b : Bool, y = .bl b ∧ (x = .non ∨ ∃ a, x = .bl a) ∧ Q (.bl (decide (x = .bl b))) H
def rNotW : R2 := fun x y H Q => ∃ b : Bool, y = .bl b ∧ (x = .non ∨ ∃ a, x = .bl a) ∧ Q (.bl (!decide (x = .bl b))) H
theorem op_isW {X : Cx} : OpR X (compareOp .Is) rIsW := by
  intro pins s σ H x y v u Q I rx ry h
  obtain ⟨b, rfl, hx, q⟩ := h
  cases (show u = Value.bool b from ry)
  rcases hx with rfl | ⟨a, rfl⟩
  · cases (show v = Value.none from rx)
    exact wpAny_is_other rfl (fun z => nomatch z) ⟨.bl false, H, I, rfl, by simpa using q⟩
  · cases (show v = Value.bool a from rx)
    by_cases e : a = b
    · subst e
      exact wpAny_is_self rfl ⟨.bl true, H, I, rfl, by simpa using q⟩
    · exact wpAny_is_other rfl (fun z => e (Value.bool.inj z)) ⟨.bl false, H, I, rfl, by simpa [e] using q⟩
theorem op_notW {X : Cx} : OpR X (compareOp .IsNot) rNotW := by
  intro pins s σ H x y v u Q I rx ry h
  obtain ⟨b, rfl, hx, q⟩ := h
  cases (show u = Value.bool b from ry)
  rcases hx with rfl | ⟨a, rfl⟩
  · cases (show v = Value.none from rx)
    exact wpAny_isNot_other rfl (fun z => nomatch z) ⟨.bl true, H, I, rfl, by simpa using q⟩
  · cases (show v = Value.bool a from rx)
    by_cases e : a = b
    · subst e
      exact wpAny_isNot_self rfl ⟨.bl false, H, I, rfl, by simpa using q⟩
    · exact wpAny_isNot_other rfl (fun z => e (Value.bool.inj z)) ⟨.bl true, H, I, rfl, by simpa [e] using q⟩
theorem r_isW {x : V} {b : Bool} {H : Hp} {Q : VK} (hx : x = .non ∨ ∃ a, x = .bl a) (q : Q (.bl (decide (x = .bl b))) H) : rIsW x (.bl b) H Q := ⟨b, rfl, hx, q⟩
theorem r_notW {x : V} {b : Bool} {H : Hp} {Q : VK} (hx : x = .non ∨ ∃ a, x = .bl a) (q : Q (.bl (!decide (x = .bl b))) H) : rNotW x (.bl b) H Q := ⟨b, rfl, hx, q⟩

/-! ### more steps: slices, truths that may be None, what is no list stays -/
section
variable {K : PySem.W.Frag} {σ : L2.St} {H : Hp} {ta te : TE} {Q : VK}
theorem c_sl {r : V → Option Int → Option Int → Hp → VK → Prop} {tl th : TO} (h : te σ H fun x H1 => tl σ H1 fun l H2 => th σ H2 fun u H3 => r x l u H3 Q) : tSl r te tl th σ H Q := h
theorem c_noPart {Q : Option Int → Hp → Prop} (h : Q none H) : tNoPart σ H Q := h
theorem c_part {Q : Option Int → Hp → Prop} (h : te σ H fun x H1 => ∃ i, x = .int i ∧ Q (some i) H1) : tPart te σ H Q := h
theorem r_slL {p : Addr} {xs : List V} {lo hi : Option Int} (hx : SqL K H p xs) (h : ∀ q, H q = none → Q (.ref q) (upd H q (.lst (cutV xs lo hi)))) : rSlL K (.ref p) lo hi H Q := ⟨p, xs, rfl, hx, h⟩
theorem r_slT {p : Addr} {xs : List V} {lo hi : Option Int} (hx : SqT K H p xs) (hn : ¬ (HT.sIx xs.length 0 lo = 0 ∧ HT.sIx xs.length xs.length hi = xs.length)) (h : ∀ q, H q = none → Q (.ref q) (upd H q (.tup (cutV xs lo hi)))) : rSlT K (.ref p) lo hi H Q := ⟨p, xs, rfl, hx, hn, h⟩
theorem r_cat {p q : Addr} {xs ys : List V} (hx : H p = some (.lst xs)) (hy : H q = some (.lst ys)) (hl : xs.length + ys.length ≤ sizeLine) (h : ∀ r, H r = none → Q (.ref r) (upd H r (.lst (xs ++ ys)))) : rCat (.ref p) (.ref q) H Q := ⟨p, q, xs, ys, rfl, rfl, hx, hy, hl, h⟩
theorem r_catT {p q : Addr} {xs ys : List V} (hx : SqT K H p xs) (hy : SqT K H q ys) (hn : xs ≠ []) (hl : xs.length + ys.length ≤ sizeLine) (h1 : ys = [] → Q (.ref p) H) (h2 : ys ≠ [] → ∀ r, H r = none → Q (.ref r) (upd H r (.tup (xs ++ ys)))) : rCatT K (.ref p) (.ref q) H Q := ⟨p, q, xs, ys, rfl, rfl, hx, hy, hn, hl, h1, h2⟩
end
/-- a truth: None, or a bool -/
def tb : Option Bool → V
  | none => .non
  | some b => .bl b
theorem in_tb (x : Option Bool) : ∀ bs : List (Option Bool), inV (tb x) (bs.map tb) = bs.contains x
  | [] => rfl
  | y :: r => by
    have ih := in_tb x r
    unfold inV at ih ⊢
    rw [List.map_cons, List.any_cons, ih, List.contains_cons]
    congr 1
    rcases x with _ | x <;> rcases y with _ | y <;> first | rfl | (cases x <;> rfl) | (cases y <;> rfl) | (cases x <;> cases y <;> rfl)
theorem flat_tb : ∀ bs : List (Option Bool), (bs.map tb).all flatV = true
  | [] => rfl
  | x :: r => by
    rw [List.map_cons, List.all_cons, flat_tb r]
    cases x <;> rfl
theorem tb_or (x : Option Bool) : tb x = .non ∨ ∃ a, tb x = .bl a := by
  cases x with
  | none => exact .inl rfl
  | some b => exact .inr ⟨b, rfl⟩
theorem tb_true (x : Option Bool) : decide (tb x = .bl true) = decide (x = some true) := by
  rcases x with _ | x
  · simp [tb]
  · cases x <;> simp [tb]
/-- what is no list stays -/
def Tp (H H' : Hp) : Prop := ∀ a o, H a = some o → (∀ ys, o ≠ .lst ys) → H' a = some o
theorem Tp.refl (H : Hp) : Tp H H := fun _ _ h _ => h
theorem Tp.trans {H H1 H2 : Hp} (a : Tp H H1) (b : Tp H1 H2) : Tp H H2 := fun x o h n => b x o (a x o h n) n
theorem Tp.same {H H1 : Hp} (s : Same H H1) : Tp H H1 := fun x o h _ => s x o h
theorem Tp.ex {S : Addr} {H H1 : Hp} {xs : List V} (e : Ex S H H1) (h : H S = some (.lst xs)) : Tp H H1 := fun x o hx n => e x o (fun z => by
  subst z
  rw [h] at hx
  exact n _ (Option.some.inj hx).symm) hx
theorem Tp.lst {H H1 : Hp} {p : Addr} {xs : List V} {o : HO} (e : Tp H H1) (h : H1 p = some (.lst xs)) : Tp H (upd H1 p o) := fun x u hx n => by
  have h2 := e x u hx n
  by_cases z : x = p
  · subst z
    rw [h] at h2
    exact absurd (Option.some.inj h2).symm (n _)
  · rw [upd_ne z]
    exact h2
theorem Tp.new {H H1 : Hp} {p : Addr} {o : HO} (e : Tp H H1) (h : H1 p = none) : Tp H (upd H1 p o) := fun x u hx n => by
  have h2 := e x u hx n
  rw [upd_ne (ne_of_none h2 h)]
  exact h2
theorem Tp.tup {K : PySem.W.Frag} {H H' : Hp} {a : Addr} {xs : List V} (e : Tp H H') (h : SqT K H a xs) : SqT K H' a xs := by
  rcases h with (h | ⟨o, h⟩) | h
  · exact .inl (.inl (e _ _ h (fun _ z => nomatch z)))
  · exact .inl (.inr ⟨o, e _ _ h (fun _ z => nomatch z)⟩)
  · exact .inr h
theorem Ex.free {S : Addr} {H H' : Hp} {q : Addr} (e : Ex S H H') (n : q ≠ S) (h : H' q = none) : H q = none := by
  cases z : H q with
  | none => rfl
  | some o =>
    have := e _ _ n z
    rw [h] at this
    cases this
/-! a test's outcome said by itself -/
def tMid (t : TT) : TT := fun σ H R => ∃ M : Bool → Hp → Prop, t σ H M ∧ ∀ b H', M b H' → R b H'
theorem pt_mid {X : Cx} {e : Expr} {t : TT} (h : PT X e t) : PT X e (tMid t) := ⟨fun pins s σ H Q I ⟨M, hm, k⟩ => thn (h.run pins s σ H M I hm) fun b s' ⟨H', I', q⟩ => ⟨H', I', k b H' q⟩⟩
theorem c_mid {t : TT} {σ : L2.St} {H : Hp} {R : Bool → Hp → Prop} (p : Prop) [Decidable p] (h : t σ H fun b H' => H' = H ∧ b = decide p) (h1 : p → R true H) (h2 : ¬ p → R false H) : tMid t σ H R :=
  ⟨_, h, fun b H' ⟨e1, e2⟩ => by
    subst e1 e2
    by_cases z : p
    · rw [decide_eq_true z]
      exact h1 z
    · rw [decide_eq_false z]
      exact h2 z⟩
theorem cut_to {xs ys : List V} {r : Int} (h : r = (xs.length : Int)) : cutV (xs ++ ys) none (some r) = xs := by
  subst h
  unfold cutV
  rw [HT.sIx_none, HT.sIx_nat, List.length_append, List.drop_zero, Nat.min_eq_left (by omega), Nat.sub_zero, List.take_left']
  rfl
theorem cut_from {xs ys : List V} {r : Int} (h : r = (xs.length : Int)) : cutV (xs ++ ys) (some r) none = ys := by
  subst h
  unfold cutV
  rw [HT.sIx_none, HT.sIx_nat, List.length_append, Nat.min_eq_left (by omega), List.drop_left', List.take_of_length_le (by omega)]
  rfl
theorem new_at {H H' : Hp} {p : Addr} {o : HO} (h : H p = none) (s : Same (upd H p o) H') : H' p = some o := s _ _ upd_same
theorem old_at {H H' : Hp} {p : Addr} {o : HO} (h : H p = some o) (s : Same H H') : H' p = some o := s _ _ h

/-! ### tuples unpacked, defs in local names, what stays where S may change -/
section
variable {K : PySem.W.Frag} {σ : L2.St} {H : Hp}
theorem c_gtup {n : Nat} {u : TGs} {a : Addr} {xs : List V} {Q : L2.St → Hp → Prop} (hx : SqT K H a xs) (hn : xs.length = n) (h : u xs σ H Q) : gTup K n u (.ref a) σ H Q := ⟨a, xs, rfl, hx, hn, h⟩
theorem c_gcons {t : TG} {u : TGs} {v : V} {r : List V} {Q : L2.St → Hp → Prop} (h : t v σ H fun σ' H' => u r σ' H' Q) : gCons t u (v :: r) σ H Q := ⟨v, r, rfl, h⟩
theorem c_gnil {Q : L2.St → Hp → Prop} (h : Q σ H) : gNil [] σ H Q := ⟨rfl, h⟩
end
def Aw (S : Addr) (H : Hp) : Hp := fun a => if a = S then none else H a
section
variable {S : Addr} {H H' : Hp}
theorem Aw.of {a : Addr} {o : HO} (h : H a = some o) (n : a ≠ S) : Aw S H a = some o := by
  unfold Aw
  rw [if_neg n]
  exact h
theorem Aw.to : Same (Aw S H) H := fun a o h => by
  unfold Aw at h
  by_cases e : a = S
  · rw [if_pos e] at h
    cases h
  · rw [if_neg e] at h
    exact h
theorem Aw.ne {a : Addr} {o : HO} (h : Aw S H a = some o) : a ≠ S := fun e => by
  unfold Aw at h
  rw [if_pos e] at h
  cases h
theorem Aw.ex (e : Ex S H H') : Same (Aw S H) (Aw S H') := fun a o h => Aw.of (e a o (Aw.ne h) (Aw.to _ _ h)) (Aw.ne h)
theorem Aw.same (e : Same H H') : Same (Aw S H) (Aw S H') := fun a o h => Aw.of (e a o (Aw.to _ _ h)) (Aw.ne h)
theorem Aw.up (e : Same H H') (n : H S = none) : Same H (Aw S H') := fun a o h => Aw.of (e a o h) (ne_of_none h n)
end
theorem c_callL {σ : L2.St} {H : Hp} {i : Nat} {f : Addr} {sp : Sp} {dvs : List V} {E : XK} {t : TA} {Q : VK} (hs : σ[i]? = some (some (.ref f))) (h : t σ H fun vs H1 => sp (vs ++ dvs) H1 Q E) : tCallL i f sp dvs E t σ H Q := ⟨hs, h⟩
theorem Aw.at {S p : Addr} {H : Hp} {o : HO} : Same (Aw p (Aw S H)) (Aw p (Aw S (upd H p o))) := fun a x h => by
  have n := Aw.ne h
  refine Aw.of (Aw.of ?_ (Aw.ne (Aw.to _ _ h))) n
  rw [upd_ne n]
  exact Aw.to _ _ (Aw.to _ _ h)
theorem c_lstRg {σ : L2.St} {H : Hp} {Q : VK} {te : L2.St → Hp → (Int → Int → Hp → Prop) → Prop} (h : te σ H fun a b H1 => RgOk a b ∧ ∀ q, H1 q = none → Q (.ref q) (upd H1 q (.lst (rgV a b)))) : tLstRg te σ H Q := h
theorem c_rg1 {σ : L2.St} {H : Hp} {ta : TE} {Q : Int → Int → Hp → Prop} (h : ta σ H fun x H1 => ∃ n, x = .int n ∧ Q 0 n H1) : tRg1 ta σ H Q := h
theorem seq_ix {d : Int} {n : Nat} (h0 : 0 ≤ d) (h1 : d < n) : seqIndex? d n = some d.toNat := by
  have h2 : ¬ d < 0 := by omega
  simp [seqIndex?, h2, h0, h1]
theorem erase_map {α β : Type} (f : α → β) : ∀ (l : List α) (i : Nat), (l.map f).eraseIdx i = (l.eraseIdx i).map f
  | [], _ => rfl
  | _ :: _, 0 => rfl
  | x :: l, i + 1 => by
    rw [List.map_cons, List.eraseIdx_cons_succ, List.eraseIdx_cons_succ, List.map_cons, erase_map f l i]
theorem Aw.no {S p : Addr} {H : Hp} (h : H p = none) : Aw S H p = none := by
  unfold Aw
  split
  · rfl
  · exact h
theorem Aw.hide {S p : Addr} {H : Hp} {o : HO} (h : H p = none) : Same (Aw S H) (Aw p (Aw S (upd H p o))) := Aw.up (Aw.same (same_new (Same.refl _) h)) (Aw.no h)
theorem c_aug {σ : L2.St} {H : Hp} {i : Nat} {te : TE} {ti : TIp} {D : Ends} {x : V} (hx : σ[i]? = some (some x)) (h : te σ H fun y H1 => ti x y H1 fun z H2 => D.nx (σ.set i (some z)) H2) : tAug i te ti D σ H := ⟨x, hx, h⟩
theorem r_ipI {f : Int → Int → Int} {i j : Int} {H : Hp} {Q : VK} (h : Q (.int (f i j)) H) : ipI f (.int i) (.int j) H Q := ⟨i, j, rfl, rfl, h⟩
theorem Aw.mut {S : Addr} {H : Hp} {o : HO} : Same (Aw S H) (Aw S (upd H S o)) := fun b x hb => by
  refine Aw.of ?_ (Aw.ne hb)
  rw [upd_ne (Aw.ne hb)]
  exact Aw.to _ _ hb
/-- a new object: what stood before stands, and it stands there -/
@[elab_as_elim] theorem alc {p : Addr} {H : Hp} {P : Hp → Prop} (o : HO) (hp : H p = none) (h : ∀ H', Same H H' → H' p = some o → P H') : P (upd H p o) := h _ (same_new (Same.refl _) hp) upd_same
/-! an expression's value said by itself -/
def tMidE (t : TE) : TE := fun σ H Q => ∃ M : V → Hp → Prop, t σ H M ∧ ∀ v H', M v H' → Q v H'
theorem pe_mid {X : Cx} {e : Expr} {t : TE} (h : PE X e t) : PE X e (tMidE t) := ⟨fun pins s σ H Q I ⟨M, hm, k⟩ => thn (h.run pins s σ H M I hm) fun v s' ⟨x, H', I', r, q⟩ => ⟨x, H', I', r, k x H' q⟩⟩
theorem c_midE {te : TE} {σ : L2.St} {H : Hp} {Q : VK} (M : V → Hp → Prop) (h : te σ H M) (k : ∀ v H', M v H' → Q v H') : tMidE te σ H Q := ⟨M, h, k⟩
/-- what is new in H' -/
def Nw (H H' : Hp) : Hp := fun a => match H a with
  | none => H' a
  | some _ => none
section
variable {S : Addr} {H H' H2 : Hp}
theorem Nw.of {a : Addr} {o : HO} (h : H' a = some o) (n : H a = none) : Nw H H' a = some o := by
  unfold Nw
  rw [n]
  exact h
theorem Nw.to : Same (Nw H H') H' := fun a o h => by
  unfold Nw at h
  cases e : H a with
  | none => rw [e] at h; exact h
  | some x => rw [e] at h; cases h
theorem Nw.no {a : Addr} {o : HO} (h : Nw H H' a = some o) : H a = none := by
  unfold Nw at h
  cases e : H a with
  | none => rfl
  | some x => rw [e] at h; cases h
theorem Nw.ne {a b : Addr} {o x : HO} (h : Nw H H' a = some o) (g : H b = some x) : a ≠ b := fun z => by
  rw [z] at h
  rw [Nw.no h] at g
  cases g
theorem Nw.aw {x : HO} (g : H S = some x) : Same (Nw H H') (Aw S H') := fun a o h => Aw.of (Nw.to _ _ h) (Nw.ne h g)
end
section
variable {S : Addr} {B H H1 H' : Hp}
theorem Nw.same (e : Same H H') : Same (Nw B H) (Nw B H') := fun a o h => Nw.of (e a o (Nw.to _ _ h)) (Nw.no h)
theorem Nw.ex {x : HO} (g : B S = some x) (e : Ex S H H') : Same (Nw B H) (Nw B H') := fun a o h => Nw.of (e a o (Nw.ne h g) (Nw.to _ _ h)) (Nw.no h)
theorem Nw.up (e : ∀ a, H a = none → B a = none) : Same (Nw H H') (Nw B H') := fun a o h => Nw.of (Nw.to _ _ h) (e a (Nw.no h))
theorem Nw.at {p : Addr} {o : HO} : Same (Aw p (Nw B H)) (Aw p (Nw B (upd H p o))) := fun a x h => by
  have n := Aw.ne h
  have h2 := Aw.to _ _ h
  refine Aw.of (Nw.of ?_ (Nw.no h2)) n
  rw [upd_ne n]
  exact Nw.to _ _ h2
theorem Nw.neI {a p : Addr} {o x : HO} (h : Nw B H a = some o) (n : B p = some x) : a ≠ p := Nw.ne h n
/-- what is free now was free before -/
theorem Ex.fr {x : HO} (e : Ex S H H') (g : H' S = some x) {a : Addr} (h : H' a = none) : H a = none := by
  by_cases z : a = S
  · subst z
    rw [g] at h
    cases h
  · exact e.free z h
end

/-! ### the inner walk of a comprehension's second for -/
section
variable {X : Cx} {s : Shared} {H : Hp} {scope : Scope} {e : Env} {fp : List Addr} {tg l : Expr} {tl : TE}
theorem pi_listB (h : PE (X.blk s H scope e fp) l tl) : PI (X.blk s H scope e fp) tg l (iList X.K tl) := pi_list h
theorem pi_tupB (h : PE (X.blk s H scope e fp) l tl) : PI (X.blk s H scope e fp) tg l (iTup X.K tl) := pi_tup h
end
section
variable {X : Cx} {s : Shared} {H : Hp} {scope : Scope} {e : Env} {fp : List Addr}
theorem ix_tupB : IxR (X.blk s H scope e fp) (rIxT X.K) := ix_tup
theorem ix_listB : IxR (X.blk s H scope e fp) (rIxL X.K) := ix_list
theorem pg_tupB {es : List Expr} {k : Nat} {t : TGs} {n : Nat} {pos : Pos} (hc : X.calm = true) (h : PGs (X.blk s H scope e fp) es t)
    (hn : (assignEach es (X.blk s H scope e fp).env).length = n := by rfl) (hst : (assignEach es (X.blk s H scope e fp).env).findIdx? (·.1) = none := by rfl) : PG (X.blk s H scope e fp) (.Tuple es k pos) (gTup X.K n t) := pg_tup hc h hn hst
end

section
variable {K : PySem.W.Frag} {H H' : Hp}
/-! isinstance -/
theorem ty_lst {a : Addr} {xs : List V} (h : SqL K H a xs) : TyX K H (.ref a) (.type "list") := by
  rcases h with (h | ⟨o, h⟩) | ⟨o, _, _, h, c, _⟩
  · exact .base (.lst h)
  · exact .base (.frz h)
  · exact .kList h c
theorem ty_tup {a : Addr} {xs : List V} (h : SqT K H a xs) : TyX K H (.ref a) (.type "tuple") := by
  rcases h with (h | ⟨o, h⟩) | ⟨o, _, _, h, c, _⟩
  · exact .base (.tup h)
  · exact .fTuple h
  · exact .kTuple h c
theorem kit2 {t : String} {b : Bool} (h1 : kitB t "list" = some b) (h2 : b = true ∨ kitB t "tuple" = some false) : PySem.W.kitAny K (.type t) [.type "list", .type "tuple"] = some b := by
  refine kitAny_cons (kit_ty h1) (fun e => ?_) (fun e => e)
  subst e
  rcases h2 with h | h
  · cases h
  · exact kitAny_cons (kit_ty h) (fun _ => rfl) (fun e => e)
theorem kit2t {t : String} (h1 : kitB t "list" = some false) (h2 : kitB t "tuple" = some true) : PySem.W.kitAny K (.type t) [.type "list", .type "tuple"] = some true :=
  kitAny_cons (kit_ty h1) (fun _ => kitAny_cons (kit_ty h2) (fun e => nomatch e) (fun e => e)) (fun e => nomatch e)
theorem r_isi2 {x : V} {tp : Addr} {t : Value} {b : Bool} {Q : VK} (hT : H tp = some (.tup [.ty "list", .ty "tuple"])) (ty : TyX K H x t) (e : PySem.W.kitAny K t [.type "list", .type "tuple"] = some b) (q : Q (.bl b) H) : rIsiT K [x, .ref tp] H Q :=
  ⟨x, tp, _, t, _, b, rfl, hT, .cons (.ty _) (.cons (.ty _) .nil), ty, e, q⟩
theorem r_isi {x : V} {t c : String} {b : Bool} {Q : VK} (ty : TyX K H x (.type t)) (e : kitB t c = some b) (q : Q (.bl b) H) : rIsi K [x, .ty c] H Q :=
  ⟨x, _, _, _, b, rfl, .ty _, ty, kit_ty e, q⟩
theorem two_lst {x : V} {tp a : Addr} {xs : List V} {Q : VK} (hT : H tp = some (.tup [.ty "list", .ty "tuple"])) (h : SqL K H a xs) (q : Q (.bl true) H) : rIsiT K [.ref a, .ref tp] H Q := r_isi2 hT (ty_lst h) (kit2 (by decide +kernel) (.inl rfl)) q
theorem two_tup {x : V} {tp a : Addr} {xs : List V} {Q : VK} (hT : H tp = some (.tup [.ty "list", .ty "tuple"])) (h : SqT K H a xs) (q : Q (.bl true) H) : rIsiT K [.ref a, .ref tp] H Q := r_isi2 hT (ty_tup h) (kit2t (by decide +kernel) (by decide +kernel)) q
theorem two_non {tp : Addr} {Q : VK} (hT : H tp = some (.tup [.ty "list", .ty "tuple"])) (q : Q (.bl false) H) : rIsiT K [.non, .ref tp] H Q := r_isi2 hT (.base .non) (kit2 (by decide +kernel) (.inr (by decide +kernel))) q
theorem two_bl {tp : Addr} {b : Bool} {Q : VK} (hT : H tp = some (.tup [.ty "list", .ty "tuple"])) (q : Q (.bl false) H) : rIsiT K [.bl b, .ref tp] H Q := r_isi2 hT (.base (.bl b)) (kit2 (by decide +kernel) (.inr (by decide +kernel))) q
theorem two_int {tp : Addr} {b : Int} {Q : VK} (hT : H tp = some (.tup [.ty "list", .ty "tuple"])) (q : Q (.bl false) H) : rIsiT K [.int b, .ref tp] H Q := r_isi2 hT (.base (.int b)) (kit2 (by decide +kernel) (.inr (by decide +kernel))) q
theorem two_str {tp : Addr} {b : Str} {Q : VK} (hT : H tp = some (.tup [.ty "list", .ty "tuple"])) (q : Q (.bl false) H) : rIsiT K [.str b, .ref tp] H Q := r_isi2 hT (.base (.str b)) (kit2 (by decide +kernel) (.inr (by decide +kernel))) q
end

/-! ### errors of the program's own: PagesError.__init__(self, text), isinstance of a caught error that has fields -/
section
variable {X : Cx} {e : Expr} {es : List Expr} {ta : TA} {p1 p2 pos : Pos}
/-- Own.__init__(self, ..), Own a class of the program without an __init__ of its own -/
theorem pe_owninit {x : Str} {D : Addr} {pl : Sem Bool} (hg : Gl X x) (hm : X.mg x = some (.ref D)) (ga : PySem.W.specialIn X.K (.ref D) "__getattribute__" = some (some (.builtin "type.__getattribute__"))) (rd : PySem.W.readsIn X.K D (.type "type") = true)
    (vV : PySem.W.findCls X.K (.ref D) (.type "type") "__init__" = some (.val (.builtin "ValueError.__init__"))) (ha : PA X (e :: es) ta)
    (hc : eval (.Call (.Attribute (.Name x p1) "__init__" p2) (e :: es) [] pos) X.env = (do { let ov ← eval (.Name x p1) X.env; standAt p2.atName; let (f, first) ← holding [ov] (getMethod ov "__init__" pl); callWith pos f first (backTo pos (starEach (e :: es) X.env)) (backToKw pos (keywordEach [] X.env)) }) := by rfl)
    (hd : (x == ("__debug__" : Str)) = false := by decide) (he : starEach (e :: es) X.env = (false, eval e X.env) :: starEach es X.env := by rfl) (hp : (backTo pos (starEach es X.env)).any (·.1) = false := by rfl) :
    PE X (.Call (.Attribute (.Name x p1) "__init__" p2) (e :: es) [] pos) (tVeI X.K ta) := ⟨fun pins s σ H Q I h => by
  refine PySem.W.methodCall_KW (ld_glob I hg hm ?_ hd) hc
  refine PySem.W.method_cls I.kIn ga (PySem.W.cls_value (v := .builtin "ValueError.__init__") I.kIn rd vV (by decide +kernel) ?_)
  show wpAny _ _ (callWith pos (.builtin "ValueError.__init__") [] _ []) _ _ _
  exact PyProof.Rows.callWith_method1 (thn (ha.run pos pins _ σ H _ (I.tok _) h) fun us s1 w => by
    obtain ⟨vs, H1, I1, r1, a, C, ws, ev, hl, T, ea, q⟩ := w
    subst ev
    obtain ⟨u0, ur, eu, ra, rw'⟩ : ∃ u0 ur, us = u0 :: ur ∧ RelV (.ref a) u0 ∧ Vals ws ur := by
      cases r1 with
      | cons ra rw' => exact ⟨_, _, rfl, ra, rw'⟩
    subst eu
    cases (show u0 = Value.ref a from ra)
    have hn : ur.length ≤ sizeLine := by
      rw [← Paired.length rw']
      exact Nat.le_trans hl (by decide)
    exact oinit_ok T I1 ea hn fun s' J => ⟨.non, H1, J, rfl, q⟩) he hp⟩
end
/-- isinstance(e, c), e the caught error, which has fields -/
def rIsX (K : PySem.W.Frag) (D a : Addr) (cls : Value) (d : Option Addr) : List V → Hp → VK → Prop := fun xs H Q => ∃ (c : V) (cv : Value) (b : Bool) (dd : Addr) (fs : List (Str × V)),
  xs = [.ref a, c] ∧ cls = .ref D ∧ d = some dd ∧ H dd = some (.xd fs) ∧ (∀ u, RelV c u → u = cv) ∧ PySem.W.kitOne K (.ref D) cv = some b ∧ Q (.bl b) H
structure IsC (K : PySem.W.Frag) (D : Addr) : Prop where
  c : PySem.W.isClsIn K D = true
  ga : PySem.W.findIn K (.ref D) "__getattribute__" = some (some (.builtin "BaseException.__getattribute__"))
  gt : PySem.W.findIn K (.ref D) "__getattr__" = some none
  sub : PySem.W.subIn K (.ref D) (.type "BaseException") = some true
  kc : PySem.W.findIn K (.ref D) "__class__" = some (some (.builtin "object.__class__"))
  kg : PySem.W.specialIn K (.builtin "object.__class__") "__get__" = some (some (.builtin "getset_descriptor.__get__"))
  kt : PySem.W.takesIn K (.builtin "object.__class__") = some true
  ob : PySem.W.mroIn K D (.type "object") = some true
theorem call_isX {X : Cx} {a D : Addr} {oe : Obj} {cls : Value} {d : Option Addr} {pn : List (Addr × Obj)} (C : IsC X.K D) (hz : Zc cls d oe) (hf : ∃ vs, oe.data = .fields vs) : CallR (X.suite a ((a, oe) :: pn)) (.builtin "isinstance") (rIsX X.K D a cls d) := fun pins s σ H xs us Q I r h => by
  obtain ⟨c, cv, b, dd, fs, ex, e1, e2, hx, hcv, ek, q⟩ := h
  subst ex e1 e2
  obtain ⟨u1, u2, eu, rx, rt⟩ : ∃ u1 u2, us = [u1, u2] ∧ RelV (.ref a) u1 ∧ RelV c u2 := by
    cases r with
    | cons rx rr =>
      cases rr with
      | cons rt rr =>
        cases rr
        exact ⟨_, _, rfl, rx, rt⟩
  subst eu
  cases (show u1 = Value.ref a from rx)
  cases hcv _ rt
  have hg : s.heap.get? a = some oe := (I.pin (a, oe) (List.mem_append_left _ List.mem_cons_self)).1
  have hx' : ObjOk X.prog X.w H s.heap dd (.xd fs) := I.hok dd _ hx
  obtain ⟨mA, ⟨od, es, ep, hod, _⟩, _⟩ := hx'
  have J : PySem.W.InstAt s.heap a oe D (some od) := by
    obtain ⟨vs, hv⟩ := hf
    obtain ⟨oc, odd, oda, osl⟩ := oe
    obtain ⟨h1, h2⟩ := hz
    dsimp only at h1 h2 hv
    subst h1 h2 hv
    exact ⟨hg, rfl, rfl, hod⟩
  exact PySem.W.kia_one (PySem.W.kitx_exc C.c C.ga C.gt C.sub C.kc C.kg C.kt C.ob) I.kIn J ek (fun z => nomatch z) fun tk => ⟨.bl b, H, I.kept (t' := tk) fun _ _ z => z, rfl, q⟩
/-- an own class as isinstance's and except's second -/
theorem kit_own {K : PySem.W.Frag} {C D : Addr} {b : Bool} (h1 : PySem.W.isClsIn K D = true) (h2 : PySem.W.typeIn K (.ref D) = some (.type "type")) (h3 : PySem.W.subIn K (.ref C) (.ref D) = some b) (h4 : b = true ∨ C ≠ D) : PySem.W.kitOne K (.ref C) (.ref D) = some b := by
  have e : PySem.W.kitCls K (.ref C) (.ref D) = some b := by
    show (if ((PySem.W.clsIn K D).isSome && PySem.W.typeIn K (.ref D) == some (.type "type")) = true then PySem.W.subIn K (.ref C) (.ref D) else none) = some b
    rw [show (PySem.W.clsIn K D).isSome = true from h1, h2]
    exact h3
  unfold PySem.W.kitOne
  by_cases q : (Value.ref C == Value.ref D) = true
  · rw [if_pos q]
    rcases h4 with h4 | h4
    · rw [h4]
    · exact absurd (Value.ref.inj (beq_iff_eq.mp q)) h4
  · rw [if_neg q]
    exact e
theorem exm_own {K : PySem.W.Frag} {C D : Addr} {b : Bool} (h0 : PySem.W.subIn K (.ref D) (.type "BaseException") = some true) (h1 : PySem.W.isClsIn K D = true) (h2 : PySem.W.typeIn K (.ref D) = some (.type "type")) (h3 : PySem.W.subIn K (.ref C) (.ref D) = some b) : PySem.W.exmOne K (.ref C) (.ref D) = some b := by
  show (if (PySem.W.subIn K (.ref D) (.type "BaseException") == some true) = true then (if ((PySem.W.clsIn K D).isSome && PySem.W.typeIn K (.ref D) == some (.type "type")) = true then PySem.W.subIn K (.ref C) (.ref D) else none) else none) = some b
  rw [h0, show (PySem.W.clsIn K D).isSome = true from h1, h2]
  exact h3

theorem free' {H H' : Hp} {p : Addr} (h : H' p = none) (s : Same H H') : H p = none := s.free h
theorem passF {X : Cx} : Passes (L2.CX X.prog X.w) X E0 := fun _ _ _ _ _ _ _ h => by
  obtain ⟨_, _, _, _, _, _, _, _, _, _, _, _, z⟩ := h
  exact z.elim
section
variable {K : PySem.W.Frag} {σ : L2.St} {H : Hp} {D : Ends} {Q : VK} {te to : TE} {ta : TA}
theorem c_vei (h : ta σ H fun vs H1 => ∃ (a C : Addr) (ws : List V), vs = .ref a :: ws ∧ ws.length ≤ 1000 ∧ OexC K C ∧ H1 a = some (exo a C none) ∧ Q .non H1) : tVeI K ta σ H Q := h
theorem c_ost {f : Str} (h : te σ H fun y H1 => to σ H1 fun x H2 => ∃ a C : Addr, x = .ref a ∧ OexC K C ∧ PySem.W.findIn K (.ref C) f = some none ∧
  ((H2 a = some (exo a C none) ∧ ∀ dx, H2 dx = none → dx ≠ a → D.nx σ (upd (upd H2 dx (exd dx [(f, y)])) a (exo a C (some dx)))) ∨
    ∃ (dx : Addr) (fs : List (Str × V)), H2 a = some (exo a C (some dx)) ∧ H2 dx = some (exd dx fs) ∧ fs.length ≤ 900 ∧ D.nx σ (upd H2 dx (exd dx ((f, y) :: fs))))) : tOst K f to te D σ H := h
theorem c_callS {sp : Sp} {E : L2.St → XK} (h : ta σ H fun vs H1 => sp vs H1 Q (E σ)) : tCallS sp E ta σ H Q := h
theorem c_xf {a : Addr} {cls : Value} {d : Option Addr} {C : Addr} {f : Str} (h : te σ H fun x H1 => x = .ref a ∧ cls = .ref C ∧ ∃ (dd : Addr) (fs : List (Str × V)) (v : V), d = some dd ∧ H1 dd = some (.xd fs) ∧ fs.lookup f = some v ∧ Q v H1) : tXf a cls d C f te σ H Q := h
theorem c_mko {C : Addr} {sp : Sp} {dvs : List V} {R : XK} (h : ta σ H fun vs H1 => vs.length ≤ 1000 ∧ ∀ a, H1 a = none → sp (.ref a :: (vs ++ dvs)) (upd H1 a (exo a C none))
  (fun v H2 => v = .non ∧ ∃ (d : Addr) (fs : List (Str × V)), H2 a = some (exo a C (some d)) ∧ H2 d = some (exd d fs) ∧ H1 d = none ∧ R (.ref C) (some d) (upd (del H2 a) d (.xd fs))) (fun _ _ _ => False)) : tMkO C sp dvs ta σ H R := h
end
def iOr (w1 w2 : TI) : TI := fun σ H R => w1 σ H R ∨ w2 σ H R
theorem pi_or {X : Cx} {tg l : Expr} {w1 w2 : TI} (h1 : PI X tg l w1) (h2 : PI X tg l w2) : PI X tg l (iOr w1 w2) := ⟨fun pins s σ H R I h => h.elim (h1.run pins s σ H R I) (h2.run pins s σ H R I)⟩
theorem c_forA {w1 w2 : TI} {g : TG} {t : TS} {D : Ends} {σ : L2.St} {H : Hp} (h : tFor w1 g t D σ H) : tFor (iOr w1 w2) g t D σ H := Or.inl h
theorem c_forB {w1 w2 : TI} {g : TG} {t : TS} {D : Ends} {σ : L2.St} {H : Hp} (h : tFor w2 g t D σ H) : tFor (iOr w1 w2) g t D σ H := Or.inr h
/-- the error's __init__: the field is laid -/
def spErr (C : Addr) (f : Str) : Sp := fun vs H Q _ => ∃ (a : Addr) (v : V), vs = [.ref a, v] ∧ H a = some (exo a C none) ∧ ∀ dx, H dx = none → dx ≠ a → Q .non (upd (upd H dx (exd dx [(f, v)])) a (exo a C (some dx)))
/-- the heap behind C(v): the object gone again, its fields at d -/
theorem err_heap {C : Addr} {f : Str} {v : V} {H : Hp} {R : XK} (k : ∀ d H', H d = none → Same H H' → H' d = some (.xd [(f, v)]) → R (.ref C) (some d) H') {a : Addr} (ha : H a = none) :
    spErr C f [.ref a, v] (upd H a (exo a C none)) (fun x H2 => x = .non ∧ ∃ (d : Addr) (fs : List (Str × V)), H2 a = some (exo a C (some d)) ∧ H2 d = some (exd d fs) ∧ H d = none ∧ R (.ref C) (some d) (upd (del H2 a) d (.xd fs))) (fun _ _ _ => False) := by
  refine ⟨a, v, rfl, upd_same, fun dx hd ne => ⟨rfl, dx, [(f, v)], upd_same, (upd_ne ne).trans upd_same, ?_, ?_⟩⟩
  · rw [← hd, upd_ne ne]
  · have hd' : H dx = none := by rw [← hd, upd_ne ne]
    refine k dx _ hd' (fun b o hb => ?_) upd_same
    have n1 : b ≠ dx := ne_of_none hb hd'
    have n2 : b ≠ a := ne_of_none hb ha
    rw [upd_ne n1, del_ne n2, upd_ne n2, upd_ne n1, upd_ne n2]
    exact hb
/-- what may stand in a row's place -/
inductive Knd (K : PySem.W.Frag) (H : Hp) : V → Prop where
  | non : Knd K H .non
  | bl (b : Bool) : Knd K H (.bl b)
  | int (i : Int) : Knd K H (.int i)
  | str (s : Str) : Knd K H (.str s)
  | lst {a : Addr} {xs : List V} (h : SqL K H a xs) : Knd K H (.ref a)
  | tup {a : Addr} {xs : List V} (h : SqT K H a xs) : Knd K H (.ref a)
theorem Knd.same {K : PySem.W.Frag} {H H' : Hp} {v : V} (h : Knd K H v) (s : Same H H') : Knd K H' v := by
  cases h with
  | non => exact .non
  | bl b => exact .bl b
  | int i => exact .int i
  | str x => exact .str x
  | lst h => exact .lst (s.seq h)
  | tup h => exact .tup (same_tup s h)
def btw (v : V) (lo hi : Int) : Bool := match v with
  | .int i => decide (lo ≤ i) && decide (i ≤ hi)
  | _ => false
def spBetween (K : PySem.W.Frag) : Sp := fun vs H Q _ => ∃ (v : V) (lo hi : Int), vs = [v, .int lo, .int hi] ∧ Knd K H v ∧ Q (.bl (btw v lo hi)) H
theorem c_raise {C : Addr} {f : Str} {v : V} {H : Hp} {R : XK} (k : ∀ d H', H d = none → Same H H' → H' d = some (.xd [(f, v)]) → R (.ref C) (some d) H') :
    1 ≤ 1000 ∧ ∀ a, H a = none → spErr C f [.ref a, v] (upd H a (exo a C none)) (fun x H2 => x = .non ∧ ∃ (d : Addr) (fs : List (Str × V)), H2 a = some (exo a C (some d)) ∧ H2 d = some (exd d fs) ∧ H d = none ∧ R (.ref C) (some d) (upd (del H2 a) d (.xd fs))) (fun _ _ _ => False) :=
  ⟨by decide, fun _ ha => err_heap k ha⟩

/-! ### several except clauses, each with a name of its own -/
/-- a clause: the class that it names, the slot of its name, what its suite does -/
structure Clause where
  cl : Value
  at_ : Nat
  does : Addr → Value → Option Addr → TS
/-- behind a suite its name is gone -/
def Ends.off (D : Ends) (i : Nat) : Ends :=
  { nx := fun τ G => D.nx (τ.set i none) G
    rt := D.rt
    bk := fun τ G => D.bk (τ.set i none) G
    ct := fun τ G => D.ct (τ.set i none) G }
def wNamed (K : PySem.W.Frag) (W0 : WX) (D : Ends) : List Clause → WX
  | [] => W0
  | q :: qs => fun C d τ G => ∃ b : Bool, PySem.W.exmOne K C q.cl = some b ∧
      (b = true → ∀ e : Addr, G e = none → q.does e C d (Ends.off D q.at_) (τ.set q.at_ (some (.ref e))) G) ∧ (b = false → wNamed K W0 D qs C d τ G)
inductive NamedOk (X : Cx) : List ExceptHandler → List Clause → Prop
  | nil : NamedOk X [] []
  | cons {y m : Str} {c : Value} {i : Nat} {f : Addr → Value → Option Addr → TS} {st : Stmt} {sts : List Stmt} {p1 p2 : Pos} {hs : List ExceptHandler} {qs : List Clause}
      (slot : X.N[i]? = some m) (loc : X.env.kindOf m = some .local) (nm : Names X y c)
      (su : ∀ (e : Addr) (oe : Obj) (C : Value) (d : Option Addr) (pn : List (Addr × Obj)), Zc C d oe → (∃ vs, oe.data = .fields vs) → PSs (X.suite e ((e, oe) :: pn)) (st :: sts) (f e C d))
      (more : NamedOk X hs qs) : NamedOk X (.ExceptHandler (some (.Name y p1)) (some m) (st :: sts) p2 :: hs) (⟨c, i, f⟩ :: qs)
theorem ps_try_named {X : Cx} {body : List Stmt} {h1 : ExceptHandler} {hs : List ExceptHandler} {qs : List Clause} {pos : Pos} {tb : WX → TS} {W0 : WX}
    (stk : X.stack = X.env :: X.outer) (frm : X.env.frame = some X.env.locals) (nd : X.N.Nodup) (tk : Takes X W0)
    (inn : ∀ (W : WX) (pn : List (Addr × Obj)) (xe : Value → Shared → Prop), Takes (X.tr pn xe) W → PassesOwn (model X.prog X.w) X.A X.env xe → PSs (X.tr pn xe) body (tb W))
    (cls : NamedOk X (h1 :: hs) qs) : PS X (.Try body (h1 :: hs) [] [] pos) (fun D τ G => tb (wNamed X.K W0 D qs) D τ G) := by
  constructor
  intro pins s σ H D I rd
  have okX := I.ok
  have frames : X.A.frames = some (X.env :: X.outer) := okX.frames.trans (congrArg some stk)
  refine wpAny_Try_except ?_
  refine wpAny_mono ((inn (wNamed X.K W0 D qs) (X.pn ++ pins) (fun e s1 => wpAny (model X.prog X.w) X.A (noteFrame e X.env)
    (fun _ s2 => wpAny (model X.prog X.w) X.A (setFlight e none)
      (fun _ s3 => wpAny (model X.prog X.w) X.A (handleBy e X.env (h1 :: hs)) (SP X pins D) X.xe s3) X.xe s2) X.xe s1) ?caught PassesOwn.looking).run [] s σ H D (I.toTry _) rd) ?through fun _ _ z => z
  case through =>
    intro fl s1 z
    rcases fl with _ | _ | _ | u
    case next =>
      obtain ⟨τ, G, J, g⟩ := z
      exact wpAny_execs_nil ⟨τ, G, J.ofTry okX, g⟩
    case ret =>
      obtain ⟨v, τ, G, J, r, g⟩ := z
      exact ⟨v, τ, G, J.ofTry okX, r, g⟩
    all_goals
      obtain ⟨τ, G, J, g⟩ := z
      exact ⟨τ, G, J.ofTry okX, g⟩
  case caught =>
    rintro u s1 ⟨er, B, sI, pins1, τ, G, C, d, rfl, J0, low, up0, sky, free, os, ag, wish⟩
    have J1 : Inv X pins τ G sI := J0.ofTry okX
    rw [show (X.tr (X.pn ++ pins) _).stack = X.env :: X.outer from stk] at sky
    show wpAny (model X.prog X.w) X.A (noteFrame (.ref er) X.env) _ _ _
    refine Sky.land Zc.steady frames frm sky fun h3 fl3 up3 => ?_
    have up1 := up0.trans up3
    have J3 : Inv X pins τ G { s1 with heap := h3 } := J1.landed low fl3.1 up1 os ag
    obtain ⟨oe, vs, er3, kind3, data3⟩ := fl3.there
    -- the error is no frame of a def that runs
    have noFrame : er ∉ frs (X.env :: X.outer) := fun hm => by
      obtain ⟨_, o2, e2, no⟩ := fl3.2.2.1.mem hm
      cases er3.symm.trans e2
      exact no _ data3
    have notLoc : er ≠ X.env.locals := fun z => noFrame (List.mem_filterMap.mpr ⟨X.env, .head _, frm.trans (congrArg some z.symm)⟩)
    have notFs : er ∉ X.fs := fun hm => by
      obtain ⟨en, hen, q⟩ := List.mem_filterMap.mp hm
      exact noFrame (List.mem_filterMap.mpr ⟨en, .tail _ hen, q⟩)
    have S3 := J3.suite er3 data3 free notLoc notFs
    have look : PySem.W.Looks (model X.prog X.w) h3 (typeOf (.ref er)) C := fun A Q E s k q => wpAny_typeOf_ref (k _ _ er3) (kind3.1.symm ▸ q)
    clear rd
    generalize h1 :: hs = all at cls
    induction cls with
    | nil =>
      refine wpAny_handleBy_nil ?_
      obtain ⟨_, _, _, o2, v2, T, _, _, e2, _, d2, f2, _⟩ := id fl3
      unfold PySem.passOn
      refine wpAny_bind (wpAny_field e2 d2 f2 ?_)
      rw [if_neg (by simp : ¬ ((Value.ref T == Value.none) = true))]
      have out : wpAny (model X.prog X.w) X.A (setFlight (.ref er) X.env.frame)
          (fun _ s4 => wpAny (model X.prog X.w) X.A (throw (.ref er) : Sem Flow) (SP X pins D) X.xe s4) X.xe { s1 with heap := h3 } := by
        rw [frm]
        refine HandSPX.setFlight_upZ fl3 fun h4 fl4 up4 => wpAny_throw (tk _ _ ?_)
        refine ⟨er, B, sI, pins, τ, G, C, d, rfl, J1, low, up1.trans up4, ?_, free, os, ag, wish⟩
        exact .inr (.inr (by rw [stk]; exact fl4))
      first
        | exact wpAny_bind (wpAny_pure (wpAny_bind out))
        | exact wpAny_bind out
    | @cons y m c i f st sts p1 p2 hs2 qs2 slot loc nm su more ih =>
      obtain ⟨b, fits, yes, no⟩ := wish
      refine wpAny_handleBy_cons (codeAny_handlers_test ?_) (by intro q; cases q)
      have there : ∀ {Q E : Value → Shared → Prop}, Q c { s1 with heap := h3 } → wpAny (model X.prog X.w) (X.A.mark (some (.ref er))) (eval (.Name y p1) X.env) Q E { s1 with heap := h3 } := by
        intro Q E q
        rcases nm with ⟨g, dbg, hm | ⟨hm, hv, nn⟩⟩
        · exact ld_glob (X := X.suite er ((er, oe) :: (X.pn ++ pins))) S3 g hm q dbg
        · exact ld_blt (X := X.suite er ((er, oe) :: (X.pn ++ pins))) S3 g hm hv q nn dbg
      refine there ((PySem.W.exm_one (M := model X.prog X.w) J3.kIn look fits).here ?_)
      rcases b with _ | _
      · show wpAny _ X.A (handleBy (.ref er) X.env hs2) _ _ _
        exact ih (no rfl)
      · refine codeAny_handlers_suite_as ?_
        refine HandSPX.lands_againZ fl3 fun h4 fl4 up4 => ?_
        have J4 : Inv X pins τ G { s1 with heap := h4 } := J1.landed low fl4.1 (up1.trans up4) os ag
        obtain ⟨o4, v4, er4, kind4, data4⟩ := fl4.there
        refine store_ok (X := X.suite er ((er, o4) :: (X.pn ++ pins))) (v := .ref er) (J4.suite er4 data4 free notLoc notFs) nd slot (.inl loc) rfl (fun s5 S5 => ?_) (.inr loc)
        refine wpAny_mono ((su er o4 C d (X.pn ++ pins) kind4 ⟨_, data4⟩).run [] s5 _ G _ S5 (yes rfl er free)) ?_ fun _ _ z => z.elim
        intro fw s6 z
        have gone : ∀ {τ6 : L2.St} {G6 : Hp} {R : Shared → Prop}, Inv (X.suite er ((er, o4) :: (X.pn ++ pins))) [] τ6 G6 s6 → (∀ s7, Inv X pins (τ6.set i none) G6 s7 → R s7) →
            wpAny (model X.prog X.w) X.A (do bindName X.env m .none; unbindBehindTheSuite X.env m p2) (fun _ s7 => R s7) X.xe s6 := fun S6 k => gone_ok (S6.unsuite okX) nd slot loc k
        rcases fw with _ | _ | _ | u6
        case next =>
          obtain ⟨τ6, G6, S6, q6⟩ := z
          exact gone S6 fun s7 J7 => ⟨_, _, J7, q6⟩
        case ret =>
          obtain ⟨v6, τ6, G6, S6, r6, q6⟩ := z
          exact gone S6 fun s7 J7 => ⟨_, _, _, J7, r6, q6⟩
        all_goals
          obtain ⟨τ6, G6, S6, q6⟩ := z
          exact gone S6 fun s7 J7 => ⟨_, _, J7, q6⟩

/-! ### calls with keywords and instances made, where what is raised is wished for at the caller's slots -/
def tCallNS (n m : Nat) (sp : Sp) (gV : List V → List V → List V) (E : L2.St → XK) (t tk : TA) : TE := fun σ H Q => t σ H fun vs H1 => tk σ H1 fun zs H2 => vs.length = n ∧ zs.length = m ∧ sp (gV vs zs) H2 Q (E σ)
def tMakeKS (C : Addr) (n m : Nat) (sp : Sp) (gV : List V → List V → List V) (E : L2.St → XK) (t tk : TA) : TE := fun σ H Q => t σ H fun vs H1 => tk σ H1 fun zs H2 => vs.length = n ∧ zs.length = m ∧ ∀ x dx, H2 x = none → H2 dx = none → dx ≠ x →
  sp (gV (.ref x :: vs) zs) (upd (upd H2 dx (.own x)) x (.ins C dx [])) (fun v H3 => v = .non ∧ Q (.ref x) H3) (E σ)
def tMakeDS (C : Addr) (sp : Sp) (dvs : List V) (E : L2.St → XK) (t : TA) : TE := fun σ H Q => t σ H fun vs H1 => ∀ x dx, H1 x = none → H1 dx = none → dx ≠ x →
  sp (.ref x :: (vs ++ dvs)) (upd (upd H1 dx (.own x)) x (.ins C dx [])) (fun v H2 => v = .non ∧ Q (.ref x) H2) (E σ)
section
variable {X : Cx} {CX : CXT} {k n : Nat} {f C : Addr} {fd : FuncData} {ps ks : List Str} {sp : Sp} {E : L2.St → XK} {E1 : XK} {x : Str} {p pos : Pos} {e : Expr} {es : List Expr} {kws : List Keyword} {t tk : TA} {g : List Value → List Value → List Value} {gV : List V → List V → List V} {dvs : List V} {ds : List Value}
theorem run_fnNS {pins : List (Addr × Obj)} {σ : L2.St} {H : Hp} {s : Shared} {Q : VK} {us ws : List Value} {vs zs : List V} (F : FnOk X.prog X.w X.K X.mg X.base CX k f fd ps sp) (hr : Room k X.A) (hb : KBn X.K fd ps n ks g gV) (hx : PassesAt CX X σ E1)
    (I : Inv X pins σ H s) (r : Vals vs us) (rz : Vals zs ws) (l1 : vs.length = n) (l2 : zs.length = ks.length) (h : sp (gV vs zs) H Q E1) : wpAny (model X.prog X.w) X.A (call (.ref f) us (ks.zip ws)) (EP X pins σ Q) X.xe s := by
  have r2 := hb.rel r rz
  refine wpAny_call (codeAny_mono (F.run X.A X.stack s H ⟨us, ks.zip ws⟩ (g us ws) (gV vs zs) Q E1 hr I.env0 (hb.to s us ws I.kIn (r.length.symm.trans l1) (rz.length.symm.trans l2)) r2 h) fun r s' hq => ?_)
  cases r with
  | error e => exact hx pins H s e s' I hq
  | ok fl =>
    cases fl with
    | ret u => exact I.after hq
    | next => exact False.elim hq
    | brk => exact False.elim hq
    | cont => exact False.elim hq
/-- f(e, .., k = v, ..) -/
theorem pe_callNS (F : FnOk X.prog X.w X.K X.mg X.base CX k f fd ps sp) (hr : Room k X.A) (hg : Gl X x) (hm : X.mg x = some (.ref f)) (hk : PySem.W.keepIn X.K (.ref f) = true) (hb : KBn X.K fd ps n ks g gV) (hx : ∀ σ, PassesAt CX X σ (E σ))
    (ha : PA X (e :: es) t) (hkw : PK X kws tk) (hall : (backToKw pos (keywordEach kws X.env)).all (·.1.isSome) = true := by rfl) (hks : (backToKw pos (keywordEach kws X.env)).filterMap (·.1) = ks := by rfl)
    (hdb : (x == ("__debug__" : Str)) = false := by decide) (he : starEach (e :: es) X.env = (false, eval e X.env) :: starEach es X.env := by rfl)
    (hpl : ((backTo pos (starEach (e :: es) X.env)).any (·.1) || (backToKw pos (keywordEach kws X.env)).any (·.1.isNone)) = false := by rfl) :
    PE X (.Call (.Name x p) (e :: es) kws pos) (tCallNS n ks.length sp gV E t tk) := by
  refine ⟨fun pins s σ H Q I h => ?_⟩
  refine wpAny_Call_Name_kw (ld_glob I hg hm ?_ hdb)
  refine PySem.W.callWith_KW (h₀ := X.base) I.ok.mod.kin hk hall (thn (ha.run pos pins s σ H _ I h) fun us s1 ⟨vs, H1, I1, r, q⟩ => ?_) hpl he
  refine thn (hkw.run pos pins s1 σ H1 _ I1 q) fun ws s2 ⟨zs, H2, I2, rz, l1, l2, q2⟩ => ⟨I2.kIn, ?_⟩
  rw [hks]
  exact run_fnNS F hr hb (hx σ) I2 r rz l1 l2 q2
theorem run_makeKS {pins : List (Addr × Obj)} {σ : L2.St} {H : Hp} {s : Shared} {Q : VK} {us ws : List Value} {vs zs : List V} (M : Mk X.K C f) (F : FnOk X.prog X.w X.K X.mg X.base CX k f fd ps sp) (hr : Room (k + 1) X.A) (hb : KBn X.K fd ps (n + 1) ks g gV) (hx : PassesAt CX X σ E1)
    (I : Inv X pins σ H s) (r : Vals vs us) (rz : Vals zs ws) (l1 : vs.length = n) (l2 : zs.length = ks.length)
    (h : ∀ x dx, H x = none → H dx = none → dx ≠ x → sp (gV (.ref x :: vs) zs) (upd (upd H dx (.own x)) x (.ins C dx [])) (fun v H2 => v = .non ∧ Q (.ref x) H2) E1) :
    wpAny (model X.prog X.w) X.A (call (.ref C) us (ks.zip ws)) (EP X pins σ Q) X.xe s := by
  have hq := h (s.heap.objs.size + 1) s.heap.objs.size (I.hok.fresh (Nat.le_succ _)) (I.hok.fresh (Nat.le_refl _)) (Nat.ne_of_lt (Nat.lt_succ_self _))
  have I2 := Inv.made (C := C) I
  have r1 : Vals (V.ref (s.heap.objs.size + 1) :: vs) (Value.ref (s.heap.objs.size + 1) :: us) := .cons rfl r
  have r2 := hb.rel r1 rz
  have n1 : (Value.ref (s.heap.objs.size + 1) :: us).length = n + 1 := by
    rw [List.length_cons, ← r.length, l1]
  refine wpAny_call (make_map (f := f) I.kIn M.makes M.init (beq_iff_eq.mp M.fn) (codeAny_mono (F.run _ X.stack _ _ ⟨Value.ref (s.heap.objs.size + 1) :: us, ks.zip ws⟩ (g (Value.ref (s.heap.objs.size + 1) :: us) ws) _ _ E1 (hr.make C us (ks.zip ws))
    (I2.env0.make C us (ks.zip ws)) (hb.to _ (Value.ref (s.heap.objs.size + 1) :: us) ws I2.kIn n1 (rz.length.symm.trans l2)) r2 hq) fun r s' hq' => ?_))
  cases r with
  | error e => exact hx pins _ _ e s' I2 hq'
  | ok fl =>
    cases fl with
    | ret u =>
      obtain ⟨v, H', I3, rv, ev, q3⟩ := I2.after hq'
      subst ev
      exact ⟨rv, ⟨V.ref (s.heap.objs.size + 1), H', I3, rfl, q3⟩⟩
    | next => exact False.elim hq'
    | brk => exact False.elim hq'
    | cont => exact False.elim hq'
/-- C(e, .., k = v, ..) -/
theorem pe_makeKS (M : Mk X.K C f) (F : FnOk X.prog X.w X.K X.mg X.base CX k f fd ps sp) (hr : Room (k + 1) X.A) (hg : Gl X x) (hm : X.mg x = some (.ref C)) (hb : KBn X.K fd ps (n + 1) ks g gV) (hx : ∀ σ, PassesAt CX X σ (E σ)) (ha : PA X (e :: es) t) (hkw : PK X kws tk)
    (hall : (backToKw pos (keywordEach kws X.env)).all (·.1.isSome) = true := by rfl) (hks : (backToKw pos (keywordEach kws X.env)).filterMap (·.1) = ks := by rfl) (hdb : (x == ("__debug__" : Str)) = false := by decide)
    (he : starEach (e :: es) X.env = (false, eval e X.env) :: starEach es X.env := by rfl) (hpl : ((backTo pos (starEach (e :: es) X.env)).any (·.1) || (backToKw pos (keywordEach kws X.env)).any (·.1.isNone)) = false := by rfl) :
    PE X (.Call (.Name x p) (e :: es) kws pos) (tMakeKS C n ks.length sp gV E t tk) := by
  refine ⟨fun pins s σ H Q I h => ?_⟩
  refine wpAny_Call_Name_kw (ld_glob I hg hm ?_ hdb)
  refine PySem.W.callWith_KW (h₀ := X.base) I.ok.mod.kin M.kp hall (thn (ha.run pos pins s σ H _ I h) fun us s1 ⟨vs, H1, I1, r, q⟩ => ?_) hpl he
  refine thn (hkw.run pos pins s1 σ H1 _ I1 q) fun ws s2 ⟨zs, H2, I2, rz, l1, l2, q2⟩ => ⟨I2.kIn, ?_⟩
  rw [hks]
  exact run_makeKS M F hr hb (hx σ) I2 r rz l1 l2 q2
theorem run_makeDS {pins : List (Addr × Obj)} {σ : L2.St} {H : Hp} {s : Shared} {Q : VK} {us : List Value} {vs : List V} (M : Mk X.K C f) (F : FnOk X.prog X.w X.K X.mg X.base CX k f fd ps sp) (hr : Room (k + 1) X.A) (hb : Binds X.K fd ps ds) (hd : Vals dvs ds)
    (hx : PassesAt CX X σ E1) (I : Inv X pins σ H s) (r : Vals vs us)
    (h : ∀ x dx, H x = none → H dx = none → dx ≠ x → sp (.ref x :: (vs ++ dvs)) (upd (upd H dx (.own x)) x (.ins C dx [])) (fun v H2 => v = .non ∧ Q (.ref x) H2) E1) :
    wpAny (model X.prog X.w) X.A (call (.ref C) us) (EP X pins σ Q) X.xe s := by
  have hq := h (s.heap.objs.size + 1) s.heap.objs.size (I.hok.fresh (Nat.le_succ _)) (I.hok.fresh (Nat.le_refl _)) (Nat.ne_of_lt (Nat.lt_succ_self _))
  have I2 := Inv.made (C := C) I
  have r2 : Vals (V.ref (s.heap.objs.size + 1) :: (vs ++ dvs)) (Value.ref (s.heap.objs.size + 1) :: (us ++ ds)) := .cons rfl (r.append hd)
  have hl : (Value.ref (s.heap.objs.size + 1) :: us ++ ds).length = ps.length := by
    have e := r2.length
    rw [F.len _ _ _ _ hq] at e
    exact e.symm
  refine wpAny_call (make_map (f := f) I.kIn M.makes M.init (beq_iff_eq.mp M.fn) (codeAny_mono (F.run _ X.stack _ _ ⟨Value.ref (s.heap.objs.size + 1) :: us, []⟩ (Value.ref (s.heap.objs.size + 1) :: (us ++ ds)) _ _ E1 (hr.make C us [])
    (I2.env0.make C us []) (hb _ (Value.ref (s.heap.objs.size + 1) :: us) I2.kIn hl) r2 hq) fun r s' hq' => ?_))
  cases r with
  | error e => exact hx pins _ _ e s' I2 hq'
  | ok fl =>
    cases fl with
    | ret u =>
      obtain ⟨v, H', I3, rv, ev, q3⟩ := I2.after hq'
      subst ev
      exact ⟨rv, ⟨V.ref (s.heap.objs.size + 1), H', I3, rfl, q3⟩⟩
    | next => exact False.elim hq'
    | brk => exact False.elim hq'
    | cont => exact False.elim hq'
/-- C(e, ..), the rest by defaults -/
theorem pe_makeDS (M : Mk X.K C f) (F : FnOk X.prog X.w X.K X.mg X.base CX k f fd ps sp) (hr : Room (k + 1) X.A) (hg : Gl X x) (hm : X.mg x = some (.ref C)) (hb : Binds X.K fd ps ds) (hd : Vals dvs ds) (hx : ∀ σ, PassesAt CX X σ (E σ))
    (ha : PA X (e :: es) t) (hdb : (x == ("__debug__" : Str)) = false := by decide) (he : starEach (e :: es) X.env = (false, eval e X.env) :: starEach es X.env := by rfl) (hpl : (backTo pos (starEach es X.env)).any (·.1) = false := by rfl) :
    PE X (.Call (.Name x p) (e :: es) [] pos) (tMakeDS C sp dvs E t) := by
  refine ⟨fun pins s σ H Q I h => ?_⟩
  refine wpAny_Call_Name_kw (ld_glob I hg hm ?_ hdb)
  refine PySem.W.callWith_K (h₀ := X.base) I.ok.mod.kin M.kp (thn (ha.run pos pins s σ H _ I h) fun us s1 ⟨vs, H1, I1, r, q⟩ => ⟨I1.kIn, ?_⟩) he hpl
  exact run_makeDS M F hr hb hd (hx σ) I1 r q
end
/-! readings -/
section
variable {σ : L2.St} {H : Hp} {Q : VK} {n m : Nat} {sp : Sp} {gV : List V → List V → List V} {E : L2.St → XK} {t tk : TA} {C : Addr} {dvs : List V} {K : PySem.W.Frag}
theorem c_callNS (h : t σ H fun vs H1 => tk σ H1 fun zs H2 => vs.length = n ∧ zs.length = m ∧ sp (gV vs zs) H2 Q (E σ)) : tCallNS n m sp gV E t tk σ H Q := h
theorem c_callSD (h : t σ H fun vs H1 => sp (vs ++ dvs) H1 Q (E σ)) : tCallSD sp dvs E t σ H Q := h
theorem c_makeKS (h : t σ H fun vs H1 => tk σ H1 fun zs H2 => vs.length = n ∧ zs.length = m ∧ ∀ x dx, H2 x = none → H2 dx = none → dx ≠ x →
  sp (gV (.ref x :: vs) zs) (upd (upd H2 dx (.own x)) x (.ins C dx [])) (fun v H3 => v = .non ∧ Q (.ref x) H3) (E σ)) : tMakeKS C n m sp gV E t tk σ H Q := h
theorem c_makeDS (h : t σ H fun vs H1 => ∀ x dx, H1 x = none → H1 dx = none → dx ≠ x →
  sp (.ref x :: (vs ++ dvs)) (upd (upd H1 dx (.own x)) x (.ins C dx [])) (fun v H2 => v = .non ∧ Q (.ref x) H2) (E σ)) : tMakeDS C sp dvs E t σ H Q := h
theorem c_slot {ta : TE} {f : Str} (h : ta σ H fun x H1 => ∃ a C dx p vs i v, x = .ref a ∧ SlX.Slt H1 a C dx vs ∧ SlX.SCls K C ∧ SlX.Slot1 K C f p i ∧ vs[i]? = some (some v) ∧ Q v H1) : SlX.tSl K ta f σ H Q := h
theorem c_sslot {ta tv : TE} {f : Str} {D : Ends} (h : tv σ H fun y H1 => ta σ H1 fun x H2 => ∃ a C dx p vs i, x = .ref a ∧ SlX.Slt H2 a C dx vs ∧ SlX.SCls K C ∧ SlX.Slot1 K C f p i ∧ D.nx σ (SlX.slH H2 a C dx (SlX.putS i y vs))) : SlX.sSl K ta tv f D σ H := h
end
theorem pass0At {X : Cx} (σ : L2.St) : PassesAt CX0 X σ E0 := fun pins H s e s' I h => pass0 pins σ H s e s' I h
theorem passFAt {X : Cx} (σ : L2.St) : PassesAt (L2.CX X.prog X.w) X σ E0 := fun pins H s e s' I h => passF pins σ H s e s' I h
theorem c_cval {K : PySem.W.Frag} {σ : L2.St} {H : Hp} {Q : VK} {ta : TE} {f : Str} (h : ta σ H fun x H1 => ∃ C mc v u, x = .ref C ∧ ClX.CRead K C mc ∧ ClX.CVal K C mc f v u ∧ Q v H1) : ClX.tCVal K ta f σ H Q := h
theorem Slt_same {H H' : Hp} {a C dx : Addr} {vs : List (Option V)} (h : SlX.Slt H a C dx vs) (s : Same H H') : SlX.Slt H' a C dx vs := by
  rcases h with ⟨h1, h2⟩ | ⟨h1, h2⟩
  · exact .inl ⟨s _ _ h1, h2⟩
  · exact .inr ⟨s _ _ h1, s _ _ h2⟩
section
variable {X : Cx} {pn : List (Addr × Obj)} {xe : Value → Shared → Prop}
theorem ix_listT : IxR (X.tr pn xe) (rIxL X.K) := ix_list
theorem ix_tupT : IxR (X.tr pn xe) (rIxT X.K) := ix_tup
end
/-! ### errors without a field -/
def rIsN (K : PySem.W.Frag) (D a : Addr) (cls : Value) (d : Option Addr) : List V → Hp → VK → Prop := fun xs H Q => cls = .ref D ∧ d = none ∧ ∃ (c : V) (cv : Value) (b : Bool), xs = [.ref a, c] ∧ (∀ u, RelV c u → u = cv) ∧ PySem.W.kitOne K (.ref D) cv = some b ∧ Q (.bl b) H
theorem call_isN {X : Cx} {a D : Addr} {oe : Obj} {cls : Value} {d : Option Addr} {pn : List (Addr × Obj)} (C : L2.ExcC X.K D) (hz : Zc cls d oe) (hf : ∃ vs, oe.data = .fields vs) : CallR (X.suite a ((a, oe) :: pn)) (.builtin "isinstance") (rIsN X.K D a cls d) := fun pins s σ H xs us Q I r h => by
  obtain ⟨e1, e2, h⟩ := h
  subst e1 e2
  exact call_isE C hz hf pins s σ H xs us Q I r h
theorem kit_val {K : PySem.W.Frag} {C : Addr} (h : PySem.W.subIn K (.ref C) (.type "ValueError") = some true) : PySem.W.kitOne K (.ref C) (.type "ValueError") = some true := by
  have e : PySem.W.kitCls K (.ref C) (.type "ValueError") = some true := h
  unfold PySem.W.kitOne
  rw [if_neg (by intro q; cases (beq_iff_eq.mp q)), e]

end Y
/-! ### x in o, o an instance with an own __contains__ -/
namespace CtX
open PySem PySem.Spec PyProof.Rows L2
section
variable {prog : Program} {w : World} {A : Around} {E : Value → Shared → Prop} {s : Shared} {K : PySem.W.Frag} {x C f : Addr} {ox : Obj} {od : Option Obj}
theorem contains_own {v : Value} {Q : Bool → Shared → Prop} (X : K.In s.heap) (I : PySem.W.InstAt s.heap x ox C od) (hs : PySem.W.findIn K (.ref C) "__contains__" = some (some (.ref f))) (hf : PySem.W.typeIn K (.ref f) = some (.type "function"))
    (h : wpAny (model prog w) A (call (.ref f) [.ref x, v]) (fun r s' => ∃ b, r = .bool b ∧ Q b s') E s) : wpAny (model prog w) A (contains (.ref x) v) Q E s := by
  unfold contains
  refine wpAny_holding ?_
  show wpAny _ _ (specialOf (.ref x) "__contains__" >>= _) _ _ _
  refine wpAny_bind (wpAny_bind (I.type.here ((PySem.W.looks_findIn X hs).here ?_)))
  show wpAny _ _ (if (some (Value.ref f) == some Value.none) = true then _ else _) _ _ _
  rw [if_neg (by intro q; cases (beq_iff_eq.mp q))]
  show wpAny _ _ (callSpecialUnlessNone? (.ref x) "__contains__" [v] _ >>= _) _ _ _
  refine wpAny_bind ?_
  unfold callSpecialUnlessNone?
  refine wpAny_bind (wpAny_bind (I.type.here ((PySem.W.looks_findIn X hs).here ?_)))
  refine wpAny_holding ?_
  refine wpAny_bind ((PySem.W.bind_fn X _ hf).here ?_)
  show wpAny _ _ (if (Value.ref f == Value.none) = true then _ else _) _ _ _
  rw [if_neg (by intro q; cases (beq_iff_eq.mp q))]
  refine wpAny_bind (wpAny_mono h (fun r s' hr => ?_) fun _ _ z => z)
  obtain ⟨b, rfl, q⟩ := hr
  refine wpAny_pure ?_
  show wpAny _ _ (truthy (.bool b)) _ _ _
  exact wpAny_pure q
end
end CtX
namespace Y
open PySem PySem.Spec PyProof.Rows L2 CtX

/-! ### methods of instances with slots, where what is raised is wished for at the caller's slots -/
theorem fnr_of {P : Program} {w : World} {K : PySem.W.Frag} {mg : Str → Option Value} {base : Heap} {CX : CXT} {k : Nat} {f : Addr} {fd : FuncData} {ps : List Str} {sp : Sp} (F : FnOk P w K mg base CX k f fd ps sp) (hb : Binds K fd ps []) : FnR P w K mg base CX k f sp :=
  (FnOk.raw F hb .nil).imp fun vs H Q E h => by rw [List.append_nil]; exact h
theorem run_fnRS {X : Cx} {pins : List (Addr × Obj)} {σ : L2.St} {H : Hp} {s : Shared} {CX : CXT} {k : Nat} {f : Addr} {sp : Sp} {E : XK} {Q : VK} {us : List Value} {vs : List V} (F : FnR X.prog X.w X.K X.mg X.base CX k f sp) (hr : Room k X.A) (hx : PassesAt CX X σ E) (I : Inv X pins σ H s) (r : Vals vs us) (h : sp vs H Q E) :
    codeAny (model X.prog X.w) X.A (.call (.ref f) ⟨us, []⟩) (fun r s' => match r with | .ok (.ret v) => EP X pins σ Q v s' | .ok _ => False | .error e => X.xe e s') s := by
  refine codeAny_mono (F X.A X.stack s H us vs Q E hr I.env0 r h) fun r s' hq => ?_
  cases r with
  | error e => exact hx pins H s e s' I hq
  | ok fl =>
    cases fl with
    | ret u => exact I.after hq
    | next => exact False.elim hq
    | brk => exact False.elim hq
    | cont => exact False.elim hq
/-- o.m(e, ..) -/
def tMethS (C : Addr) (sp : Sp) (E : L2.St → XK) (ta : TE) (t : TA) : TE := fun σ H Q => ta σ H fun x H1 => ∃ a dx vs, x = .ref a ∧ SlX.Slt H1 a C dx vs ∧ t σ H1 fun ws H2 => sp (x :: ws) H2 Q (E σ)
/-- x in o -/
def rInOwn (C : Addr) (sp : Sp) (E : XK) (neg : Bool) : R2 := fun x y H Q => ∃ a dx vs, y = .ref a ∧ SlX.Slt H a C dx vs ∧ sp [y, x] H (fun z H' => ∃ b, z = .bl b ∧ Q (.bl (if neg = true then !b else b)) H') E
section
variable {X : Cx} {CX : CXT} {k : Nat} {C g : Addr} {sp : Sp} {E : L2.St → XK} {E1 : XK} {o e : Expr} {es : List Expr} {m : Str} {pos apos : Pos} {ta : TE} {t : TA}
theorem pe_methS {pl : Sem Bool} (he : PE X o ta) (c : SlX.SCls X.K C) (hm : Meth X.K C m g) (F : FnR X.prog X.w X.K X.mg X.base CX k g sp) (hr : Room k X.A) (hx : ∀ σ, PassesAt CX X σ (E σ)) (ha : PA X (e :: es) t)
    (hst : starEach (e :: es) X.env = (false, eval e X.env) :: starEach es X.env := by rfl) (hpl : (backTo pos (starEach es X.env)).any (·.1) = false := by rfl)
    (ht : eval (.Call (.Attribute o m apos) (e :: es) [] pos) X.env = (do
      let ov ← eval o X.env
      standAt apos.atName
      let (f, first) ← holding [ov] (getMethod ov m pl)
      callWith pos f first (backTo pos (starEach (e :: es) X.env)) (backToKw pos (keywordEach [] X.env))) := by rfl) :
    PE X (.Call (.Attribute o m apos) (e :: es) [] pos) (tMethS C sp E ta t) := by
  refine ⟨fun pins s σ H Q I h => ?_⟩
  refine PySem.W.methodCall_KW (pl := pl) (thn (he.run pins s σ H _ I h) fun u s1 ⟨x, H1, I1, rx, a, dx, vs, ex, hsl, q⟩ => ?_) ht
  subst ex
  obtain rfl : u = Value.ref a := rx
  refine SlX.getmethsl_ok I1 hsl c hm ?_
  refine PySem.W.callWith_K (first := [.ref a]) (h₀ := X.base) I.ok.mod.kin hm.kp (thn (ha.run pos pins s1 σ H1 _ I1 q) fun us s2 ⟨ws, H2, I2, r, q2⟩ => ⟨I2.kIn, ?_⟩) hst hpl
  exact wpAny_call (run_fnRS (us := .ref a :: us) (vs := .ref a :: ws) F hr (hx σ) I2 (.cons rfl r) q2)
theorem pe_methS0 {pl : Sem Bool} (he : PE X o ta) (c : SlX.SCls X.K C) (hm : Meth X.K C m g) (F : FnR X.prog X.w X.K X.mg X.base CX k g sp) (hr : Room k X.A) (hx : ∀ σ, PassesAt CX X σ (E σ))
    (ht : eval (.Call (.Attribute o m apos) [] [] pos) X.env = (do
      let ov ← eval o X.env
      standAt apos.atName
      let (f, first) ← holding [ov] (getMethod ov m pl)
      callWith pos f first (backTo pos (starEach [] X.env)) (backToKw pos (keywordEach [] X.env))) := by rfl) :
    PE X (.Call (.Attribute o m apos) [] [] pos) (tMethS C sp E ta tNil) := by
  refine ⟨fun pins s σ H Q I h => ?_⟩
  refine PySem.W.methodCall_KW (pl := pl) (thn (he.run pins s σ H _ I h) fun u s1 ⟨x, H1, I1, rx, a, dx, vs, ex, hsl, q⟩ => ?_) ht
  subst ex
  obtain rfl : u = Value.ref a := rx
  refine SlX.getmethsl_ok I1 hsl c hm ?_
  exact PySem.W.callWith_K0 (first := [.ref a]) I1.kIn hm.kp (wpAny_call (run_fnRS (us := [.ref a]) (vs := [.ref a]) F hr (hx σ) I1 (.cons rfl .nil) q))
theorem op_inSl (hm : Meth X.K C "__contains__" g) (F : FnR X.prog X.w X.K X.mg X.base CX k g sp) (hr : Room k X.A) (hx : Passes CX X E1) : OpR X (compareOp .In) (rInOwn C sp E1 false) := by
  intro pins s σ H x y v u Q I rx ry h
  obtain ⟨a, dx, vs, rfl, ha, q⟩ := h
  obtain rfl : u = Value.ref a := ry
  obtain ⟨sl, od, _, J, _⟩ := SlX.slt_inst I ha
  show wpAny _ _ (contains (.ref a) v >>= fun b => (pure (Value.bool b) : Sem Value)) _ _ _
  refine wpAny_bind (CtX.contains_own I.kIn J hm.at_ (beq_iff_eq.mp hm.fn) (wpAny_mono (wpAny_call (run_fnR (us := [.ref a, v]) (vs := [.ref a, x]) F hr hx I (.cons rfl (.cons rx .nil)) q)) (fun w s' z => ?_) fun _ _ x => x))
  obtain ⟨z', H', I', rz, b, ez, qz⟩ := z
  subst ez
  obtain rfl : w = Value.bool b := rz
  exact ⟨b, rfl, wpAny_pure ⟨.bl b, H', I', rfl, qz⟩⟩
theorem op_notInSl (hm : Meth X.K C "__contains__" g) (F : FnR X.prog X.w X.K X.mg X.base CX k g sp) (hr : Room k X.A) (hx : Passes CX X E1) : OpR X (compareOp .NotIn) (rInOwn C sp E1 true) := by
  intro pins s σ H x y v u Q I rx ry h
  obtain ⟨a, dx, vs, rfl, ha, q⟩ := h
  obtain rfl : u = Value.ref a := ry
  obtain ⟨sl, od, _, J, _⟩ := SlX.slt_inst I ha
  show wpAny _ _ (contains (.ref a) v >>= fun b => (pure (Value.bool (!b)) : Sem Value)) _ _ _
  refine wpAny_bind (CtX.contains_own I.kIn J hm.at_ (beq_iff_eq.mp hm.fn) (wpAny_mono (wpAny_call (run_fnR (us := [.ref a, v]) (vs := [.ref a, x]) F hr hx I (.cons rfl (.cons rx .nil)) q)) (fun w s' z => ?_) fun _ _ x => x))
  obtain ⟨z', H', I', rz, b, ez, qz⟩ := z
  subst ez
  obtain rfl : w = Value.bool b := rz
  exact ⟨b, rfl, wpAny_pure ⟨.bl (!b), H', I', rfl, qz⟩⟩
end
section
variable {σ : L2.St} {H : Hp} {Q : VK} {sp : Sp} {E : L2.St → XK} {E1 : XK} {t : TA} {C : Addr} {ta : TE} {x y : V}
theorem c_methS (h : ta σ H fun x H1 => ∃ a dx vs, x = .ref a ∧ SlX.Slt H1 a C dx vs ∧ t σ H1 fun ws H2 => sp (x :: ws) H2 Q (E σ)) : tMethS C sp E ta t σ H Q := h
theorem c_propSl (h : ta σ H fun x H1 => ∃ a dx vs, x = .ref a ∧ SlX.Slt H1 a C dx vs ∧ sp [.ref a] H1 Q E1) : SlX.tPropSl C sp E1 ta σ H Q := h
theorem r_inOwn {neg : Bool} (h : ∃ a dx vs, y = .ref a ∧ SlX.Slt H a C dx vs ∧ sp [y, x] H (fun z H' => ∃ b, z = .bl b ∧ Q (.bl (if neg = true then !b else b)) H') E1) : rInOwn C sp E1 neg x y H Q := h
end
section
variable {X : Cx} {s : Shared} {H : Hp} {scope : Scope} {e : Env} {fp : List Addr} {o : Expr} {ta : TE} {f : Str} {pos : Pos}
theorem pe_slB (he : PE (X.blk s H scope e fp) o ta) (hb : attributeBase o f (X.blk s H scope e fp).env (eval o (X.blk s H scope e fp).env) = eval o (X.blk s H scope e fp).env := by rfl) : PE (X.blk s H scope e fp) (.Attribute o f pos) (SlX.tSl X.K ta f) := SlX.pe_sl he hb
end

/-! ### 'x' * k, a text of one sign -/
def rRepS : R2 := fun x y H Q => ∃ (a : Str) (k : Int), x = .str a ∧ y = .int k ∧ a.length = 1 ∧ 1 ≤ k ∧ k ≤ 1000 ∧ ∀ z : Str, Q (.str z) H
theorem fold_size (c : Array Nat) : ∀ (n : Nat) (acc : Array Nat), ((List.replicate n c).foldl (· ++ ·) acc).size = acc.size + n * c.size
  | 0, acc => by simp
  | n + 1, acc => by
    rw [List.replicate_succ, List.foldl_cons, fold_size c n, Array.size_append, Nat.add_mul]
    omega
theorem op_repS {X : Cx} : OpR X (binaryOp .Mult) rRepS := by
  intro pins s σ H x y v u Q I rx ry h
  obtain ⟨a, k, rfl, rfl, h1, k1, k2, q⟩ := h
  obtain ⟨t, rfl⟩ := rx
  obtain ⟨tk, rfl⟩ := ry
  refine P.mul_str ?_ (fun _ _ => ?_) (fun _ _ => ?_) ?_
  · rw [decide_eq_false (by omega), decide_eq_false (by omega)]
    rfl
  · rw [h1]
    have : 1 ≤ (2 ^ 63 - 1) / k := (Int.le_ediv_iff_mul_le (by omega)).mpr (by omega)
    omega
  · rw [h1]
    exact decide_eq_false (Nat.not_lt.mpr (Nat.le_trans (show 1 * k.toNat ≤ 1000 by omega) (by decide)))
  · rw [if_neg (by omega)]
    split
    · exact ⟨.str a, H, I, ⟨_, rfl⟩, q a⟩
    · refine ⟨Nat.le_trans (m := 1000) ?_ (by decide), .str _, H, I.tok _, ⟨_, rfl⟩, q _⟩
      have h1' : a.cps.size = 1 := h1
      show Array.size _ ≤ 1000
      rw [fold_size, h1']
      simp
      omega

/-! ### t * k, also by 1 (then t itself) -/
theorem mul_one (l : Addr) (its : Array Value) (n : Nat) (dd : Option Addr) (sl : Array (Option Value)) (u : Tok) :
    Meets (Builtin.«tuple.__mul__» ⟨[.ref l, .int 1 u], []⟩) (fun _ R s => s.heap.get? l = some { cls := .type "tuple", dict := dd, data := .seq its n, slots := sl } ∧ R (.ok (.ret (Value.ref l))) s) :=
  .of_wp fun prog w A R s h => by
    obtain ⟨hp, g, d, tk, os⟩ := s
    obtain ⟨there, h⟩ := h
    have f1 := AutoSeq1.idx_int
    wp_walk using wpAny_loadPart' there
    exact ⟨_, rfl, h⟩
def rRepTA (K : PySem.W.Frag) : R2 := fun x y H Q => ∃ (l : Addr) (k : Int) (xs : List V), x = .ref l ∧ y = .int k ∧ SqT K H l xs ∧ xs ≠ [] ∧ 1 ≤ k ∧ k ≤ 1000 ∧ xs.length ≤ 1000 ∧ (k = 1 → Q (.ref l) H) ∧ (2 ≤ k → ∀ p, H p = none → Q (.ref p) (upd H p (.tup (List.replicate k.toNat xs).flatten)))
theorem op_repTA {X : Cx} : OpR X (binaryOp .Mult) (rRepTA X.K) := by
  intro pins s σ H x y v u Q I rx ry h
  obtain ⟨l, k, xs, rfl, rfl, there, hne, k1, k2, hz, q1, q2⟩ := h
  by_cases one : k = 1
  · subst one
    cases rx
    obtain ⟨tk, rfl⟩ := ry
    obtain ⟨items, vals, ⟨⟨cl, dd, body, slots⟩, got, isT, num, isS⟩, few⟩ := I.tuple there
    dsimp only at isT isS
    subst isT isS
    have tT : s.TypeIs (.ref l) "tuple" := ⟨_, got, rfl⟩
    have tI := typeIs_int s 1 tk
    have left := int_rmul_tuple 1 tk l items.toArray num dd slots
    have right := call_meets (prog := X.prog) (w := X.w) (A := X.A) (E := X.xe) (Q := EP X pins σ Q) PySem.F.slot_tuple_mul tT PySem.F.entry_tuple_mul (PySem.F.args_tuple_mul_2 _ _) (mul_one l items.toArray num dd slots tk) ⟨got, ⟨.ref l, H, I, rfl, q1 rfl⟩⟩
    refine wpAny_binaryOp_repeat_ref (U := "int") (T := "tuple") (by decide) tT (fun z => typeIs_int z 1 tk) noFill_tuple_mul PySem.F.fills_int_mul PySem.F.slot_int_rmul repeat_tuple PySem.F.slot_int_index.lookup ?_
    exact call_meets PySem.F.slot_int_rmul tI PySem.F.entry_int_rmul (PySem.F.args_int_rmul_2 _ _) left ⟨got, rfl, tT, right⟩
  · exact op_repT pins s σ H _ _ v u Q I rx ry ⟨l, k, xs, rfl, rfl, there, hne, by omega, k2, hz, q2 (by omega)⟩

/-! ### t * k, k at most 0 -/
theorem tuple_mul0 (l : Addr) (items : Array Value) (n : Nat) (dd : Option Addr) (sl : Array (Option Value)) (x : Int) (u : Tok) (c0 : (decide (x < -(2 ^ 63)) || decide (x ≥ 2 ^ 63)) = false) (c1 : (items.isEmpty || x == 1) = false) (c2 : (decide (x ≤ 0) || items.isEmpty) = true) :
    Meets (Builtin.«tuple.__mul__» ⟨[.ref l, .int x u], []⟩) (fun _ R s => s.heap.get? l = some { cls := .type "tuple", dict := dd, data := .seq items n, slots := sl } ∧
      R (.ok (.ret (Value.ref s.heap.objs.size))) { s with heap := s.heap.push { cls := Value.type "tuple", data := Data.seq #[] }, toks := s.toks }) :=
  .of_wp fun prog w A R s h => by
    obtain ⟨hp, g, d, tk, os⟩ := s
    obtain ⟨hl, h⟩ := h
    have f1 := AutoSeq1.idx_int
    wp_walk using wpAny_loadPart' hl
    repeat (first
      | (refine wpAny_ite_false (decide_eq_false (by rw [c0]; exact Bool.false_ne_true)) ?_; wp_walk using wpAny_loadPart' hl)
      | (refine wpAny_ite_false (decide_eq_false (by rw [c1]; exact Bool.false_ne_true)) ?_; wp_walk using wpAny_loadPart' hl)
      | (refine wpAny_ite_true (decide_eq_true c2) ?_; wp_walk using wpAny_loadPart' hl))
    exact ⟨_, rfl, h⟩
def rRepT0 (K : PySem.W.Frag) : R2 := fun x y H Q => ∃ (l : Addr) (k : Int) (xs : List V), x = .ref l ∧ y = .int k ∧ SqT K H l xs ∧ xs ≠ [] ∧ -1000 ≤ k ∧ k ≤ 0 ∧ ∀ p, H p = none → Q (.ref p) (upd H p (.tup []))
theorem op_repT0 {X : Cx} : OpR X (binaryOp .Mult) (rRepT0 X.K) := by
  intro pins s σ H x y v u Q I rx ry h
  obtain ⟨l, k, xs, rfl, rfl, hT, hne, h1, h2, q⟩ := h
  cases rx
  obtain ⟨t, rfl⟩ := ry
  obtain ⟨its, r, ⟨⟨cls, dd, data, sl⟩, ho, hc, n, hd⟩, hs⟩ := I.tuple hT
  simp only at hc hd
  subst hc hd
  have hle : its.length = xs.length := r.length.symm
  have hn : its ≠ [] := fun e => hne (by
    rw [e] at hle
    exact List.eq_nil_of_length_eq_zero hle.symm)
  have hi : its.toArray.isEmpty = false := by
    cases its with
    | nil => exact absurd rfl hn
    | cons a b => rfl
  have c0 : (decide (k < -(2 ^ 63)) || decide (k ≥ 2 ^ 63)) = false := by
    rw [decide_eq_false (by omega), decide_eq_false (by omega)] <;> rfl
  have c1 : (its.toArray.isEmpty || k == 1) = false := by
    rw [hi, Bool.false_or]
    exact beq_eq_false_iff_ne.mpr (by omega)
  have c2 : (decide (k ≤ 0) || its.toArray.isEmpty) = true := by
    rw [decide_eq_true h2, Bool.true_or]
  refine wpAny_binaryOp_repeat_ref (T := "tuple") (U := "int") (by decide) ⟨_, ho, rfl⟩ (fun s' => typeIs_int s' k t) noFill_tuple_mul F.fills_int_mul F.slot_int_rmul repeat_tuple F.slot_int_index.lookup
    (call_meets F.slot_int_rmul (typeIs_int s k t) F.entry_int_rmul (F.args_int_rmul_2 _ _) (int_rmul_tuple k t l its.toArray n dd sl)
      ⟨ho, rfl, ⟨_, ho, rfl⟩, call_meets F.slot_tuple_mul ⟨_, ho, rfl⟩ F.entry_tuple_mul (F.args_tuple_mul_2 _ _) (tuple_mul0 l its.toArray n dd sl k t c0 c1 c2) ⟨ho, ?_⟩⟩)
  refine ⟨.ref s.heap.objs.size, _, I.laid (t' := s.toks) (o := .tup []) (fun b ob q => Heap.get?_push_of_some _ q) (Nat.le_refl _) ?_, rfl, q _ (I.hok.fresh (Nat.le_refl _))⟩
  exact ⟨Nat.zero_le _, [], .nil, IsTup.new _ _⟩

/-! ### set(xs) of a list of ints -/
section
variable {P : Program} {w : World} {A : Around} {E : Value → Shared → Prop} {s : Shared}
abbrev emptySet (w : World) : Obj := { cls := .type "set", dict := none, data := .set #[] 0 (.fresh 0 0 (!w.params.followText "set-order")) }
theorem vals_at {zs : List Int} {items : Array Value} (h : IntsAre items.toList zs) (i : Nat) (v : Value) (e : items[i]? = some v) : ∃ k t, zs[i]? = some k ∧ v = .int k t := by
  have hl := IntsAre.length h
  rw [Array.length_toList] at hl
  have hi : i < zs.length := by
    have q := (Array.getElem?_eq_some_iff.mp e).1
    omega
  obtain ⟨t, z⟩ := PyProof.Rows.IntsAre.int_at h i v (by rw [Array.getElem?_toList]; exact e)
  refine ⟨zs[i], t, List.getElem?_eq_getElem hi, z.trans ?_⟩
  rw [List.getD_eq_getElem?_getD, List.getElem?_eq_getElem hi]
  rfl
/-- what the update leaves -/
def Made (w : World) (s : Shared) (zs : List Int) (r : Value) (s2 : Shared) : Prop := r = .none ∧ ∃ (h2 : Heap) (tk c : Nat), s2 = { s with heap := h2, toks := tk } ∧ SetR w h2 s.heap.objs.size (fun j => decide (j ∈ zs)) c ∧ c ≤ zs.length ∧ ∀ b o, s.heap.get? b = some o → h2.get? b = some o
theorem init_from {l : Addr} {items : Array Value} (zs : List Int) (calm : A.handled = none) (there : s.heap.IsList l items) (its : IntsAre items.toList zs) (room : zs.length + 1 < scanBound) :
    codeAny (model P w) A (.call (.builtin "set.__init__") ⟨[.ref s.heap.objs.size, .ref l], []⟩) (wants (Made w s zs) E) { s with heap := s.heap.push (emptySet w) } := by
  have same : items.size = zs.length := by
    have q := IntsAre.length its
    rwa [Array.length_toList] at q
  have hS : (s.heap.push (emptySet w)).get? s.heap.objs.size = some (emptySet w) := Heap.get?_push_size _ rfl
  have hT : Shared.TypeIs { s with heap := s.heap.push (emptySet w) } (.ref s.heap.objs.size) "set" := ⟨_, hS, rfl⟩
  refine codeAny_call_builtin F.called_set.init.plain F.entry_set_init (check_set_init_1 hT ?_)
  obtain ⟨⟨c0, d0, b0, s0⟩, got, isL, num, isS⟩ := there
  dsimp only at isL isS
  subst isL isS
  have lt : l < s.heap.objs.size := Heap.lt_size got
  have got' : (s.heap.push (emptySet w)).get? l = some { cls := .type "list", dict := d0, data := .seq items num, slots := s0 } := Heap.get?_push_of_some _ got
  have notS := F.sub_list_set
  have notF := F.sub_list_frozenset
  have notD : (Value.type "list" == Value.type "dict") = false := by decide
  have there' : (s.heap.push (emptySet w)).IsList l items := ⟨_, got', rfl, num, rfl⟩
  unfold Builtin.«set.__init__» noKeywords Builtin.Frozenset.updateFrom
  generalize hit : pyIter = PIt
  wp_walk
  subst hit
  refine wpAny_pyIter_list there' ?_
  refine wpAny_bind (wpAny_runValue ?_)
  have grown : (s.heap.push (emptySet w)).objs.size = s.heap.objs.size + 1 := Heap.size_push ..
  have apart : l ≠ (s.heap.push (emptySet w)).objs.size := by
    rw [grown]
    exact Nat.ne_of_lt (Nat.lt_succ_of_lt lt)
  have calm3 : A.in1.in1.handled = none := by simp [calm]
  refine set_update_ints ((Walks.list calm3 _ l apart items).toS) s.heap.objs.size ?out zs same room (fun i v e => vals_at its i v e) items.size 0 _ (Nat.sub_zero _) (Nat.zero_le _) ?stands ?start ?rest
  case stands => exact ⟨⟨_, Heap.get?_push_size _ rfl, rfl, rfl⟩, there'.push _⟩
  case start =>
    refine ⟨0, Nat.le_refl 0, setR_new_at ?_⟩
    exact Heap.get?_push_of_some _ hS
  case out =>
    rw [grown]
    simp only [List.mem_cons, List.not_mem_nil, or_false, not_or]
    exact ⟨Nat.ne_of_lt (Nat.lt_succ_self _), (Nat.ne_of_lt lt).symm⟩
  case rest =>
    rintro ⟨h2, g2, d2, t2, o2⟩ c moved few made
    have eg : g2 = s.gens := moved.gens
    have ed : d2 = s.drawn := moved.drawn
    have eo : o2 = s.os := moved.os
    subst eg ed eo
    refine wpAny_pure (wpAny_pure ⟨rfl, h2, t2, c, rfl, made, by omega, fun b o e => ?_⟩)
    have lb := Heap.lt_size e
    refine moved.heap b o ?_ (Heap.get?_push_of_some _ (Heap.get?_push_of_some _ e))
    rw [grown]
    simp only [List.mem_cons, List.not_mem_nil, or_false, not_or]
    exact ⟨Nat.ne_of_lt lb, Nat.ne_of_lt (Nat.lt_succ_of_lt lb)⟩
theorem set_from_list {l : Addr} {items : Array Value} (zs : List Int) {Q : Value → Shared → Prop} (calm : A.handled = none) (there : s.heap.IsList l items) (its : IntsAre items.toList zs) (room : zs.length + 1 < scanBound)
    (k : ∀ (h2 : Heap) (tk c : Nat), SetR w h2 s.heap.objs.size (fun j => decide (j ∈ zs)) c → c ≤ zs.length → (∀ b o, s.heap.get? b = some o → h2.get? b = some o) → Q (.ref s.heap.objs.size) { s with heap := h2, toks := tk }) :
    wpAny (model P w) A (call (.type "set") [.ref l]) Q E s := by
  have f1 := F.called_set.notType
  have f2 := F.called_set.canCreate
  have f3 := F.typeCall_set_1 (.ref l)
  have f4 := F.called_set.made
  have f5 := F.called_set.sub
  have f6 := F.called_set.init.lookup
  have f7 := F.called_set.init.bind (.ref s.heap.objs.size)
  obtain ⟨c0, tl, f8⟩ := F.called_set.mro
  have quiet : (Code.builtin "type.__call__" ⟨[.type "set", .ref l], []⟩).quiet = true := Code.quiet_builtin _ (by decide +kernel)
  refine wpAny_call (codeAny_of_tree (wpAny_pure ⟨quiet, codeAny_builtin PySem.F.entry_type_call ?_⟩))
  rw [Around.under_plain (weight_type_call_type "set" [.ref l] []) rfl]
  repeat (any_goals (first | assumption | wp_step))
  have fresh := code_set_led1 (P := P) (w := w) (A := A.in1) (s := s) (.ref l) (E := E) (Q₁ := fun x z => x = .ref s.heap.objs.size ∧ z = { s with heap := s.heap.push (emptySet w) }) ⟨rfl, rfl⟩
  refine codeAny_mono fresh ?_
  rintro (e | f) z hz
  · exact hz
  cases f with
  | ret x =>
    obtain ⟨rfl, rfl⟩ := hz
    have isSet : Shared.TypeIs { s with heap := s.heap.push (emptySet w) } (.ref s.heap.objs.size) "set" := ⟨_, Heap.get?_push_size _ rfl, rfl⟩
    repeat (any_goals (first | assumption | wp_step))
    refine codeAny_mono (init_from (E := E) zs (by simpa using calm) there its room) ?_
    rintro (e | f) z hz
    · exact hz
    cases f with
    | ret x =>
      obtain ⟨rfl, h2, tk, c, rfl, made, few, kept⟩ := hz
      repeat (any_goals (first | assumption | wp_step))
      exact k _ _ _ made few kept
    | _ => exact hz.elim
  | _ => exact hz.elim
end
section
variable {X : Cx}
/-- set(xs), xs a list of ints -/
def rSetOfI (K : PySem.W.Frag) (w : World) : List V → Hp → VK → Prop := fun vs H Q => ∃ (l : Addr) (zs : List Int), vs = [.ref l] ∧ SqL K H l (zs.map V.int) ∧ zs.length ≤ 1000 ∧ ∀ p c, H p = none → c ≤ zs.length → Q (.ref p) (upd H p (SetO w p (fun j => decide (j ∈ zs)) c))
theorem cr_setOfI (hc : X.calm = true) : CallR X (.type "set") (rSetOfI X.K X.w) := by
  intro pins s σ H vs us Q I r h
  obtain ⟨l, zs, rfl, there, few, q⟩ := h
  rw [Vals.ref1 r]
  obtain ⟨items, rv, pl, hz⟩ := I.list there
  refine set_from_list zs (I.ok.hd hc) pl.isList (by simpa using intsAre_of rv) (by unfold scanBound; omega) fun h2 tk c made fw kept => ?_
  exact ⟨.ref _, _, I.laid (a := s.heap.objs.size) (t' := tk) kept (Nat.le_refl _) (setO_new made), rfl, q _ c (I.hok.fresh (Nat.le_refl _)) fw⟩
end

/-! ### {e for x in xs if ..}, e an int -/
section
variable {X : Cx}
def tScI (w : World) (wi : TI) (g : TG) (tt : TT) (te : TE) (vs : List Nat) : TE := fun σ H Q => wi σ H fun J H1 => ∀ D, H1 D = none → ∃ W : Nat → Nat → Hp → Prop, (∃ m, W 0 m (upd H1 D (SetO w D (fun _ => false) 0))) ∧ ∀ i m G, W i m G →
  (J.stop i G ∧ Q (.ref D) G) ∨ (J.go i G ∧ ∃ Nx : Hp → Prop, (∀ G', Nx G' → ∃ m', m' < m ∧ W (i + 1) m' G') ∧ ∀ x G', J.yld i G x G' → g x (wipe σ vs) G' fun σ2 H2 => wipe σ2 vs = wipe σ vs ∧ tt σ2 H2 fun b H3 =>
    if b = true then te σ2 H3 fun y H4 => ∃ (k : Int) (S : Int → Bool) (n : Nat), y = .int k ∧ H4 D = some (SetO w D S n) ∧ n + 1 < scanBound ∧ Nx (upd H4 D (SetO w D (fun j => S j || decide (j = k)) (if S k = true then n else n + 1))) else Nx H3)
theorem addI {pins : List (Addr × Obj)} {σ : L2.St} {H : Hp} {s : Shared} {E : Value → Shared → Prop} {D : Addr} {S : Int → Bool} {n : Nat} {k : Int} {t : Tok} {Q : Value → Shared → Prop} (I : Inv X pins σ H s) (hD : H D = some (SetO X.w D S n)) (few : n + 1 < scanBound)
    (h : ∀ s', Inv X pins σ (upd H D (SetO X.w D (fun j => S j || decide (j = k)) (if S k = true then n else n + 1))) s' → Q .none s') : wpAny (model X.prog X.w) X.A (call (.builtin "set.add") [.ref D, .int k t]) Q E s :=
  setR_add (setO_get I hD) few fun h' sb new => by
    obtain ⟨u, hu⟩ : ∃ u, h'.get? D = some u := let ⟨o, _, _, _, ho, _⟩ := new; ⟨o, ho⟩
    exact h _ (I.write (e := D) (t' := s.toks + 1) (by rw [hD]; trivial) (.inl rfl) (fun b o hb ho => (sb.2 b hb).trans ho) ⟨u, hu⟩ (setO_new new))
open PpSet in
theorem pe_scI {elt tg iter : Expr} {ifs : List Expr} {scope : Scope} {own : List (PySem.Str × Nat)} {pos : Pos} {wi : TI} {g : TG} {tt : TT} {te : TE} (hc : X.calm = true) (hN : X.N.Nodup) (hi : PI X tg iter wi) (ok : BlkOk X.N X.env.scope scope own)
    (hg : ∀ s H C cl fp, PG (X.blk s H scope (compEnvC scope cl C X.env) fp) tg g)
    (ht : ∀ s H C cl fp, PTs (X.blk s H scope (compEnvC scope cl C X.env) fp) ifs tt)
    (he : ∀ s H C cl fp, PE (X.blk s H scope (compEnvC scope cl C X.env) fp) elt te)
    (hs : ∀ x, foldedSetIterable iter X.env x = pure x := by intro _; rfl) :
    PE X (.SetComp elt [⟨tg, iter, ifs, 0⟩] scope pos) (tScI X.w wi g tt te (own.map (·.2))) := ⟨fun pins s σ H Q I h => by
  rw [eval_SetComp]
  have closed : ∀ y ∈ scope.names, y.2 = .free → ∃ c, X.env.cells.lookup y.1 = some c := fun y hy e => (ok.free y hy e).elim (fun k => I.ok.has _ (.inl k)) (fun k => I.ok.has _ (.inr k))
  refine wpAny_comprehension_free (use := none) rfl hs (closure_ok closed) ok.kind (fun y hy e => by rw [ok.uniq y hy, e]) (thn (hi.run pins s σ H _ I h) fun _ _ a => thn a fun _ s2 b => ?_)
  obtain ⟨it, fp, tn, J, H2, rfl, I2, T, at2, fre2, q⟩ := b
  refine newSet_ok (newEnv_comp ?_)
  -- the set, laid at the end of the heap
  obtain ⟨D, hD⟩ : ∃ D, D = s2.heap.objs.size := ⟨_, rfl⟩
  obtain ⟨s3, hs3⟩ : ∃ s3 : Shared, s3 = { s2 with heap := s2.heap.push (emptySet X.w) } := ⟨_, rfl⟩
  have eh : s3.heap = s2.heap.push (emptySet X.w) := by rw [hs3]
  have nD : H2 D = none := I2.hok.fresh (Nat.le_of_eq hD.symm)
  have I3 : Inv X pins σ (upd H2 D (SetO X.w D (fun _ => false) 0)) s3 := by
    rw [hs3]
    exact I2.laid (t' := s2.toks) (fun b o e => Heap.get?_push_of_some _ e) (Nat.le_of_eq hD.symm) (by rw [hD]; exact setO_new (setR_new_at (ns := []) (Heap.get?_push_size _ rfl)))
  obtain ⟨W, ⟨m0, w0⟩, turn⟩ := q D nD
  have low : ∀ b ∈ fp, b < s2.heap.objs.size := fun b hb => let ⟨_, e, _⟩ := T.obj _ _ at2 b hb; Heap.lt_size e
  have fre3 : ∀ b ∈ fp, FpOk X pins (upd H2 D (SetO X.w D (fun _ => false) 0)) b ∧ b < s3.heap.objs.size := fun b hb =>
    ⟨⟨(upd_ne (by rw [hD]; exact Nat.ne_of_lt (low b hb))).trans (fre2 b hb).1, (fre2 b hb).2⟩, by rw [eh, Heap.size_push]; exact Nat.lt_succ_of_lt (low b hb)⟩
  have at3 : tn 0 s3.heap := T.keep _ _ _ at2 fun b _ o e => by rw [eh]; exact Heap.get?_push_of_some _ e
  obtain ⟨G, hG⟩ : ∃ G, G = upd H2 D (SetO X.w D (fun _ => false) 0) := ⟨_, rfl⟩
  rw [← hG] at I3 w0 fre3
  have I4 := block_start I3 ok hN fre3
  have free3 : ∀ b ∈ fp, G b = none := fun b hb => (fre3 b hb).1.1
  obtain ⟨ce, hce⟩ : ∃ ce, ce = compEnvC scope (cellsFrom (s3.heap.objs.size + 1) scope.names (cloFrom X.env.cells scope.names [])) s3.heap.objs.size X.env := ⟨_, rfl⟩
  have pg := hg s3 G s3.heap.objs.size (cellsFrom (s3.heap.objs.size + 1) scope.names (cloFrom X.env.cells scope.names [])) fp
  have pt := ht s3 G s3.heap.objs.size (cellsFrom (s3.heap.objs.size + 1) scope.names (cloFrom X.env.cells scope.names [])) fp
  have pe := he s3 G s3.heap.objs.size (cellsFrom (s3.heap.objs.size + 1) scope.names (cloFrom X.env.cells scope.names [])) fp
  rw [← hce] at I4 pg pt pe
  have eL : ce.locals = s3.heap.objs.size := by rw [hce]; rfl
  obtain ⟨s4, hs4⟩ : ∃ s4 : Shared, s4 = { s3 with heap := pushCells (s3.heap.push { cls := .type "dict", data := .dict #[] }) scope.names } := ⟨_, rfl⟩
  rw [← hs4] at I4
  have at4 : tn 0 s4.heap := T.keep _ _ _ at3 fun b _ o e => by rw [hs4]; exact pushCells_keeps _ _ _ _ (Heap.get?_push_of_some _ e)
  have fpB : ∀ {σ' : L2.St} {H' : Hp} {s' : Shared}, Inv (X.blk s3 G scope ce fp) [] σ' H' s' → (∀ b ∈ fp, H' b = none) → ∀ b ∈ fp, FpOk (X.blk s3 G scope ce fp) [] H' b := fun I' n b hb =>
    ⟨n b hb, (I'.ok.exf b hb).1, I'.ok.exfs b hb, .inl hb, fun x c e => (I'.ok.exf b hb).2 x c e, fun p hp => absurd (show p ∈ ([] : List (Addr × Obj)) ++ [] from hp) (by simp)⟩
  have loop : codeAny (model X.prog X.w) X.A (.compLoop (.SetComp elt [⟨tg, iter, ifs, 0⟩] scope pos) 0 (.ref it) (.ref D) ce) (compPost (model X.prog X.w) X.A X.xe none (fun u s' => EP X pins σ Q u s') (.ref D) s3.heap.objs.size) s4 := by
    refine compLoopS_any (fun n s' => ∃ i H', Inv (X.blk s3 G scope ce fp) [] (wipe σ (own.map (·.2))) H' s' ∧ tn i s'.heap ∧ (∀ b ∈ fp, H' b = none) ∧ W i n H') (fun n s5 hh => ?_) m0 ⟨0, G, I4, at4, free3, w0⟩
    obtain ⟨i, H5, I5, at5, free5, w5⟩ := hh
    rcases turn i n H5 w5 with ⟨stop, qq⟩ | ⟨go, Nx, hNx, step⟩
    · refine thnF (T.done (X.blk s3 G scope ce fp) rfl rfl rfl hc i [] s5 _ H5 (fun _ _ => False) I5 (fpB I5 free5) at5 stop) fun r s6 hr => ?_
      obtain ⟨rfl, I6⟩ := hr
      have I7 : Inv X pins σ H5 s6 := I3.call' (ch := fp) I6.os I6.base I6.hok I6.bare fun b hb => let z := (fre3 b hb).1.2; ⟨z.2.2.1, z.1, z.2.2.2.1, z.2.2.2.2⟩
      have nC : H5 s3.heap.objs.size = none := eL ▸ (show H5 ce.locals = none from I6.free)
      obtain ⟨m, hn, _⟩ := I6.loc
      have hn' : s6.heap.Ns s3.heap.objs.size m := eL ▸ (show s6.heap.Ns ce.locals m from hn)
      refine ⟨m, hn', fun h'' sb => ?_⟩
      obtain ⟨f0, f1, _, f3, f4, f5⟩ := I3.fpOk (Nat.le_refl _) nC
      exact ⟨.ref D, H5, I7.turned (t' := s6.toks) (fun b o hb e => (sb.2 b hb).trans e) f0 f1 f3 f4 f5, rfl, qq⟩
    · refine thnF (T.item (X.blk s3 G scope ce fp) rfl rfl rfl hc i [] s5 _ H5 (fun _ _ => False) I5 (fpB I5 free5) at5 go) fun r s6 hr => ?_
      obtain ⟨u, rfl, h6⟩ := hr
      refine thnF h6 fun _ s7 h7 => ?_
      obtain ⟨x, H7, I7, r7, y7, at7, free7⟩ := h7
      refine thnF (pg.run _ s7 _ H7 x u _ (I7.pinned (fpB I7 free7) (T.obj _ _ at7)) r7 (step x H7 y7)) fun _ s8 h8 => ?_
      obtain ⟨σ8, H8, I8, hw8, q8⟩ := h8
      refine thnF (pt.run _ s8 σ8 H8 _ I8 q8) fun b s9 h9 => ?_
      obtain ⟨H9, I9, q9⟩ := h9
      have next : ∀ {s' : Shared} {H' : Hp}, Inv (X.blk s3 G scope ce fp) ([] ++ pinsAt fp s7.heap) σ8 H' s' → Nx H' → ∃ m, m < n ∧ ∃ i H', Inv (X.blk s3 G scope ce fp) [] (wipe σ (own.map (·.2))) H' s' ∧ tn i s'.heap ∧ (∀ b ∈ fp, H' b = none) ∧ W i m H' := fun {s' H'} I' nx => by
        obtain ⟨m', lt, w'⟩ := hNx H' nx
        have still : ∀ b ∈ fp, ∀ o, s7.heap.get? b = some o → s'.heap.get? b = some o ∧ H' b = none := fun b hb o e => let z := I'.pin (b, o) (List.mem_append_right _ (List.mem_append_right _ (mem_pinsAt hb e))); ⟨z.1, z.2.1⟩
        exact ⟨m', lt, i + 1, H', (I'.unpinned (pins := [])).weak (by rw [← hw8, wipe_length]) (fun j v e => (wipe_some (hw8 ▸ e)).1), T.keep _ _ _ at7 fun b hb o e => (still b hb o e).1, fun b hb => let ⟨o, e, _⟩ := T.obj _ _ at7 b hb; (still b hb o e).2, w'⟩
      cases b with
      | false =>
        rw [if_neg Bool.false_ne_true] at q9
        exact next I9 q9
      | true =>
        rw [if_pos rfl] at q9
        refine thnF (pe.run _ s9 σ8 H9 _ I9 q9) fun z s10 h10 => ?_
        obtain ⟨yv, H10, I10, r10, k, S0, n0, rfl, hD10, few, nx⟩ := h10
        obtain ⟨tk, rfl⟩ := r10
        exact addI (X := X.blk s3 G scope ce fp) I10 hD10 few fun s11 I11 => next I11 nx
  subst hs4 hce hs3 hD
  exact codeAny_compStart_set loop (T.self X.A 0 _ _ _ at4 loop)⟩
end

/-! ### dicts whose keys are tuples of truth values -/
/-- an entry: its key, where the key stands, what it holds -/
abbrev EntB := List Bool × Addr × V
def hashT (k : List Bool) : Int := reduceHash (Builtin.Tuple.tupleHashOf (k.map PpSet.hB))
def rawB (x : List Bool × Addr × Value) : DictEntry := ⟨hashT x.1, .ref x.2.1, x.2.2⟩
abbrev TwoB : List EntB → List (List Bool × Addr × Value) → Prop := Paired fun p q => (p.1 = q.1 ∧ p.2.1 = q.2.1) ∧ RelV p.2.2 q.2.2
def isB (a : Addr) (es : List EntB) (h : Heap) : Prop := es.length ≤ sizeLine ∧ (a == sysModules) = false ∧ ∃ xs, TwoB es xs ∧ ∃ o ds ep, h.get? a = some o ∧ o.ExactDict ∧ o.data = .dict ds ep ∧ ds.toList = xs.map rawB ∧ (xs.map (·.1)).Nodup
def DicB (a : Addr) (es : List EntB) : HO := .ext (isB a es)
section
variable {P : Program} {w : World} {H : Hp} {h h' : Heap} {a : Addr} {es : List EntB}
theorem isB_stay (x : isB a es h) (k : ∀ o, h.get? a = some o → h'.get? a = some o) : isB a es h' := by
  obtain ⟨z, y, xs, t, o, ds, ep, e, r⟩ := x
  exact ⟨z, y, xs, t, o, ds, ep, k o e, r⟩
theorem dicB_ok (x : isB a es h) : ObjOk P w H h a (DicB a es) := by
  have y := x
  obtain ⟨_, _, _, _, o, _, _, e, _⟩ := y
  exact ⟨x, ⟨o, e⟩, fun _ _ p q => isB_stay p q⟩
/-- the keys stand where they are said to -/
def KeysB (K : PySem.W.Frag) (H : Hp) (es : List EntB) : Prop := ∀ e ∈ es, SqT K H e.2.1 (e.1.map V.bl)
end
section
variable {X : Cx} {pins : List (Addr × Obj)} {σ : L2.St} {H : Hp} {s : Shared} {a b : Addr} {es : List EntB} {k : List Bool} {A : Around} {E : Value → Shared → Prop}
theorem bools_are : ∀ {ks : List Bool} {us : List Value}, Vals (ks.map V.bl) us → ItemsAre (PpSet.boolK X.prog X.w) ks us
  | [], _, r => by cases r; exact .nil
  | k :: ks, _, r => by
    rw [List.map_cons] at r
    cases r with
    | cons h t =>
      cases h
      exact .cons (PpSet.boolK_is _ _ k) (bools_are t)
theorem keyB_is (I : Inv X pins σ H s) (h : SqT X.K H b (k.map V.bl)) : (tupleKind (PpSet.boolK X.prog X.w)).is s.heap k b := by
  obtain ⟨its, r, ⟨o, h1, h2, n, h3⟩, _⟩ := I.tuple h
  exact ⟨o, its.toArray, n, h1, h2, h3, by simpa using bools_are (X := X) r⟩
theorem twoB_mem : ∀ {es : List EntB} {xs : List (List Bool × Addr × Value)}, TwoB es xs → ∀ x ∈ xs, ∃ e ∈ es, e.1 = x.1 ∧ e.2.1 = x.2.1
  | _, _, .nil, x, h => nomatch h
  | _, _, .cons r t, x, h => by
    rcases List.mem_cons.mp h with rfl | h
    · exact ⟨_, List.mem_cons_self, r.1⟩
    · obtain ⟨e, h1, h2⟩ := twoB_mem t x h
      exact ⟨e, List.mem_cons_of_mem _ h1, h2⟩
theorem twoB_keys : ∀ {es : List EntB} {xs : List (List Bool × Addr × Value)}, TwoB es xs → xs.map (·.1) = es.map (·.1)
  | _, _, .nil => rfl
  | _, _, .cons r t => by rw [List.map_cons, List.map_cons, twoB_keys t, r.1.1]
theorem raw_ent : (rawB : List Bool × Addr × Value → DictEntry) = entryOfKey (tupleKind (PpSet.boolK X.prog X.w)) := rfl
theorem dicB_of (I : Inv X pins σ H s) (e : H a = some (DicB a es)) (ks : KeysB X.K H es) : es.length ≤ sizeLine ∧ (a == sysModules) = false ∧ ∃ xs, TwoB es xs ∧ s.heap.DictOfH (tupleKind (PpSet.boolK X.prog X.w)) a xs := by
  obtain ⟨⟨z, y, xs, t, o, ds, ep, h1, h2, h3, h4, h5⟩, _⟩ := I.hok a _ e
  refine ⟨z, y, xs, t, o, ds, ep, h1, h2, h3, by rw [h4, raw_ent (X := X)], fun x hx => ?_, h5⟩
  obtain ⟨p, q1, q2, q3⟩ := twoB_mem t x hx
  rw [← q2, ← q3]
  exact keyB_is I (ks p q1)
def hasB (es : List EntB) (k : List Bool) : Bool := decide (k ∈ es.map (·.1))
theorem has_at {xs : List (List Bool × Addr × Value)} : (atKey xs k).isSome = decide (k ∈ xs.map (·.1)) := by
  unfold atKey
  rw [Option.isSome_map]
  induction xs with
  | nil => simp
  | cons x xs ih =>
    by_cases q : x.1 = k
    · rw [List.find?_cons_of_pos (by simpa using q)]
      simp [q]
    · rw [List.find?_cons_of_neg (by simpa using q), ih]
      have q2 : ¬ k = x.1 := fun z => q z.symm
      simp [q2]
/-- x in d, x not in d -/
def rInB (K : PySem.W.Frag) (neg : Bool) : R2 := fun x y H Q => ∃ b k a es, x = .ref b ∧ SqT K H b (k.map V.bl) ∧ y = .ref a ∧ H a = some (DicB a es) ∧ KeysB K H es ∧ Q (.bl (if neg = true then !hasB es k else hasB es k)) H
theorem op_inB (hu : X.A.units + 1 < cLine) : OpR X (compareOp .In) (rInB X.K false) := by
  intro pins s σ H x y v u Q I rx ry h
  obtain ⟨b, k, a, es, rfl, hb, rfl, ha, ks, q⟩ := h
  cases rx
  cases ry
  obtain ⟨z, hd, xs, t, dd⟩ := dicB_of I ha ks
  refine wpAny_in_heap (tupleKind_room_in1 hu) (keyB_is I hb) hd dd ?_
  rw [has_at, twoB_keys t]
  exact ⟨.bl (hasB es k), H, I.tok _, rfl, q⟩
theorem op_notInB (hu : X.A.units + 1 < cLine) : OpR X (compareOp .NotIn) (rInB X.K true) := by
  intro pins s σ H x y v u Q I rx ry h
  obtain ⟨b, k, a, es, rfl, hb, rfl, ha, ks, q⟩ := h
  cases rx
  cases ry
  obtain ⟨z, hd, xs, t, dd⟩ := dicB_of I ha ks
  refine wpAny_notIn_heap (tupleKind_room_in1 hu) (keyB_is I hb) hd dd ?_
  rw [has_at, twoB_keys t]
  exact ⟨.bl (!hasB es k), H, I.tok _, rfl, q⟩
/-- d[k] = v, k not there -/
def rSetB (K : PySem.W.Frag) : V → V → V → Hp → (Hp → Prop) → Prop := fun o i v H Q => ∃ a b k es, o = .ref a ∧ i = .ref b ∧ SqT K H b (k.map V.bl) ∧ H a = some (DicB a es) ∧ KeysB K H es ∧ k ∉ es.map (·.1) ∧ es.length < sizeLine ∧ Q (upd H a (DicB a (es ++ [(k, b, v)])))
theorem set_dicB (hu : X.A.units + 1 < cLine) : PSet X (rSetB X.K) := by
  intro pins s σ H o i v ov iv u Q I ro ri rv h
  obtain ⟨a, b, k, es, rfl, rfl, hb, ha, ks, hk, hl, q⟩ := h
  cases ro
  cases ri
  obtain ⟨z, hd, xs, t, dd⟩ := dicB_of I ha ks
  have lx : xs.length = es.length := (Paired.length t).symm
  refine wpAny_setItem_heap (hsz := by rw [lx]; exact z) (tupleKind_room_in1 hu) (keyB_is I hb) dd fun h' dd' hs => ⟨_, d_write I (by rw [ha]; exact True.intro) hs ?_ ?_, q⟩
  · obtain ⟨ob, _, _, hq, _⟩ := dd'
    exact ⟨ob, hq⟩
  · refine dicB_ok ?_
    have no : (atKey xs k).isSome = false := by rw [has_at, twoB_keys t]; exact decide_eq_false hk
    have es' : storedH xs k b u = xs ++ [(k, b, u)] := by
      unfold storedH
      rw [no]
      rfl
    rw [es'] at dd'
    obtain ⟨ob, ds, ep, q1, q2, q3, q4, _, q5⟩ := dd'
    exact ⟨by rw [List.length_append, List.length_singleton]; omega, hd, xs ++ [(k, b, u)], Paired.snoc t ⟨⟨rfl, rfl⟩, rv⟩, ob, ds, ep, q1, q2, q3, by rw [q4, raw_ent (X := X)], q5⟩
/-- {} -/
def tDNewB : TE := fun _ H Q => ∀ p, H p = none → Q (.ref p) (upd H p (DicB p []))
theorem pe_dnewB {pos : Pos} : PE X (.Dict [] [] pos) tDNewB := ⟨fun pins s σ H Q I h => by
  have fr : H s.heap.objs.size = none := I.hok.fresh (Nat.le_refl _)
  have big : (s.heap.objs.size == sysModules) = false := beq_eq_false_iff_ne.mpr fun z => absurd I.big (by rw [← z]; exact Nat.lt_irrefl _)
  refine wpAny_Dict_empty ⟨.ref s.heap.objs.size, _, I.laid (a := s.heap.objs.size) (o := DicB s.heap.objs.size []) (t' := s.toks) (fun _ _ q => Heap.get?_push_of_some _ q) (Nat.le_refl _) (dicB_ok ?_), rfl, h _ fr⟩
  exact ⟨Nat.zero_le _, big, [], .nil, _, #[], 0, Heap.get?_push_size _ rfl, ⟨rfl, rfl, rfl⟩, rfl, rfl, List.nodup_nil⟩⟩
end

/-! ### list(d.items()) of such a dict -/
section
variable {P : Program} {w : World} {A : Around} {s : Shared} {ds : Array DictEntry} {ep : Nat} {r d : Addr}
/-- the new list is filled -/
theorem fillI {R : Result → Shared → Prop} (calm : A.handled = none) (view : s.heap.IsItemsView r d) (raw : DT.Raw s.heap d ds ep) {L : Addr} (lr : L ≠ r) (ld : d ≠ L) (hL : s.heap.get? L = some { cls := .type "list", data := .seq #[] }) (few : ds.size ≤ sizeLine)
    (fin : ∀ h2 tk acc c as, (∀ b o, b ≠ L → s.heap.get? b = some o → h2.get? b = some o) → h2.get? L = some { cls := .type "list", dict := none, data := .seq acc c, slots := #[] } → as.length = ds.size → DT.Made ds L h2 as → acc.toList = as.map Value.ref → R (.ok (.ret .none)) { s with heap := h2, toks := tk }) :
    wpAny (model P w) A.in1 (Builtin.«list.__init__» ⟨[.ref L, .ref r], []⟩) (fun f z => match f with | .done f => R (.ok f) z | .again c => c.quiet = true ∧ codeAny (model P w) A c R z) (fun e z => R (.error e) z) s := by
  show wpAny _ _ (do let was ← Builtin.List.listItems (.ref L); Builtin.List.listUpdate (.ref L) (fun _ => #[]); letGo was.toList.reverse; Builtin.List.listExtendWith (.ref L) (.ref r) .none) _ _ s
  refine wpAny_bind ?_
  unfold Builtin.List.listItems
  refine wpAny_bind (wpAny_seqItems hL rfl (wpAny_pure ?_))
  show wpAny _ _ (updateSeq L (fun _ => #[]) >>= fun _ => letGo (#[] : Array Value).toList.reverse >>= fun _ => Builtin.List.listExtendWith (.ref L) (.ref r) .none) _ _ s
  refine wpAny_bind (wpAny_updateSeq hL rfl ?_)
  have hL2 := Heap.get?_update_self (Obj.mapSeq (fun _ => (#[] : Array Value))) hL rfl
  have rest : ∀ b o, b ≠ L → s.heap.get? b = some o → (s.heap.update L (Obj.mapSeq (fun _ => (#[] : Array Value)))).get? b = some o := fun b o nb g => (Heap.get?_update_other _ _ (Ne.symm nb)).trans g
  refine wpAny_bind (wpAny_letGo ?_)
  have view2 : (s.heap.update L (Obj.mapSeq (fun _ => (#[] : Array Value)))).IsItemsView r d := let ⟨o, g, y⟩ := view; ⟨o, rest r o lr.symm g, y⟩
  refine DT.extI calm view2 (raw.at' fun o g => rest d o ld g) L lr ld .none _ hL2 (fun h2 tk acc c as k1 k2 k3 k4 k5 => ?_) few
  exact fin h2 tk acc c as (fun b o nb g => k1 b o nb (rest b o nb g)) k2 k3 (k4.low (Nat.le_of_lt (Heap.lt_size hL2))) k5
theorem listI {E : Value → Shared → Prop} {Q : Value → Shared → Prop} (calm : A.handled = none) (view : s.heap.IsItemsView r d) (raw : DT.Raw s.heap d ds ep) (few : ds.size ≤ sizeLine)
    (fin : ∀ h2 tk acc c as, (∀ b o, s.heap.get? b = some o → h2.get? b = some o) → h2.get? s.heap.objs.size = some { cls := .type "list", dict := none, data := .seq acc c, slots := #[] } → as.length = ds.size → DT.Made ds s.heap.objs.size h2 as → acc.toList = as.map Value.ref → Q (.ref s.heap.objs.size) { s with heap := h2, toks := tk }) :
    wpAny (model P w) A (call (.type "list") [.ref r]) Q E s := by
  refine callType_codes (Q₁ := fun o z => o = .ref s.heap.objs.size ∧ z = { s with heap := s.heap.push { cls := .type "list", data := .seq #[] } }) F.called_list (F.typeCall_list_1 _) F.entry_list_init (code_list_new _ ⟨rfl, rfl⟩) fun o z hz => ?_
  obtain ⟨rfl, rfl⟩ := hz
  have hL : (s.heap.push { cls := .type "list", data := .seq #[] }).get? s.heap.objs.size = some { cls := .type "list", data := .seq #[] } := Heap.get?_push_size _ rfl
  have lr : r < s.heap.objs.size := let ⟨_, g, _⟩ := view; Heap.lt_size g
  have ld : d < s.heap.objs.size := raw.lt
  have view2 : (s.heap.push { cls := .type "list", data := .seq #[] }).IsItemsView r d := let ⟨o, g, y⟩ := view; ⟨o, Heap.get?_push_of_some _ g, y⟩
  refine ⟨⟨_, hL, rfl⟩, F.args_list_init_2 _ _, fillI (A := A.in1) calm view2 (raw.push _) (Nat.ne_of_gt lr) (Nat.ne_of_lt ld) hL few fun h2 tk acc c as k1 k2 k3 k4 k5 => ?_⟩
  exact ⟨rfl, fin h2 tk acc c as (fun b o g => k1 b o (Nat.ne_of_lt (Heap.lt_size g)) (Heap.get?_push_of_some _ g)) k2 k3 k4 k5⟩
end
/-- the pairs laid at their places -/
def layP : Hp → List Addr → List EntB → Hp
  | H, t :: ts, e :: es => layP (upd H t (.tup [.ref e.2.1, e.2.2])) ts es
  | H, _, _ => H
theorem layP_off {b : Addr} : ∀ (ts : List Addr) (es : List EntB) (H : Hp), b ∉ ts → layP H ts es b = H b
  | [], _, _, _ => rfl
  | _ :: _, [], _, _ => rfl
  | t :: ts, e :: es, H, h => by
    rw [layP, layP_off ts es _ fun z => h (.tail _ z), upd_ne fun z => h (by rw [z]; exact .head _)]
theorem layP_at : ∀ (ts : List Addr) (es : List EntB) (H : Hp), ts.length = es.length → ts.Nodup → ∀ (j : Nat) (t : Addr) (e : EntB), ts[j]? = some t → es[j]? = some e → layP H ts es t = some (.tup [.ref e.2.1, e.2.2])
  | [], _, _, _, _, j, t, e, h, _ => by simp at h
  | _ :: _, [], _, h, _, _, _, _, _, _ => by cases h
  | t0 :: ts, e0 :: es, H, hl, nd, j, t, e, h1, h2 => by
    obtain ⟨n1, n2⟩ := List.nodup_cons.mp nd
    cases j with
    | zero =>
      cases (show t0 = t by simpa using h1)
      cases (show e0 = e by simpa using h2)
      rw [layP, layP_off _ _ _ n1, upd_same]
    | succ j => exact layP_at ts es _ (Nat.succ.inj hl) n2 j t e (by simpa using h1) (by simpa using h2)
theorem refs_vals : ∀ ts : List Addr, Vals (ts.map V.ref) (ts.map Value.ref)
  | [] => .nil
  | _ :: ts => .cons rfl (refs_vals ts)
theorem twoB_at : ∀ {es : List EntB} {xs : List (List Bool × Addr × Value)}, TwoB es xs → ∀ (j : Nat) (x : List Bool × Addr × Value), xs[j]? = some x → ∃ e, es[j]? = some e ∧ (e.1 = x.1 ∧ e.2.1 = x.2.1) ∧ RelV e.2.2 x.2.2
  | _, _, .nil, j, x, h => by simp at h
  | _, _, .cons r t, 0, x, h => by
    cases h
    exact ⟨_, rfl, r⟩
  | _, _, .cons r t, j + 1, x, h => twoB_at t j x (by simpa using h)
def rItemsB : V → Hp → VK → Prop := fun x H Q => ∃ (d : Addr) (es : List EntB), x = .ref d ∧ H d = some (DicB d es) ∧
  ∀ (H' : Hp) (p : Addr) (ts : List Addr), Same H H' → H p = none → (∀ t ∈ ts, H t = none) → p ∉ ts → H' p = some (.lst (ts.map V.ref)) → ts.length = es.length → (∀ (j : Nat) (t : Addr) (e : EntB), ts[j]? = some t → es[j]? = some e → H' t = some (.tup [.ref e.2.1, e.2.2])) → Q (.ref p) H'
def tItemsB (te : TE) : TE := fun σ H Q => te σ H fun x H1 => rItemsB x H1 Q
section
variable {X : Cx} {e : Expr} {te : TE} {p apos cpos pos : Pos}
theorem pairs_laid {pins : List (Addr × Obj)} {σ : L2.St} {H : Hp} {s : Shared} {h2 : Heap} {tk : Nat} {es : List EntB} {xs : List (List Bool × Addr × Value)} {ds : Array DictEntry} {acc : Array Value} {c : Nat} {ts : List Addr} (I : Inv X pins σ H s) (few : es.length ≤ sizeLine) (two : TwoB es xs) (raw : ds.toList = xs.map rawB)
    (keep : ∀ b o, s.heap.get? b = some o → h2.get? b = some o) (hL : h2.get? s.heap.objs.size = some { cls := .type "list", dict := none, data := .seq acc c, slots := #[] }) (len : ts.length = ds.size) (made : DT.Made ds s.heap.objs.size h2 ts) (all : acc.toList = ts.map Value.ref) :
    ∃ H' : Hp, Same H H' ∧ H s.heap.objs.size = none ∧ (∀ t ∈ ts, H t = none) ∧ s.heap.objs.size ∉ ts ∧ H' s.heap.objs.size = some (.lst (ts.map V.ref)) ∧ ts.length = es.length ∧ (∀ (j : Nat) (t : Addr) (e : EntB), ts[j]? = some t → es[j]? = some e → H' t = some (.tup [.ref e.2.1, e.2.2])) ∧ Inv X pins σ H' { s with heap := h2, toks := tk } := by
  have l1 : ds.size = xs.length := by
    have := congrArg List.length raw
    simpa using this
  have l2 : es.length = xs.length := Paired.length two
  have lts : ts.length = es.length := by omega
  have out : s.heap.objs.size ∉ ts := fun z => Nat.lt_irrefl _ (made.above _ z)
  have nd : ts.Nodup := made.rise.imp fun h => Nat.ne_of_lt h
  have free : ∀ t ∈ ts, H t = none := fun t ht => I.hok.fresh (Nat.le_of_lt (made.above t ht))
  have freeL : H s.heap.objs.size = none := I.hok.fresh (Nat.le_refl _)
  have at_ := layP_at ts es (upd H s.heap.objs.size (.lst (ts.map V.ref))) lts nd
  have off : ∀ b, b ∉ ts → b ≠ s.heap.objs.size → layP (upd H s.heap.objs.size (.lst (ts.map V.ref))) ts es b = H b := fun b n1 n2 => by rw [layP_off ts es _ n1, upd_ne n2]
  have low : ∀ b o, s.heap.get? b = some o → b ∉ ts ∧ b ≠ s.heap.objs.size := fun b o g => ⟨fun z => absurd (Heap.lt_size g) (Nat.not_lt.mpr (Nat.le_of_lt (made.above b z))), Nat.ne_of_lt (Heap.lt_size g)⟩
  have kp : Same H (layP (upd H s.heap.objs.size (.lst (ts.map V.ref))) ts es) := fun b u g => by
    rw [off b (fun z => by rw [free b z] at g; cases g) (fun z => by rw [z, freeL] at g; cases g)]
    exact g
  have eL : layP (upd H s.heap.objs.size (.lst (ts.map V.ref))) ts es s.heap.objs.size = some (.lst (ts.map V.ref)) := by rw [layP_off ts es _ out, upd_same]
  refine ⟨_, kp, freeL, free, out, eL, lts, at_, ?_⟩
  refine I.call' (ch := []) rfl ⟨fun b o q _ _ _ => keep b o q, fun b o q _ _ _ => ⟨o.slots, keep b o q⟩, fun b o q n _ => ?_, fun b o q _ => ⟨o, keep b o q⟩, fun b zs q => kp b _ q, fun b o u q => kp b _ q, fun b ps q => ⟨#[], by rw [kp b _ q]; simp⟩⟩ (fun b u q => ?_) I.bare fun b z => by simp at z
  · obtain ⟨z1, z2⟩ := low b o q
    rw [off b z1 z2]
    exact n
  · by_cases hb : b ∈ ts
    · obtain ⟨j, hj⟩ := List.getElem?_of_mem hb
      have hjl := (List.getElem?_eq_some_iff.mp hj).1
      obtain ⟨ent, f1, f2⟩ := made.pairs j b hj
      have f3 : (xs.map rawB)[j]? = some ent := by rw [← raw, Array.getElem?_toList]; exact f1
      rw [List.getElem?_map] at f3
      obtain ⟨x, f4, f5⟩ := Option.map_eq_some_iff.mp f3
      obtain ⟨e, g1, g2, g3⟩ := twoB_at two j x f4
      rw [at_ j b e hj g1] at q
      cases q
      subst f5
      have rk : RelV (.ref e.2.1) (Value.ref x.2.1) := by rw [g2.2]; rfl
      exact ⟨by show 2 ≤ sizeLine; decide, [.ref x.2.1, x.2.2], .cons rk (.cons g3 .nil), ⟨_, f2, rfl, _, rfl⟩⟩
    · by_cases hb2 : b = s.heap.objs.size
      · rw [hb2] at q ⊢
        rw [eL] at q
        cases q
        refine ⟨by rw [List.length_map]; omega, acc.toList, c, by rw [all]; exact refs_vals ts, ?_⟩
        rw [Array.toArray_toList]
        exact hL
      · rw [off b hb hb2] at q
        exact (I.hok b u q).stay (fun d v _ y => keep d v y) (fun d y => kp d _ y) fun d zs y => kp d _ y
theorem pe_itemsB (calm : X.calm = true) (he : PE X e te) (hg : Gl X "list") (hm : X.mg "list" = none) (hv : bootBuiltins "list" = some (.type "list")) (hbase : attributeBase e "items" X.env (eval e X.env) = eval e X.env := by rfl) (hline : (apos.endLine == cpos.line) = true := by rfl)
    (hs : starEach [.Call (.Attribute e "items" apos) [] [] cpos] X.env = (false, eval (.Call (.Attribute e "items" apos) [] [] cpos) X.env) :: starEach [] X.env := by rfl) :
    PE X (.Call (.Name "list" p) [.Call (.Attribute e "items" apos) [] [] cpos] [] pos) (tItemsB te) := by
  refine ⟨fun pins s σ H Q I hq => ?_⟩
  refine wpAny_Call_Name_kw (ld_blt I hg hm hv ?_)
  refine PyProof.Rows.callWith_type1 ?_ hs rfl
  rw [hs]
  show wpAny _ _ (spliced ((false, eval (.Call (.Attribute e "items" apos) [] [] cpos) X.env) :: backTo pos (starEach [] X.env))) _ _ s
  refine Calls.spliced_cons ?_
  refine wpAny_Call_method (T := "dict") (id := "dict.items") hbase rfl hline F.plainAttrs_dict F.slot_dict_items F.type_dict_items (thn (he.run pins s σ H _ I hq) fun u s1 ⟨x, H1, I1, rx, d, es, ex, hd, q⟩ => ?_)
  subst ex
  obtain rfl : u = Value.ref d := rx
  obtain ⟨⟨few, hsys, xs, two, o, ds, ep, h1, h2, h3, h4, h5⟩, _⟩ := I1.hok d _ hd
  have I2 : Inv X pins σ H1 { s1 with heap := s1.heap.push { cls := .type "dict_items", data := .fields #[.ref d] } } := I1.kept (t' := s1.toks) fun b o' q => Heap.get?_push_of_some _ q
  have raw : DT.Raw s1.heap d ds ep := ⟨o, h1, h2, h3⟩
  have few2 : ds.size ≤ sizeLine := by
    have l1 : ds.size = xs.length := by simpa using congrArg List.length h4
    have l2 : es.length = xs.length := Paired.length two
    omega
  refine ⟨raw.typeIs, fun b q => ?_, ?_⟩
  · cases q
    exact ⟨o, h1, h2.2.1⟩
  show wpAny _ _ (callWith cpos (.builtin "dict.items") [.ref d] [] []) _ X.xe s1
  refine method_meetsIn F.slot_dict_items F.entry_dict_items rfl (PySem.evalArgs_none ⟨rfl, raw.typeIs, F.args_dict_items_1 _, _, DT.meetsItems hsys, raw, ?_⟩)
  refine Calls.spliced_nil ?_
  refine listI (I1.ok.hd calm) ⟨_, Heap.get?_push_size _ rfl, rfl, rfl⟩ (raw.push _) few2 fun h' tk acc c as k1 k2 k3 k4 k5 => ?_
  obtain ⟨H', a1, a2, a3, a4, a5, a6, a7, J⟩ := pairs_laid (tk := tk) I2 few two h4 k1 k2 k3 k4 k5
  exact ⟨.ref _, H', J, rfl, q H' _ as a1 a2 a3 a4 a5 a6 a7⟩
end

/-! ### zip of a tuple or a list with a tuple or a list -/
/-- k: a tuple, else a list -/
def ItAt (k : Bool) (h : Heap) (it l : Addr) (i : Nat) : Prop := if k = true then h.IsTupleIter it l i else h.IsListIter it l i
def SqAt (k : Bool) (h : Heap) (l : Addr) (xs : Array Value) : Prop := if k = true then h.IsTuple l xs else h.IsList l xs
theorem ItAt.off {k : Bool} {h h' : Heap} {a b l : Addr} {i : Nat} (x : ItAt k h a l i) (e : Heap.ExtBut b h h') (n : a ≠ b) : ItAt k h' a l i := by
  cases k
  · exact Heap.IsListIter.extBut (show h.IsListIter a l i from x) e n
  · exact Heap.IsTupleIter.extBut (show h.IsTupleIter a l i from x) e n
theorem ItAt.on {k : Bool} {h h' : Heap} {a l : Addr} {i : Nat} (x : ItAt k h a l i) (e : ∀ o, h.get? a = some o → h'.get? a = some o) : ItAt k h' a l i := by
  cases k
  · exact Heap.IsListIter.at (show h.IsListIter a l i from x) e
  · exact Heap.IsTupleIter.at (show h.IsTupleIter a l i from x) e
theorem ItAt.obj {k : Bool} {h : Heap} {a l : Addr} {i : Nat} (x : ItAt k h a l i) : ∃ o, h.get? a = some o ∧ ∀ v, o.data ≠ .cell v := by
  cases k
  · obtain ⟨o, e, _, d⟩ := (show h.IsListIter a l i from x)
    exact ⟨o, e, fun v q => by rw [d] at q; cases q⟩
  · obtain ⟨o, e, _, d⟩ := (show h.IsTupleIter a l i from x)
    exact ⟨o, e, fun v q => by rw [d] at q; cases q⟩
theorem SqAt.off {k : Bool} {h h' : Heap} {a b : Addr} {xs : Array Value} (x : SqAt k h a xs) (e : Heap.ExtBut b h h') (n : a ≠ b) : SqAt k h' a xs := by
  cases k
  · exact Heap.IsList.extBut (show h.IsList a xs from x) e n
  · exact Heap.IsTuple.extBut (show h.IsTuple a xs from x) e n
theorem SqAt.lt {k : Bool} {h : Heap} {a : Addr} {xs : Array Value} (x : SqAt k h a xs) : a < h.objs.size := by
  cases k
  · obtain ⟨o, e, _⟩ := (show h.IsList a xs from x)
    exact Heap.lt_size e
  · obtain ⟨o, e, _⟩ := (show h.IsTuple a xs from x)
    exact Heap.lt_size e
section
variable {P : Program} {w : World} {A : Around} {E : Value → Shared → Prop} {s : Shared}
theorem draw_item {k : Bool} {it l : Addr} {i : Nat} {xs : Array Value} {x : Value} {Q : Value → Shared → Prop} (a : ItAt k s.heap it l i) (b : SqAt k s.heap l xs) (hx : xs[i]? = some x)
    (q : ∀ h', ItAt k h' it l (i + 1) → Heap.SameBut it s.heap h' → Q x { s with heap := h' }) : wpAny (model P w) A (Builtin.SmallTypes.nextOf (.ref it)) Q E s := by
  cases k
  · exact wpAny_nextOf_list_item (show s.heap.IsListIter it l i from a) (show s.heap.IsList l xs from b) hx q
  · exact RZ.nextOf_tuple_item (show s.heap.IsTupleIter it l i from a) (show s.heap.IsTuple l xs from b) hx q
theorem draw_end {k : Bool} {it l : Addr} {i : Nat} {xs : Array Value} {Q : Value → Shared → Prop} (calm : A.handled = none) (a : ItAt k s.heap it l i) (b : SqAt k s.heap l xs) (hx : xs[i]? = none)
    (q : ∀ h' e, Heap.ExtBut it s.heap h' → (∃ o, h'.get? e = some o ∧ o.cls = .type "StopIteration") → E (.ref e) { s with heap := h' }) : wpAny (model P w) A (Builtin.SmallTypes.nextOf (.ref it)) Q E s := by
  cases k
  · exact wpAny_nextOf_list_end calm (show s.heap.IsListIter it l i from a) (show s.heap.IsList l xs from b) hx q
  · exact RZ.nextOf_tuple_end calm (show s.heap.IsTupleIter it l i from a) (show s.heap.IsTuple l xs from b) hx q
/-- a zip object z over the iterators i1, i2 -/
structure ZAt (h : Heap) (z TI TO i1 i2 : Addr) (a b : Value) : Prop where
  z : IsZip h z TI TO .none
  ti : IsPair h TI (.ref i1) (.ref i2)
  to : IsPair h TO a b
theorem mix_item {k1 k2 : Bool} {z TI TO i1 i2 l1 l2 : Addr} {n : Nat} {xs ys : Array Value} {x y a b : Value} {Q : Value → Shared → Prop} (D : ZipApart z TI TO i1 i2 l1 l2) (Z : ZAt s.heap z TI TO i1 i2 a b)
    (p1 : ItAt k1 s.heap i1 l1 n) (p2 : ItAt k2 s.heap i2 l2 n) (q1 : SqAt k1 s.heap l1 xs) (q2 : SqAt k2 s.heap l2 ys) (hx : xs[n]? = some x) (hy : ys[n]? = some y)
    (fin : ∀ h', IsZip h' z TI TO (rawInt s.heap.objs.size) → IsPair h' TO x y → ItAt k1 h' i1 l1 (n + 1) → ItAt k2 h' i2 l2 (n + 1) → IsPair h' s.heap.objs.size x y → (∀ c o, c ≠ z → c ≠ TO → c ≠ i1 → c ≠ i2 → s.heap.get? c = some o → h'.get? c = some o) → Q (.ref s.heap.objs.size) { s with heap := h' }) :
    wpAny (model P w) A (Builtin.«zip.__next__» ⟨[.ref z], []⟩) (fun f z' => ∃ v, f = .done (.ret v) ∧ Q v z') E s := by
  obtain ⟨hz, hTI, hTO⟩ := Z
  show wpAny _ _ (field (.ref z) 2 >>= _) _ _ _
  refine wpAny_bind (wpAny_field hz rfl (x := .bool false) rfl ?_)
  show wpAny _ _ (field (.ref z) 3 >>= _) _ _ _
  refine wpAny_bind (wpAny_field hz rfl (x := .ref TI) rfl ?_)
  refine wpAny_bind (wpAny_seqItems hTI rfl ?_)
  show wpAny _ _ (Builtin.SmallTypes.ownedTupleIsFree (.ref z) >>= _) _ _ _
  refine wpAny_bind ?_
  unfold Builtin.SmallTypes.ownedTupleIsFree
  refine wpAny_bind (wpAny_field hz rfl (x := .none) rfl (wpAny_pure ?_))
  simp only [if_true]
  refine wpAny_bind (wpAny_rule ?_)
  refine wpAny_bind (wpAny_field hz rfl (x := .ref TO) rfl ?_)
  refine wpAny_bind (wpAny_setField_rec hz (by simp) fun ha za sa => ?_)
  replace za : IsZip ha z TI TO .ellipsis := za
  refine wpAny_bind ?_
  simp only [List.zipIdx_cons, List.zipIdx_nil, List.forIn_cons, List.forIn_nil]
  refine wpAny_bind (wpAny_bind (wpAny_onRaise ?_))
  show wpAny _ _ (Builtin.SmallTypes.nextOf (.ref i1) >>= _) _ _ _
  refine wpAny_bind (draw_item (p1.off sa.extBut D.i1z) (q1.off sa.extBut D.l1z) hx fun hb pb sb => wpAny_pure ?_)
  have tb : IsPair hb TO a b := sb.extBut _ _ D.TOi1 (sa.extBut _ _ D.TOz hTO)
  refine wpAny_bind (wpAny_seqItems tb rfl ?_)
  refine wpAny_bind (wpAny_updateSeq_pair tb fun hc tc sc => ?_)
  replace tc : IsPair hc TO x b := tc
  refine wpAny_bind (wpAny_letGo (wpAny_pure ?_))
  refine wpAny_bind (wpAny_bind (wpAny_onRaise ?_))
  show wpAny _ _ (Builtin.SmallTypes.nextOf (.ref i2) >>= _) _ _ _
  have p2c := ((p2.off sa.extBut D.i2z).off sb.extBut D.i12.symm).off sc.extBut D.TOi2.symm
  have q2c := ((q2.off sa.extBut D.l2z).off sb.extBut D.l2i1).off sc.extBut D.l2TO
  refine wpAny_bind (draw_item p2c q2c hy fun hd pd sd => wpAny_pure ?_)
  have td : IsPair hd TO x b := sd.extBut _ _ D.TOi2 tc
  refine wpAny_bind (wpAny_seqItems td rfl ?_)
  refine wpAny_bind (wpAny_updateSeq_pair td fun he te se => ?_)
  replace te : IsPair he TO x y := te
  refine wpAny_bind (wpAny_letGo (wpAny_pure (wpAny_pure ?_)))
  refine wpAny_bind (wpAny_seqItems te rfl ?_)
  refine wpAny_bind (wpAny_newTuple ?_)
  have size : he.objs.size = s.heap.objs.size := by rw [se.1, sd.1, sc.1, sb.1, sa.1]
  have ze : IsZip he z TI TO .ellipsis := se.extBut _ _ D.TOz.symm (sd.extBut _ _ D.i2z.symm (sc.extBut _ _ D.TOz.symm (sb.extBut _ _ D.i1z.symm za)))
  have rest : ∀ c o, c ≠ z → c ≠ TO → c ≠ i1 → c ≠ i2 → s.heap.get? c = some o → he.get? c = some o := fun c o c1 c2 c3 c4 g => se.extBut _ _ c2 (sd.extBut _ _ c4 (sc.extBut _ _ c2 (sb.extBut _ _ c3 (sa.extBut _ _ c1 g))))
  have p1e : ItAt k1 he i1 l1 (n + 1) := ((pb.off sc.extBut D.TOi1.symm).off sd.extBut D.i12).off se.extBut D.TOi1.symm
  have p2e : ItAt k2 he i2 l2 (n + 1) := pd.off se.extBut D.TOi2.symm
  have zlt : z < he.objs.size := Heap.lt_size ze
  show wpAny _ _ (Builtin.SmallTypes.ownedTupleHandOut (.ref z) (.ref he.objs.size) >>= _) _ _ _
  refine wpAny_bind ?_
  unfold Builtin.SmallTypes.ownedTupleHandOut
  have zf : IsZip (he.push { cls := .type "tuple", data := .seq #[x, y] }) z TI TO .ellipsis := Heap.get?_push_of_some _ ze
  refine wpAny_bind (wpAny_setField_rec zf (by simp) fun hg zg sg => ?_)
  replace zg : IsZip hg z TI TO (rawInt he.objs.size) := zg
  refine wpAny_setField_rec zg (by simp) fun hh zh sh => ?_
  replace zh : IsZip hh z TI TO (rawInt he.objs.size) := zh
  have up : ∀ c o, c ≠ z → he.get? c = some o → hh.get? c = some o := fun c o c1 g => sh.extBut _ _ c1 (sg.extBut _ _ c1 (Heap.get?_push_of_some _ g))
  have th : IsPair hh he.objs.size x y := sh.extBut _ _ (Nat.ne_of_gt zlt) (sg.extBut _ _ (Nat.ne_of_gt zlt) (Heap.get?_push_size _ rfl))
  rw [size] at zh th
  refine wpAny_pure ⟨_, rfl, ?_⟩
  show Q (.ref he.objs.size) _
  rw [size]
  exact fin hh zh (up _ _ D.TOz te) (p1e.on fun o g => up _ o D.i1z g) (p2e.on fun o g => up _ o D.i2z g) th fun c o c1 c2 c3 c4 g => up c o c1 (rest c o c1 c2 c3 c4 g)
theorem mix_end {k1 k2 : Bool} {z TI TO i1 i2 l1 l2 : Addr} {n : Nat} {xs ys : Array Value} {a b : Value} {Q : Fin → Shared → Prop} (calm : A.handled = none) (D : ZipApart z TI TO i1 i2 l1 l2) (Z : ZAt s.heap z TI TO i1 i2 a b)
    (p1 : ItAt k1 s.heap i1 l1 n) (p2 : ItAt k2 s.heap i2 l2 n) (q1 : SqAt k1 s.heap l1 xs) (q2 : SqAt k2 s.heap l2 ys) (stop : xs[n]? = none ∨ ys[n]? = none)
    (fin : ∀ h' e, (∀ c o, c ≠ z → c ≠ TO → c ≠ i1 → c ≠ i2 → s.heap.get? c = some o → h'.get? c = some o) → (∃ o, h'.get? e = some o ∧ o.cls = .type "StopIteration") → E (.ref e) { s with heap := h' }) :
    wpAny (model P w) A (Builtin.«zip.__next__» ⟨[.ref z], []⟩) Q E s := by
  obtain ⟨hz, hTI, hTO⟩ := Z
  show wpAny _ _ (field (.ref z) 2 >>= _) _ _ _
  refine wpAny_bind (wpAny_field hz rfl (x := .bool false) rfl ?_)
  show wpAny _ _ (field (.ref z) 3 >>= _) _ _ _
  refine wpAny_bind (wpAny_field hz rfl (x := .ref TI) rfl ?_)
  refine wpAny_bind (wpAny_seqItems hTI rfl ?_)
  show wpAny _ _ (Builtin.SmallTypes.ownedTupleIsFree (.ref z) >>= _) _ _ _
  refine wpAny_bind ?_
  unfold Builtin.SmallTypes.ownedTupleIsFree
  refine wpAny_bind (wpAny_field hz rfl (x := .none) rfl (wpAny_pure ?_))
  simp only [if_true]
  refine wpAny_bind (wpAny_rule ?_)
  refine wpAny_bind (wpAny_field hz rfl (x := .ref TO) rfl ?_)
  refine wpAny_bind (wpAny_setField_rec hz (by simp) fun ha za sa => ?_)
  replace za : IsZip ha z TI TO .ellipsis := za
  refine wpAny_bind ?_
  simp only [List.zipIdx_cons, List.zipIdx_nil, List.forIn_cons, List.forIn_nil]
  refine wpAny_bind (wpAny_bind (wpAny_onRaise ?_))
  show wpAny _ _ (Builtin.SmallTypes.nextOf (.ref i1) >>= _) _ _ _
  have p1a := p1.off sa.extBut D.i1z
  have q1a := q1.off sa.extBut D.l1z
  cases hx : xs[n]? with
  | none =>
    refine wpAny_bind (draw_end calm p1a q1a hx fun hb e sb he => ?_)
    obtain ⟨oe, oe1, oe2⟩ := he
    have zb : IsZip hb z TI TO .ellipsis := sb _ _ D.i1z.symm za
    have ne : e ≠ z := fun q => by subst q; rw [zb] at oe1; cases oe1; simp at oe2
    refine wpAny_setField_rec zb (by simp) fun hc _ sc => fin hc e (fun c o c1 _ c3 _ g => sc.extBut _ _ c1 (sb _ _ c3 (sa.extBut _ _ c1 g))) ⟨oe, sc.extBut _ _ ne oe1, oe2⟩
  | some x =>
    have hy : ys[n]? = none := by
      rcases stop with q | q
      · rw [hx] at q; cases q
      · exact q
    refine wpAny_bind (draw_item p1a q1a hx fun hb pb sb => wpAny_pure ?_)
    have tb : IsPair hb TO a b := sb.extBut _ _ D.TOi1 (sa.extBut _ _ D.TOz hTO)
    refine wpAny_bind (wpAny_seqItems tb rfl ?_)
    refine wpAny_bind (wpAny_updateSeq_pair tb fun hc tc sc => ?_)
    refine wpAny_bind (wpAny_letGo (wpAny_pure ?_))
    refine wpAny_bind (wpAny_bind (wpAny_onRaise ?_))
    show wpAny _ _ (Builtin.SmallTypes.nextOf (.ref i2) >>= _) _ _ _
    have p2c := ((p2.off sa.extBut D.i2z).off sb.extBut D.i12.symm).off sc.extBut D.TOi2.symm
    have q2c := ((q2.off sa.extBut D.l2z).off sb.extBut D.l2i1).off sc.extBut D.l2TO
    refine wpAny_bind (draw_end calm p2c q2c hy fun hd e sd he => ?_)
    obtain ⟨oe, oe1, oe2⟩ := he
    have zd : IsZip hd z TI TO .ellipsis := sd _ _ D.i2z.symm (sc.extBut _ _ D.TOz.symm (sb.extBut _ _ D.i1z.symm za))
    have ne : e ≠ z := fun q => by subst q; rw [zd] at oe1; cases oe1; simp at oe2
    refine wpAny_setField_rec zd (by simp) fun hf _ sf => fin hf e (fun c o c1 c2 c3 c4 g => sf.extBut _ _ c1 (sd _ _ c4 (sc.extBut _ _ c2 (sb.extBut _ _ c3 (sa.extBut _ _ c1 g))))) ⟨oe, sf.extBut _ _ ne oe1, oe2⟩
theorem next_mix {k1 k2 : Bool} {z TI TO i1 i2 l1 l2 : Addr} {n : Nat} {xs ys : Array Value} {x y a b : Value} {Q : Option Value → Shared → Prop} (D : ZipApart z TI TO i1 i2 l1 l2) (Z : ZAt s.heap z TI TO i1 i2 a b)
    (p1 : ItAt k1 s.heap i1 l1 n) (p2 : ItAt k2 s.heap i2 l2 n) (q1 : SqAt k1 s.heap l1 xs) (q2 : SqAt k2 s.heap l2 ys) (hx : xs[n]? = some x) (hy : ys[n]? = some y)
    (fin : ∀ h', IsZip h' z TI TO (rawInt s.heap.objs.size) → IsPair h' TO x y → ItAt k1 h' i1 l1 (n + 1) → ItAt k2 h' i2 l2 (n + 1) → IsPair h' s.heap.objs.size x y → (∀ c o, c ≠ z → c ≠ TO → c ≠ i1 → c ≠ i2 → s.heap.get? c = some o → h'.get? c = some o) → Q (some (.ref s.heap.objs.size)) { s with heap := h' }) :
    wpAny (model P w) A (pyNext (.ref z)) Q E s := by
  have hT : s.TypeIs (.ref z) "zip" := ⟨_, Z.z, rfl⟩
  unfold pyNext
  refine wpAny_bind (wpAny_attempt (wpAny_callSpecial?_slot (name := Str.ofString "__next__") hT F.slot_zip_next (wpAny_call_entry F.slot_zip_next hT F.entry_zip_next ?_ (F.args_zip_next_1 _))))
  exact mix_item D Z p1 p2 q1 q2 hx hy fun h' a1 a2 a3 a4 a5 a6 => wpAny_pure (fin h' a1 a2 a3 a4 a5 a6)
theorem stop_mix {k1 k2 : Bool} {z TI TO i1 i2 l1 l2 : Addr} {n : Nat} {xs ys : Array Value} {a b : Value} {Q : Option Value → Shared → Prop} (calm : A.handled = none) (D : ZipApart z TI TO i1 i2 l1 l2) (Z : ZAt s.heap z TI TO i1 i2 a b)
    (p1 : ItAt k1 s.heap i1 l1 n) (p2 : ItAt k2 s.heap i2 l2 n) (q1 : SqAt k1 s.heap l1 xs) (q2 : SqAt k2 s.heap l2 ys) (stop : xs[n]? = none ∨ ys[n]? = none)
    (fin : ∀ h', (∀ c o, c ≠ z → c ≠ TO → c ≠ i1 → c ≠ i2 → s.heap.get? c = some o → h'.get? c = some o) → Q none { s with heap := h' }) : wpAny (model P w) A (pyNext (.ref z)) Q E s := by
  have hT : s.TypeIs (.ref z) "zip" := ⟨_, Z.z, rfl⟩
  unfold pyNext
  refine wpAny_bind (wpAny_attempt (wpAny_callSpecial?_slot (name := Str.ofString "__next__") hT F.slot_zip_next (wpAny_call_entry F.slot_zip_next hT F.entry_zip_next (mix_end calm D Z p1 p2 q1 q2 stop fun h' e rest he => ?_) (F.args_zip_next_1 _))))
  obtain ⟨o, o1, o2⟩ := he
  exact wpAny_bind (wpAny_isInstance (T := "StopIteration") (b := true) ⟨o, o1, o2⟩ isSubtype_stop (wpAny_pure (fin _ rest)))
end
/-! making it -/
abbrev hM1 (h : Heap) (l1 : Addr) : Heap := h.push { cls := .type "tuple_iterator", data := .fields #[.ref l1, .int 0 0] }
abbrev hM2 (h : Heap) (l1 l2 : Addr) : Heap := (hM1 h l1).push { cls := .type "list_iterator", data := .fields #[.ref l2, .int 0 0] }
abbrev hM3 (h : Heap) (l1 l2 : Addr) : Heap := (hM2 h l1 l2).push { cls := .type "tuple", data := .seq #[.ref h.objs.size, .ref (hM1 h l1).objs.size] }
abbrev hM4 (h : Heap) (l1 l2 : Addr) : Heap := (hM3 h l1 l2).push { cls := .type "tuple", data := .seq #[.none, .none] }
abbrev hM5 (h : Heap) (l1 l2 : Addr) : Heap := (hM4 h l1 l2).push { cls := .type "zip", data := .fields #[.none, .bool false, .bool false, .ref (hM2 h l1 l2).objs.size, .ref (hM3 h l1 l2).objs.size] }
theorem makes_mix (l1 l2 : Addr) (xs ys : Array Value) : Meets (Builtin.«zip.__new__» ⟨[.type "zip", .ref l1, .ref l2], []⟩) (fun _ R s => s.heap.IsTuple l1 xs ∧ s.heap.IsList l2 ys ∧ R (.ok (.ret (.ref (hM4 s.heap l1 l2).objs.size))) { s with heap := hM5 s.heap l1 l2 }) :=
  .of_wp fun prog w A R s h => by
    obtain ⟨hp, g, d, tk, os⟩ := s
    obtain ⟨t1, t2, h⟩ := h
    have sub := sub_zip
    have u1 : Heap.IsTuple (Shared.heap ⟨hp, g, d, tk, os⟩) l1 xs := t1
    have u2 : Heap.IsList (Shared.heap ⟨hM1 hp l1, g, d, tk, os⟩) l2 ys := Heap.IsList.push t2 _
    wp_walk using wpAny_pyIter_tuple u1, wpAny_pyIter_list u2
    exact ⟨_, rfl, h⟩
/-- what a new zip is -/
def NewZip (k1 k2 : Bool) (h h' : Heap) (l1 l2 : Addr) : Prop := ZAt h' (h.objs.size + 4) (h.objs.size + 2) (h.objs.size + 3) h.objs.size (h.objs.size + 1) .none .none ∧ ItAt k1 h' h.objs.size l1 0 ∧ ItAt k2 h' (h.objs.size + 1) l2 0 ∧ ∀ c o, h.get? c = some o → h'.get? c = some o
section
variable {P : Program} {w : World} {A : Around} {E : Value → Shared → Prop} {s : Shared}
theorem call_mix {k1 k2 : Bool} {l1 l2 : Addr} {xs ys : Array Value} {Q : Value → Shared → Prop} (a : SqAt k1 s.heap l1 xs) (b : SqAt k2 s.heap l2 ys) (hk : k1 = true ∨ k2 = false) (fin : ∀ h', NewZip k1 k2 s.heap h' l1 l2 → Q (.ref (s.heap.objs.size + 4)) { s with heap := h' }) :
    wpAny (model P w) A (call (.type "zip") [.ref l1, .ref l2]) Q E s := by
  cases k1
  · have e : k2 = false := by
      rcases hk with h | h
      · cases h
      · exact h
    subst e
    exact call_zip_2 (show s.heap.IsList l1 xs from a) (show s.heap.IsList l2 ys from b) fun h' z ti to i1 i2 _ keep => fin h' ⟨⟨z, ti, to⟩, i1, i2, keep⟩
  · cases k2
    · refine callType_new F.called_zip (by decide) (F.typeCall_zip_2 _ _) (F.newCall_zip_2 _ _) (fun o => F.args_object_init_3 o _ _) F.entry_zip_new (makes_mix l1 l2 xs ys) ⟨show s.heap.IsTuple l1 xs from a, show s.heap.IsList l2 ys from b, ?_⟩
      have z1 : (hM1 s.heap l1).objs.size = s.heap.objs.size + 1 := Heap.size_push ..
      have z2 : (hM2 s.heap l1 l2).objs.size = s.heap.objs.size + 2 := by rw [Heap.size_push, z1]
      have z3 : (hM3 s.heap l1 l2).objs.size = s.heap.objs.size + 3 := by rw [Heap.size_push, z2]
      have z4 : (hM4 s.heap l1 l2).objs.size = s.heap.objs.size + 4 := by rw [Heap.size_push, z3]
      have g5 : (hM5 s.heap l1 l2).get? (hM4 s.heap l1 l2).objs.size = some _ := Heap.get?_push_size _ rfl
      have g4 : (hM5 s.heap l1 l2).get? (hM3 s.heap l1 l2).objs.size = some _ := Heap.get?_push_of_some _ (Heap.get?_push_size _ rfl)
      have g3 : (hM5 s.heap l1 l2).get? (hM2 s.heap l1 l2).objs.size = some _ := Heap.get?_push_of_some _ (Heap.get?_push_of_some _ (Heap.get?_push_size _ rfl))
      have g2 : (hM5 s.heap l1 l2).get? (hM1 s.heap l1).objs.size = some _ := Heap.get?_push_of_some _ (Heap.get?_push_of_some _ (Heap.get?_push_of_some _ (Heap.get?_push_size _ rfl)))
      have g1 : (hM5 s.heap l1 l2).get? s.heap.objs.size = some _ := Heap.get?_push_of_some _ (Heap.get?_push_of_some _ (Heap.get?_push_of_some _ (Heap.get?_push_of_some _ (Heap.get?_push_size _ rfl))))
      show _ ∧ _
      rw [z2, z3, z4] at g5
      rw [z1, z2] at g3
      rw [z3] at g4
      rw [z1] at g2
      rw [z4]
      refine ⟨⟨_, g5, rfl⟩, fin _ ⟨⟨g5, g3, g4⟩, ⟨_, g1, rfl, rfl⟩, ⟨_, g2, rfl, rfl⟩, fun c o x => ?_⟩⟩
      exact Heap.get?_push_of_some _ (Heap.get?_push_of_some _ (Heap.get?_push_of_some _ (Heap.get?_push_of_some _ (Heap.get?_push_of_some _ x))))
    · exact RZ.call_zipT (show s.heap.IsTuple l1 xs from a) (show s.heap.IsTuple l2 ys from b) fun h' z ti to i1 i2 _ keep => fin h' ⟨⟨z, ti, to⟩, i1, i2, keep⟩
end
/-! as turns -/
def SqK (K : PySem.W.Frag) (k : Bool) (H : Hp) (a : Addr) (xs : List V) : Prop := if k = true then SqT K H a xs else SqL K H a xs
theorem SqK.held {X : Cx} {pins : List (Addr × Obj)} {σ : L2.St} {H : Hp} {s : Shared} (I : Inv X pins σ H s) {k : Bool} {a : Addr} {xs : List V} (h : SqK X.K k H a xs) : ∃ its : List Value, Vals xs its ∧ SqAt k s.heap a its.toArray := by
  cases k
  · obtain ⟨its, r, p, _⟩ := I.list (show SqL X.K H a xs from h)
    exact ⟨its, r, p.isList⟩
  · obtain ⟨its, r, p, _⟩ := I.tuple (show SqT X.K H a xs from h)
    exact ⟨its, r, p⟩
/-- pairs of the items of xs and ys, which stand at a and b -/
def ItZ (K : PySem.W.Frag) (k1 k2 : Bool) (a b : Addr) (xs ys : List V) : It :=
  ⟨fun i H => SqK K k1 H a xs ∧ SqK K k2 H b ys ∧ i < xs.length ∧ i < ys.length,
    fun i H v H' => ∃ T x y, v = .ref T ∧ H T = none ∧ H' = upd H T (.tup [x, y]) ∧ xs[i]? = some x ∧ ys[i]? = some y,
    fun i H => SqK K k1 H a xs ∧ SqK K k2 H b ys ∧ (xs.length ≤ i ∨ ys.length ≤ i)⟩
theorem turn_mix {P : Program} {w : World} {K : PySem.W.Frag} {elts : List Expr} {kk : Nat} {tpos : Pos} {k1 k2 : Bool} {a b z TI TO i1 i2 : Addr} {xs ys : List V} (D : ZipApart z TI TO i1 i2 a b) :
    Turn P w K (.Tuple elts kk tpos) (ItZ K k1 k2 a b xs ys) [z, TI, TO, i1, i2] z (fun i h => ∃ x y, ZAt h z TI TO i1 i2 x y ∧ ItAt k1 h i1 a i ∧ ItAt k2 h i2 b i) where
  mem := by simp
  obj := fun i h st c hc => by
    obtain ⟨x, y, Z, p1, p2⟩ := st
    have e : c = z ∨ c = TI ∨ c = TO ∨ c = i1 ∨ c = i2 := by simpa using hc
    rcases e with e | e | e | e | e
    · rw [e]; exact ⟨_, Z.z, fun v q => nomatch q⟩
    · rw [e]; exact ⟨_, Z.ti, fun v q => nomatch q⟩
    · rw [e]; exact ⟨_, Z.to, fun v q => nomatch q⟩
    · rw [e]; exact p1.obj
    · rw [e]; exact p2.obj
  keep := fun i h h' st k => by
    obtain ⟨x, y, Z, p1, p2⟩ := st
    exact ⟨x, y, ⟨k z (by simp) _ Z.z, k TI (by simp) _ Z.ti, k TO (by simp) _ Z.to⟩, p1.on fun o q => k i1 (by simp) o q, p2.on fun o q => k i2 (by simp) o q⟩
  item := by
    intro X hP hw hK hc i pins s σ H E I hf st hg
    subst hP hw hK
    obtain ⟨x0, y0, Z, p1, p2⟩ := st
    obtain ⟨qa, qb, la, lb⟩ := hg
    obtain ⟨us, ru, ha⟩ := qa.held I
    obtain ⟨vs, rv, hb⟩ := qb.held I
    have hx : xs[i]? = some xs[i] := List.getElem?_eq_getElem la
    have hy : ys[i]? = some ys[i] := List.getElem?_eq_getElem lb
    generalize xs[i] = x at hx
    generalize ys[i] = y at hy
    obtain ⟨u, hu, r1⟩ := ru.get hx
    obtain ⟨v, hv, r2⟩ := rv.get hy
    have zlt : z < s.heap.objs.size := Heap.lt_size Z.z
    have zti := Z.ti
    obtain ⟨o1, g1, _⟩ := p1.obj
    obtain ⟨o2, g2, _⟩ := p2.obj
    have tolt := Heap.lt_size Z.to
    refine next_mix D Z p1 p2 ha hb (x := u) (y := v) (by simpa using hu) (by simpa using hv) fun h' z' to' q1 q2 hT hk => ?_
    refine ⟨_, rfl, wpAny_letOwnedTupleGo_zip (s := { s with heap := h' }) z' fun h2 z2 sb => ?_⟩
    have hT2 : h2.get? s.heap.objs.size = some { cls := .type "tuple", data := .seq #[u, v] } := (sb.2 _ (Nat.ne_of_gt zlt)).trans hT
    have new : ObjOk X.prog X.w (upd H s.heap.objs.size (.tup [x, y])) h2 s.heap.objs.size (.tup [x, y]) := ⟨by show 2 ≤ sizeLine; decide, [u, v], .cons r1 (.cons r2 .nil), ⟨_, hT2, rfl, _, rfl⟩⟩
    have outs : ∀ c, c ∉ [z, TI, TO, i1, i2] → ∀ o, s.heap.get? c = some o → h2.get? c = some o := fun c hb o q => (sb.2 c (fun e => hb (by simp [e]))).trans (hk c o (fun e => hb (by simp [e])) (fun e => hb (by simp [e])) (fun e => hb (by simp [e])) (fun e => hb (by simp [e])) q)
    have I1 : Inv X pins σ (upd H s.heap.objs.size (.tup [x, y])) { s with heap := h2 } := I.turnedNew (t' := s.toks) (ch := [z, TI, TO, i1, i2]) (fun c o hb q => outs c hb o q) hf (Nat.le_refl _) new
    have ti2 : IsPair h2 TI (.ref i1) (.ref i2) := (sb.2 _ D.TIz).trans (hk _ _ D.TIz D.TITO D.TIi1 D.TIi2 zti)
    refine ⟨.ref s.heap.objs.size, _, I1, rfl, ⟨_, x, y, rfl, I.hok.fresh (Nat.le_refl _), rfl, hx, hy⟩, ⟨u, v, ⟨z2, ti2, (sb.2 _ D.TOz).trans to'⟩, q1.on fun o q => (sb.2 _ D.i1z).trans q, q2.on fun o q => (sb.2 _ D.i2z).trans q⟩, fun c hcm => ?_⟩
    have lt : c < s.heap.objs.size := by
      have e : c = z ∨ c = TI ∨ c = TO ∨ c = i1 ∨ c = i2 := by simpa using hcm
      rcases e with e | e | e | e | e
      · rw [e]; exact zlt
      · rw [e]; exact Heap.lt_size zti
      · rw [e]; exact tolt
      · rw [e]; exact Heap.lt_size g1
      · rw [e]; exact Heap.lt_size g2
    rw [upd_ne (Nat.ne_of_lt lt)]
    exact (hf c hcm).1
  done := by
    intro X hP hw hK hc i pins s σ H E I hf st hg
    subst hP hw hK
    obtain ⟨x0, y0, Z, p1, p2⟩ := st
    obtain ⟨qa, qb, stop⟩ := hg
    obtain ⟨us, ru, ha⟩ := qa.held I
    obtain ⟨vs, rv, hb⟩ := qb.held I
    have l1 := ru.length
    have l2 := rv.length
    have e : us.toArray[i]? = none ∨ vs.toArray[i]? = none := by
      rcases stop with q | q
      · exact .inl (by simp; omega)
      · exact .inr (by simp; omega)
    refine stop_mix (I.ok.hd hc) D Z p1 p2 ha hb e fun h' hk => ⟨rfl, ?_⟩
    exact I.turnedL (t' := s.toks) (ch := [z, TI, TO, i1, i2]) (fun c o hb q => hk c o (fun e => hb (by simp [e])) (fun e => hb (by simp [e])) (fun e => hb (by simp [e])) (fun e => hb (by simp [e])) q) hf
  self := fun A i s Q E st h => by
    obtain ⟨x, y, Z, _⟩ := st
    exact wpAny_pyIter_zip Z.z h
def iZm (K : PySem.W.Frag) (ta : TA) : TI := fun σ H R => ta σ H fun vs H1 => ∃ k1 k2 a b xs ys, vs = [.ref a, .ref b] ∧ SqK K k1 H1 a xs ∧ SqK K k2 H1 b ys ∧ (k1 = true ∨ k2 = false) ∧ R (ItZ K k1 k2 a b xs ys) H1
theorem pi_zm {X : Cx} {K : PySem.W.Frag} {e e2 : Expr} {ta : TA} {p pos tpos : Pos} {elts : List Expr} {kk : Nat} (hK : X.K = K) (hg : Gl X "zip") (hm : X.mg "zip" = none) (ha : PA X [e, e2] ta)
    (hs : starEach [e, e2] X.env = (false, eval e X.env) :: starEach [e2] X.env := by rfl) (hpl : (backTo pos (starEach [e2] X.env)).any (·.1) = false := by rfl) :
    PI X (.Tuple elts kk tpos) (.Call (.Name "zip" p) [e, e2] [] pos) (iZm K ta) := by
  subst hK
  refine ⟨fun pins s σ H R I h => ?_⟩
  refine Call_ (ld_blt I hg hm PyProof.Rows.boot_zip (PyProof.Rows.callWith_type1 (thn (ha.run pos pins s σ H _ I h) fun us s1 ⟨vs, H1, I1, r1, q1⟩ => ?_) hs hpl))
  obtain ⟨k1, k2, a, b, xs, ys, ev, qa, qb, kk', q⟩ := q1
  subst ev
  cases r1 with
  | cons r rr =>
    cases rr with
    | cons r' rr =>
      cases rr
      cases r
      cases r'
      obtain ⟨us, _, h1⟩ := qa.held I1
      obtain ⟨vs, _, h2⟩ := qb.held I1
      refine call_mix h1 h2 kk' fun h' ⟨Z, p1, p2, keep⟩ => wpAny_pyIter_zip Z.z ?_
      have I2 : Inv X pins σ H1 { s1 with heap := h' } := I1.kept (t' := s1.toks) keep
      refine ⟨s1.heap.objs.size + 4, [s1.heap.objs.size + 4, s1.heap.objs.size + 2, s1.heap.objs.size + 3, s1.heap.objs.size, s1.heap.objs.size + 1], _, _, H1, rfl, I2, turn_mix (PySem.W.ktu_apart s1.heap.objs.size a b h1.lt h2.lt), ⟨_, _, Z, p1, p2⟩, fun c hcm => ?_, q⟩
      have le : s1.heap.objs.size ≤ c := by
        have e : c = s1.heap.objs.size + 4 ∨ c = s1.heap.objs.size + 2 ∨ c = s1.heap.objs.size + 3 ∨ c = s1.heap.objs.size ∨ c = s1.heap.objs.size + 1 := by simpa using hcm
        rcases e with e | e | e | e | e <;> rw [e] <;> first | exact Nat.le_refl _ | exact Nat.le_add_right _ _
      exact I1.fpOk le (I1.hok.fresh le)

/-! ### methods of instances with a dict, instances called, where what is raised is wished for at the caller's slots -/
/-- the receiver, then the arguments -/
def tRecvD (C : Addr) (m : Str) (ta : TE) (t : TA) : TA := fun σ H Q => ta σ H fun x H1 => ∃ a dx fs, x = .ref a ∧ H1 a = some (.ins C dx fs) ∧ fs.lookup m = none ∧ t σ H1 fun ws H2 => Q (x :: ws) H2
def tMethD (C : Addr) (m : Str) (sp : Sp) (E : L2.St → XK) (ta : TE) (t : TA) : TE := fun σ H Q => tRecvD C m ta t σ H fun vs H2 => sp vs H2 Q (E σ)
def tRecvO (C : Addr) (ta : TE) (t : TA) : TA := fun σ H Q => ta σ H fun x H1 => ∃ a, x = .ref a ∧ t σ H1 fun ws H2 => (∃ dx fs, H2 a = some (.ins C dx fs)) ∧ Q (x :: ws) H2
def tCallOD (C : Addr) (sp : Sp) (E : L2.St → XK) (ta : TE) (t : TA) : TE := fun σ H Q => tRecvO C ta t σ H fun vs H2 => sp vs H2 Q (E σ)
section
variable {X : Cx} {CX : CXT} {k : Nat} {C g : Addr} {sp : Sp} {E : L2.St → XK} {o e : Expr} {es : List Expr} {m : Str} {pos apos : Pos} {ta : TE} {t : TA}
theorem pe_methD {pl : Sem Bool} (he : PE X o ta) (c : Cls X.K C) (hm : Meth X.K C m g) (F : FnR X.prog X.w X.K X.mg X.base CX k g sp) (hr : Room k X.A) (hx : ∀ σ, PassesAt CX X σ (E σ)) (ha : PA X (e :: es) t)
    (hst : starEach (e :: es) X.env = (false, eval e X.env) :: starEach es X.env := by rfl) (hpl : (backTo pos (starEach es X.env)).any (·.1) = false := by rfl)
    (ht : eval (.Call (.Attribute o m apos) (e :: es) [] pos) X.env = (do
      let ov ← eval o X.env
      standAt apos.atName
      let (f, first) ← holding [ov] (getMethod ov m pl)
      callWith pos f first (backTo pos (starEach (e :: es) X.env)) (backToKw pos (keywordEach [] X.env))) := by rfl) :
    PE X (.Call (.Attribute o m apos) (e :: es) [] pos) (tMethD C m sp E ta t) := by
  refine ⟨fun pins s σ H Q I h => ?_⟩
  refine PySem.W.methodCall_KW (pl := pl) (thn (he.run pins s σ H _ I h) fun u s1 ⟨x, H1, I1, rx, a, dx, fs, ex, hins, hl, q⟩ => ?_) ht
  subst ex
  obtain rfl : u = Value.ref a := rx
  refine getmeth_ok I1 hins c hm hl ?_
  refine PySem.W.callWith_K (first := [.ref a]) (h₀ := X.base) I.ok.mod.kin hm.kp (thn (ha.run pos pins s1 σ H1 _ I1 q) fun us s2 ⟨ws, H2, I2, r, q2⟩ => ⟨I2.kIn, ?_⟩) hst hpl
  exact wpAny_call (run_fnRS (us := .ref a :: us) (vs := .ref a :: ws) F hr (hx σ) I2 (.cons rfl r) q2)
theorem pe_methD0 {pl : Sem Bool} (he : PE X o ta) (c : Cls X.K C) (hm : Meth X.K C m g) (F : FnR X.prog X.w X.K X.mg X.base CX k g sp) (hr : Room k X.A) (hx : ∀ σ, PassesAt CX X σ (E σ))
    (ht : eval (.Call (.Attribute o m apos) [] [] pos) X.env = (do
      let ov ← eval o X.env
      standAt apos.atName
      let (f, first) ← holding [ov] (getMethod ov m pl)
      callWith pos f first (backTo pos (starEach [] X.env)) (backToKw pos (keywordEach [] X.env))) := by rfl) :
    PE X (.Call (.Attribute o m apos) [] [] pos) (tMethD C m sp E ta tNil) := by
  refine ⟨fun pins s σ H Q I h => ?_⟩
  refine PySem.W.methodCall_KW (pl := pl) (thn (he.run pins s σ H _ I h) fun u s1 ⟨x, H1, I1, rx, a, dx, fs, ex, hins, hl, q⟩ => ?_) ht
  subst ex
  obtain rfl : u = Value.ref a := rx
  refine getmeth_ok I1 hins c hm hl ?_
  exact PySem.W.callWith_K0 (first := [.ref a]) I1.kIn hm.kp (wpAny_call (run_fnRS (us := [.ref a]) (vs := [.ref a]) F hr (hx σ) I1 (.cons rfl .nil) q))
/-- an instance called -/
theorem pe_callOD {fe : Expr} (hf : PE X fe ta) (c : StX.CallO X.K C g) (F : FnR X.prog X.w X.K X.mg X.base CX k g sp) (hr : Room k X.A) (hx : ∀ σ, PassesAt CX X σ (E σ)) (ha : PA X (e :: es) t)
    (ht : eval (.Call fe (e :: es) [] pos) X.env = (do callWith pos (← eval fe X.env) [] (backTo pos (starEach (e :: es) X.env)) (backToKw pos (keywordEach [] X.env))) := by rfl)
    (he : starEach (e :: es) X.env = (false, eval e X.env) :: starEach es X.env := by rfl) (hpl : (backTo pos (starEach es X.env)).any (·.1) = false := by rfl) : PE X (.Call fe (e :: es) [] pos) (tCallOD C sp E ta t) := by
  refine ⟨fun pins s σ H Q I h => ?_⟩
  refine Call_ (thn (hf.run pins s σ H _ I h) fun u s1 ⟨y, H1, I1, ry, a, ey, q⟩ => ?_) ht
  subst ey
  obtain rfl : u = Value.ref a := ry
  refine StX.callO_with (thn (ha.run pos pins s1 σ H1 _ I1 q) fun us s2 ⟨vs, H2, I2, r, hi, q2⟩ => ?_) he hpl
  obtain ⟨ox, od, J, hd⟩ := StX.insC_at (X := X) I2 (.inr hi)
  exact ⟨⟨C, ox, od, J, hd⟩, wpAny_call (PySem.W.kco_code I2.kIn J hd c.at_ c.fn c.fi (run_fnRS (us := .ref a :: us) (vs := .ref a :: vs) F hr (hx σ) I2 (.cons rfl r) q2))⟩
end
section
variable {X : Cx} {K : PySem.W.Frag} {o e value : Expr} {f : Str} {pos pos' : Pos} {ta tv : TE}
theorem pe_fldK (hK : X.K = K) (he : PE X e ta) (hb : attributeBase e f X.env (eval e X.env) = eval e X.env := by rfl) : PE X (.Attribute e f pos) (tFld K ta f) := by
  subst hK
  exact pe_fld he hb
theorem ps_fldK (hK : X.K = K) (ha : PE X o ta) (hv : PE X value tv) (hs : swapsWith value (some (.Attribute o f pos')) pos.line X.env = pure false := by rfl) : PS X (.Assign [.Attribute o f pos'] value pos) (sFld K ta tv f) := by
  subst hK
  exact ps_fld ha hv hs
theorem cr_allK (hK : X.K = K) (hc : X.calm = true) : CallR X (.builtin "all") (rAll K) := by
  subst hK
  exact cr_all hc
end
/-- isinstance(e, (A, B)), e the caught error, which has fields -/
def rIsX2 (K : PySem.W.Frag) (D a : Addr) (cls : Value) (d : Option Addr) : List V → Hp → VK → Prop := fun xs H Q => ∃ (tp Y1 Y2 : Addr) (b : Bool) (dd : Addr) (fs : List (Str × V)),
  xs = [.ref a, .ref tp] ∧ cls = .ref D ∧ d = some dd ∧ H dd = some (.xd fs) ∧ H tp = some (.tup [.ref Y1, .ref Y2]) ∧ PySem.W.kitAny K (.ref D) [.ref Y1, .ref Y2] = some b ∧ Q (.bl b) H
theorem call_isX2 {X : Cx} {a D : Addr} {oe : Obj} {cls : Value} {d : Option Addr} {pn : List (Addr × Obj)} (C : IsC X.K D) (hz : Zc cls d oe) (hf : ∃ vs, oe.data = .fields vs) : CallR (X.suite a ((a, oe) :: pn)) (.builtin "isinstance") (rIsX2 X.K D a cls d) := fun pins s σ H xs us Q I r h => by
  obtain ⟨tp, Y1, Y2, b, dd, fs, ex, e1, e2, hx, hT, ek, q⟩ := h
  subst ex e1 e2
  obtain ⟨u1, u2, eu, rx, rt⟩ : ∃ u1 u2, us = [u1, u2] ∧ RelV (.ref a) u1 ∧ RelV (.ref tp) u2 := by
    cases r with
    | cons rx rr =>
      cases rr with
      | cons rt rr =>
        cases rr
        exact ⟨_, _, rfl, rx, rt⟩
  subst eu
  cases (show u1 = Value.ref a from rx)
  cases (show u2 = Value.ref tp from rt)
  have hg : s.heap.get? a = some oe := (I.pin (a, oe) (List.mem_append_left _ List.mem_cons_self)).1
  have hx' : ObjOk X.prog X.w H s.heap dd (.xd fs) := I.hok dd _ hx
  obtain ⟨mA, ⟨od, es, ep, hod, _⟩, _⟩ := hx'
  have J : PySem.W.InstAt s.heap a oe D (some od) := by
    obtain ⟨vs, hv⟩ := hf
    obtain ⟨oc, odd, oda, osl⟩ := oe
    obtain ⟨h1, h2⟩ := hz
    dsimp only at h1 h2 hv
    subst h1 h2 hv
    exact ⟨hg, rfl, rfl, hod⟩
  obtain ⟨_, its, rv, o, h1, h2, n, h3⟩ := (show ObjOk X.prog X.w H s.heap tp (.tup [.ref Y1, .ref Y2]) from I.hok tp _ hT)
  have e3 : its = [.ref Y1, .ref Y2] := by
    cases rv with
    | cons ra rr =>
      cases rr with
      | cons rb rr =>
        cases rr
        cases (show _ = Value.ref Y1 from ra)
        cases (show _ = Value.ref Y2 from rb)
        rfl
  subst e3
  obtain ⟨oc, od', dt, sl⟩ := o
  simp only at h2 h3
  subst h2 h3
  exact PySem.W.kia_tup (PySem.W.kitx_exc C.c C.ga C.gt C.sub C.kc C.kg C.kt C.ob) I.kIn J h1 ek (fun z => nomatch z) fun tk => ⟨.bl b, H, I.kept (t' := tk) fun _ _ z => z, rfl, q⟩
theorem kit_two {K : PySem.W.Frag} {t c1 c2 : Value} {b1 b2 : Bool} (h1 : PySem.W.kitOne K t c1 = some b1) (h2 : PySem.W.kitOne K t c2 = some b2) : PySem.W.kitAny K t [c1, c2] = some (b1 || b2) := by
  refine kitAny_cons h1 (fun e => ?_) (fun e => by subst e; rfl)
  subst e
  refine kitAny_cons h2 (fun e => by subst e; rfl) (fun e => by subst e; rfl)

/-! ### sorted of a set, of any size within a scan -/
section
variable {P : Program} {w : World} {A : Around} {s : Shared} {E : Value → Shared → Prop} {a : Addr}
theorem sorted_setW {S : Int → Bool} {n : Nat} {Q : Value → Shared → Prop} (R : SetR w s.heap a S n) (hh : A.handled = none) (hbig : n ≤ 4096)
    (hQ : ∀ s' p (out : Array Value) (c : Nat) (ns : List Int), (∀ b o, s.heap.get? b = some o → s'.heap.get? b = some o) → s'.gens = s.gens → s'.os = s.os → s.heap.objs.size ≤ p →
      s'.heap.get? p = some (seqObj "list" out c) → IntsAre out.toList ns → ns.Pairwise (· < ·) → (∀ k, k ∈ ns ↔ S k = true) → ns.length = n → Q (.ref p) s') :
    wpAny (model P w) A (call (.builtin "sorted") [.ref a]) Q E s := by
  obtain ⟨o, es, ep, t, ho, hex, hd, g, nd, hm, hb, hf, hn, hr, hl⟩ := R
  refine Calls.call_function_entry kind_sorted plain_sorted entry_sorted (args_sorted1 _) ?_
  unfold Builtin.«sorted»
  refine wpAny_bind (m := checkCount "sorted" 1 1 _) (wpAny_pure ?_)
  refine wpAny_bind (collect_set (A := A.in1) hh ⟨o, ho, hex.1, hd⟩ hf hb hr hl fun s1 vs k1 hz g1 o1 pm => ?_)
  have hvl : vs.length = n := by rw [pm.length_eq, List.length_map, Array.length_toList]; exact hn
  have hI : IntsAre vs (vs.map Builtin.Re.reRawOf) := ints_of vs fun v hv => by
    obtain ⟨e, he, q⟩ := List.mem_map.mp (pm.mem_iff.mp hv)
    obtain ⟨k, tk, h1, _⟩ := g e he
    exact ⟨k, tk, by rw [← q]; exact h1⟩
  have pk : (vs.map Builtin.Re.reRawOf).Perm (es.toList.map keyOf) := by
    have q := pm.map Builtin.Re.reRawOf
    rw [List.map_map] at q
    exact q
  have hsz : vs.length ≤ sizeLine := by rw [hvl, sizeLine_eq]; omega
  refine wpAny_bind (wpAny_newList ?_ hsz)
  have hoL : (s1.heap.push (seqObj "list" vs.toArray 0)).get? s1.heap.objs.size = some (seqObj "list" vs.toArray 0) := Heap.get?_push_size _ rfl
  refine wpAny_bind (wpAny_holding (wpAny_call_entry slot_list_sort ⟨_, hoL, rfl⟩ entry_list_sort (SrtO.list_sort_ord SrtO.swo_int hoL hsz (fun h2 => SrtO.ints_sortable hI h2) fun out h1 h2 => ⟨_, rfl, ?_⟩) (args_list_sort _)))
  obtain ⟨a1, a2, a3⟩ := SrtO.ints_out hI h1 h2
  obtain ⟨c, hc⟩ := sortedHeap_at (vs := vs) (out := out.toArray) hoL
  have pn : (out.map SrtO.iv).Perm (es.toList.map keyOf) := a2.trans pk
  refine wpAny_pure ⟨_, rfl, hQ _ s1.heap.objs.size out.toArray c (out.map SrtO.iv) (fun b u e => ?_) g1 o1 hz hc a1 (lt_of_le_nodup _ a3 (pn.nodup_iff.mpr nd)) (fun k => by rw [pn.mem_iff, ← hm k]) ?_⟩
  · have q := k1 b u e
    have hlt := Heap.lt_size q
    show (sortedHeap (s1.heap.push (seqObj "list" vs.toArray 0)) s1.heap.objs.size vs out.toArray).get? b = some u
    rw [sortedHeap_old (Nat.ne_of_lt hlt) (by rw [size_push']; exact Nat.lt_succ_of_lt hlt)]
    exact Heap.get?_push_of_some _ q
  · rw [pn.length_eq, List.length_map, Array.length_toList]; exact hn
end
def rSortedSetW (w : World) : List V → Hp → VK → Prop := fun vs H Q => ∃ (a : Addr) (S : Int → Bool) (n : Nat), vs = [V.ref a] ∧ H a = some (SetO w a S n) ∧ n ≤ 4096 ∧
  ∀ (ns : List Int) (p : Addr), ns.Pairwise (· < ·) → (∀ k : Int, k ∈ ns ↔ S k = true) → ns.length = n → H p = none → Q (.ref p) (upd H p (.lst (ns.map V.int)))
theorem cr_sortedSetW {X : Cx} (hc : X.calm = true) : CallR X (.builtin "sorted") (rSortedSetW X.w) := by
  intro pins s σ H vs us Q I r h
  obtain ⟨a, S, n, rfl, ha, h64, q⟩ := h
  have R := setO_get I ha
  rw [Vals.ref1 r]
  refine sorted_setW R (I.ok.hd hc) h64 fun s' p out c ns k g o hp hg hi hs hm hl => ?_
  have hlen : (ns.map V.int).length ≤ sizeLine := by rw [List.length_map, hl, sizeLine_eq]; omega
  have hn : H p = none := I.hok.fresh hp
  have J : Inv X pins σ (upd H p (.lst (ns.map V.int))) { s with heap := s'.heap, gens := s'.gens, drawn := s'.drawn, toks := s'.toks } :=
    I.call (ch := []) (Un.laid k hp hn) (I.hok.laid k hp ⟨hlen, out.toList, c, vals_of_ints hi, hg⟩) (by rw [g]; exact I.bare) (fun _ z => nomatch z)
  have e : s' = { s with heap := s'.heap, gens := s'.gens, drawn := s'.drawn, toks := s'.toks } := by
    cases s'
    cases s
    cases o
    rfl
  rw [e]
  exact ⟨.ref p, _, J, rfl, q ns p hs hm hl hn⟩

end Y
/-! ## Values as data, the program as functions of data -/
namespace Y
open PySem PySem.Spec PyProof.Rows L2
/-- data: what a value is, without the heap; ols: a list that may still be written -/
inductive D where
  | non | bl (b : Bool) | int (i : Int) | str (x : Str)
  | lst (ds : List D) | tup (ds : List D) | ols (ds : List D)
  | ins (c : Nat) (ns : List Str) (ds : List D) | scr (ns : List Int)
  | dct (k : Nat) (ks ds : List D) | odc (k : Nat) (ks ds : List D) | oin (c : Nat) (ns : List Str) (ds : List D)
deriving Inhabited
mutual
/-- never to be written again -/
def D.fz : D → D
  | .ols ds => .lst (fzs ds)
  | .odc k ks ds => .dct k ks ds
  | .oin c ns ds => .ins c ns (fzs ds)
  | .dct k ks ds => .dct k ks ds
  | .non => .non | .bl b => .bl b | .int i => .int i | .str x => .str x | .lst ds => .lst ds | .tup ds => .tup ds | .ins c ns ds => .ins c ns ds | .scr ns => .scr ns
def fzs : List D → List D
  | [] => []
  | d :: ds => d.fz :: fzs ds
end
theorem fzs_eq : ∀ ds : List D, fzs ds = ds.map D.fz
  | [] => by simp [fzs]
  | d :: ds => by simp [fzs, fzs_eq ds]
def D.isO : D → Bool
  | .ols _ => true
  | .odc _ _ _ => true
  | .oin _ _ _ => true
  | _ => false
/-- the classes of a text: where they stand -/
structure CTB where
  adr : Nat → Addr
  slt : Nat → Bool
  err : Nat → Addr
  fld : Nat → Str
/-- .. and what holds of what is never written again -/
structure CT where
  b : CTB
  inv : Hp → Prop
  mono : ∀ R R', Same R R' → inv R → inv R'
inductive Rep (K : PySem.W.Frag) (ct : CTB) (R : Hp) : V → D → Prop
  | non : Rep K ct R .non .non
  | bl (b : Bool) : Rep K ct R (.bl b) (.bl b)
  | int (i : Int) : Rep K ct R (.int i) (.int i)
  | str (x : Str) : Rep K ct R (.str x) (.str x)
  | scr {a : Addr} {ns : List Int} (h : SqL K R a (ns.map V.int)) : Rep K ct R (.ref a) (.scr ns)
  | lst {a : Addr} {vs : List V} {ds : List D} (h : R a = some (.lst vs)) (hl : vs.length = ds.length) (hc : ∀ (i : Nat) (v : V) (d : D), vs[i]? = some v → ds[i]? = some d → Rep K ct R v d) : Rep K ct R (.ref a) (.lst ds)
  | tup {a : Addr} {vs : List V} {ds : List D} (h : SqT K R a vs) (hl : vs.length = ds.length) (hc : ∀ (i : Nat) (v : V) (d : D), vs[i]? = some v → ds[i]? = some d → Rep K ct R v d) : Rep K ct R (.ref a) (.tup ds)
  | ins {a dx : Addr} {c : Nat} {ns : List Str} {vs : List V} {ds : List D} (hs : ct.slt c = false) (h : R a = some (.ins (ct.adr c) dx (ns.zip vs))) (hn : ns.length = vs.length) (hl : vs.length = ds.length)
      (hc : ∀ (i : Nat) (v : V) (d : D), vs[i]? = some v → ds[i]? = some d → Rep K ct R v d) : Rep K ct R (.ref a) (.ins c ns ds)
  | slt {a dx : Addr} {c : Nat} {ns : List Str} {vs : List V} {ds : List D} (hs : ct.slt c = true) (h : SlX.Slt R a (ct.adr c) dx (vs.map some)) (hl : vs.length = ds.length)
      (hc : ∀ (i : Nat) (v : V) (d : D), vs[i]? = some v → ds[i]? = some d → Rep K ct R v d) : Rep K ct R (.ref a) (.ins c ns ds)
  | dct {a : Addr} {es : List EntB} {ks ds : List D} (h : R a = some (DicB a es)) (hk : ks = es.map fun e => D.tup (e.1.map D.bl)) (kb : KeysB K R es) (hl : es.length = ds.length)
      (hc : ∀ (i : Nat) (v : V) (d : D), (es.map (·.2.2))[i]? = some v → ds[i]? = some d → Rep K ct R v d) : Rep K ct R (.ref a) (.dct 0 ks ds)
/-- lists of them -/
def Reps (K : PySem.W.Frag) (ct : CTB) (R : Hp) (vs : List V) (ds : List D) : Prop := vs.length = ds.length ∧ ∀ (i : Nat) (v : V) (d : D), vs[i]? = some v → ds[i]? = some d → Rep K ct R v d
theorem Slt_mono {H H' : Hp} {a C dx : Addr} {vs : List (Option V)} (h : SlX.Slt H a C dx vs) (e : Same H H') : SlX.Slt H' a C dx vs := by
  rcases h with ⟨h1, h2⟩ | ⟨h1, h2⟩
  · exact .inl ⟨e _ _ h1, h2⟩
  · exact .inr ⟨e _ _ h1, e _ _ h2⟩
section
variable {K : PySem.W.Frag} {ct : CTB} {R R' H H' : Hp}
theorem SqL.mono {a : Addr} {xs : List V} (e : Same H H') (h : SqL K H a xs) : SqL K H' a xs := e.seq h
theorem SqT.mono {a : Addr} {xs : List V} (e : Same H H') (h : SqT K H a xs) : SqT K H' a xs := by
  rcases h with (h | ⟨o, h⟩) | h
  · exact .inl (.inl (e _ _ h))
  · exact .inl (.inr ⟨o, e _ _ h⟩)
  · exact .inr h
theorem Rep.mono {v : V} {d : D} (h : Rep K ct R v d) (e : Same R R') : Rep K ct R' v d := by
  induction h with
  | non => exact .non
  | bl b => exact .bl b
  | int i => exact .int i
  | str x => exact .str x
  | scr h => exact .scr (SqL.mono e h)
  | lst h hl _ ih => exact .lst (e _ _ h) hl ih
  | tup h hl _ ih => exact .tup (SqT.mono e h) hl ih
  | ins hs h hn hl _ ih => exact .ins hs (e _ _ h) hn hl ih
  | slt hs h hl _ ih => exact .slt hs (Slt_mono h e) hl ih
  | dct h hk kb hl _ ih => exact .dct (e _ _ h) hk (fun x hx => SqT.mono e (kb x hx)) hl ih
theorem Rep.fz {v : V} {d : D} (h : Rep K ct R v d) : d.fz = d := by
  cases h <;> simp [D.fz]
theorem Rep.isO {v : V} {d : D} (h : Rep K ct R v d) : d.isO = false := by
  cases h <;> rfl
theorem Reps.mono {vs : List V} {ds : List D} (h : Reps K ct R vs ds) (e : Same R R') : Reps K ct R' vs ds := ⟨h.1, fun i v d a b => (h.2 i v d a b).mono e⟩
theorem Reps.nil : Reps K ct R [] [] := ⟨rfl, fun i v d a _ => by simp at a⟩
theorem Reps.cons {v : V} {d : D} {vs : List V} {ds : List D} (h : Rep K ct R v d) (t : Reps K ct R vs ds) : Reps K ct R (v :: vs) (d :: ds) := by
  refine ⟨by simp [t.1], fun i w e a b => ?_⟩
  cases i with
  | zero =>
    cases (show v = w by simpa using a)
    cases (show d = e by simpa using b)
    exact h
  | succ i => exact t.2 i w e (by simpa using a) (by simpa using b)
theorem Reps.head {v : V} {d : D} {vs : List V} {ds : List D} (h : Reps K ct R (v :: vs) (d :: ds)) : Rep K ct R v d := h.2 0 v d rfl rfl
theorem Reps.tail {v : V} {d : D} {vs : List V} {ds : List D} (h : Reps K ct R (v :: vs) (d :: ds)) : Reps K ct R vs ds :=
  ⟨by simpa using h.1, fun i w e a b => h.2 (i + 1) w e (by simpa using a) (by simpa using b)⟩
theorem Reps.fzs {vs : List V} {ds : List D} (h : Reps K ct R vs ds) : fzs ds = ds := by
  rw [fzs_eq]
  refine List.ext_getElem? fun i => ?_
  rw [List.getElem?_map]
  cases e : ds[i]? with
  | none => rfl
  | some d =>
    have hi : i < vs.length := by rw [h.1]; exact (List.getElem?_eq_some_iff.mp e).1
    rw [Option.map_some, (h.2 i vs[i] d (List.getElem?_eq_getElem hi) e).fz]
theorem Reps.nil_inv {vs : List V} (h : Reps K ct R vs []) : vs = [] := List.eq_nil_of_length_eq_zero h.1
theorem Reps.cons_inv {vs : List V} {d : D} {ds : List D} (h : Reps K ct R vs (d :: ds)) : ∃ v ws, vs = v :: ws ∧ Rep K ct R v d ∧ Reps K ct R ws ds := by
  match vs, h with
  | [], h => exact absurd h.1 (by simp)
  | v :: ws, h => exact ⟨v, ws, rfl, h.head, h.tail⟩
theorem Reps.at {vs : List V} {ds : List D} (h : Reps K ct R vs ds) {i : Nat} {d : D} (e : ds[i]? = some d) : ∃ v, vs[i]? = some v ∧ Rep K ct R v d := by
  have hi : i < ds.length := (List.getElem?_eq_some_iff.mp e).1
  have hv : i < vs.length := by rw [h.1]; exact hi
  exact ⟨vs[i], List.getElem?_eq_getElem hv, h.2 i _ d (List.getElem?_eq_getElem hv) e⟩
theorem Reps.app {vs ws : List V} {ds es : List D} (h : Reps K ct R vs ds) (g : Reps K ct R ws es) : Reps K ct R (vs ++ ws) (ds ++ es) := by
  refine ⟨by simp [h.1, g.1], fun i v d a b => ?_⟩
  by_cases hi : i < vs.length
  · rw [List.getElem?_append_left hi] at a
    rw [List.getElem?_append_left (by rw [← h.1]; exact hi)] at b
    exact h.2 i v d a b
  · rw [List.getElem?_append_right (by omega)] at a
    rw [List.getElem?_append_right (by rw [← h.1]; omega), ← h.1] at b
    exact g.2 _ v d a b
theorem Reps.snoc {vs : List V} {ds : List D} {v : V} {d : D} (h : Reps K ct R vs ds) (g : Rep K ct R v d) : Reps K ct R (vs ++ [v]) (ds ++ [d]) := h.app (Reps.nil.cons g)
theorem Reps.take {vs : List V} {ds : List D} (n : Nat) (h : Reps K ct R vs ds) : Reps K ct R (vs.take n) (ds.take n) := by
  refine ⟨by simp [h.1], fun i v d a b => ?_⟩
  rw [List.getElem?_take] at a b
  split at a
  · exact h.2 i v d a (by simpa [*] using b)
  · cases a
theorem Reps.drop {vs : List V} {ds : List D} (n : Nat) (h : Reps K ct R vs ds) : Reps K ct R (vs.drop n) (ds.drop n) := by
  refine ⟨by simp [h.1], fun i v d a b => ?_⟩
  rw [List.getElem?_drop] at a b
  exact h.2 _ v d a b
theorem Reps.set {vs : List V} {ds : List D} {v : V} {d : D} (n : Nat) (h : Reps K ct R vs ds) (g : Rep K ct R v d) : Reps K ct R (vs.set n v) (ds.set n d) := by
  refine ⟨by simp [h.1], fun i w e a b => ?_⟩
  rw [List.getElem?_set] at a b
  by_cases hn : n = i
  · rw [if_pos hn] at a b
    split at a
    · split at b
      · cases a; cases b; exact g
      · cases b
    · cases a
  · rw [if_neg hn] at a b
    exact h.2 i w e a b
theorem Reps.rep {vs : List V} {ds : List D} {v : V} {d : D} (g : Rep K ct R v d) : ∀ n : Nat, Reps K ct R (List.replicate n v) (List.replicate n d)
  | 0 => Reps.nil
  | n + 1 => (Reps.rep (vs := vs) (ds := ds) g n).cons g
theorem Reps.ints (ns : List Int) : Reps K ct R (ns.map V.int) (ns.map D.int) := by
  induction ns with
  | nil => exact .nil
  | cons n ns ih => exact ih.cons (.int n)
theorem Rep.lst_inv {v : V} {ds : List D} (h : Rep K ct R v (.lst ds)) : ∃ a vs, v = .ref a ∧ R a = some (.lst vs) ∧ Reps K ct R vs ds := by
  cases h with
  | lst h hl hc => exact ⟨_, _, rfl, h, hl, hc⟩
theorem Rep.tup_inv {v : V} {ds : List D} (h : Rep K ct R v (.tup ds)) : ∃ a vs, v = .ref a ∧ SqT K R a vs ∧ Reps K ct R vs ds := by
  cases h with
  | tup h hl hc => exact ⟨_, _, rfl, h, hl, hc⟩
theorem Rep.int_inv {v : V} {i : Int} (h : Rep K ct R v (.int i)) : v = .int i := by cases h; rfl
theorem Rep.bl_inv {v : V} {b : Bool} (h : Rep K ct R v (.bl b)) : v = .bl b := by cases h; rfl
theorem Rep.str_inv {v : V} {x : Str} (h : Rep K ct R v (.str x)) : v = .str x := by cases h; rfl
theorem Rep.non_inv {v : V} (h : Rep K ct R v .non) : v = .non := by cases h; rfl
end
/-- R: what is never written again; F: what is one's own -/
inductive Own (K : PySem.W.Frag) (ct : CTB) (R H : Hp) : (Addr → Prop) → V → D → Prop
  | fz {F : Addr → Prop} {v : V} {d : D} (h : Rep K ct R v d) : Own K ct R H F v d
  | ols {F : Addr → Prop} {a : Addr} {vs : List V} {ds : List D} (G : Nat → Addr → Prop) (h : H a = some (.lst vs)) (hF : F a) (hl : vs.length = ds.length)
      (hc : ∀ (i : Nat) (v : V) (d : D), vs[i]? = some v → ds[i]? = some d → Own K ct R H (G i) v d) (hG : ∀ i b, G i b → F b ∧ b ≠ a) (hd : ∀ i j b, i ≠ j → G i b → ¬ G j b) : Own K ct R H F (.ref a) (.ols ds)
  | odc {F : Addr → Prop} {a : Addr} {es : List EntB} {ks ds : List D} (h : H a = some (DicB a es)) (hF : F a) (hk : ks = es.map fun e => D.tup (e.1.map D.bl)) (kb : KeysB K R es) (r : Reps K ct R (es.map (·.2.2)) ds) : Own K ct R H F (.ref a) (.odc 0 ks ds)
  | oin {F : Addr → Prop} {a dx : Addr} {c : Nat} {ns : List Str} {vs : List V} {ds : List D} (hs : ct.slt c = false) (h : H a = some (.ins (ct.adr c) dx (ns.zip vs))) (hF : F a) (hn : ns.length = vs.length) (r : Reps K ct R vs ds) : Own K ct R H F (.ref a) (.oin c ns ds)
section
variable {K : PySem.W.Frag} {ct : CTB} {R R' H H' : Hp} {F F' : Addr → Prop} {v : V} {d : D}
theorem Own.monoR (e : Same R R') (h : Own K ct R H F v d) : Own K ct R' H F v d := by
  induction h with
  | fz h => exact .fz (h.mono e)
  | ols G h hF hl _ hG hd ih => exact .ols G h hF hl ih hG hd
  | odc h hF hk kb r => exact .odc h hF hk (fun x hx => SqT.mono e (kb x hx)) (r.mono e)
  | oin hs h hF hn r => exact .oin hs h hF hn (r.mono e)
theorem Own.monoH (h : Own K ct R H F v d) : (∀ b o, F b → H b = some o → H' b = some o) → Own K ct R H' F v d := by
  induction h with
  | fz h => exact fun _ => .fz h
  | ols G h hF hl _ hG hd ih => exact fun e => .ols G (e _ _ hF h) hF hl (fun i v d a b => ih i v d a b fun c o g => e c o (hG i c g).1) hG hd
  | odc h hF hk kb r => exact fun e => .odc (e _ _ hF h) hF hk kb r
  | oin hs h hF hn r => exact fun e => .oin hs (e _ _ hF h) hF hn r
theorem Own.monoF (e : ∀ b, F b → F' b) (h : Own K ct R H F v d) : Own K ct R H F' v d := by
  cases h with
  | fz h => exact .fz h
  | ols G h hF hl hc hG hd => exact .ols G h (e _ hF) hl hc (fun i b g => ⟨e _ (hG i b g).1, (hG i b g).2⟩) hd
  | odc h hF hk kb r => exact .odc h (e _ hF) hk kb r
  | oin hs h hF hn r => exact .oin hs h (e _ hF) hn r
theorem Own.rep (h : Own K ct R H F v d) (o : d.isO = false) : Rep K ct R v d := by
  cases h with
  | fz h => exact h
  | ols => cases o
  | odc => cases o
  | oin => cases o
theorem Own.froze (h : Own K ct R H F v d) : Same R R' → (∀ b, F b → R' b = H b) → Rep K ct R' v d.fz := by
  induction h with
  | fz h => exact fun e _ => by rw [h.fz]; exact h.mono e
  | ols G h hF hl _ hG hd ih =>
    intro e f
    rw [D.fz, fzs_eq]
    refine .lst ((f _ hF).trans h) (by simpa using hl) fun i v d a b => ?_
    rw [List.getElem?_map] at b
    obtain ⟨d', hd', rfl⟩ := Option.map_eq_some_iff.mp b
    exact ih i v d' a hd' e fun c g => f c (hG i c g).1
  | odc h hF hk kb r => exact fun e f => .dct ((f _ hF).trans h) hk (fun x hx => SqT.mono e (kb x hx)) (by simpa using r.1) (r.mono e).2
  | oin hs h hF hn r =>
    intro e f
    rw [D.fz, r.fzs]
    exact .ins hs ((f _ hF).trans h) hn r.1 (r.mono e).2
/-- a list of one's own that holds what is never written again -/
theorem Own.flat {a : Addr} {vs : List V} {ds : List D} (h : H a = some (.lst vs)) (hF : F a) (r : Reps K ct R vs ds) : Own K ct R H F (.ref a) (.ols ds) :=
  .ols (fun _ _ => False) h hF r.1 (fun i v d a b => .fz (r.2 i v d a b)) (fun _ _ g => g.elim) fun _ _ _ _ g => g.elim
end
def CTB.triv (b : CTB) : CT := ⟨b, fun _ => True, fun _ _ _ h => h⟩
abbrev Env := List (Option D)
/-- what stands between the slots and the heap: R is never written again; H0 is another's -/
structure Ok (K : PySem.W.Frag) (ct : CT) (H0 : Hp) (ms : List Nat) (vp : Nat → V) (ρ : Env) (σ : L2.St) (R H : Hp) : Prop where
  same : Same R H
  keep : Same H0 H
  inv : ct.inv R
  len : σ.length = ρ.length
  pins : ∀ i ∈ ms, σ[i]? = some (some (vp i))
  own : ∃ F : Nat → Addr → Prop, (∀ i d, ρ[i]? = some (some d) → ∃ v, σ[i]? = some (some v) ∧ Own K ct.b R H (F i) v d) ∧ (∀ i j b, i ≠ j → F i b → ¬ F j b) ∧ ∀ i b, F i b → R b = none ∧ H b ≠ none ∧ H0 b = none
theorem Ok.cast {K : PySem.W.Frag} {ct : CT} {ct' : CT} {H0 : Hp} {ms : List Nat} {vp : Nat → V} {ρ : Env} {σ : L2.St} {R H : Hp} (ok : Ok K ct H0 ms vp ρ σ R H) (e : ct'.b = ct.b) (iv : ct'.inv R) : Ok K ct' H0 ms vp ρ σ R H := by
  obtain ⟨s, k, _, l, p, F, f⟩ := ok
  refine ⟨s, k, iv, l, p, F, ?_⟩
  rw [e]
  exact f
/-- R grows, by what is new or was one's own -/
def Gr (H0 R R' : Hp) : Prop := Same R R' ∧ ∀ b, R' b ≠ none → R b ≠ none ∨ H0 b = none
theorem Gr.refl (H0 R : Hp) : Gr H0 R R := ⟨Same.refl _, fun _ h => .inl h⟩
theorem Gr.trans {H0 R R1 R2 : Hp} (a : Gr H0 R R1) (b : Gr H0 R1 R2) : Gr H0 R R2 := ⟨a.1.trans b.1, fun c h => (b.2 c h).elim (a.2 c) .inr⟩
/-- both grow, by what is new -/
structure Ext (R H R' H' : Hp) : Prop where
  r : Same R R'
  s : Same R' H'
  h : Same H H'
  n : ∀ b, R' b ≠ none → R b ≠ none ∨ H b = none
section
variable {K : PySem.W.Frag} {ct : CT} {H0 R R' H H' : Hp} {ms : List Nat} {vp : Nat → V} {ρ : Env} {σ : L2.St}
theorem Ext.refl (s : Same R H) : Ext R H R H := ⟨Same.refl _, s, Same.refl _, fun _ h => .inl h⟩
theorem Ext.trans {R2 H2 : Hp} (a : Ext R H R' H') (b : Ext R' H' R2 H2) : Ext R H R2 H2 := ⟨a.r.trans b.r, b.s, a.h.trans b.h, fun c h => by
  rcases b.n c h with h | h
  · exact a.n c h
  · exact .inr (a.h.free h)⟩
theorem Ext.gr (e : Ext R H R' H') (k : Same H0 H) : Gr H0 R R' := ⟨e.r, fun b h => (e.n b h).imp id fun z => k.free z⟩
theorem Ext.new {p : Addr} {o : HO} (s : Same R H) (hp : H p = none) : Ext R H (upd R p o) (upd H p o) := by
  have hr : R p = none := s.free hp
  refine ⟨fun a u h => ?_, fun a u h => ?_, fun a u h => ?_, fun b h => ?_⟩
  · rw [upd_ne (ne_of_none h hr)]; exact h
  · by_cases e : a = p
    · subst e; rw [upd_same] at h ⊢; exact h
    · rw [upd_ne e] at h ⊢; exact s _ _ h
  · rw [upd_ne (ne_of_none h hp)]; exact h
  · by_cases e : b = p
    · subst e; exact .inr hp
    · rw [upd_ne e] at h; exact .inl h
theorem Ext.heap {p : Addr} {o : HO} (s : Same R H) (hp : H p = none) : Ext R H R (upd H p o) := by
  have k : Same H (upd H p o) := fun a u h => by rw [upd_ne (ne_of_none h hp)]; exact h
  exact ⟨Same.refl _, s.trans k, k, fun _ h => .inl h⟩
theorem Ok.ext (ok : Ok K ct H0 ms vp ρ σ R H) (e : Ext R H R' H') : Ok K ct H0 ms vp ρ σ R' H' := by
  obtain ⟨s, k, iv, l, p, F, f1, f2, f3⟩ := ok
  refine ⟨e.s, k.trans e.h, ct.mono _ _ e.r iv, l, p, F, fun i d h => ?_, f2, fun i b h => ?_⟩
  · obtain ⟨v, a, o⟩ := f1 i d h
    exact ⟨v, a, (o.monoR e.r).monoH fun b x _ q => e.h b x q⟩
  · obtain ⟨a, b', c⟩ := f3 i b h
    refine ⟨?_, fun z => b' (e.h.free z), c⟩
    cases q : R' b with
    | none => rfl
    | some x =>
      rcases e.n b (by rw [q]; exact Option.some_ne_none x) with z | z
      · exact absurd a z
      · exact absurd z b'
/-- a slot that holds nothing that may be written -/
theorem Ok.slot (ok : Ok K ct H0 ms vp ρ σ R H) {i : Nat} {d : D} (h : ρ[i]? = some (some d)) (o : d.isO = false) : ∃ v, σ[i]? = some (some v) ∧ Rep K ct.b R v d := by
  obtain ⟨F, f1, _, _⟩ := ok.own
  obtain ⟨v, a, w⟩ := f1 i d h
  exact ⟨v, a, w.rep o⟩
/-- a slot's content is never written again from here on -/
theorem Ok.freeze (ok : Ok K ct H0 ms vp ρ σ R H) {i : Nat} {d : D} (h : ρ[i]? = some (some d)) :
    ∃ v R', σ[i]? = some (some v) ∧ Gr H0 R R' ∧ Rep K ct.b R' v d.fz ∧ Ok K ct H0 ms vp (ρ.set i (some d.fz)) σ R' H := by
  obtain ⟨s, k, iv, l, p, F, f1, f2, f3⟩ := ok
  obtain ⟨v, a, w⟩ := f1 i d h
  classical
  have eR : ∀ b o, R b = some o → (if F i b then H b else R b) = some o := fun b o q => by
    by_cases z : F i b
    · rw [(f3 i b z).1] at q; cases q
    · rw [if_neg z]; exact q
  have eF : ∀ b, F i b → (if F i b then H b else R b) = H b := fun b z => if_pos z
  have rp : Rep K ct.b (fun b => if F i b then H b else R b) v d.fz := w.froze eR eF
  refine ⟨v, fun b => if F i b then H b else R b, a, ⟨eR, fun b q => ?_⟩, rp, ?_⟩
  · by_cases z : F i b
    · exact .inr (f3 i b z).2.2
    · dsimp only at q; rw [if_neg z] at q; exact .inl q
  refine ⟨fun b o q => ?_, k, ct.mono _ _ eR iv, by simpa using l, p, fun j b => j ≠ i ∧ F j b, fun j e q => ?_, fun j j' b ne x y => f2 j j' b ne x.2 y.2, fun j b q => ?_⟩
  · by_cases z : F i b
    · simpa [z] using q
    · try dsimp only at q
      rw [if_neg z] at q; exact s b o q
  · by_cases z : j = i
    · subst z
      have hj : j < ρ.length := (List.getElem?_eq_some_iff.mp h).1
      rw [List.getElem?_set_self hj] at q
      cases q
      exact ⟨v, a, .fz rp⟩
    · rw [List.getElem?_set_ne (Ne.symm z)] at q
      obtain ⟨u, x, y⟩ := f1 j e q
      exact ⟨u, x, (y.monoR eR).monoF fun b g => ⟨z, g⟩⟩
  · obtain ⟨x, y, z⟩ := f3 j b q.2
    refine ⟨?_, y, z⟩
    try dsimp only
    rw [if_neg (f2 j i b q.1 q.2)]
    exact x
/-- a value at the end is never written again from here on -/
theorem Ok.froze {v : V} {d : D} (ok : Ok K ct H0 ms vp (ρ ++ [some d]) (σ ++ [some v]) R H) (l : σ.length = ρ.length) : ∃ R', Gr H0 R R' ∧ Rep K ct.b R' v d.fz ∧ Ok K ct H0 ms vp (ρ ++ [some d.fz]) (σ ++ [some v]) R' H := by
  obtain ⟨v', R', a, g, r, o⟩ := ok.freeze (i := ρ.length) (d := d) (by simp)
  have e : v' = v := by
    rw [← l] at a
    simpa using a.symm
  subst e
  refine ⟨R', g, r, ?_⟩
  simpa [List.set_append] using o
end
end Y

namespace Y
open PySem PySem.Spec PyProof.Rows L2
/-- what comes of a piece: a value and the slots; an error of the class c with its field; no answer -/
inductive Res (α : Type) where
  | ok (a : α) (ρ : Env)
  | ex (c : Nat) (x : Option D) (ρ : Env)
  | st
abbrev M (α : Type) := Env → Res α
def mP {α : Type} (a : α) : M α := fun ρ => .ok a ρ
def mB {α β : Type} (f : M α) (g : α → M β) : M β := fun ρ => match f ρ with
  | .ok a ρ1 => g a ρ1
  | .ex c x ρ1 => .ex c x ρ1
  | .st => .st
def mO {α : Type} : Option α → M α
  | some a => fun ρ => .ok a ρ
  | none => fun _ => .st
inductive Out where
  | nx (ρ : Env) | rt (d : D) (ρ : Env) | bk (ρ : Env) | ct (ρ : Env) | ex (c : Nat) (x : Option D) (ρ : Env) | st
inductive Ans where
  | ok (d : D) (w : List D) | ex (c : Nat) (x : Option D) (w : List D) | st
abbrev Stm := Env → Out
def XOk (K : PySem.W.Frag) (ct : CTB) (R : Hp) (c : Nat) (x : Option D) (od : Option Addr) : Prop := match x with
  | none => od = none
  | some d => ∃ dd v, od = some dd ∧ R dd = some (.xd [(ct.fld c, v)]) ∧ Rep K ct R v d
section
variable (K : PySem.W.Frag) (ct : CT) (ms : List Nat) (vp : Nat → V) (W : WX)
/-- what is owed for what comes: for a value Post, for an error the way out -/
def Po {α : Type} (H0 : Hp) (σ : L2.St) (R : Hp) (Post : α → Env → Prop) : Res α → Prop
  | .ok a ρ' => Post a ρ'
  | .ex c x ρ' => ∀ od R' H', Gr H0 R R' → Ok K ct H0 ms vp ρ' σ R' H' → XOk K ct.b R' c x od → W (.ref (ct.b.err c)) od σ H'
  | .st => False
/-- the piece t answers as f says: a value of one's own -/
def SimE (t : TE) (f : M D) : Prop := ∀ H0 ρ σ R H, Ok K ct H0 ms vp ρ σ R H → ∀ Q : VK, Po K ct ms vp W H0 σ R (fun d ρ' => ∀ v R' H', Gr H0 R R' → Ok K ct H0 ms vp (ρ' ++ [some d]) (σ ++ [some v]) R' H' → ρ'.length = σ.length → Q v H') (f ρ) → t σ H Q
/-- .. a value that is never written again -/
def SimF (t : TE) (f : M D) : Prop := ∀ H0 ρ σ R H, Ok K ct H0 ms vp ρ σ R H → ∀ Q : VK, Po K ct ms vp W H0 σ R (fun d ρ' => ∀ v R' H', Gr H0 R R' → Ok K ct H0 ms vp ρ' σ R' H' → Rep K ct.b R' v d → Q v H') (f ρ) → t σ H Q
def SimT (t : TT) (f : M Bool) : Prop := ∀ H0 ρ σ R H, Ok K ct H0 ms vp ρ σ R H → ∀ Q : Bool → Hp → Prop, Po K ct ms vp W H0 σ R (fun b ρ' => ∀ R' H', Gr H0 R R' → Ok K ct H0 ms vp ρ' σ R' H' → Q b H') (f ρ) → t σ H Q
def SimA (t : TA) (f : M (List D)) : Prop := ∀ H0 ρ σ R H, Ok K ct H0 ms vp ρ σ R H → ∀ Q : List V → Hp → Prop, Po K ct ms vp W H0 σ R (fun ds ρ' => ∀ vs R' H', Gr H0 R R' → Ok K ct H0 ms vp ρ' σ R' H' → Reps K ct.b R' vs ds → Q vs H') (f ρ) → t σ H Q
def PoS (H0 : Hp) (R : Hp) (D' : Ends) : Out → Prop
  | .nx ρ' => ∀ σ' R' H', Gr H0 R R' → Ok K ct H0 ms vp ρ' σ' R' H' → D'.nx σ' H'
  | .rt d ρ' => ∀ v σ' R' H', Gr H0 R R' → Ok K ct H0 ms vp (ρ' ++ [some d]) (σ' ++ [some v]) R' H' → ρ'.length = σ'.length → D'.rt v H'
  | .bk ρ' => ∀ σ' R' H', Gr H0 R R' → Ok K ct H0 ms vp ρ' σ' R' H' → D'.bk σ' H'
  | .ct ρ' => ∀ σ' R' H', Gr H0 R R' → Ok K ct H0 ms vp ρ' σ' R' H' → D'.ct σ' H'
  | .ex c x ρ' => ∀ od σ' R' H', Gr H0 R R' → Ok K ct H0 ms vp ρ' σ' R' H' → XOk K ct.b R' c x od → W (.ref (ct.b.err c)) od σ' H'
  | .st => False
def SimS (t : TS) (g : Stm) : Prop := ∀ H0 ρ σ R H, Ok K ct H0 ms vp ρ σ R H → ∀ D', PoS K ct ms vp W H0 R D' (g ρ) → t D' σ H
end
section
variable (K : PySem.W.Frag) (ct : CTB)
/-- an operator by what its values are -/
def OpF (r : R2) (op : D → D → Option D) : Prop := ∀ R H x y dx dy, Same R H → Rep K ct R x dx → Rep K ct R y dy → ∀ Q : VK, (match op dx dy with
  | some d => ∀ v R' H', Ext R H R' H' → Rep K ct R' v d → Q v H'
  | none => False) → r x y H Q
/-- .. that lays a list -/
def OpL (r : R2) (op : D → D → Option (List D)) : Prop := ∀ R H x y dx dy, Same R H → Rep K ct R x dx → Rep K ct R y dy → ∀ Q : VK, (match op dx dy with
  | some ds => ∀ p vs, H p = none → Reps K ct R vs ds → Q (.ref p) (upd H p (.lst vs))
  | none => False) → r x y H Q
/-- a built-in function -/
def CbF (r : List V → Hp → VK → Prop) (op : List D → Option D) : Prop := ∀ R H vs ds, Same R H → Reps K ct R vs ds → ∀ Q : VK, (match op ds with
  | some d => ∀ v R' H', Ext R H R' H' → Rep K ct R' v d → Q v H'
  | none => False) → r vs H Q
def CbL (r : List V → Hp → VK → Prop) (op : List D → Option (List D)) : Prop := ∀ R H vs ds, Same R H → Reps K ct R vs ds → ∀ Q : VK, (match op ds with
  | some es => ∀ p ws, H p = none → Reps K ct R ws es → Q (.ref p) (upd H p (.lst ws))
  | none => False) → r vs H Q
def UnF (r : V → Hp → VK → Prop) (op : D → Option D) : Prop := ∀ R H x dx, Same R H → Rep K ct R x dx → ∀ Q : VK, (match op dx with
  | some d => ∀ v R' H', Ext R H R' H' → Rep K ct R' v d → Q v H'
  | none => False) → r x H Q
end
section
variable {K : PySem.W.Frag} {ct : CT} {ms : List Nat} {W : WX} {H0 R R' H H' : Hp} {vp : Nat → V} {ρ : Env} {σ : L2.St}
theorem XOk.mono {c : Nat} {x : Option D} {od : Option Addr} (h : XOk K ct.b R c x od) (e : Same R R') : XOk K ct.b R' c x od := by
  cases x with
  | none => exact h
  | some d =>
    obtain ⟨dd, v, a, b, r⟩ := h
    exact ⟨dd, v, a, e _ _ b, r.mono e⟩
/-! weakening by a step that has been taken -/
theorem Po.bind {α β : Type} {f : M α} {g : α → M β} {Post : β → Env → Prop} (h : Po K ct ms vp W H0 σ R Post (mB f g ρ)) : Po K ct ms vp W H0 σ R (fun a ρ1 => Po K ct ms vp W H0 σ R Post (g a ρ1)) (f ρ) := by
  unfold mB at h
  cases e : f ρ with
  | ok a ρ1 => rw [e] at h; exact h
  | ex c x ρ1 => rw [e] at h; exact h
  | st => rw [e] at h; exact h
theorem Po.gr {α : Type} {Post Post' : α → Env → Prop} {o : Res α} (g : Gr H0 R R') (h : Po K ct ms vp W H0 σ R Post o) (m : ∀ a ρ', Post a ρ' → Post' a ρ') : Po K ct ms vp W H0 σ R' Post' o := by
  cases o with
  | ok a ρ' => exact m a ρ' h
  | ex c x ρ' => exact fun od R2 H2 g2 o l => h od R2 H2 (g.trans g2) o l
  | st => exact h
theorem Po.mono {α : Type} {Post Post' : α → Env → Prop} {o : Res α} (h : Po K ct ms vp W H0 σ R Post o) (m : ∀ a ρ', Post a ρ' → Post' a ρ') : Po K ct ms vp W H0 σ R Post' o := h.gr (Gr.refl _ _) m
theorem Po.opt {α : Type} {Post : α → Env → Prop} {x : Option α} (h : Po K ct ms vp W H0 σ R Post (mO x ρ)) : ∃ a, x = some a ∧ Post a ρ := by
  cases x with
  | none => exact h.elim
  | some a => exact ⟨a, rfl, h⟩
theorem PoS.gr {D' : Ends} {o : Out} (g : Gr H0 R R') (h : PoS K ct ms vp W H0 R D' o) : PoS K ct ms vp W H0 R' D' o := by
  cases o with
  | nx ρ' => exact fun s R2 H2 g2 o => h s R2 H2 (g.trans g2) o
  | bk ρ' => exact fun s R2 H2 g2 o => h s R2 H2 (g.trans g2) o
  | ct ρ' => exact fun s R2 H2 g2 o => h s R2 H2 (g.trans g2) o
  | rt d ρ' => exact fun v s R2 H2 g2 o => h v s R2 H2 (g.trans g2) o
  | ex c x ρ' => exact fun od s R2 H2 g2 o l => h od s R2 H2 (g.trans g2) o l
  | st => exact h
/-! ends of values -/
theorem Ok.temp (ok : Ok K ct H0 ms vp ρ σ R H) {v : V} {d : D} (r : Rep K ct.b R v d) : Ok K ct H0 ms vp (ρ ++ [some d]) (σ ++ [some v]) R H := by
  obtain ⟨s, k, iv, l, p, F, f1, f2, f3⟩ := ok
  refine ⟨s, k, iv, by simp [l], fun i hi => ?_, fun i b => i < ρ.length ∧ F i b, fun i e h => ?_, fun i j b ne x y => f2 i j b ne x.2 y.2, fun i b h => f3 i b h.2⟩
  · have q := p i hi
    have z : i < σ.length := (List.getElem?_eq_some_iff.mp q).1
    rw [List.getElem?_append_left z]
    exact q
  · by_cases z : i < ρ.length
    · rw [List.getElem?_append_left z] at h
      obtain ⟨u, a, b⟩ := f1 i e h
      exact ⟨u, by rw [List.getElem?_append_left (by rw [l]; exact z)]; exact a, b.monoF fun c g => ⟨z, g⟩⟩
    · have z2 : i = ρ.length := by
        have := (List.getElem?_eq_some_iff.mp h).1
        simp at this
        omega
      subst z2
      have : d = e := by simpa using h
      subst this
      exact ⟨v, by rw [← l]; simp, .fz r⟩
theorem Ok.pop {x : Option D} {y : Option V} (ok : Ok K ct H0 ms vp (ρ ++ [x]) (σ ++ [y]) R H) (l : ρ.length = σ.length) (hm : ∀ i ∈ ms, i < σ.length) : Ok K ct H0 ms vp ρ σ R H := by
  obtain ⟨s, k, iv, _, p, F, f1, f2, f3⟩ := ok
  refine ⟨s, k, iv, l.symm, fun i hi => ?_, F, fun i e h => ?_, f2, f3⟩
  · have q := p i hi
    rw [List.getElem?_append_left (hm i hi)] at q
    exact q
  · have z : i < ρ.length := (List.getElem?_eq_some_iff.mp h).1
    obtain ⟨u, a, b⟩ := f1 i e (by rw [List.getElem?_append_left z]; exact h)
    rw [List.getElem?_append_left (by omega)] at a
    exact ⟨u, a, b⟩
theorem Ok.mslt (ok : Ok K ct H0 ms vp ρ σ R H) : ∀ i ∈ ms, i < σ.length := fun i hi => (List.getElem?_eq_some_iff.mp (ok.pins i hi)).1
theorem Ok.gr (ok : Ok K ct H0 ms vp ρ σ R H) (e : Ext R H R' H') : Gr H0 R R' := e.gr ok.keep
def frz (f : M D) : M D := mB f fun d => mP d.fz
theorem SimE.toF {t : TE} {f : M D} (h : SimE K ct ms vp W t f) : SimF K ct ms vp W t (frz f) := fun H0 ρ σ R H ok Q q => by
  refine h H0 ρ σ R H ok Q (Po.mono (Po.bind q) fun d ρ' q v R' H' g ok' l => ?_)
  obtain ⟨R2, g2, r, ok2⟩ := ok'.froze l.symm
  exact q v R2 H' (g.trans g2) (ok2.pop l ok.mslt) r
theorem SimF.toE {t : TE} {f : M D} (h : SimF K ct ms vp W t f) : SimE K ct ms vp W t f := fun H0 ρ σ R H ok Q q =>
  h H0 ρ σ R H ok Q (Po.mono q fun d ρ' q v R' H' g ok' r => q v R' H' g (ok'.temp r) ok'.len.symm)
/-! names and constants -/
def mVar (i : Nat) : M D := fun ρ => match ρ[i]? with
  | some (some d) => if d.isO = true then .ok d.fz (ρ.set i (some d.fz)) else .ok d ρ
  | _ => .st
theorem sim_var {i : Nat} : SimF K ct ms vp W (tVar i) (mVar i) := fun H0 ρ σ R H ok Q q => by
  unfold mVar at q
  split at q
  · rename_i d hd
    by_cases o : d.isO = true
    · rw [if_pos o] at q
      obtain ⟨v, R', a, g, r, ok'⟩ := ok.freeze hd
      exact ⟨v, a, q v R' H g ok' r⟩
    · rw [if_neg o] at q
      obtain ⟨v, a, r⟩ := ok.slot hd (by simpa using o)
      exact ⟨v, a, q v R H (Gr.refl _ _) ok r⟩
  · exact q.elim
theorem sim_c {v : V} {d : D} (r : ∀ R, Rep K ct.b R v d) : SimF K ct ms vp W (tC v) (mP d) := fun H0 ρ σ R H ok Q q => q v R H (Gr.refl _ _) ok (r R)
/-! operators -/
def mOp (op : D → D → Option D) (f g : M D) : M D := mB f fun x => mB g fun y => mO (op x y)
def mOpL (op : D → D → Option (List D)) (f g : M D) : M D := mB f fun x => mB g fun y => mB (mO (op x y)) fun ds => mP (.ols ds)
/-- a new list of one's own -/
theorem Ok.list (ok : Ok K ct H0 ms vp ρ σ R H) {p : Addr} {vs : List V} {ds : List D} (hp : H p = none) (r : Reps K ct.b R vs ds) : Ok K ct H0 ms vp (ρ ++ [some (.ols ds)]) (σ ++ [some (.ref p)]) R (upd H p (.lst vs)) := by
  have ex := Ext.heap (o := .lst vs) ok.same hp
  obtain ⟨s, k, iv, l, pi, F, f1, f2, f3⟩ := ok
  have h0 : H0 p = none := k.free hp
  have fr : R p = none := s.free hp
  have np : ∀ i b, F i b → b ≠ p := fun i b g z => (f3 i b g).2.1 (z ▸ hp)
  refine ⟨ex.s, k.trans ex.h, iv, by simp [l], fun i hi => ?_, fun i b => (i < ρ.length ∧ F i b) ∨ (i = ρ.length ∧ b = p), fun i e h => ?_, fun i j b ne x y => ?_, fun i b h => ?_⟩
  · have q := pi i hi
    have z : i < σ.length := (List.getElem?_eq_some_iff.mp q).1
    rw [List.getElem?_append_left z]
    exact q
  · by_cases z : i < ρ.length
    · rw [List.getElem?_append_left z] at h
      obtain ⟨u, a, b⟩ := f1 i e h
      refine ⟨u, by rw [List.getElem?_append_left (by rw [l]; exact z)]; exact a, ?_⟩
      exact (b.monoH fun c o g q => ex.h c o q).monoF fun c g => .inl ⟨z, g⟩
    · have z2 : i = ρ.length := by
        have := (List.getElem?_eq_some_iff.mp h).1
        simp at this
        omega
      subst z2
      have : D.ols ds = e := by simpa using h
      subst this
      exact ⟨.ref p, by rw [← l]; simp, .flat upd_same (.inr ⟨rfl, rfl⟩) r⟩
  · rcases x with x | x <;> rcases y with y | y
    · exact f2 i j b ne x.2 y.2
    · exact np i b x.2 y.2
    · exact np j b y.2 x.2
    · exact ne (x.1.trans y.1.symm)
  · rcases h with h | h
    · obtain ⟨a, b', c⟩ := f3 i b h.2
      exact ⟨a, fun z => b' (ex.h.free z), c⟩
    · obtain ⟨_, rfl⟩ := h
      exact ⟨fr, by rw [upd_same]; exact Option.some_ne_none _, h0⟩
/-! how pieces follow one another -/
theorem sim_op {r : R2} {op : D → D → Option D} {ta tb : TE} {f g : M D} (ho : OpF K ct.b r op) (hf : SimF K ct ms vp W ta f) (hg : SimF K ct ms vp W tb g) : SimF K ct ms vp W (tOp r ta tb) (mOp op f g) := fun H0 ρ σ R H ok Q q =>
  hf H0 ρ σ R H ok _ (Po.mono (Po.bind q) fun d ρ1 q v R1 H1 g1 ok1 r1 =>
    hg H0 ρ1 σ R1 H1 ok1 _ (Po.gr g1 (Po.bind q) fun d2 ρ2 q v2 R2 H2 g2 ok2 r2 => by
      obtain ⟨d3, e, q⟩ := Po.opt q
      exact ho R2 H2 v v2 d d2 ok2.same (r1.mono g2.1) r2 Q (by rw [e]; exact fun v3 R3 H3 x r3 => q v3 R3 H3 ((g1.trans g2).trans (ok2.gr x)) (ok2.ext x) r3)))
theorem sim_opL {r : R2} {op : D → D → Option (List D)} {ta tb : TE} {f g : M D} (ho : OpL K ct.b r op) (hf : SimF K ct ms vp W ta f) (hg : SimF K ct ms vp W tb g) : SimE K ct ms vp W (tOp r ta tb) (mOpL op f g) := fun H0 ρ σ R H ok Q q =>
  hf H0 ρ σ R H ok _ (Po.mono (Po.bind q) fun d ρ1 q v R1 H1 g1 ok1 r1 =>
    hg H0 ρ1 σ R1 H1 ok1 _ (Po.gr g1 (Po.bind q) fun d2 ρ2 q v2 R2 H2 g2 ok2 r2 => by
      obtain ⟨d3, e, q⟩ := Po.opt (Po.bind q)
      exact ho R2 H2 v v2 d d2 ok2.same (r1.mono g2.1) r2 Q (by rw [e]; exact fun p vs hp r3 => q (.ref p) R2 _ (g1.trans g2) (ok2.list hp r3) ok2.len.symm)))
def mUn (op : D → Option D) (f : M D) : M D := mB f fun x => mO (op x)
theorem sim_un {r : V → Hp → VK → Prop} {op : D → Option D} {ta : TE} {f : M D} (ho : UnF K ct.b r op) (hf : SimF K ct ms vp W ta f) : SimF K ct ms vp W (tUn r ta) (mUn op f) := fun H0 ρ σ R H ok Q q =>
  hf H0 ρ σ R H ok _ (Po.mono (Po.bind q) fun d ρ1 q v R1 H1 g1 ok1 r1 => by
    obtain ⟨d3, e, q⟩ := Po.opt q
    exact ho R1 H1 v d ok1.same r1 Q (by rw [e]; exact fun v3 R3 H3 x r3 => q v3 R3 H3 (g1.trans (ok1.gr x)) (ok1.ext x) r3))
/-! arguments -/
def mNil : M (List D) := mP []
def mCons (f : M D) (g : M (List D)) : M (List D) := mB f fun x => mB g fun xs => mP (x :: xs)
theorem sim_nil : SimA K ct ms vp W tNil mNil := fun H0 ρ σ R H ok Q q => q [] R H (Gr.refl _ _) ok .nil
theorem sim_cons {ta : TE} {tr : TA} {f : M D} {g : M (List D)} (hf : SimF K ct ms vp W ta f) (hg : SimA K ct ms vp W tr g) : SimA K ct ms vp W (tCons ta tr) (mCons f g) := fun H0 ρ σ R H ok Q q =>
  hf H0 ρ σ R H ok _ (Po.mono (Po.bind q) fun d ρ1 q v R1 H1 g1 ok1 r1 =>
    hg H0 ρ1 σ R1 H1 ok1 _ (Po.gr g1 (Po.bind q) fun ds ρ2 q vs R2 H2 g2 ok2 r2 =>
      q (v :: vs) R2 H2 (g1.trans g2) ok2 (r2.cons (r1.mono g2.1))))
def szok (n : Nat) : Option Unit := if n ≤ 100000 then some () else none
theorem szok_le {n : Nat} {u : Unit} (h : szok n = some u) : n ≤ sizeLine := by
  unfold szok at h
  split at h
  · exact Nat.le_trans ‹_› (by decide)
  · cases h
theorem szok_lt {n : Nat} {u : Unit} (h : szok n = some u) : n < sizeLine := by
  unfold szok at h
  split at h
  · exact Nat.lt_of_le_of_lt ‹_› (by decide)
  · cases h
theorem szok_of {n : Nat} (h : n ≤ 100000) : szok n = some () := if_pos h
def mLst (g : M (List D)) : M D := mB g fun ds => mB (mO (szok ds.length)) fun _ => mP (.ols ds)
theorem sim_lst {t : TA} {g : M (List D)} (hg : SimA K ct ms vp W t g) : SimE K ct ms vp W (tLst t) (mLst g) := fun H0 ρ σ R H ok Q q =>
  hg H0 ρ σ R H ok _ (Po.mono (Po.bind q) fun ds ρ1 q vs R1 H1 g1 ok1 r1 => by
    obtain ⟨u, e, q⟩ := Po.opt (Po.bind q)
    exact ⟨by rw [r1.1]; exact szok_le e, fun p hp => q (.ref p) R1 _ g1 (ok1.list hp r1) ok1.len.symm⟩)
def mTup (g : M (List D)) : M D := mB g fun ds => mB (mO (szok ds.length)) fun _ => mP (.tup ds)
theorem sim_tup {t : TA} {g : M (List D)} (hg : SimA K ct ms vp W t g) : SimF K ct ms vp W (tTup t) (mTup g) := fun H0 ρ σ R H ok Q q =>
  hg H0 ρ σ R H ok _ (Po.mono (Po.bind q) fun ds ρ1 q vs R1 H1 g1 ok1 r1 => by
    obtain ⟨u, e, q⟩ := Po.opt (Po.bind q)
    refine ⟨by rw [r1.1]; exact szok_le e, fun p hp => ?_⟩
    have x := Ext.new (o := .tup vs) ok1.same hp
    exact q (.ref p) _ _ (g1.trans (ok1.gr x)) (ok1.ext x) (.tup (.inl (.inl upd_same)) r1.1 (r1.mono x.r).2))
/-! built-in functions -/
def mCb (op : List D → Option D) (g : M (List D)) : M D := mB g fun ds => mO (op ds)
def mCbL (op : List D → Option (List D)) (g : M (List D)) : M D := mB g fun ds => mB (mO (op ds)) fun es => mP (.ols es)
theorem sim_cb {r : List V → Hp → VK → Prop} {op : List D → Option D} {t : TA} {g : M (List D)} (ho : CbF K ct.b r op) (hg : SimA K ct ms vp W t g) : SimF K ct ms vp W (tCB r t) (mCb op g) := fun H0 ρ σ R H ok Q q =>
  hg H0 ρ σ R H ok _ (Po.mono (Po.bind q) fun ds ρ1 q vs R1 H1 g1 ok1 r1 => by
    obtain ⟨d, e, q⟩ := Po.opt q
    exact ho R1 H1 vs ds ok1.same r1 Q (by rw [e]; exact fun v3 R3 H3 x r3 => q v3 R3 H3 (g1.trans (ok1.gr x)) (ok1.ext x) r3))
theorem sim_cbL {r : List V → Hp → VK → Prop} {op : List D → Option (List D)} {t : TA} {g : M (List D)} (ho : CbL K ct.b r op) (hg : SimA K ct ms vp W t g) : SimE K ct ms vp W (tCB r t) (mCbL op g) := fun H0 ρ σ R H ok Q q =>
  hg H0 ρ σ R H ok _ (Po.mono (Po.bind q) fun ds ρ1 q vs R1 H1 g1 ok1 r1 => by
    obtain ⟨d, e, q⟩ := Po.opt (Po.bind q)
    exact ho R1 H1 vs ds ok1.same r1 Q (by rw [e]; exact fun p ws hp r3 => q (.ref p) R1 _ g1 (ok1.list hp r3) ok1.len.symm))
/-! tests -/
def asB : D → Option Bool
  | .bl b => some b
  | _ => none
theorem asB_some {d : D} {b : Bool} (h : asB d = some b) : d = .bl b := by
  cases d <;> simp [asB] at h
  rw [h]
def mTest (f : M D) : M Bool := mB f fun d => mO (asB d)
theorem sim_test {t : TE} {f : M D} (hf : SimF K ct ms vp W t f) : SimT K ct ms vp W (tTest t) (mTest f) := fun H0 ρ σ R H ok Q q =>
  hf H0 ρ σ R H ok _ (Po.mono (Po.bind q) fun d ρ1 q v R1 H1 g1 ok1 r1 => by
    obtain ⟨b, e, q⟩ := Po.opt q
    cases asB_some e
    exact ⟨b, r1.bl_inv, q R1 H1 g1 ok1⟩)
theorem sim_B {t : TE} {f : M D} (hf : SimF K ct ms vp W t f) : SimT K ct ms vp W (tB t) (mTest f) := sim_test hf
def mAnd (f g : M Bool) : M Bool := mB f fun b => if b = true then g else mP false
def mOr (f g : M Bool) : M Bool := mB f fun b => if b = true then mP true else g
def mNot (f : M Bool) : M Bool := mB f fun b => mP (!b)
theorem sim_and {t u : TT} {f g : M Bool} (hf : SimT K ct ms vp W t f) (hg : SimT K ct ms vp W u g) : SimT K ct ms vp W (tAnd t u) (mAnd f g) := fun H0 ρ σ R H ok Q q =>
  hf H0 ρ σ R H ok _ (Po.mono (Po.bind q) fun b ρ1 q R1 H1 g1 ok1 => by
    cases b with
    | true => exact hg H0 ρ1 σ R1 H1 ok1 _ (Po.gr g1 q fun b ρ2 q R2 H2 g2 ok2 => q R2 H2 (g1.trans g2) ok2)
    | false => exact q R1 H1 g1 ok1)
theorem sim_or {t u : TT} {f g : M Bool} (hf : SimT K ct ms vp W t f) (hg : SimT K ct ms vp W u g) : SimT K ct ms vp W (tOr t u) (mOr f g) := fun H0 ρ σ R H ok Q q =>
  hf H0 ρ σ R H ok _ (Po.mono (Po.bind q) fun b ρ1 q R1 H1 g1 ok1 => by
    cases b with
    | false => exact hg H0 ρ1 σ R1 H1 ok1 _ (Po.gr g1 q fun b ρ2 q R2 H2 g2 ok2 => q R2 H2 (g1.trans g2) ok2)
    | true => exact q R1 H1 g1 ok1)
theorem sim_not {t : TT} {f : M Bool} (hf : SimT K ct ms vp W t f) : SimT K ct ms vp W (tNot t) (mNot f) := fun H0 ρ σ R H ok Q q =>
  hf H0 ρ σ R H ok _ (Po.mono (Po.bind q) fun b ρ1 q R1 H1 g1 ok1 => q R1 H1 g1 ok1)
def mAndV (f g : M D) : M D := mB (mTest f) fun b => if b = true then g else mP (.bl false)
def mOrV (f g : M D) : M D := mB (mTest f) fun b => if b = true then mP (.bl true) else g
def mNotV (f : M D) : M D := mB (mTest f) fun b => mP (.bl (!b))
theorem sim_andV {t u : TE} {f g : M D} (hf : SimF K ct ms vp W t f) (hg : SimF K ct ms vp W u g) : SimF K ct ms vp W (tAndV t u) (mAndV f g) := fun H0 ρ σ R H ok Q q =>
  hf H0 ρ σ R H ok _ (Po.mono (Po.bind (Po.bind q)) fun d ρ1 q v R1 H1 g1 ok1 r1 => by
    obtain ⟨b, e, q⟩ := Po.opt q
    cases asB_some e
    refine ⟨b, r1.bl_inv, ?_⟩
    cases b with
    | true => exact hg H0 ρ1 σ R1 H1 ok1 _ (Po.gr g1 q fun b ρ2 q v2 R2 H2 g2 ok2 r2 => q v2 R2 H2 (g1.trans g2) ok2 r2)
    | false => exact q (.bl false) R1 H1 g1 ok1 (.bl _))
theorem sim_orV {t u : TE} {f g : M D} (hf : SimF K ct ms vp W t f) (hg : SimF K ct ms vp W u g) : SimF K ct ms vp W (tOrV t u) (mOrV f g) := fun H0 ρ σ R H ok Q q =>
  hf H0 ρ σ R H ok _ (Po.mono (Po.bind (Po.bind q)) fun d ρ1 q v R1 H1 g1 ok1 r1 => by
    obtain ⟨b, e, q⟩ := Po.opt q
    cases asB_some e
    refine ⟨b, r1.bl_inv, ?_⟩
    cases b with
    | false => exact hg H0 ρ1 σ R1 H1 ok1 _ (Po.gr g1 q fun b ρ2 q v2 R2 H2 g2 ok2 r2 => q v2 R2 H2 (g1.trans g2) ok2 r2)
    | true => exact q (.bl true) R1 H1 g1 ok1 (.bl _))
theorem sim_notV {t : TE} {f : M D} (hf : SimF K ct ms vp W t f) : SimF K ct ms vp W (tNotV t) (mNotV f) := fun H0 ρ σ R H ok Q q =>
  hf H0 ρ σ R H ok _ (Po.mono (Po.bind (Po.bind q)) fun d ρ1 q v R1 H1 g1 ok1 r1 => by
    obtain ⟨b, e, q⟩ := Po.opt q
    cases asB_some e
    exact ⟨b, r1.bl_inv, q (.bl (!b)) R1 H1 g1 ok1 (.bl _)⟩)
def mIf {α : Type} (c : M Bool) (f g : M α) : M α := mB c fun b => if b = true then f else g
theorem sim_if {c : TT} {t u : TE} {h : M Bool} {f g : M D} (hc : SimT K ct ms vp W c h) (hf : SimF K ct ms vp W t f) (hg : SimF K ct ms vp W u g) : SimF K ct ms vp W (tIf c t u) (mIf h f g) := fun H0 ρ σ R H ok Q q =>
  hc H0 ρ σ R H ok _ (Po.mono (Po.bind q) fun b ρ1 q R1 H1 g1 ok1 => by
    cases b with
    | true => exact hf H0 ρ1 σ R1 H1 ok1 _ (Po.gr g1 q fun b ρ2 q v2 R2 H2 g2 ok2 r2 => q v2 R2 H2 (g1.trans g2) ok2 r2)
    | false => exact hg H0 ρ1 σ R1 H1 ok1 _ (Po.gr g1 q fun b ρ2 q v2 R2 H2 g2 ok2 r2 => q v2 R2 H2 (g1.trans g2) ok2 r2))
theorem sim_ifE {c : TT} {t u : TE} {h : M Bool} {f g : M D} (hc : SimT K ct ms vp W c h) (hf : SimE K ct ms vp W t f) (hg : SimE K ct ms vp W u g) : SimE K ct ms vp W (tIf c t u) (mIf h f g) := fun H0 ρ σ R H ok Q q =>
  hc H0 ρ σ R H ok _ (Po.mono (Po.bind q) fun b ρ1 q R1 H1 g1 ok1 => by
    cases b with
    | true => exact hf H0 ρ1 σ R1 H1 ok1 _ (Po.gr g1 q fun b ρ2 q v2 R2 H2 g2 ok2 r2 => q v2 R2 H2 (g1.trans g2) ok2 r2)
    | false => exact hg H0 ρ1 σ R1 H1 ok1 _ (Po.gr g1 q fun b ρ2 q v2 R2 H2 g2 ok2 r2 => q v2 R2 H2 (g1.trans g2) ok2 r2))
def mChain (op op' : D → D → Option D) (f g h : M D) : M D := mB f fun x => mB g fun y => mB (mO ((op x y).bind asB)) fun b => if b = true then mB h fun z => mO (op' y z) else mP (.bl false)
theorem sim_chain {r r' : R2} {op op' : D → D → Option D} {ta tb tc : TE} {f g h : M D} (ho : OpF K ct.b r op) (ho' : OpF K ct.b r' op') (hf : SimF K ct ms vp W ta f) (hg : SimF K ct ms vp W tb g) (hh : SimF K ct ms vp W tc h) :
    SimF K ct ms vp W (tChain r r' ta tb tc) (mChain op op' f g h) := fun H0 ρ σ R H ok Q q =>
  hf H0 ρ σ R H ok _ (Po.mono (Po.bind q) fun d ρ1 q v R1 H1 g1 ok1 r1 =>
    hg H0 ρ1 σ R1 H1 ok1 _ (Po.gr g1 (Po.bind q) fun d2 ρ2 q v2 R2 H2 g2 ok2 r2 => by
      obtain ⟨b, e, q⟩ := Po.opt (Po.bind q)
      obtain ⟨d3, e3, e4⟩ := Option.bind_eq_some_iff.mp e
      cases asB_some e4
      refine ho R2 H2 v v2 d d2 ok2.same (r1.mono g2.1) r2 _ (by
        rw [e3]
        intro v3 R3 H3 x r3
        refine ⟨b, r3.bl_inv, ?_⟩
        have g3 := (g1.trans g2).trans (ok2.gr x)
        cases b with
        | false => exact q (.bl false) R3 H3 g3 (ok2.ext x) (.bl _)
        | true =>
          refine hh H0 ρ2 σ R3 H3 (ok2.ext x) _ (Po.gr g3 (Po.bind q) fun d4 ρ4 q v4 R4 H4 g4 ok4 r4 => ?_)
          obtain ⟨d5, e5, q⟩ := Po.opt q
          exact ho' R4 H4 v2 v4 d2 d4 ok4.same ((r2.mono x.r).mono g4.1) r4 Q (by rw [e5]; exact fun v5 R5 H5 x5 r5 => q v5 R5 H5 ((g3.trans g4).trans (ok4.gr x5)) (ok4.ext x5) r5))))
end
end Y

namespace Y
open PySem PySem.Spec PyProof.Rows L2
section
variable {K : PySem.W.Frag} {ct : CT} {ms : List Nat} {W : WX} {H0 R R' H H' : Hp} {vp : Nat → V} {ρ : Env} {σ : L2.St}
theorem sql0 {a : Addr} {xs : List V} (h : H a = some (.lst xs)) : SqL K H a xs := .inl (.inl h)
/-! ### a list of one's own in a slot -/
/-- what stands behind a slot that holds a list of one's own, and how it is written -/
theorem Ok.olst (ok : Ok K ct H0 ms vp ρ σ R H) {i : Nat} {ds : List D} (h : ρ[i]? = some (some (.ols ds))) :
    ∃ a vs, σ[i]? = some (some (.ref a)) ∧ H a = some (.lst vs) ∧ vs.length = ds.length ∧ (∀ (k : Nat) (v : V) (d : D), vs[k]? = some v → ds[k]? = some d → d.isO = false → Rep K ct.b R v d) ∧
      ∀ (vs' : List V) (ds' : List D) (src : Nat → Option Nat), vs'.length = ds'.length → (∀ k j, src k = some j → vs'[k]? = vs[j]? ∧ ds'[k]? = ds[j]?) →
        (∀ (k : Nat) (v : V) (d : D), src k = none → vs'[k]? = some v → ds'[k]? = some d → Rep K ct.b R v d) → (∀ k k' j, src k = some j → src k' = some j → k = k') →
        Ok K ct H0 ms vp (ρ.set i (some (.ols ds'))) σ R (upd H a (.lst vs')) := by
  obtain ⟨s, k, iv, l, p, F, f1, f2, f3⟩ := ok
  obtain ⟨v, hv, w⟩ := f1 i _ h
  cases w with
  | fz w => cases w
  | @ols _ a vs _ G ha hF hl hc hG hd =>
    refine ⟨a, vs, hv, ha, hl, fun k v d x y z => (hc k v d x y).rep z, fun vs' ds' src e1 e2 e3 e4 => ?_⟩
    obtain ⟨ra, _, h0a⟩ := f3 i a hF
    refine ⟨fun b o q => ?_, fun b o q => ?_, iv, by simpa using l, p, F, fun j d q => ?_, f2, fun j b q => ?_⟩
    · rw [upd_ne (ne_of_none q ra)]; exact s b o q
    · rw [upd_ne (ne_of_none q h0a)]; exact k b o q
    · by_cases z : j = i
      · subst z
        have hj : j < ρ.length := (List.getElem?_eq_some_iff.mp h).1
        rw [List.getElem?_set_self hj] at q
        cases q
        refine ⟨.ref a, hv, .ols (fun n b => ∃ m, src n = some m ∧ G m b) upd_same hF e1 (fun n v d x y => ?_) (fun n b ⟨m, _, g⟩ => hG m b g) fun n m b ne ⟨n', e, g⟩ ⟨m', e', g'⟩ => ?_⟩
        · cases q : src n with
          | none => exact .fz (e3 n v d q x y)
          | some m =>
            obtain ⟨t1, t2⟩ := e2 n m q
            refine ((hc m v d (t1 ▸ x) (t2 ▸ y)).monoH fun b o g q' => ?_).monoF fun b g => ⟨m, rfl, g⟩
            rw [upd_ne (hG m b g).2]
            exact q'
        · by_cases z : n' = m'
          · subst z; exact ne (e4 n m n' e e')
          · exact hd n' m' b z g g'
      · rw [List.getElem?_set_ne (Ne.symm z)] at q
        obtain ⟨u, x, y⟩ := f1 j d q
        refine ⟨u, x, y.monoH fun b o g q' => ?_⟩
        rw [upd_ne fun e => f2 j i b z g (by rw [e]; exact hF)]
        exact q'
    · obtain ⟨x, y, z⟩ := f3 j b q
      refine ⟨x, ?_, z⟩
      by_cases e : b = a
      · rw [e, upd_same]; exact Option.some_ne_none _
      · rw [upd_ne e]; exact y
theorem Ok.extL (ok : Ok K ct H0 ms vp ρ σ R H) {i : Nat} {ds : List D} (h : ρ[i]? = some (some (.ols ds))) :
    ∃ a vs, σ[i]? = some (some (.ref a)) ∧ H a = some (.lst vs) ∧ vs.length = ds.length ∧ ∀ (ws : List V) (es : List D), Reps K ct.b R ws es →
        Ok K ct H0 ms vp (ρ.set i (some (.ols (ds ++ es)))) σ R (upd H a (.lst (vs ++ ws))) := by
  obtain ⟨a, vs, x, y, l, _, put⟩ := ok.olst h
  refine ⟨a, vs, x, y, l, fun ws es r => put _ _ (fun k => if k < vs.length then some k else none) (by simp [l, r.1]) (fun k j e => ?_) (fun k v d e e1 e2 => ?_) fun k k' j e e' => ?_⟩
  · split at e
    · cases e
      exact ⟨List.getElem?_append_left (by assumption), List.getElem?_append_left (by omega)⟩
    · cases e
  · split at e
    · cases e
    · rw [List.getElem?_append_right (by omega)] at e1
      rw [List.getElem?_append_right (by omega), ← l] at e2
      exact r.2 _ v d e1 e2
  · split at e <;> split at e' <;> cases e <;> cases e'
    rfl
theorem Ok.setL (ok : Ok K ct H0 ms vp ρ σ R H) {i : Nat} {ds : List D} (h : ρ[i]? = some (some (.ols ds))) :
    ∃ a vs, σ[i]? = some (some (.ref a)) ∧ H a = some (.lst vs) ∧ vs.length = ds.length ∧ ∀ (n : Nat) (w : V) (e : D), Rep K ct.b R w e →
        Ok K ct H0 ms vp (ρ.set i (some (.ols (ds.set n e)))) σ R (upd H a (.lst (vs.set n w))) := by
  obtain ⟨a, vs, x, y, l, _, put⟩ := ok.olst h
  refine ⟨a, vs, x, y, l, fun n w e r => put _ _ (fun k => if k = n then none else some k) (by simp [l]) (fun k j q => ?_) (fun k v d q e1 e2 => ?_) fun k k' j q q' => ?_⟩
  · split at q
    · cases q
    · cases q
      exact ⟨List.getElem?_set_ne (by omega), List.getElem?_set_ne (by omega)⟩
  · split at q
    · rename_i hk
      subst hk
      rw [List.getElem?_set] at e1 e2
      simp only [if_true] at e1 e2
      split at e1
      · split at e2
        · cases e1; cases e2; exact r
        · cases e2
      · cases e1
    · cases q
  · split at q <;> split at q' <;> cases q <;> cases q'
    rfl
theorem Ok.subL (ok : Ok K ct H0 ms vp ρ σ R H) {i : Nat} {ds : List D} (h : ρ[i]? = some (some (.ols ds))) :
    ∃ a vs, σ[i]? = some (some (.ref a)) ∧ H a = some (.lst vs) ∧ vs.length = ds.length ∧ (∀ (k : Nat) (v : V) (d : D), vs[k]? = some v → ds[k]? = some d → d.isO = false → Rep K ct.b R v d) ∧ (∀ n : Nat,
        Ok K ct H0 ms vp (ρ.set i (some (.ols (ds.take n)))) σ R (upd H a (.lst (vs.take n)))) ∧ ∀ n : Nat, Ok K ct H0 ms vp (ρ.set i (some (.ols (ds.eraseIdx n)))) σ R (upd H a (.lst (vs.eraseIdx n))) := by
  obtain ⟨a, vs, x, y, l, rd, put⟩ := ok.olst h
  refine ⟨a, vs, x, y, l, rd, fun n => put _ _ (fun k => if k < n then some k else none) (by simp [l]) (fun k j q => ?_) (fun k v d q e1 e2 => ?_) (fun k k' j q q' => ?_), fun n => put _ _ (fun k => if k < n then some k else some (k + 1)) (by simp [List.length_eraseIdx, l]) (fun k j q => ?_) (fun k v d q e1 e2 => ?_) fun k k' j q q' => ?_⟩
  · split at q
    · cases q
      rw [List.getElem?_take_of_lt (by assumption), List.getElem?_take_of_lt (by assumption)]
      exact ⟨rfl, rfl⟩
    · cases q
  · split at q
    · cases q
    · rw [List.getElem?_take, if_neg (by assumption)] at e1
      cases e1
  · split at q <;> split at q' <;> cases q <;> cases q'
    rfl
  · split at q
    · cases q
      rw [List.getElem?_eraseIdx_of_lt (by assumption), List.getElem?_eraseIdx_of_lt (by assumption)]
      exact ⟨rfl, rfl⟩
    · cases q
      rw [List.getElem?_eraseIdx_of_ge (by omega), List.getElem?_eraseIdx_of_ge (by omega)]
      exact ⟨rfl, rfl⟩
  · split at q <;> cases q
  · split at q <;> split at q' <;> cases q <;> cases q' <;> omega
/-- a slot that holds a list or a tuple, seen -/
theorem Ok.seq (ok : Ok K ct H0 ms vp ρ σ R H) {i : Nat} {d : D} {ds : List D} (h : ρ[i]? = some (some d)) (e : d = .ols ds ∨ d = .lst ds) :
    ∃ a vs, σ[i]? = some (some (.ref a)) ∧ H a = some (.lst vs) ∧ vs.length = ds.length ∧ ∀ (k : Nat) (v : V) (d : D), vs[k]? = some v → ds[k]? = some d → d.isO = false → Rep K ct.b R v d := by
  rcases e with rfl | rfl
  · obtain ⟨a, vs, x, y, l, rd, _⟩ := ok.olst h
    exact ⟨a, vs, x, y, l, rd⟩
  · obtain ⟨v, a, r⟩ := ok.slot h rfl
    obtain ⟨p, vs, rfl, q, z⟩ := r.lst_inv
    exact ⟨p, vs, a, ok.same _ _ q, z.1, fun k v d x y _ => z.2 k v d x y⟩
theorem Ok.tupS (ok : Ok K ct H0 ms vp ρ σ R H) {i : Nat} {ds : List D} (h : ρ[i]? = some (some (.tup ds))) :
    ∃ a vs, σ[i]? = some (some (.ref a)) ∧ SqT K H a vs ∧ Reps K ct.b R vs ds := by
  obtain ⟨v, a, r⟩ := ok.slot h rfl
  obtain ⟨p, vs, rfl, q, z⟩ := r.tup_inv
  exact ⟨p, vs, a, SqT.mono ok.same q, z⟩
def seqOf : Option (Option D) → Option (List D)
  | some (some (.ols ds)) => some ds
  | some (some (.lst ds)) => some ds
  | _ => none
def tupOf : Option (Option D) → Option (List D)
  | some (some (.tup ds)) => some ds
  | _ => none
def olsOf : Option (Option D) → Option (List D)
  | some (some (.ols ds)) => some ds
  | _ => none
theorem seqOf_some {x : Option (Option D)} {ds : List D} (h : seqOf x = some ds) : ∃ d, x = some (some d) ∧ (d = .ols ds ∨ d = .lst ds) := by
  unfold seqOf at h
  split at h <;> cases h
  · exact ⟨_, rfl, .inl rfl⟩
  · exact ⟨_, rfl, .inr rfl⟩
theorem tupOf_some {x : Option (Option D)} {ds : List D} (h : tupOf x = some ds) : x = some (some (.tup ds)) := by
  unfold tupOf at h
  split at h <;> cases h
  rfl
theorem olsOf_some {x : Option (Option D)} {ds : List D} (h : olsOf x = some ds) : x = some (some (.ols ds)) := by
  unfold olsOf at h
  split at h <;> cases h
  rfl
/-- the slots, looked at -/
def mGet (f : Env → Option α) : M α := fun ρ => match f ρ with
  | some a => .ok a ρ
  | none => .st
theorem Po.get {α : Type} {Post : α → Env → Prop} {f : Env → Option α} (h : Po K ct ms vp W H0 σ R Post (mGet f ρ)) : ∃ a, f ρ = some a ∧ Post a ρ := by
  unfold mGet at h
  cases e : f ρ with
  | none => rw [e] at h; exact h.elim
  | some a => rw [e] at h; exact ⟨a, rfl, h⟩
def mPut (i : Nat) (d : D) : M Unit := fun ρ => .ok () (ρ.set i (some d))
theorem Po.put {α : Type} {Post : α → Env → Prop} {i : Nat} {d : D} {g : Unit → M α} (h : Po K ct ms vp W H0 σ R Post (mB (mPut i d) g ρ)) : Po K ct ms vp W H0 σ R Post (g () (ρ.set i (some d))) := h
/-! methods of a list in a slot -/
/-- a list of one's own of what is never written -/
def flatO : D → Option (List D)
  | .ols xs => if xs.any D.isO = true then none else some xs
  | .lst xs => some xs
  | _ => none
def mAppend (i : Nat) (g : M (List D)) : M D := mB (mGet fun ρ => olsOf ρ[i]?) fun _ => mB g fun xs => mB (mGet fun ρ => olsOf ρ[i]?) fun ds => match xs with
  | [x] => mB (mO (szok ds.length)) fun _ => mB (mPut i (.ols (ds ++ [x]))) fun _ => mP .non
  | _ => fun _ => .st
theorem sim_append {i : Nat} {t : TA} {g : M (List D)} (hg : SimA K ct ms vp W t g) : SimF K ct ms vp W (tBM K "list" rAppend (tVar i) t) (mAppend i g) := fun H0 ρ σ R H ok Q q => by
  obtain ⟨ds, e, q⟩ := Po.get (Po.bind q)
  obtain ⟨a, vs, x, y, l, _⟩ := ok.olst (olsOf_some e)
  refine ⟨.ref a, x, .inl ⟨rfl, _, .inl (.inl y)⟩, hg H0 ρ σ R H ok _ (Po.mono (Po.bind q) fun xs ρ1 q ws R1 H1 g1 ok1 r1 => ?_)⟩
  obtain ⟨ds1, e1, q⟩ := Po.get (Po.bind q)
  obtain ⟨a1, vs1, x1, y1, l1, put⟩ := ok1.extL (olsOf_some e1)
  cases x.symm.trans x1
  match xs, q, r1 with
  | [x], q, r1 =>
    obtain ⟨w, ws', rfl, r, rn⟩ := r1.cons_inv
    cases rn.nil_inv
    obtain ⟨u, z, q⟩ := Po.opt (Po.bind q)
    have q := Po.put q
    exact ⟨a, vs1, w, rfl, rfl, y1, by rw [l1]; exact szok_lt z, q .non R1 _ g1 (put [w] [x] (Reps.nil.cons r)) .non⟩
  | [], q, _ => exact q.elim
  | _ :: _ :: _, q, _ => exact q.elim
def mExtend (i : Nat) (g : M D) : M D := mB (mGet fun ρ => olsOf ρ[i]?) fun _ => mB g fun x => mB (mGet fun ρ => olsOf ρ[i]?) fun ds => mB (mO (flatO x)) fun xs => mB (mO (szok (ds.length + xs.length))) fun _ => mB (mPut i (.ols (ds ++ xs))) fun _ => mP .non
/-! pop -/
def mPop (i : Nat) : M D := mB (mGet fun ρ => olsOf ρ[i]?) fun ds => match ds.getLast? with
  | some d => if d.isO = true then fun _ => .st else mB (mPut i (.ols ds.dropLast)) fun _ => mP d
  | none => fun _ => .st
theorem sim_pop {i : Nat} : SimF K ct ms vp W (tBM0 K "list" rPop (tVar i)) (mPop i) := fun H0 ρ σ R H ok Q q => by
  obtain ⟨ds, e, q⟩ := Po.get (Po.bind q)
  obtain ⟨a, vs, x, y, l, rd, put, _⟩ := ok.subL (olsOf_some e)
  refine ⟨.ref a, x, .inl ⟨rfl, _, .inl (.inl y)⟩, ?_⟩
  cases e2 : ds.getLast? with
  | none => rw [e2] at q; exact q.elim
  | some d =>
    rw [e2] at q
    dsimp only at q
    by_cases o : d.isO = true
    · rw [if_pos o] at q; exact q.elim
    · rw [if_neg o] at q
      have q := Po.put q
      have hd : ds[ds.length - 1]? = some d := by rw [← List.getLast?_eq_getElem?]; exact e2
      have h0 : 0 < ds.length := by
        have := (List.getElem?_eq_some_iff.mp hd).1
        omega
      have hv : vs.length - 1 < vs.length := by omega
      refine ⟨a, vs, vs[vs.length - 1], rfl, rfl, y, List.getElem?_eq_getElem hv, ?_⟩
      have r := rd (ds.length - 1) vs[vs.length - 1] d (by rw [← l]; exact List.getElem?_eq_getElem hv) hd (by simpa using o)
      have p := put (ds.length - 1)
      rw [← List.dropLast_eq_take, ← l, ← List.dropLast_eq_take] at p
      exact q _ R _ (Gr.refl _ _) p r
def popD (ds : List D) : List D → Option (Nat × D)
  | [.int n] => if 0 ≤ n ∧ n < 100000 then (ds[n.toNat]?).bind fun d => if d.isO = true then none else some (n.toNat, d) else none
  | _ => none
theorem popD_some {ds xs : List D} {k : Nat} {d : D} (h : popD ds xs = some (k, d)) : xs = [.int k] ∧ k < 100000 ∧ ds[k]? = some d ∧ d.isO = false := by
  unfold popD at h
  split at h
  · rename_i n
    split at h
    · rename_i hn
      obtain ⟨d', e1, e2⟩ := Option.bind_eq_some_iff.mp h
      split at e2
      · cases e2
      · rename_i ho
        cases e2
        exact ⟨by rw [Int.toNat_of_nonneg hn.1], by omega, e1, by simpa using ho⟩
    · cases h
  · cases h
def mPopAt (i : Nat) (g : M (List D)) : M D := mB (mGet fun ρ => olsOf ρ[i]?) fun _ => mB g fun xs => mB (mGet fun ρ => olsOf ρ[i]?) fun ds => mB (mO (popD ds xs)) fun z => mB (mPut i (.ols (ds.eraseIdx z.1))) fun _ => mP z.2
/-! items, lengths of what a slot holds -/
def mLenV (i : Nat) : M D := mB (mGet fun ρ => (seqOf ρ[i]?).orElse fun _ => tupOf ρ[i]?) fun ds => mP (.int ds.length)
theorem sim_lenV {i : Nat} : SimF K ct ms vp W (tCB (fun (xs : List V) (H : Hp) (Q : VK) => ∃ p ys, xs = [.ref p] ∧ (SqL K H p ys ∨ SqT K H p ys) ∧ Q (.int ys.length) H) (tCons (tVar i) tNil)) (mLenV i) := fun H0 ρ σ R H ok Q q => by
  obtain ⟨ds, e, q⟩ := Po.get (Po.bind q)
  have q := q
  cases e1 : seqOf ρ[i]? with
  | some es =>
    rw [e1] at e
    cases e
    obtain ⟨d, e2, e3⟩ := seqOf_some e1
    obtain ⟨a, vs, x, y, l, _⟩ := ok.seq e2 e3
    exact ⟨.ref a, x, a, vs, rfl, .inl (sql0 y), q (.int vs.length) R H (Gr.refl _ _) ok (by rw [l]; exact .int _)⟩
  | none =>
    rw [e1] at e
    obtain ⟨a, vs, x, y, r⟩ := ok.tupS (tupOf_some e)
    exact ⟨.ref a, x, a, vs, rfl, .inr y, q (.int vs.length) R H (Gr.refl _ _) ok (by rw [r.1]; exact .int _)⟩
def ixD (ds : List D) : D → Option D
  | .int i => match atI ds i with
    | some d => if d.isO = true then none else some d
    | none => none
  | _ => none
theorem atI_len {α β : Type} {xs : List α} {ys : List β} {i : Int} {y : β} (l : xs.length = ys.length) (h : atI ys i = some y) : ∃ (j : Nat) (x : α), ixN xs.length i = some j ∧ xs[j]? = some x ∧ ys[j]? = some y ∧ atI xs i = some x := by
  unfold atI at h
  obtain ⟨j, e1, e2⟩ := Option.bind_eq_some_iff.mp h
  have hj : j < ys.length := (List.getElem?_eq_some_iff.mp e2).1
  have hx : j < xs.length := by omega
  refine ⟨j, xs[j], by rw [l]; exact e1, List.getElem?_eq_getElem hx, e2, ?_⟩
  unfold atI
  rw [l, e1]
  exact List.getElem?_eq_getElem hx
theorem ixD_some {ds : List D} {x d : D} (h : ixD ds x = some d) : ∃ i, x = .int i ∧ atI ds i = some d ∧ d.isO = false := by
  cases x with
  | int i =>
    refine ⟨i, rfl, ?_⟩
    unfold ixD at h
    dsimp only at h
    cases e : atI ds i with
    | none => rw [e] at h; cases h
    | some d' =>
      rw [e] at h
      dsimp only at h
      split at h
      · cases h
      · rename_i hn
        cases h
        exact ⟨rfl, by simpa using hn⟩
  | _ => simp [ixD] at h
def mIxV (i : Nat) (g : M D) : M D := mB (mGet fun ρ => seqOf ρ[i]?) fun _ => mB g fun x => mB (mGet fun ρ => seqOf ρ[i]?) fun ds => mO (ixD ds x)
theorem sim_ixV {i : Nat} {tb : TE} {g : M D} (hg : SimF K ct ms vp W tb g) : SimF K ct ms vp W (tOp (rIxL K) (tVar i) tb) (mIxV i g) := fun H0 ρ σ R H ok Q q => by
  obtain ⟨ds0, e0, q⟩ := Po.get (Po.bind q)
  obtain ⟨d0, e2, e3⟩ := seqOf_some e0
  obtain ⟨a0, vs0, x0, _⟩ := ok.seq e2 e3
  refine ⟨.ref a0, x0, hg H0 ρ σ R H ok _ (Po.mono (Po.bind q) fun d ρ1 q w R1 H1 g1 ok1 r1 => ?_)⟩
  obtain ⟨ds, e, q⟩ := Po.get (Po.bind q)
  obtain ⟨d', e2, e3⟩ := seqOf_some e
  obtain ⟨a, vs, x, y, l, rd⟩ := ok1.seq e2 e3
  cases x0.symm.trans x
  obtain ⟨d3, e4, q⟩ := Po.opt q
  obtain ⟨n, e5, h1, h2⟩ := ixD_some e4
  rw [e5] at r1
  obtain ⟨j, u, _, k1, k2, k3⟩ := atI_len (xs := vs) l h1
  exact ⟨a0, vs, n, u, rfl, r1.int_inv, sql0 y, k3, q u R1 H1 g1 ok1 (rd j u d3 k1 k2 h2)⟩
def mIxVT (i : Nat) (g : M D) : M D := mB (mGet fun ρ => tupOf ρ[i]?) fun _ => mB g fun x => mB (mGet fun ρ => tupOf ρ[i]?) fun ds => mO (ixD ds x)
theorem sim_ixVT {i : Nat} {tb : TE} {g : M D} (hg : SimF K ct ms vp W tb g) : SimF K ct ms vp W (tOp (rIxT K) (tVar i) tb) (mIxVT i g) := fun H0 ρ σ R H ok Q q => by
  obtain ⟨ds0, e0, q⟩ := Po.get (Po.bind q)
  obtain ⟨a0, vs0, x0, _⟩ := ok.tupS (tupOf_some e0)
  refine ⟨.ref a0, x0, hg H0 ρ σ R H ok _ (Po.mono (Po.bind q) fun d ρ1 q w R1 H1 g1 ok1 r1 => ?_)⟩
  obtain ⟨ds, e, q⟩ := Po.get (Po.bind q)
  obtain ⟨a, vs, x, y, rd⟩ := ok1.tupS (tupOf_some e)
  cases x0.symm.trans x
  obtain ⟨d3, e4, q⟩ := Po.opt q
  obtain ⟨n, e5, h1, h2⟩ := ixD_some e4
  rw [e5] at r1
  obtain ⟨j, u, _, k1, k2, k3⟩ := atI_len (xs := vs) rd.1 h1
  exact ⟨a0, vs, n, u, rfl, r1.int_inv, y, k3, q u R1 H1 g1 ok1 (rd.2 j u d3 k1 k2)⟩
/-! extend, pop(i) -/
theorem flatO_some {d : D} {xs : List D} (h : flatO d = some xs) : (d = .ols xs ∧ ∀ x ∈ xs, x.isO = false) ∨ d = .lst xs := by
  unfold flatO at h
  split at h
  · split at h
    · cases h
    · rename_i n
      cases h
      exact .inl ⟨rfl, fun x hx => by
        cases e : x.isO with
        | false => rfl
        | true => exact absurd (List.any_eq_true.mpr ⟨x, hx, e⟩) n⟩
  · cases h; exact .inr rfl
  · cases h
/-- the value at the end is a flat list -/
theorem Ok.flatE {v : V} {d : D} {xs : List D} (ok : Ok K ct H0 ms vp (ρ ++ [some d]) (σ ++ [some v]) R H) (l : ρ.length = σ.length) (h : flatO d = some xs) : ∃ b ws, v = .ref b ∧ H b = some (.lst ws) ∧ Reps K ct.b R ws xs := by
  rcases flatO_some h with ⟨rfl, no⟩ | rfl
  · obtain ⟨b, ws, x, y, l', rd, _⟩ := ok.olst (i := ρ.length) (ds := xs) (by simp)
    refine ⟨b, ws, ?_, y, l', fun k u e p q => rd k u e p q (no e (List.mem_of_getElem? q))⟩
    rw [l] at x
    simpa using x
  · obtain ⟨u, x, r⟩ := ok.slot (i := ρ.length) (d := .lst xs) (by simp) rfl
    have e : u = v := by
      rw [l] at x
      simpa using x.symm
    subst e
    obtain ⟨b, ws, rfl, y, rr⟩ := r.lst_inv
    exact ⟨b, ws, rfl, ok.same _ _ y, rr⟩
theorem sim_extend {i : Nat} {te : TE} {g : M D} (hg : SimE K ct ms vp W te g) : SimF K ct ms vp W (tBM K "list" rExtend (tVar i) (tCons te tNil)) (mExtend i g) := fun H0 ρ σ R H ok Q q => by
  obtain ⟨ds, e, q⟩ := Po.get (Po.bind q)
  obtain ⟨a, vs, x, y, l, _⟩ := ok.olst (olsOf_some e)
  refine ⟨.ref a, x, .inl ⟨rfl, _, .inl (.inl y)⟩, hg H0 ρ σ R H ok _ (Po.mono (Po.bind q) fun dx ρ1 q v R1 H1 g1 ok1 l1 => ?_)⟩
  obtain ⟨ds1, e1, q⟩ := Po.get (Po.bind q)
  obtain ⟨xs, e2, q⟩ := Po.opt (Po.bind q)
  obtain ⟨u, z, q⟩ := Po.opt (Po.bind q)
  have q := Po.put q
  obtain ⟨b, ws, rfl, yb, rw'⟩ := ok1.flatE l1 e2
  have ok3 := ok1.pop l1 ok.mslt
  obtain ⟨a1, vs1, x1, y1, ll, put⟩ := ok3.extL (olsOf_some e1)
  cases x.symm.trans x1
  exact ⟨a, b, vs1, ws, rfl, rfl, y1, yb, by rw [ll, rw'.1]; exact szok_le z, q .non R1 _ g1 (put ws xs rw') .non⟩
theorem sim_popAt {i : Nat} {t : TA} {g : M (List D)} (hg : SimA K ct ms vp W t g) : SimF K ct ms vp W (tBM K "list" rPopAt (tVar i) t) (mPopAt i g) := fun H0 ρ σ R H ok Q q => by
  obtain ⟨ds0, e0, q⟩ := Po.get (Po.bind q)
  obtain ⟨a, vs, x, y, l, _⟩ := ok.olst (olsOf_some e0)
  refine ⟨.ref a, x, .inl ⟨rfl, _, .inl (.inl y)⟩, hg H0 ρ σ R H ok _ (Po.mono (Po.bind q) fun xs ρ1 q ws R1 H1 g1 ok1 r1 => ?_)⟩
  obtain ⟨ds, e1, q⟩ := Po.get (Po.bind q)
  obtain ⟨a1, vs1, x1, y1, l1, rd, _, put⟩ := ok1.subL (olsOf_some e1)
  cases x.symm.trans x1
  obtain ⟨⟨k, d⟩, e2, q⟩ := Po.opt (Po.bind q)
  have q := Po.put q
  obtain ⟨exs, k1, hd, ho⟩ := popD_some e2
  rw [exs] at r1
  obtain ⟨w, ws', rfl, r, rn⟩ := r1.cons_inv
  cases rn.nil_inv
  cases r.int_inv
  have hj : k < ds.length := (List.getElem?_eq_some_iff.mp hd).1
  have hv : k < vs1.length := by omega
  obtain ⟨u, hu⟩ : ∃ u, vs1[k]? = some u := ⟨_, List.getElem?_eq_getElem hv⟩
  have fin : Q u (upd H1 a (.lst (vs1.eraseIdx k))) := by
    have r := rd k u d hu hd ho
    have p := put k
    clear put rd
    exact q u R1 _ g1 p r
  refine ⟨a, vs1, (k : Int), k, u, rfl, rfl, y1, Int.le_trans (by decide) (Int.natCast_nonneg k), (by simp only [Int.reducePow]; omega), ?_, hu, fin⟩
  · have h2 : ¬ (k : Int) < 0 := by omega
    have h3 : (k : Int) < (vs1.length : Int) := by omega
    simp [seqIndex?, h2, h3]
end
end Y

namespace Y
open PySem PySem.Spec PyProof.Rows L2
section
variable {K : PySem.W.Frag} {ct : CT} {ms : List Nat} {W : WX} {H0 R R' H H' : Hp} {vp : Nat → V} {ρ : Env} {σ : L2.St}
/-- other slots, of those that were -/
theorem Ok.sel (ok : Ok K ct H0 ms vp ρ σ R H) {ms' : List Nat} {vp' : Nat → V} {ρ' : Env} {σ' : L2.St} (src : Nat → Nat) (l : σ'.length = ρ'.length) (p : ∀ i ∈ ms', σ'[i]? = some (some (vp' i)))
    (h : ∀ k d, ρ'[k]? = some (some d) → ρ[src k]? = some (some d) ∧ σ'[k]? = σ[src k]?) (inj : ∀ k k', k < ρ'.length → k' < ρ'.length → src k = src k' → k = k') : Ok K ct H0 ms' vp' ρ' σ' R H := by
  obtain ⟨s, k, iv, _, _, F, f1, f2, f3⟩ := ok
  refine ⟨s, k, iv, l, p, fun j b => j < ρ'.length ∧ F (src j) b, fun j d q => ?_, fun i j b ne x y => ?_, fun j b q => f3 _ b q.2⟩
  · obtain ⟨a, e⟩ := h j d q
    obtain ⟨v, x, y⟩ := f1 _ d a
    exact ⟨v, e.trans x, y.monoF fun b g => ⟨(List.getElem?_eq_some_iff.mp q).1, g⟩⟩
  · exact f2 _ _ b (fun e => ne (inj i j x.1 y.1 e)) x.2 y.2
/-- the value at the end goes into a slot -/
theorem Ok.store {v : V} {d : D} {i : Nat} (ok : Ok K ct H0 ms vp (ρ ++ [some d]) (σ ++ [some v]) R H) (l : ρ.length = σ.length) (hm : ∀ i ∈ ms, i < σ.length) (hi : i ∉ ms) : Ok K ct H0 ms vp (ρ.set i (some d)) (σ.set i (some v)) R H := by
  refine ok.sel (fun k => if k = i then ρ.length else k) (by simp [l]) (fun j hj => ?_) (fun k e h => ?_) (fun k k' hk hk' e => ?_)
  · have q := ok.pins j hj
    rw [List.getElem?_append_left (hm j hj)] at q
    rw [List.getElem?_set_ne (fun z => hi (by rw [z]; exact hj))]
    exact q
  · by_cases z : k = i
    · subst z
      have hk : k < ρ.length := by
        have := (List.getElem?_eq_some_iff.mp h).1
        simpa using this
      rw [List.getElem?_set_self hk] at h
      cases h
      rw [List.getElem?_set_self (by omega)]
      simp [l]
    · have hk : k < ρ.length := by
        have := (List.getElem?_eq_some_iff.mp h).1
        simpa using this
      rw [List.getElem?_set_ne (Ne.symm z)] at h
      rw [if_neg z, List.getElem?_append_left hk, List.getElem?_append_left (by omega), List.getElem?_set_ne (Ne.symm z)]
      exact ⟨h, rfl⟩
  · rw [List.length_set] at hk hk'
    split at e <;> split at e <;> omega
theorem Ok.setR {v : V} {d : D} {i : Nat} (ok : Ok K ct H0 ms vp ρ σ R H) (r : Rep K ct.b R v d) (hi : i ∉ ms) : Ok K ct H0 ms vp (ρ.set i (some d)) (σ.set i (some v)) R H :=
  (ok.temp r).store ok.len.symm ok.mslt hi
/-! ### statements -/
def mNext : Stm := fun ρ => .nx ρ
theorem sim_next : SimS K ct ms vp W tNext mNext := fun H0 ρ σ R H ok D' q => q σ R H (Gr.refl _ _) ok
def mSeq (f g : Stm) : Stm := fun ρ => match f ρ with
  | .nx ρ1 => g ρ1
  | .rt d ρ1 => .rt d ρ1 | .bk ρ1 => .bk ρ1 | .ct ρ1 => .ct ρ1 | .ex c x ρ1 => .ex c x ρ1 | .st => .st
theorem sim_seq {t u : TS} {f g : Stm} (hf : SimS K ct ms vp W t f) (hg : SimS K ct ms vp W u g) : SimS K ct ms vp W (tSeq t u) (mSeq f g) := fun H0 ρ σ R H ok D' q => by
  refine hf H0 ρ σ R H ok _ ?_
  unfold mSeq at q
  cases e : f ρ with
  | nx ρ1 => rw [e] at q; exact fun σ1 R1 H1 g1 ok1 => hg H0 ρ1 σ1 R1 H1 ok1 D' (PoS.gr g1 q)
  | rt d ρ1 => rw [e] at q; exact q
  | bk ρ1 => rw [e] at q; exact q
  | ct ρ1 => rw [e] at q; exact q
  | ex c x ρ1 => rw [e] at q; exact q
  | st => rw [e] at q; exact q
/-- a value, then what follows -/
def mThen {α : Type} (f : M α) (g : α → Stm) : Stm := fun ρ => match f ρ with
  | .ok a ρ1 => g a ρ1
  | .ex c x ρ1 => .ex c x ρ1
  | .st => .st
theorem PoS.bind {α : Type} {f : M α} {g : α → Stm} {D' : Ends} (h : PoS K ct ms vp W H0 R D' (mThen f g ρ)) : Po K ct ms vp W H0 σ R (fun a ρ1 => PoS K ct ms vp W H0 R D' (g a ρ1)) (f ρ) := by
  unfold mThen at h
  cases e : f ρ with
  | ok a ρ1 => rw [e] at h; exact h
  | ex c x ρ1 => rw [e] at h; exact fun od R2 H2 g2 o l => h od σ R2 H2 g2 o l
  | st => rw [e] at h; exact h
def mSet (i : Nat) (f : M D) : Stm := mThen f fun d ρ => .nx (ρ.set i (some d))
theorem sim_set {i : Nat} {t : TE} {f : M D} (hf : SimE K ct ms vp W t f) (hi : i ∉ ms) : SimS K ct ms vp W (tAsg t (gName i)) (mSet i f) := fun H0 ρ σ R H ok D' q =>
  hf H0 ρ σ R H ok _ (Po.mono (PoS.bind q) fun d ρ1 q v R1 H1 g1 ok1 l => q _ R1 H1 g1 (ok1.store l ok.mslt hi))
def mRet (f : M D) : Stm := mThen f fun d ρ => .rt d ρ
theorem sim_ret {t : TE} {f : M D} (hf : SimE K ct ms vp W t f) : SimS K ct ms vp W (tRet t) (mRet f) := fun H0 ρ σ R H ok D' q =>
  hf H0 ρ σ R H ok _ (Po.mono (PoS.bind q) fun d ρ1 q v R1 H1 g1 ok1 l => q v σ R1 H1 g1 ok1 l)
def mRetN : Stm := fun ρ => .rt .non ρ
theorem sim_retN : SimS K ct ms vp W tRetN mRetN := fun H0 ρ σ R H ok D' q => q .non σ R H (Gr.refl _ _) (ok.temp .non) ok.len.symm
def mDrop (f : M D) : Stm := mThen f fun _ ρ => .nx ρ
theorem sim_drop {t : TE} {f : M D} (hf : SimF K ct ms vp W t f) : SimS K ct ms vp W (tDrop t) (mDrop f) := fun H0 ρ σ R H ok D' q =>
  hf H0 ρ σ R H ok _ (Po.mono (PoS.bind q) fun d ρ1 q v R1 H1 g1 ok1 l => q σ R1 H1 g1 ok1)
def mIfS (c : M Bool) (f g : Stm) : Stm := mThen c fun b => if b = true then f else g
theorem sim_ifS {c : TT} {t u : TS} {h : M Bool} {f g : Stm} (hc : SimT K ct ms vp W c h) (hf : SimS K ct ms vp W t f) (hg : SimS K ct ms vp W u g) : SimS K ct ms vp W (tIfS c t u) (mIfS h f g) := fun H0 ρ σ R H ok D' q =>
  hc H0 ρ σ R H ok _ (Po.mono (PoS.bind q) fun b ρ1 q R1 H1 g1 ok1 => by
    cases b with
    | true => exact hf H0 ρ1 σ R1 H1 ok1 _ (PoS.gr g1 q)
    | false => exact hg H0 ρ1 σ R1 H1 ok1 _ (PoS.gr g1 q))
def mNever : Stm := fun _ => .st
theorem sim_never : SimS K ct ms vp W tNever mNever := fun _ _ _ _ _ _ _ q => q.elim
def mBrk : Stm := fun ρ => .bk ρ
def mCnt : Stm := fun ρ => .ct ρ
theorem sim_brk : SimS K ct ms vp W tBreak mBrk := fun H0 ρ σ R H ok D' q => q σ R H (Gr.refl _ _) ok
theorem sim_cnt : SimS K ct ms vp W tCont mCnt := fun H0 ρ σ R H ok D' q => q σ R H (Gr.refl _ _) ok
/-! ### targets -/
theorem wipe_set (x : Option V) (i : Nat) (σ : L2.St) : ∀ vs : List Nat, (i ∉ vs → wipe (σ.set i x) vs = (wipe σ vs).set i x) ∧ (i ∈ vs → wipe (σ.set i x) vs = wipe σ vs)
  | [] => ⟨fun _ => rfl, fun h => by cases h⟩
  | v :: vs => by
    obtain ⟨h1, h2⟩ := wipe_set x i σ vs
    constructor
    · intro h
      have n1 : i ≠ v := fun e => h (by rw [e]; exact List.mem_cons_self)
      have n2 : i ∉ vs := fun e => h (List.mem_cons_of_mem _ e)
      show (wipe (σ.set i x) vs).set v none = ((wipe σ vs).set v none).set i x
      rw [h1 n2, List.set_comm _ _ n1]
    · intro h
      show (wipe (σ.set i x) vs).set v none = (wipe σ vs).set v none
      by_cases hi : i ∈ vs
      · rw [h2 hi]
      · have e : i = v := by
          cases h with
          | head => rfl
          | tail _ h => exact absurd h hi
        subst e
        rw [h1 hi, List.set_set]
def SimG (K : PySem.W.Frag) (ct : CT) (ms : List Nat) (vp : Nat → V) (g : TG) (tg : D → Env → Option Env) (sl : List Nat) : Prop := ∀ H0 ρ σ R H v d, Ok K ct H0 ms vp ρ σ R H → Rep K ct.b R v d → ∀ (Q : L2.St → Hp → Prop) ρ', tg d ρ = some ρ' →
  (∀ σ', Ok K ct H0 ms vp ρ' σ' R H → (∀ vs, (∀ i ∈ sl, i ∈ vs) → wipe σ' vs = wipe σ vs) → Q σ' H) → g v σ H Q
def SimGs (K : PySem.W.Frag) (ct : CT) (ms : List Nat) (vp : Nat → V) (g : TGs) (tg : List D → Env → Option Env) (sl : List Nat) : Prop := ∀ H0 ρ σ R H vs ds, Ok K ct H0 ms vp ρ σ R H → Reps K ct.b R vs ds → ∀ (Q : L2.St → Hp → Prop) ρ', tg ds ρ = some ρ' →
  (∀ σ', Ok K ct H0 ms vp ρ' σ' R H → (∀ vs, (∀ i ∈ sl, i ∈ vs) → wipe σ' vs = wipe σ vs) → Q σ' H) → g vs σ H Q
def kName (i : Nat) : D → Env → Option Env := fun d ρ => some (ρ.set i (some d))
theorem sim_name {i : Nat} (hi : i ∉ ms) : SimG K ct ms vp (gName i) (kName i) [i] := fun H0 ρ σ R H v d ok r Q ρ' e k => by
  cases e
  exact k _ (ok.setR r hi) fun vs h => (wipe_set _ i σ vs).2 (h i (by simp))
def kNil : List D → Env → Option Env := fun ds ρ => match ds with
  | [] => some ρ
  | _ => none
def kCons (f : D → Env → Option Env) (g : List D → Env → Option Env) : List D → Env → Option Env := fun ds ρ => match ds with
  | d :: ds => (f d ρ).bind (g ds)
  | [] => none
def kTup (n : Nat) (g : List D → Env → Option Env) : D → Env → Option Env := fun d ρ => match d with
  | .tup ds => if ds.length = n then g ds ρ else none
  | _ => none
theorem sim_gnil : SimGs K ct ms vp gNil kNil [] := fun H0 ρ σ R H vs ds ok r Q ρ' e k => by
  cases ds with
  | nil => cases e; exact ⟨r.nil_inv, k σ ok fun _ _ => rfl⟩
  | cons => cases e
theorem sim_gcons {g : TG} {gs : TGs} {f : D → Env → Option Env} {fs : List D → Env → Option Env} {s1 s2 : List Nat} (h : SimG K ct ms vp g f s1) (hs : SimGs K ct ms vp gs fs s2) : SimGs K ct ms vp (gCons g gs) (kCons f fs) (s1 ++ s2) := fun H0 ρ σ R H vs ds ok r Q ρ' e k => by
  cases ds with
  | nil => cases e
  | cons d ds =>
    obtain ⟨ρ1, e1, e2⟩ := Option.bind_eq_some_iff.mp e
    obtain ⟨v, ws, rfl, r1, r2⟩ := r.cons_inv
    exact ⟨v, ws, rfl, h H0 ρ σ R H v d ok r1 _ ρ1 e1 fun σ1 ok1 w1 => hs H0 ρ1 σ1 R H ws ds ok1 r2 Q ρ' e2 fun σ2 ok2 w2 =>
      k σ2 ok2 fun vs h => (w2 vs fun i hi => h i (List.mem_append_right _ hi)).trans (w1 vs fun i hi => h i (List.mem_append_left _ hi))⟩
theorem sim_gtup {n : Nat} {gs : TGs} {fs : List D → Env → Option Env} {s1 : List Nat} (hs : SimGs K ct ms vp gs fs s1) : SimG K ct ms vp (gTup K n gs) (kTup n fs) s1 := fun H0 ρ σ R H v d ok r Q ρ' e k => by
  unfold kTup at e
  split at e
  · rename_i ds
    split at e
    · rename_i hn
      obtain ⟨a, vs, rfl, q, z⟩ := r.tup_inv
      exact ⟨a, vs, rfl, SqT.mono ok.same q, z.1.trans hn, hs H0 ρ σ R H vs ds ok z Q ρ' e k⟩
    · cases e
  · cases e
def mTo (tg : D → Env → Option Env) (f : M D) : Stm := mThen f fun d ρ => match tg d ρ with
  | some ρ1 => .nx ρ1
  | none => .st
theorem sim_to {t : TE} {g : TG} {f : M D} {tg : D → Env → Option Env} {sl : List Nat} (hf : SimF K ct ms vp W t f) (hg : SimG K ct ms vp g tg sl) : SimS K ct ms vp W (tAsg t g) (mTo tg f) := fun H0 ρ σ R H ok D' q =>
  hf H0 ρ σ R H ok _ (Po.mono (PoS.bind q) fun d ρ1 q v R1 H1 g1 ok1 r1 => by
    cases e : tg d ρ1 with
    | none => rw [e] at q; exact q.elim
    | some ρ2 =>
      rw [e] at q
      exact hg H0 ρ1 σ R1 H1 v d ok1 r1 _ ρ2 e fun σ' ok2 _ => q σ' R1 H1 g1 ok2)
/-- xs[j] = e, the list in a slot -/
def ixSet (ds : List D) : D → Option Nat
  | .int i => ixN ds.length i
  | _ => none
def mSetIx (i : Nat) (f g : M D) : Stm := mThen f fun x => mThen (mGet fun ρ => olsOf ρ[i]?) fun _ => mThen g fun j => mThen (mGet fun ρ => olsOf ρ[i]?) fun ds => mThen (mO (ixSet ds j)) fun n ρ => .nx (ρ.set i (some (.ols (ds.set n x))))
theorem PoS.get {α : Type} {D' : Ends} {f : Env → Option α} {g : α → Stm} (h : PoS K ct ms vp W H0 R D' (mThen (mGet f) g ρ)) : ∃ a, f ρ = some a ∧ PoS K ct ms vp W H0 R D' (g a ρ) := by
  unfold mThen mGet at h
  cases e : f ρ with
  | none => rw [e] at h; exact h.elim
  | some a => rw [e] at h; exact ⟨a, rfl, h⟩
theorem PoS.opt {α : Type} {D' : Ends} {x : Option α} {g : α → Stm} (h : PoS K ct ms vp W H0 R D' (mThen (mO x) g ρ)) : ∃ a, x = some a ∧ PoS K ct ms vp W H0 R D' (g a ρ) := by
  cases x with
  | none => exact h.elim
  | some a => exact ⟨a, rfl, h⟩
theorem sim_setIx {i : Nat} {te ti : TE} {f g : M D} (hf : SimF K ct ms vp W te f) (hg : SimF K ct ms vp W ti g) : SimS K ct ms vp W (tAsg te (gSub (tVar i) ti rSetL)) (mSetIx i f g) := fun H0 ρ σ R H ok D' q =>
  hf H0 ρ σ R H ok _ (Po.mono (PoS.bind q) fun x ρ1 q v R1 H1 g1 ok1 r1 => by
    obtain ⟨ds0, e0, q⟩ := PoS.get q
    obtain ⟨a, vs, x0, y, l, _⟩ := ok1.olst (olsOf_some e0)
    refine ⟨.ref a, x0, hg H0 ρ1 σ R1 H1 ok1 _ (Po.gr g1 (PoS.bind q) fun j ρ2 q w R2 H2 g2 ok2 r2 => ?_)⟩
    obtain ⟨ds, e1, q⟩ := PoS.get q
    obtain ⟨n, e2, q⟩ := PoS.opt q
    obtain ⟨a1, vs1, x1, y1, l1, put⟩ := ok2.setL (olsOf_some e1)
    cases x0.symm.trans x1
    obtain ⟨k, ek, e3⟩ : ∃ k, j = .int k ∧ ixN ds.length k = some n := by
      cases j with
      | int k => exact ⟨k, rfl, e2⟩
      | _ => cases e2
    rw [ek] at r2
    exact ⟨a, vs1, k, n, rfl, r2.int_inv, y1, by rw [l1]; exact e3, q σ R2 _ (g1.trans g2) (put n v x (r1.mono g2.1))⟩)
/-- i += e -/
def mAug (i : Nat) (op : Int → Int → Int) (f : M D) : Stm := mThen (mGet fun ρ => match ρ[i]? with | some (some (.int n)) => some n | _ => none) fun n => mThen f fun d => mThen (mO (match d with | .int k => some k | _ => none)) fun k ρ => .nx (ρ.set i (some (.int (op n k))))
theorem sim_aug {i : Nat} {op : Int → Int → Int} {te : TE} {f : M D} (hf : SimF K ct ms vp W te f) (hi : i ∉ ms) : SimS K ct ms vp W (tAug i te (ipI op)) (mAug i op f) := fun H0 ρ σ R H ok D' q => by
  obtain ⟨n, e, q⟩ := PoS.get q
  have e' : ρ[i]? = some (some (.int n)) := by
    revert e
    split
    · intro e; cases e; assumption
    · intro e; cases e
  obtain ⟨v, x, r⟩ := ok.slot e' rfl
  cases r.int_inv
  refine ⟨.int n, x, hf H0 ρ σ R H ok _ (Po.mono (PoS.bind q) fun d ρ1 q w R1 H1 g1 ok1 r1 => ?_)⟩
  obtain ⟨k, e1, q⟩ := PoS.opt q
  cases d with
  | int k' =>
    cases e1
    cases r1.int_inv
    exact ⟨n, k, rfl, rfl, q _ R1 H1 g1 (ok1.setR (.int _) hi)⟩
  | _ => cases e1
/-! ### loops -/
def ItOk (K : PySem.W.Frag) (ct : CT) (J : It) (R : Hp) (ds : List D) : Prop := ∀ R1 H1, Same R R1 → Same R1 H1 → ∀ i : Nat, (∀ d, ds[i]? = some d → J.go i H1 ∧ ∀ x H2, J.yld i H1 x H2 → ∃ R2, Ext R1 H1 R2 H2 ∧ Rep K ct.b R2 x d) ∧ (ds.length ≤ i → J.stop i H1)
def SimI (K : PySem.W.Frag) (ct : CT) (ms : List Nat) (vp : Nat → V) (W : WX) (wi : TI) (f : M (List D)) : Prop := ∀ H0 ρ σ R H, Ok K ct H0 ms vp ρ σ R H → ∀ Rr : It → Hp → Prop, Po K ct ms vp W H0 σ R (fun ds ρ' => ∀ J R' H', Gr H0 R R' → Ok K ct H0 ms vp ρ' σ R' H' → ItOk K ct J R' ds → Rr J H') (f ρ) → wi σ H Rr
def mLoop (tg : D → Env → Option Env) (body : Stm) : List D → Stm
  | [], ρ => .nx ρ
  | d :: ds, ρ => match tg d ρ with
    | none => .st
    | some ρ1 => match body ρ1 with
      | .nx ρ2 => mLoop tg body ds ρ2
      | .ct ρ2 => mLoop tg body ds ρ2
      | .bk ρ2 => .nx ρ2
      | .rt d ρ2 => .rt d ρ2
      | .ex c x ρ2 => .ex c x ρ2
      | .st => .st
def mFor (it : M (List D)) (tg : D → Env → Option Env) (body : Stm) : Stm := mThen it fun ds => mLoop tg body ds
theorem sim_for {wi : TI} {g : TG} {tb : TS} {it : M (List D)} {tg : D → Env → Option Env} {body : Stm} {sl : List Nat} (hi : SimI K ct ms vp W wi it) (hg : SimG K ct ms vp g tg sl) (hb : SimS K ct ms vp W tb body) : SimS K ct ms vp W (tFor wi g tb) (mFor it tg body) := fun H0 ρ σ R H ok D' q =>
  hi H0 ρ σ R H ok _ (Po.mono (PoS.bind q) fun ds ρ1 q J R1 H1 g1 ok1 it => by
    refine ⟨fun i m σ H => m = ds.length - i ∧ i ≤ ds.length ∧ ∃ ρ R2, Gr H0 R1 R2 ∧ Ok K ct H0 ms vp ρ σ R2 H ∧ PoS K ct ms vp W H0 R2 D' (mLoop tg body (ds.drop i) ρ), ⟨ds.length, by omega, Nat.zero_le _, ρ1, R1, Gr.refl _ _, ok1, PoS.gr g1 q⟩, ?_⟩
    rintro i m σ2 H2 ⟨rfl, hle, ρ2, R2, g2, ok2, q2⟩
    obtain ⟨yes, no⟩ := it R2 H2 g2.1 ok2.same i
    by_cases hlt : i < ds.length
    · obtain ⟨go, yl⟩ := yes ds[i] (List.getElem?_eq_getElem hlt)
      refine .inr ⟨go, fun σ3 H3 => ∃ ρ3 R3, Gr H0 R1 R3 ∧ Ok K ct H0 ms vp ρ3 σ3 R3 H3 ∧ PoS K ct ms vp W H0 R3 D' (mLoop tg body (ds.drop (i + 1)) ρ3), fun σ3 H3 ⟨ρ3, R3, w⟩ => ⟨ds.length - (i + 1), by omega, rfl, hlt, ρ3, R3, w⟩, fun x H3 y => ?_⟩
      obtain ⟨R3, ex, rx⟩ := yl x H3 y
      have ok3 := ok2.ext ex
      have g3 := g2.trans (ok2.gr ex)
      have q3 := PoS.gr (ok2.gr ex) q2
      rw [List.drop_eq_getElem_cons hlt, mLoop] at q3
      cases e : tg ds[i] ρ2 with
      | none => rw [e] at q3; exact q3.elim
      | some ρ4 =>
        rw [e] at q3
        dsimp only at q3
        refine hg H0 ρ2 σ2 R3 H3 x ds[i] ok3 rx _ ρ4 e fun σ4 ok4 _ => hb H0 ρ4 σ4 R3 H3 ok4 _ ?_
        cases e2 : body ρ4 with
        | nx ρ5 => rw [e2] at q3; exact fun σ5 R5 H5 g5 ok5 => ⟨ρ5, R5, g3.trans g5, ok5, PoS.gr g5 q3⟩
        | ct ρ5 => rw [e2] at q3; exact fun σ5 R5 H5 g5 ok5 => ⟨ρ5, R5, g3.trans g5, ok5, PoS.gr g5 q3⟩
        | bk ρ5 => rw [e2] at q3; exact q3
        | rt d ρ5 => rw [e2] at q3; exact q3
        | ex c x ρ5 => rw [e2] at q3; exact q3
        | st => rw [e2] at q3; exact q3
    · rw [List.drop_eq_nil_of_le (by omega), mLoop] at q2
      exact .inl ⟨no (by omega), q2 σ2 R2 H2 (Gr.refl _ _) ok2⟩)
/-- while, at most so many turns -/
def mWhile (c : M Bool) (body : Stm) : Nat → Stm
  | 0 => fun _ => .st
  | n + 1 => mThen c fun b => if b = true then fun ρ => match body ρ with
      | .nx ρ2 => mWhile c body n ρ2
      | .ct ρ2 => mWhile c body n ρ2
      | .bk ρ2 => .nx ρ2
      | .rt d ρ2 => .rt d ρ2
      | .ex c x ρ2 => .ex c x ρ2
      | .st => .st
    else fun ρ => .nx ρ
theorem sim_while {c : TT} {tb : TS} {h : M Bool} {body : Stm} (n : Nat) (hc : SimT K ct ms vp W c h) (hb : SimS K ct ms vp W tb body) : SimS K ct ms vp W (tWhile c tb) (mWhile h body n) := fun H0 ρ σ R H ok D' q => by
  refine ⟨fun m σ H => ∃ ρ R2, Gr H0 R R2 ∧ Ok K ct H0 ms vp ρ σ R2 H ∧ PoS K ct ms vp W H0 R2 D' (mWhile h body m ρ), ⟨n, ρ, R, Gr.refl _ _, ok, q⟩, ?_⟩
  rintro m σ2 H2 ⟨ρ2, R2, g2, ok2, q2⟩
  cases m with
  | zero => exact q2.elim
  | succ m =>
    rw [mWhile] at q2
    refine hc H0 ρ2 σ2 R2 H2 ok2 _ (Po.mono (PoS.bind q2) fun b ρ3 q R3 H3 g3 ok3 => ?_)
    cases b with
    | false => exact q σ2 R3 H3 g3 ok3
    | true =>
      have q3 := PoS.gr g3 q
      refine ⟨fun σ5 H5 => ∃ ρ5 R5, Gr H0 R R5 ∧ Ok K ct H0 ms vp ρ5 σ5 R5 H5 ∧ PoS K ct ms vp W H0 R5 D' (mWhile h body m ρ5), fun σ5 H5 w => ⟨m, Nat.lt_succ_self m, w⟩, hb H0 ρ3 σ2 R3 H3 ok3 _ ?_⟩
      rw [if_pos rfl] at q3
      cases e2 : body ρ3 with
      | nx ρ5 => rw [e2] at q3; exact fun σ5 R5 H5 g5 ok5 => ⟨ρ5, R5, (g2.trans g3).trans g5, ok5, PoS.gr g5 q3⟩
      | ct ρ5 => rw [e2] at q3; exact fun σ5 R5 H5 g5 ok5 => ⟨ρ5, R5, (g2.trans g3).trans g5, ok5, PoS.gr g5 q3⟩
      | bk ρ5 => rw [e2] at q3; exact q3
      | rt d ρ5 => rw [e2] at q3; exact q3
      | ex c x ρ5 => rw [e2] at q3; exact q3
      | st => rw [e2] at q3; exact q3
/-! what a loop walks -/
theorem itok_list {a : Addr} {vs : List V} {ds : List D} (h : R a = some (.lst vs)) (r : Reps K ct.b R vs ds) : ItOk K ct (Itl K a) R ds := fun R1 H1 e1 e2 i => by
  have q : SqL K H1 a vs := .inl (.inl (e2 _ _ (e1 _ _ h)))
  refine ⟨fun d e => ?_, fun hl => ⟨vs, q, by rw [r.1]; exact hl⟩⟩
  obtain ⟨v, ev, rv⟩ := r.at e
  refine ⟨⟨vs, v, q, ev⟩, fun x H2 ⟨eH, y⟩ => ?_⟩
  subst eH
  have ex := y vs q
  rw [ev] at ex
  cases ex
  exact ⟨R1, Ext.refl e2, rv.mono e1⟩
theorem itok_tup {a : Addr} {vs : List V} {ds : List D} (h : SqT K R a vs) (r : Reps K ct.b R vs ds) : ItOk K ct (Itt K a) R ds := fun R1 H1 e1 e2 i => by
  have q : SqT K H1 a vs := SqT.mono e2 (SqT.mono e1 h)
  refine ⟨fun d e => ?_, fun hl => ⟨vs, q, by rw [r.1]; exact hl⟩⟩
  obtain ⟨v, ev, rv⟩ := r.at e
  refine ⟨⟨vs, v, q, ev⟩, fun x H2 ⟨eH, y⟩ => ?_⟩
  subst eH
  have ex := y vs q
  rw [ev] at ex
  cases ex
  exact ⟨R1, Ext.refl e2, rv.mono e1⟩
def asL : D → Option (List D)
  | .lst ds => some ds
  | _ => none
def asT : D → Option (List D)
  | .tup ds => some ds
  | _ => none
def mItL (f : M D) : M (List D) := mB f fun d => mO (asL d)
def mItT (f : M D) : M (List D) := mB f fun d => mO (asT d)
theorem asL_some {d : D} {ds : List D} (h : asL d = some ds) : d = .lst ds := by cases d <;> simp [asL] at h; rw [h]
theorem asT_some {d : D} {ds : List D} (h : asT d = some ds) : d = .tup ds := by cases d <;> simp [asT] at h; rw [h]
theorem sim_itL {t : TE} {f : M D} (hf : SimF K ct ms vp W t f) : SimI K ct ms vp W (iList K t) (mItL f) := fun H0 ρ σ R H ok Rr q =>
  hf H0 ρ σ R H ok _ (Po.mono (Po.bind q) fun d ρ1 q v R1 H1 g1 ok1 r1 => by
    obtain ⟨ds, e, q⟩ := Po.opt q
    cases asL_some e
    obtain ⟨a, vs, rfl, h, r⟩ := r1.lst_inv
    exact ⟨a, rfl, ⟨vs, .inl (.inl (ok1.same _ _ h))⟩, q _ R1 H1 g1 ok1 (itok_list h r)⟩)
theorem sim_itT {t : TE} {f : M D} (hf : SimF K ct ms vp W t f) : SimI K ct ms vp W (iTup K t) (mItT f) := fun H0 ρ σ R H ok Rr q =>
  hf H0 ρ σ R H ok _ (Po.mono (Po.bind q) fun d ρ1 q v R1 H1 g1 ok1 r1 => by
    obtain ⟨ds, e, q⟩ := Po.opt q
    cases asT_some e
    obtain ⟨a, vs, rfl, h, r⟩ := r1.tup_inv
    exact ⟨a, rfl, ⟨vs, SqT.mono ok1.same h⟩, q _ R1 H1 g1 ok1 (itok_tup h r)⟩)
theorem itok_rng (lo : Int) (n : Nat) : ItOk K ct (Itr lo n) R ((List.range n).map fun (k : Nat) => D.int (lo + (k : Int))) := fun R1 H1 e1 e2 i => by
  refine ⟨fun d e => ?_, fun hl => by rw [List.length_map, List.length_range] at hl; exact hl⟩
  rw [List.getElem?_map] at e
  obtain ⟨k, e3, rfl⟩ := Option.map_eq_some_iff.mp e
  have hk := List.getElem?_eq_some_iff.mp e3
  obtain ⟨h1, h2⟩ := hk
  rw [List.getElem_range] at h2
  subst h2
  refine ⟨by rw [List.length_range] at h1; exact h1, fun x H2 ⟨eH, ex⟩ => ?_⟩
  subst eH ex
  exact ⟨R1, Ext.refl e2, .int _⟩
def rg1 : List D → Option (List D)
  | [.int j] => if -(2 ^ 62) ≤ j ∧ j < 2 ^ 62 then some ((List.range j.toNat).map fun (k : Nat) => D.int (0 + (k : Int))) else none
  | _ => none
def rg2 : List D → Option (List D)
  | [.int i, .int j] => if -(2 ^ 62) ≤ i ∧ i < 2 ^ 62 ∧ -(2 ^ 62) ≤ j ∧ j < 2 ^ 62 then some ((List.range (j - i).toNat).map fun (k : Nat) => D.int (i + (k : Int))) else none
  | _ => none
def mRg1 (g : M (List D)) : M (List D) := mB g fun ds => mO (rg1 ds)
def mRg2 (g : M (List D)) : M (List D) := mB g fun ds => mO (rg2 ds)
theorem sim_rg1 {t : TA} {g : M (List D)} (hg : SimA K ct ms vp W t g) : SimI K ct ms vp W (iRng1 t) (mRg1 g) := fun H0 ρ σ R H ok Rr q =>
  hg H0 ρ σ R H ok _ (Po.mono (Po.bind q) fun xs ρ1 q vs R1 H1 g1 ok1 r1 => by
    obtain ⟨ds, e, q⟩ := Po.opt q
    unfold rg1 at e
    split at e
    · split at e
      · rename_i j hj
        cases e
        obtain ⟨v, ws, rfl, a, b⟩ := r1.cons_inv
        cases b.nil_inv
        cases a.int_inv
        exact ⟨j, rfl, hj.1, hj.2, q _ R1 H1 g1 ok1 (itok_rng 0 _)⟩
      · cases e
    · cases e)
theorem sim_rg2 {t : TA} {g : M (List D)} (hg : SimA K ct ms vp W t g) : SimI K ct ms vp W (iRng2 t) (mRg2 g) := fun H0 ρ σ R H ok Rr q =>
  hg H0 ρ σ R H ok _ (Po.mono (Po.bind q) fun xs ρ1 q vs R1 H1 g1 ok1 r1 => by
    obtain ⟨ds, e, q⟩ := Po.opt q
    unfold rg2 at e
    split at e
    · split at e
      · rename_i i j hj
        cases e
        obtain ⟨v, ws, rfl, a, b⟩ := r1.cons_inv
        obtain ⟨v2, ws2, rfl, a2, b2⟩ := b.cons_inv
        cases b2.nil_inv
        cases a.int_inv
        cases a2.int_inv
        exact ⟨i, j, rfl, hj, q _ R1 H1 g1 ok1 (itok_rng i _)⟩
      · cases e
    · cases e)
end
end Y

namespace Y
open PySem PySem.Spec PyProof.Rows L2
section
variable {K : PySem.W.Frag} {ct : CT} {ms : List Nat} {W : WX} {H0 R R' H H' : Hp} {vp : Nat → V} {ρ : Env} {σ : L2.St}
/-! ### comprehensions -/
def wipeE (ρ : Env) : List Nat → Env
  | [] => ρ
  | v :: vs => (wipeE ρ vs).set v none
theorem wipeE_length (ρ : Env) : ∀ vs : List Nat, (wipeE ρ vs).length = ρ.length
  | [] => rfl
  | v :: vs => by unfold wipeE; rw [List.length_set, wipeE_length ρ vs]
theorem wipeE_some {i : Nat} {x : D} : ∀ {vs : List Nat}, (wipeE ρ vs)[i]? = some (some x) → ρ[i]? = some (some x) ∧ i ∉ vs
  | [], h => ⟨h, by simp⟩
  | v :: vs, h => by
    unfold wipeE at h
    by_cases e : v = i
    · subst e
      rw [List.getElem?_set] at h
      simp only [if_true] at h
      split at h <;> cases h
    · rw [List.getElem?_set_ne e] at h
      obtain ⟨a, b⟩ := wipeE_some h
      exact ⟨a, by simp [b, Ne.symm e]⟩
/-- the names of a comprehension are gone -/
theorem Ok.wipe (ok : Ok K ct H0 ms vp ρ σ R H) {vs : List Nat} {σ' : L2.St} (hv : ∀ v ∈ vs, v ∉ ms) (e : L2.wipe σ' vs = L2.wipe σ vs) : Ok K ct H0 ms vp (wipeE ρ vs) σ' R H := by
  have l : σ'.length = σ.length := by rw [← wipe_length σ' vs, e, wipe_length]
  have out : ∀ i, i ∉ vs → σ'[i]? = σ[i]? := fun i hi => by rw [← wipe_out (σ := σ') hi, e, wipe_out hi]
  refine ok.sel id (by rw [l, ok.len, wipeE_length]) (fun i hi => ?_) (fun k d h => ?_) fun k k' _ _ h => h
  · rw [out i fun z => hv i z hi]
    exact ok.pins i hi
  · obtain ⟨a, b⟩ := wipeE_some h
    exact ⟨a, out k b⟩
theorem wipe_wipe (σ : L2.St) : ∀ vs ws : List Nat, (∀ v ∈ vs, v ∈ ws) → L2.wipe (L2.wipe σ vs) ws = L2.wipe σ ws
  | [], ws, _ => rfl
  | v :: vs, ws, h => by
    show L2.wipe ((L2.wipe σ vs).set v none) ws = _
    rw [(wipe_set none v (L2.wipe σ vs) ws).2 (h v List.mem_cons_self), wipe_wipe σ vs ws fun u hu => h u (List.mem_cons_of_mem _ hu)]
/-- a thing of another's stands by -/
theorem Ok.guard (ok : Ok K ct H0 ms vp ρ σ R H) {p : Addr} {o : HO} (hp : H p = none) : Ok K ct (upd H0 p o) ms vp ρ σ R (upd H p o) := by
  obtain ⟨s, k, iv, l, pi, F, f1, f2, f3⟩ := ok
  have ex := Ext.heap (o := o) s hp
  refine ⟨ex.s, fun b u q => ?_, iv, l, pi, F, fun i d h => ?_, f2, fun i b h => ?_⟩
  · by_cases e : b = p
    · subst e; rw [upd_same] at q ⊢; exact q
    · rw [upd_ne e] at q ⊢; exact k _ _ q
  · obtain ⟨v, x, y⟩ := f1 i d h
    exact ⟨v, x, y.monoH fun b u _ q => ex.h _ _ q⟩
  · obtain ⟨x, y, z⟩ := f3 i b h
    have ne : b ≠ p := fun e => y (e ▸ hp)
    exact ⟨x, by rw [upd_ne ne]; exact y, by rw [upd_ne ne]; exact z⟩
theorem Ok.reguard {p : Addr} {o o' : HO} (ok : Ok K ct (upd H0 p o) ms vp ρ σ R H) (hr : R p = none) : Ok K ct (upd H0 p o') ms vp ρ σ R (upd H p o') := by
  obtain ⟨s, k, iv, l, pi, F, f1, f2, f3⟩ := ok
  have nF : ∀ i b, F i b → b ≠ p := fun i b h e => by
    have := (f3 i b h).2.2
    rw [e, upd_same] at this
    cases this
  refine ⟨fun b u q => ?_, fun b u q => ?_, iv, l, pi, F, fun i d h => ?_, f2, fun i b h => ?_⟩
  · rw [upd_ne (ne_of_none q hr)]; exact s _ _ q
  · by_cases e : b = p
    · subst e; rw [upd_same] at q ⊢; exact q
    · rw [upd_ne e] at q ⊢
      exact k _ _ (by rw [upd_ne e]; exact q)
  · obtain ⟨v, x, y⟩ := f1 i d h
    exact ⟨v, x, y.monoH fun b u g q => by rw [upd_ne (nF i b g)]; exact q⟩
  · obtain ⟨x, y, z⟩ := f3 i b h
    have ne := nF i b h
    rw [upd_ne ne] at z
    exact ⟨x, by rw [upd_ne ne]; exact y, by rw [upd_ne ne]; exact z⟩
theorem Ok.unguard {p : Addr} {vs : List V} {ds : List D} (ok : Ok K ct (upd H0 p (.lst vs)) ms vp ρ σ R H) (h0 : H0 p = none) (hr : R p = none) (r : Reps K ct.b R vs ds) :
    Ok K ct H0 ms vp (ρ ++ [some (.ols ds)]) (σ ++ [some (.ref p)]) R H := by
  obtain ⟨s, k, iv, l, pi, F, f1, f2, f3⟩ := ok
  have nF : ∀ i b, F i b → b ≠ p := fun i b h e => by
    have := (f3 i b h).2.2
    rw [e, upd_same] at this
    cases this
  have hp : H p = some (.lst vs) := k _ _ upd_same
  refine ⟨s, fun b u q => k _ _ (by rw [upd_ne (ne_of_none q h0)]; exact q), iv, by simp [l], fun i hi => ?_, fun i b => (i < ρ.length ∧ F i b) ∨ (i = ρ.length ∧ b = p), fun i e h => ?_, fun i j b ne x y => ?_, fun i b h => ?_⟩
  · have q := pi i hi
    have z : i < σ.length := (List.getElem?_eq_some_iff.mp q).1
    rw [List.getElem?_append_left z]
    exact q
  · by_cases z : i < ρ.length
    · rw [List.getElem?_append_left z] at h
      obtain ⟨u, a, b⟩ := f1 i e h
      exact ⟨u, by rw [List.getElem?_append_left (by rw [l]; exact z)]; exact a, b.monoF fun c g => .inl ⟨z, g⟩⟩
    · have z2 : i = ρ.length := by
        have := (List.getElem?_eq_some_iff.mp h).1
        simp at this
        omega
      subst z2
      have : D.ols ds = e := by simpa using h
      subst this
      exact ⟨.ref p, by rw [← l]; simp, .flat hp (.inr ⟨rfl, rfl⟩) r⟩
  · rcases x with x | x <;> rcases y with y | y
    · exact f2 i j b ne x.2 y.2
    · exact nF i b x.2 y.2
    · exact nF j b y.2 x.2
    · exact ne (x.1.trans y.1.symm)
  · rcases h with h | h
    · obtain ⟨a, b', c⟩ := f3 i b h.2
      refine ⟨a, b', ?_⟩
      rw [upd_ne (nF i b h.2)] at c
      exact c
    · obtain ⟨_, rfl⟩ := h
      exact ⟨hr, by rw [hp]; exact Option.some_ne_none _, h0⟩
theorem Gr.unguard {p : Addr} {o : HO} (g : Gr (upd H0 p o) R R') : Gr H0 R R' := ⟨g.1, fun b h => (g.2 b h).imp id fun z => by
  unfold upd at z
  split at z
  · cases z
  · exact z⟩
theorem Gr.still {p : Addr} {o : HO} (g : Gr (upd H0 p o) R R') (h : R p = none) : R' p = none := by
  cases e : R' p with
  | none => rfl
  | some x =>
    rcases g.2 p (by rw [e]; exact Option.some_ne_none _) with z | z
    · exact absurd h z
    · rw [upd_same] at z; cases z
/-- one item of a comprehension: what it gives, if anything -/
def lcStep (tg : D → Env → Option Env) (test : M Bool) (elt : M D) (vs : List Nat) (d : D) (ρ : Env) : Option (Option D × Env) := match tg d (wipeE ρ vs) with
  | none => none
  | some ρ1 => match test ρ1 with
    | .ok true ρ2 => match elt ρ2 with
      | .ok y ρ3 => some (some y, ρ3)
      | _ => none
    | .ok false ρ2 => some (none, ρ2)
    | _ => none
theorem lcStep_some {tg : D → Env → Option Env} {test : M Bool} {elt : M D} {vs : List Nat} {d : D} {ρ ρ' : Env} {z : Option D} (h : lcStep tg test elt vs d ρ = some (z, ρ')) :
    ∃ ρ1, tg d (wipeE ρ vs) = some ρ1 ∧ ((test ρ1 = .ok false ρ' ∧ z = none) ∨ ∃ y ρ2, test ρ1 = .ok true ρ2 ∧ elt ρ2 = .ok y ρ' ∧ z = some y) := by
  unfold lcStep at h
  cases e : tg d (wipeE ρ vs) with
  | none => rw [e] at h; cases h
  | some ρ1 =>
    rw [e] at h
    dsimp only at h
    refine ⟨ρ1, rfl, ?_⟩
    cases e1 : test ρ1 with
    | st => rw [e1] at h; cases h
    | ex c x ρ5 => rw [e1] at h; cases h
    | ok b ρ2 =>
      rw [e1] at h
      cases b with
      | false => cases h; exact .inl ⟨rfl, rfl⟩
      | true =>
        dsimp only at h
        cases e2 : elt ρ2 with
        | st => rw [e2] at h; cases h
        | ex c x ρ5 => rw [e2] at h; cases h
        | ok y ρ3 => rw [e2] at h; cases h; exact .inr ⟨y, ρ2, rfl, e2, rfl⟩
def lcGo (step : D → Env → Option (Option D × Env)) (vs : List Nat) : List D → List D → Env → Option (List D × Env)
  | [], acc, ρ => some (acc, ρ)
  | d :: ds, acc, ρ => match step d ρ with
    | none => none
    | some (some y, ρ1) => if acc.length < 100000 then lcGo step vs ds (acc ++ [y]) (wipeE ρ1 vs) else none
    | some (none, ρ1) => lcGo step vs ds acc (wipeE ρ1 vs)
def mLc (it : M (List D)) (tg : D → Env → Option Env) (test : M Bool) (elt : M D) (vs : List Nat) : M D := mB it fun ds ρ => match lcGo (lcStep tg test elt vs) vs ds [] (wipeE ρ vs) with
  | some (acc, ρ1) => .ok (.ols acc) ρ1
  | none => .st
def WNo : WX := fun _ _ _ _ => False
theorem sim_lc {wi : TI} {g : TG} {tt : TT} {te : TE} {vs : List Nat} {it : M (List D)} {tg : D → Env → Option Env} {test : M Bool} {elt : M D} {sl : List Nat} (hi : SimI K ct ms vp W wi it) (hg : SimG K ct ms vp g tg sl) (hs : ∀ i ∈ sl, i ∈ vs) (hv : ∀ v ∈ vs, v ∉ ms)
    (ht : SimT K ct ms vp WNo tt test) (he : SimF K ct ms vp WNo te elt) : SimE K ct ms vp W (tLc wi g tt te vs) (mLc it tg test elt vs) := fun H0 ρ σ R H ok Q q => by
  refine hi H0 ρ σ R H ok _ (Po.mono (Po.bind q) fun ds ρ1 q J R1 H1 g1 ok1 it P hP => ?_)
  have h0 : H0 P = none := ok1.keep.free hP
  have r0 : R1 P = none := ok1.same.free hP
  have okw : Ok K ct (upd H0 P (.lst [])) ms vp (wipeE ρ1 vs) σ R1 (upd H1 P (.lst [])) := (ok1.guard hP).wipe hv rfl
  refine ⟨fun i m H => m = ds.length - i ∧ i ≤ ds.length ∧ ∃ ρ R2 ws acc, Gr H0 R1 R2 ∧ R2 P = none ∧ Reps K ct.b R2 ws acc ∧ Ok K ct (upd H0 P (.lst ws)) ms vp ρ σ R2 H ∧
      Po K ct ms vp W H0 σ R (fun d ρ' => ∀ v R' H', Gr H0 R R' → Ok K ct H0 ms vp (ρ' ++ [some d]) (σ ++ [some v]) R' H' → ρ'.length = σ.length → Q v H')
        (match lcGo (lcStep tg test elt vs) vs (ds.drop i) acc ρ with | some (acc, ρ1) => .ok (.ols acc) ρ1 | none => .st),
    ⟨ds.length, by omega, Nat.zero_le _, _, R1, [], [], Gr.refl _ _, r0, .nil, okw, q⟩, ?_⟩
  rintro i m H2 ⟨rfl, hle, ρ2, R2, ws, acc, g2, r2, ra, ok2, q2⟩
  obtain ⟨yes, no⟩ := it R2 H2 g2.1 ok2.same i
  by_cases hlt : i < ds.length
  · obtain ⟨go, yl⟩ := yes ds[i] (List.getElem?_eq_getElem hlt)
    refine .inr ⟨go, fun H3 => ∃ ρ R2 ws acc, Gr H0 R1 R2 ∧ R2 P = none ∧ Reps K ct.b R2 ws acc ∧ Ok K ct (upd H0 P (.lst ws)) ms vp ρ σ R2 H3 ∧
      Po K ct ms vp W H0 σ R (fun d ρ' => ∀ v R' H', Gr H0 R R' → Ok K ct H0 ms vp (ρ' ++ [some d]) (σ ++ [some v]) R' H' → ρ'.length = σ.length → Q v H')
        (match lcGo (lcStep tg test elt vs) vs (ds.drop (i + 1)) acc ρ with | some (acc, ρ1) => .ok (.ols acc) ρ1 | none => .st),
      fun H3 w => ⟨ds.length - (i + 1), by omega, rfl, hlt, w⟩, fun x H3 y => ?_⟩
    obtain ⟨R3, ex, rx⟩ := yl x H3 y
    have ok3 := (ok2.ext ex).wipe (σ' := L2.wipe σ vs) hv (wipe_wipe σ vs vs fun _ h => h)
    have g3 : Gr (upd H0 P (.lst ws)) R2 R3 := ok2.gr ex
    rw [List.drop_eq_getElem_cons hlt, lcGo] at q2
    cases e : lcStep tg test elt vs ds[i] ρ2 with
    | none => rw [e] at q2; exact q2.elim
    | some zr =>
      obtain ⟨z, ρ6⟩ := zr
      rw [e] at q2
      try dsimp only at q2
      obtain ⟨ρ4, e4, hz⟩ := lcStep_some e
      refine hg _ _ _ R3 H3 x ds[i] ok3 rx _ ρ4 e4 fun σ4 ok4 w4 => ?_
      have w4' : L2.wipe σ4 vs = L2.wipe σ vs := (w4 vs hs).trans (wipe_wipe σ vs vs fun _ h => h)
      refine ⟨w4', ht _ ρ4 σ4 R3 H3 ok4 _ ?_⟩
      rcases hz with ⟨e1, ez⟩ | ⟨y, ρ5, e1, e2, ez⟩
      · rw [e1]
        rw [ez] at q2
        intro R5 H5 g5 ok5
        have gg := (g3.trans g5)
        exact ⟨wipeE ρ6 vs, R5, ws, acc, g2.trans gg.unguard, gg.still r2, ra.mono gg.1, ok5.wipe (σ' := σ) hv w4'.symm, q2⟩
      · rw [e1]
        rw [ez] at q2
        intro R5 H5 g5 ok5
        refine he _ ρ5 σ4 R5 H5 ok5 _ ?_
        rw [e2]
        intro v R6 H6 g6 ok6 r6
        dsimp only at q2
        by_cases hacc : acc.length < 100000
        · rw [if_pos hacc] at q2
          have gg := ((g3.trans g5).trans g6)
          have rP := gg.still r2
          exact ⟨ws, ok6.keep _ _ upd_same, by rw [ra.1]; exact Nat.lt_of_lt_of_le hacc (by decide), wipeE ρ6 vs, R6, ws ++ [v], acc ++ [y], g2.trans gg.unguard, rP, (ra.mono gg.1).snoc r6, (ok6.reguard rP).wipe (σ' := σ) hv w4'.symm, q2⟩
        · rw [if_neg hacc] at q2
          exact q2.elim
  · rw [List.drop_eq_nil_of_le (by omega), lcGo] at q2
    exact .inl ⟨no (by omega), q2 (.ref P) R2 H2 (g1.trans g2) (ok2.unguard h0 r2 ra) ok2.len.symm⟩
/-! two clauses -/
def lc2Step (tg : D → Env → Option Env) (test : M Bool) (it1 : M (List D)) (step1 : D → Env → Option (Option D × Env)) (vs vs1 : List Nat) (d : D) (acc : List D) (ρ : Env) : Option (List D × Env) := match tg d (wipeE ρ vs) with
  | none => none
  | some ρ1 => match test ρ1 with
    | .ok true ρ2 => match it1 ρ2 with
      | .ok ds1 ρ3 => lcGo step1 vs1 ds1 acc (wipeE ρ3 vs1)
      | _ => none
    | .ok false ρ2 => some (acc, ρ2)
    | _ => none
def lc2Go (step : D → List D → Env → Option (List D × Env)) (vs : List Nat) : List D → List D → Env → Option (List D × Env)
  | [], acc, ρ => some (acc, ρ)
  | d :: ds, acc, ρ => match step d acc ρ with
    | none => none
    | some (acc1, ρ1) => lc2Go step vs ds acc1 (wipeE ρ1 vs)
def mLc2 (it : M (List D)) (tg : D → Env → Option Env) (test : M Bool) (it1 : M (List D)) (tg1 : D → Env → Option Env) (test1 : M Bool) (elt : M D) (vs vs1 : List Nat) : M D := mB it fun ds ρ =>
  match lc2Go (lc2Step tg test it1 (lcStep tg1 test1 elt vs1) vs vs1) vs ds [] (wipeE ρ vs) with
  | some (acc, ρ1) => .ok (.ols acc) ρ1
  | none => .st
theorem sim_lc2 {wi wi1 : TI} {g g1 : TG} {tt tt1 : TT} {te : TE} {vs vs1 : List Nat} {it it1 : M (List D)} {tg tg1 : D → Env → Option Env} {test test1 : M Bool} {elt : M D} {sl sl1 : List Nat} (hi : SimI K ct ms vp W wi it) (hg : SimG K ct ms vp g tg sl) (hs : ∀ i ∈ sl, i ∈ vs) (hv : ∀ v ∈ vs, v ∉ ms)
    (ht : SimT K ct ms vp WNo tt test) (hi1 : SimI K ct ms vp WNo wi1 it1) (hg1 : SimG K ct ms vp g1 tg1 sl1) (hs1 : ∀ i ∈ sl1, i ∈ vs1) (hv1 : ∀ v ∈ vs1, v ∈ vs) (ht1 : SimT K ct ms vp WNo tt1 test1) (he : SimF K ct ms vp WNo te elt) :
    SimE K ct ms vp W (tLc2 wi g tt wi1 g1 tt1 te vs vs1) (mLc2 it tg test it1 tg1 test1 elt vs vs1) := fun H0 ρ σ R H ok Q q => by
  have hv1' : ∀ v ∈ vs1, v ∉ ms := fun v h => hv v (hv1 v h)
  refine hi H0 ρ σ R H ok _ (Po.mono (Po.bind q) fun ds ρ1 q J R1 H1 gr1 ok1 it P hP => ?_)
  have h0 : H0 P = none := ok1.keep.free hP
  have r0 : R1 P = none := ok1.same.free hP
  have okw : Ok K ct (upd H0 P (.lst [])) ms vp (wipeE ρ1 vs) σ R1 (upd H1 P (.lst [])) := (ok1.guard hP).wipe hv rfl
  -- what is owed behind the first clause's items from i on
  let Owed : Nat → List D → Env → Prop := fun i acc ρ => Po K ct ms vp W H0 σ R (fun d ρ' => ∀ v R' H', Gr H0 R R' → Ok K ct H0 ms vp (ρ' ++ [some d]) (σ ++ [some v]) R' H' → ρ'.length = σ.length → Q v H')
        (match lc2Go (lc2Step tg test it1 (lcStep tg1 test1 elt vs1) vs vs1) vs (ds.drop i) acc ρ with | some (acc, ρ1) => .ok (.ols acc) ρ1 | none => .st)
  let Nx : Nat → Hp → Prop := fun i H => ∃ ρ R2 ws acc, Gr H0 R1 R2 ∧ R2 P = none ∧ Reps K ct.b R2 ws acc ∧ Ok K ct (upd H0 P (.lst ws)) ms vp ρ σ R2 H ∧ Owed i acc ρ
  refine ⟨fun i m H => m = ds.length - i ∧ i ≤ ds.length ∧ Nx i H, ⟨ds.length, by omega, Nat.zero_le _, _, R1, [], [], Gr.refl _ _, r0, .nil, okw, q⟩, ?_⟩
  rintro i m H2 ⟨rfl, hle, ρ2, R2, ws, acc, g2, r2, ra, ok2, q2⟩
  obtain ⟨yes, no⟩ := it R2 H2 g2.1 ok2.same i
  by_cases hlt : i < ds.length
  · obtain ⟨go, yl⟩ := yes ds[i] (List.getElem?_eq_getElem hlt)
    refine .inr ⟨go, Nx (i + 1), fun H3 w => ⟨ds.length - (i + 1), by omega, rfl, hlt, w⟩, fun x H3 y => ?_⟩
    obtain ⟨R3, ex, rx⟩ := yl x H3 y
    have ok3 := (ok2.ext ex).wipe (σ' := L2.wipe σ vs) hv (wipe_wipe σ vs vs fun _ h => h)
    have g3 : Gr (upd H0 P (.lst ws)) R2 R3 := ok2.gr ex
    dsimp only [Owed] at q2
    rw [List.drop_eq_getElem_cons hlt, lc2Go] at q2
    unfold lc2Step at q2
    cases e : tg ds[i] (wipeE ρ2 vs) with
    | none => rw [e] at q2; exact q2.elim
    | some ρ4 =>
      rw [e] at q2
      dsimp only at q2
      refine hg _ _ _ R3 H3 x ds[i] ok3 rx _ ρ4 e fun σ4 ok4 w4 => ?_
      have w4' : L2.wipe σ4 vs = L2.wipe σ vs := (w4 vs hs).trans (wipe_wipe σ vs vs fun _ h => h)
      refine ⟨w4', ht _ ρ4 σ4 R3 H3 ok4 _ ?_⟩
      cases e1 : test ρ4 with
      | st => rw [e1] at q2; exact q2.elim
      | ex c x ρ5 => rw [e1] at q2; exact q2.elim
      | ok b ρ5 =>
        rw [e1] at q2
        intro R5 H5 g5 ok5
        cases b with
        | false =>
          have ok6 := ok5.wipe (σ' := σ) hv w4'.symm
          have gg := (g3.trans g5)
          exact ⟨wipeE ρ5 vs, R5, ws, acc, g2.trans gg.unguard, gg.still r2, ra.mono gg.1, ok6, q2⟩
        | true =>
          dsimp only at q2
          refine hi1 _ ρ5 σ4 R5 H5 ok5 _ ?_
          cases e2 : it1 ρ5 with
          | st => rw [e2] at q2; exact q2.elim
          | ex c x ρ6 => rw [e2] at q2; exact q2.elim
          | ok ds1 ρ6 =>
            rw [e2] at q2
            dsimp only at q2
            intro J1 R6 H6 g6 ok6 it6
            have gg := ((g3.trans g5).trans g6)
            have rP := gg.still r2
            refine ⟨fun j k H => k = ds1.length - j ∧ j ≤ ds1.length ∧ ∃ ρ R7 ws acc, Gr H0 R1 R7 ∧ Same R6 R7 ∧ R7 P = none ∧ Reps K ct.b R7 ws acc ∧ Ok K ct (upd H0 P (.lst ws)) ms vp ρ σ4 R7 H ∧
              Po K ct ms vp W H0 σ R (fun d ρ' => ∀ v R' H', Gr H0 R R' → Ok K ct H0 ms vp (ρ' ++ [some d]) (σ ++ [some v]) R' H' → ρ'.length = σ.length → Q v H')
                (match (match lcGo (lcStep tg1 test1 elt vs1) vs1 (ds1.drop j) acc ρ with | none => none | some (acc1, ρ1) => lc2Go (lc2Step tg test it1 (lcStep tg1 test1 elt vs1) vs vs1) vs (ds.drop (i + 1)) acc1 (wipeE ρ1 vs)) with | some (acc, ρ1) => .ok (.ols acc) ρ1 | none => .st),
              ⟨ds1.length, by omega, Nat.zero_le _, wipeE ρ6 vs1, R6, ws, acc, g2.trans gg.unguard, Same.refl _, rP, ra.mono gg.1, ok6.wipe hv1' rfl, q2⟩, ?_⟩
            rintro j k H7 ⟨rfl, hle1, ρ7, R7, ws7, acc7, g7, s7, p7, ra7, ok7, q7⟩
            obtain ⟨yes1, no1⟩ := it6 R7 H7 s7 ok7.same j
            by_cases hlt1 : j < ds1.length
            · obtain ⟨go1, yl1⟩ := yes1 ds1[j] (List.getElem?_eq_getElem hlt1)
              refine .inr ⟨go1, fun H8 => ∃ ρ R7 ws acc, Gr H0 R1 R7 ∧ Same R6 R7 ∧ R7 P = none ∧ Reps K ct.b R7 ws acc ∧ Ok K ct (upd H0 P (.lst ws)) ms vp ρ σ4 R7 H8 ∧
                Po K ct ms vp W H0 σ R (fun d ρ' => ∀ v R' H', Gr H0 R R' → Ok K ct H0 ms vp (ρ' ++ [some d]) (σ ++ [some v]) R' H' → ρ'.length = σ.length → Q v H')
                  (match (match lcGo (lcStep tg1 test1 elt vs1) vs1 (ds1.drop (j + 1)) acc ρ with | none => none | some (acc1, ρ1) => lc2Go (lc2Step tg test it1 (lcStep tg1 test1 elt vs1) vs vs1) vs (ds.drop (i + 1)) acc1 (wipeE ρ1 vs)) with | some (acc, ρ1) => .ok (.ols acc) ρ1 | none => .st),
                fun H8 w => ⟨ds1.length - (j + 1), by omega, rfl, hlt1, w⟩, fun x H8 y => ?_⟩
              obtain ⟨R8, ex8, rx8⟩ := yl1 x H8 y
              have ok8 := (ok7.ext ex8).wipe (σ' := L2.wipe σ4 vs1) hv1' (wipe_wipe σ4 vs1 vs1 fun _ h => h)
              have g8 : Gr (upd H0 P (.lst ws7)) R7 R8 := ok7.gr ex8
              rw [List.drop_eq_getElem_cons hlt1, lcGo] at q7
              cases e8 : lcStep tg1 test1 elt vs1 ds1[j] ρ7 with
              | none => rw [e8] at q7; exact q7.elim
              | some zr =>
                obtain ⟨z, ρ9⟩ := zr
                rw [e8] at q7
                try dsimp only at q7
                obtain ⟨ρ8, e9, hz⟩ := lcStep_some e8
                refine hg1 _ _ _ R8 H8 x ds1[j] ok8 rx8 _ ρ8 e9 fun σ8 ok8' w8 => ?_
                have w8' : L2.wipe σ8 vs1 = L2.wipe σ4 vs1 := (w8 vs1 hs1).trans (wipe_wipe σ4 vs1 vs1 fun _ h => h)
                refine ⟨w8', ht1 _ ρ8 σ8 R8 H8 ok8' _ ?_⟩
                rcases hz with ⟨e1, ez⟩ | ⟨y, ρ5, e1, e2, ez⟩
                · rw [e1]
                  rw [ez] at q7
                  intro R9 H9 g9 ok9
                  have gg := (g8.trans g9)
                  exact ⟨wipeE ρ9 vs1, R9, ws7, acc7, g7.trans gg.unguard, s7.trans gg.1, gg.still p7, ra7.mono gg.1, ok9.wipe (σ' := σ4) hv1' w8'.symm, q7⟩
                · rw [e1]
                  rw [ez] at q7
                  intro R9 H9 g9 ok9
                  refine he _ ρ5 σ8 R9 H9 ok9 _ ?_
                  rw [e2]
                  intro v R10 H10 g10 ok10 r10
                  dsimp only at q7
                  by_cases hacc : acc7.length < 100000
                  · rw [if_pos hacc] at q7
                    have gg := ((g8.trans g9).trans g10)
                    have rP := gg.still p7
                    exact ⟨ws7, ok10.keep _ _ upd_same, by rw [ra7.1]; exact Nat.lt_of_lt_of_le hacc (by decide), wipeE ρ9 vs1, R10, ws7 ++ [v], acc7 ++ [y], g7.trans gg.unguard, s7.trans gg.1, rP, (ra7.mono gg.1).snoc r10, (ok10.reguard rP).wipe (σ' := σ4) hv1' w8'.symm, q7⟩
                  · rw [if_neg hacc] at q7
                    exact q7.elim
            · rw [List.drop_eq_nil_of_le (by omega), lcGo] at q7
              refine .inl ⟨no1 (by omega), ?_⟩
              exact ⟨wipeE ρ7 vs, R7, ws7, acc7, g7, p7, ra7, ok7.wipe (σ' := σ) hv w4'.symm, q7⟩
  · dsimp only [Owed] at q2
    rw [List.drop_eq_nil_of_le (by omega), lc2Go] at q2
    exact .inl ⟨no (by omega), q2 (.ref P) R2 H2 (gr1.trans g2) (ok2.unguard h0 r2 ra) ok2.len.symm⟩
end
end Y

namespace Y
open PySem PySem.Spec PyProof.Rows L2
section
variable {K : PySem.W.Frag} {ct : CT} {ms : List Nat} {W : WX} {H0 R R' H H' : Hp} {vp : Nat → V} {ρ : Env} {σ : L2.St}
/-! ### calls: an argument is a slot that is lent, or a value -/
abbrev Arg := Sum Nat D
def ArgOk (K : PySem.W.Frag) (ct : CT) (σ : L2.St) (R : Hp) (v : V) : Arg → Prop
  | .inl i => σ[i]? = some (some v)
  | .inr d => Rep K ct.b R v d
def ArgsOk (K : PySem.W.Frag) (ct : CT) (σ : L2.St) (R : Hp) (vs : List V) (as : List Arg) : Prop := vs.length = as.length ∧ ∀ (k : Nat) (v : V) (a : Arg), vs[k]? = some v → as[k]? = some a → ArgOk K ct σ R v a
theorem ArgsOk.cons {v : V} {a : Arg} {vs : List V} {as : List Arg} (h : ArgOk K ct σ R v a) (t : ArgsOk K ct σ R vs as) : ArgsOk K ct σ R (v :: vs) (a :: as) := by
  refine ⟨by simp [t.1], fun k w b x y => ?_⟩
  cases k with
  | zero =>
    cases (show v = w by simpa using x)
    cases (show a = b by simpa using y)
    exact h
  | succ k => exact t.2 k w b (by simpa using x) (by simpa using y)
def SimB (K : PySem.W.Frag) (ct : CT) (ms : List Nat) (vp : Nat → V) (W : WX) (t : TA) (f : M (List Arg)) : Prop := ∀ H0 ρ σ R H, Ok K ct H0 ms vp ρ σ R H → ∀ Q : List V → Hp → Prop, Po K ct ms vp W H0 σ R (fun as ρ' => ∀ vs R' H', Gr H0 R R' → Ok K ct H0 ms vp ρ' σ R' H' → ArgsOk K ct σ R' vs as → Q vs H') (f ρ) → t σ H Q
def bNil : M (List Arg) := mP []
def bCons (f : M D) (g : M (List Arg)) : M (List Arg) := mB f fun x => mB g fun xs => mP (.inr x :: xs)
def bSlot (i : Nat) (g : M (List Arg)) : M (List Arg) := mB (mGet fun ρ => (ρ[i]?).join) fun _ => mB g fun xs => mP (.inl i :: xs)
theorem sim_bnil : SimB K ct ms vp W tNil bNil := fun H0 ρ σ R H ok Q q => q [] R H (Gr.refl _ _) ok ⟨rfl, fun k v a x _ => by simp at x⟩
theorem sim_bcons {ta : TE} {tr : TA} {f : M D} {g : M (List Arg)} (hf : SimF K ct ms vp W ta f) (hg : SimB K ct ms vp W tr g) : SimB K ct ms vp W (tCons ta tr) (bCons f g) := fun H0 ρ σ R H ok Q q =>
  hf H0 ρ σ R H ok _ (Po.mono (Po.bind q) fun d ρ1 q v R1 H1 g1 ok1 r1 =>
    hg H0 ρ1 σ R1 H1 ok1 _ (Po.gr g1 (Po.bind q) fun ds ρ2 q vs R2 H2 g2 ok2 r2 =>
      q (v :: vs) R2 H2 (g1.trans g2) ok2 (.cons (r1.mono g2.1) r2)))
theorem sim_bslot {i : Nat} {tr : TA} {g : M (List Arg)} (hg : SimB K ct ms vp W tr g) : SimB K ct ms vp W (tCons (tVar i) tr) (bSlot i g) := fun H0 ρ σ R H ok Q q => by
  obtain ⟨d, e, q⟩ := Po.get (Po.bind q)
  obtain ⟨F, f1, _, _⟩ := ok.own
  obtain ⟨v, x, _⟩ := f1 i d (by
    cases h : ρ[i]? with
    | none => rw [h] at e; cases e
    | some y =>
      rw [h] at e
      cases y with
      | none => cases e
      | some z => cases e; rfl)
  exact ⟨v, x, hg H0 ρ σ R H ok _ (Po.mono (Po.bind q) fun ds ρ2 q vs R2 H2 g2 ok2 r2 => q (v :: vs) R2 H2 g2 ok2 (.cons x r2))⟩
def brw : Nat → List Arg → List (Nat × Nat)
  | _, [] => []
  | n, .inl i :: as => (n, i) :: brw (n + 1) as
  | n, .inr _ :: as => brw (n + 1) as
theorem brw_mem {p i : Nat} : ∀ {as : List Arg} {n : Nat}, (p, i) ∈ brw n as → n ≤ p ∧ as[p - n]? = some (.inl i)
  | [], n, h => by simp [brw] at h
  | .inl j :: as, n, h => by
    rw [brw] at h
    cases h with
    | head => exact ⟨Nat.le_refl _, by simp⟩
    | tail _ h =>
      obtain ⟨a, b⟩ := brw_mem h
      refine ⟨by omega, ?_⟩
      rw [show p - n = (p - (n + 1)) + 1 by omega]
      simpa using b
  | .inr d :: as, n, h => by
    rw [brw] at h
    obtain ⟨a, b⟩ := brw_mem h
    refine ⟨by omega, ?_⟩
    rw [show p - n = (p - (n + 1)) + 1 by omega]
    simpa using b
theorem brw_of {i : Nat} : ∀ {as : List Arg} {n k : Nat}, as[k]? = some (.inl i) → (n + k, i) ∈ brw n as
  | [], n, k, h => by simp at h
  | .inl j :: as, n, 0, h => by
    rw [brw]
    cases (show j = i by simpa using h)
    exact .head _
  | .inr d :: as, n, 0, h => by simp at h
  | .inl j :: as, n, k + 1, h => by
    rw [brw]
    have := brw_of (n := n + 1) (k := k) (as := as) (by simpa using h)
    rw [show n + 1 + k = n + (k + 1) by omega] at this
    exact .tail _ this
  | .inr j :: as, n, k + 1, h => by
    rw [brw]
    have := brw_of (n := n + 1) (k := k) (as := as) (by simpa using h)
    rw [show n + 1 + k = n + (k + 1) by omega] at this
    exact this
def putW : List Nat → List D → Env → Env
  | i :: is, d :: w, ρ => putW is w (ρ.set i (some d))
  | _, _, ρ => ρ
theorem putW_length : ∀ (is : List Nat) (w : List D) (ρ : Env), (putW is w ρ).length = ρ.length
  | [], _, ρ => rfl
  | _ :: _, [], ρ => rfl
  | i :: is, d :: w, ρ => by rw [putW, putW_length]; simp
theorem putW_out {j : Nat} : ∀ {is : List Nat} {w : List D} {ρ : Env}, j ∉ is → (putW is w ρ)[j]? = ρ[j]?
  | [], _, ρ, _ => rfl
  | _ :: _, [], ρ, _ => rfl
  | i :: is, d :: w, ρ, h => by
    rw [putW, putW_out (fun z => h (.tail _ z)), List.getElem?_set_ne fun e => h (by rw [e]; exact .head _)]
theorem putW_in {j k : Nat} : ∀ {is : List Nat} {w : List D} {ρ : Env}, is.Nodup → is[k]? = some j → j < ρ.length → k < w.length → (putW is w ρ)[j]? = (w[k]?).map some
  | [], _, ρ, _, h, _, _ => by simp at h
  | _ :: _, [], ρ, _, _, _, h => by simp at h
  | i :: is, d :: w, ρ, nd, h, hj, hk => by
    rw [putW]
    cases k with
    | zero =>
      cases (show i = j by simpa using h)
      rw [putW_out (List.nodup_cons.mp nd).1, List.getElem?_set_self hj]
      rfl
    | succ k =>
      rw [putW_in (k := k) (List.nodup_cons.mp nd).2 (by simpa using h) (by simpa using hj) (by simpa using hk)]
      rfl
def argD (ρ : Env) : Arg → Option D
  | .inl i => (ρ[i]?).join
  | .inr d => some d
def argsD (ρ : Env) : List Arg → Option (List D)
  | [] => some []
  | a :: as => match argD ρ a, argsD ρ as with
    | some d, some ds => some (d :: ds)
    | _, _ => none
theorem argsD_at : ∀ {as : List Arg} {ds : List D}, argsD ρ as = some ds → ds.length = as.length ∧ ∀ (k : Nat) (d : D), ds[k]? = some d → ∃ a, as[k]? = some a ∧ argD ρ a = some d
  | [], ds, h => by
    cases h
    exact ⟨rfl, fun k d h => by simp at h⟩
  | a :: as, ds, h => by
    rw [argsD] at h
    split at h
    · rename_i d es e1 e2
      cases h
      obtain ⟨l, f⟩ := argsD_at e2
      refine ⟨by simp [l], fun k d' h => ?_⟩
      cases k with
      | zero =>
        cases (show d = d' by simpa using h)
        exact ⟨a, rfl, e1⟩
      | succ k =>
        obtain ⟨b, x, y⟩ := f k d' (by simpa using h)
        exact ⟨b, by simpa using x, y⟩
    · cases h
/-- the values that stand in the lent places -/
def pickV (ms : List Nat) (vs : List V) : List V := ms.map fun i => vs.getD i .non
/-- a def that does what m says: the parameters of ms are lent -/
def SpM (K : PySem.W.Frag) (ct : CTB) (ms : List Nat) (m : List D → Ans) : Sp := fun vs H Q E => ∃ H0 R ds, Ok K ct.triv H0 [] (fun _ => .non) (ds.map some) (vs.map some) R H ∧ match m ds with
  | .ok d w => ∀ v R' H', Gr H0 R R' → w.length = ms.length → Ok K ct.triv H0 [] (fun _ => .non) (w.map some ++ [some d]) ((pickV ms vs).map some ++ [some v]) R' H' → Q v H'
  | .ex c x w => ∀ od R' H', Gr H0 R R' → w.length = ms.length → Ok K ct.triv H0 [] (fun _ => .non) (w.map some) ((pickV ms vs).map some) R' H' → XOk K ct R' c x od → E (.ref (ct.err c)) od H'
  | .st => False
/-- behind a call: what was lent has come back -/
theorem Ok.back {as : List Arg} {vs : List V} {ds : List D} {I : List Nat} {ms' : List Nat} (ok : Ok K ct H0 ms vp ρ σ R H) (ha : ArgsOk K ct σ R vs as) (hd : argsD ρ as = some ds) (hm : (brw 0 as).map (·.1) = ms') (hI : (brw 0 as).map (·.2) = I) (nd : I.Nodup) :
    ∃ H1, Ok K ct H1 [] (fun _ => .non) (ds.map some) (vs.map some) R H ∧ ∀ w R' H', Gr H1 R R' → w.length = ms'.length →
      Gr H0 R R' ∧ (∀ y u, Ok K ct H1 [] (fun _ => .non) (w.map some ++ [y]) ((pickV ms' vs).map some ++ [u]) R' H' → Ok K ct H0 ms vp (putW I w ρ ++ [y]) (σ ++ [u]) R' H') ∧
      (Ok K ct H1 [] (fun _ => .non) (w.map some) ((pickV ms' vs).map some) R' H' → Ok K ct H0 ms vp (putW I w ρ) σ R' H') := by
  obtain ⟨s, k, iv, l, pi, F, f1, f2, f3⟩ := id ok
  classical
  obtain ⟨ld, fd⟩ := argsD_at hd
  -- the n-th lent place
  have lent : ∀ n i, I[n]? = some i → ∃ p v, ms'[n]? = some p ∧ as[p]? = some (Sum.inl i : Arg) ∧ vs[p]? = some v ∧ σ[i]? = some (some v) := fun n i h => by
    rw [← hI, List.getElem?_map] at h
    obtain ⟨⟨p, j⟩, h1, h2⟩ := Option.map_eq_some_iff.mp h
    cases (show j = i from h2)
    obtain ⟨_, h3⟩ := brw_mem (List.mem_of_getElem? h1)
    rw [Nat.sub_zero] at h3
    have hp : p < vs.length := by rw [ha.1]; exact (List.getElem?_eq_some_iff.mp h3).1
    refine ⟨p, vs[p], by rw [← hm, List.getElem?_map, h1]; rfl, h3, List.getElem?_eq_getElem hp, ?_⟩
    exact ha.2 p _ _ (List.getElem?_eq_getElem hp) h3
  have inI : ∀ p i, as[p]? = some (Sum.inl i : Arg) → i ∈ I := fun p i h => by
    rw [← hI]
    exact List.mem_map.mpr ⟨(0 + p, i), brw_of h, rfl⟩
  have lIm : I.length = ms'.length := by rw [← hI, ← hm]; simp
  refine ⟨fun b => if ∃ i ∈ I, F i b then none else H b, ⟨s, fun b o q => ?_, iv, by simp [ha.1, ld], fun i hi => (by cases hi), fun n b => ∃ i, as[n]? = some (Sum.inl i : Arg) ∧ F i b, fun n d h => ?_, fun n m b ne => ?_, fun n b => ?_⟩, fun w R' H' g lw => ?_⟩
  · try dsimp only at q
    split at q
    · cases q
    · exact q
  · rw [List.getElem?_map] at h
    obtain ⟨d', h1, h2⟩ := Option.map_eq_some_iff.mp h
    cases h2
    obtain ⟨a, h3, h4⟩ := fd n d h1
    have hn : n < vs.length := by rw [ha.1]; exact (List.getElem?_eq_some_iff.mp h3).1
    have av := ha.2 n _ a (List.getElem?_eq_getElem hn) h3
    refine ⟨vs[n], by rw [List.getElem?_map, List.getElem?_eq_getElem hn]; rfl, ?_⟩
    cases a with
    | inr e => cases h4; exact .fz av
    | inl i =>
      have hi : ρ[i]? = some (some d) := by
        simp only [argD] at h4
        cases e : ρ[i]? with
        | none => rw [e] at h4; cases h4
        | some y =>
          rw [e] at h4
          cases y with
          | none => cases h4
          | some z => cases h4; rfl
      obtain ⟨v, x, y⟩ := f1 i d hi
      have : vs[n] = v := by
        have := (show σ[i]? = some (some vs[n]) from av).symm.trans x
        cases this
        rfl
      rw [this]
      exact y.monoF fun b gb => ⟨i, h3, gb⟩
  · rintro ⟨i, x, gx⟩ ⟨j, y, gy⟩
    by_cases e : i = j
    · subst e
      -- one slot is lent twice: no
      obtain ⟨p, hp⟩ := List.getElem?_of_mem (inI n i x)
      have m1 : (0 + n, i) ∈ brw 0 as := brw_of x
      have m2 : (0 + m, i) ∈ brw 0 as := brw_of y
      obtain ⟨p1, e1⟩ := List.getElem?_of_mem m1
      obtain ⟨p2, e2⟩ := List.getElem?_of_mem m2
      have i1 : I[p1]? = some i := by rw [← hI, List.getElem?_map, e1]; rfl
      have i2 : I[p2]? = some i := by rw [← hI, List.getElem?_map, e2]; rfl
      have hp1 := (List.getElem?_eq_some_iff.mp i1).1
      have ep : p1 = p2 := (List.getElem?_inj hp1 nd).mp (i1.trans i2.symm)
      subst ep
      rw [e1] at e2
      have e3 := congrArg Prod.fst (Option.some.inj e2)
      dsimp only at e3
      omega
    · exact f2 i j b e gx gy
  · rintro ⟨i, x, gx⟩
    obtain ⟨a, b', c⟩ := f3 i b gx
    exact ⟨a, b', if_pos ⟨i, inI n i x, gx⟩⟩
  · have n0 : ∀ b, (if ∃ i ∈ I, F i b then none else H b) = none → H0 b = none := fun b z => by
      by_cases e : ∃ i ∈ I, F i b
      · obtain ⟨i, _, gi⟩ := e
        exact (f3 i b gi).2.2
      · rw [if_neg e] at z
        exact k.free z
    have g0 : Gr H0 R R' := ⟨g.1, fun b z => (g.2 b z).imp id (n0 b)⟩
    -- the slots that were not lent stay
    have stay : ∀ i, i ∉ I → ∀ b, F i b → (∀ o, H b = some o → (if ∃ i ∈ I, F i b then none else H b) = some o) ∧ R' b = none := fun i hi b gi => by
      have no : ¬ ∃ j ∈ I, F j b := fun ⟨j, hj, gj⟩ => f2 i j b (fun e => hi (by rw [e]; exact hj)) gi gj
      refine ⟨fun o q => by rw [if_neg no]; exact q, ?_⟩
      cases e : R' b with
      | none => rfl
      | some x =>
        rcases g.2 b (by rw [e]; exact Option.some_ne_none _) with z | z
        · exact absurd (f3 i b gi).1 z
        · have z' : (if ∃ i ∈ I, F i b then none else H b) = none := z
          rw [if_neg no] at z'
          exact absurd z' (f3 i b gi).2.1
    have main : ∀ (ys : Env) (us : L2.St), ys.length = us.length → Ok K ct (fun b => if ∃ i ∈ I, F i b then none else H b) [] (fun _ => .non) (w.map some ++ ys) ((pickV ms' vs).map some ++ us) R' H' → Ok K ct H0 ms vp (putW I w ρ ++ ys) (σ ++ us) R' H' := fun ys us lys ok2 => by
      obtain ⟨s2, k2, iv2, l2, _, F2, h1, h2, h3⟩ := ok2
      have lw2 : (w.map some).length = I.length := by rw [List.length_map, lw, lIm]
      refine ⟨s2, fun b o q => ?_, iv2, by rw [List.length_append, List.length_append, putW_length, l, lys], fun i hi => ?_, fun j b => (∃ n, I[n]? = some j ∧ F2 n b) ∨ (j ∉ I ∧ j < ρ.length ∧ F j b) ∨ (∃ m, j = ρ.length + m ∧ j ∉ I ∧ F2 (I.length + m) b), fun j d q => ?_, fun i j b ne x y => ?_, fun j b q => ?_⟩
      · have hb := k b o q
        refine k2 b o ?_
        by_cases e : ∃ i ∈ I, F i b
        · obtain ⟨i, _, gi⟩ := e
          rw [(f3 i b gi).2.2] at q
          cases q
        · show (if ∃ i ∈ I, F i b then none else H b) = some o
          rw [if_neg e]
          exact hb
      · have q := pi i hi
        have z : i < σ.length := (List.getElem?_eq_some_iff.mp q).1
        rw [List.getElem?_append_left z]
        exact q
      · by_cases z : j < ρ.length
        · rw [List.getElem?_append_left (by rw [putW_length]; exact z)] at q
          rw [List.getElem?_append_left (by rw [l]; exact z)]
          by_cases hj : j ∈ I
          · obtain ⟨n, hn⟩ := List.getElem?_of_mem hj
            have hnl : n < w.length := by
              have := (List.getElem?_eq_some_iff.mp hn).1
              omega
            rw [putW_in nd hn z hnl] at q
            obtain ⟨d', e1, e2⟩ := Option.map_eq_some_iff.mp q
            cases e2
            obtain ⟨p, v, m1, m2, m3, m4⟩ := lent n j hn
            obtain ⟨v', x, y⟩ := h1 n d (by rw [List.getElem?_append_left (by simpa using hnl), List.getElem?_map, e1]; rfl)
            have hpv : ((pickV ms' vs).map some ++ us)[n]? = some (some v) := by
              have hml : n < ms'.length := (List.getElem?_eq_some_iff.mp m1).1
              rw [List.getElem?_append_left (by simpa [pickV] using hml), List.getElem?_map]
              unfold pickV
              rw [List.getElem?_map, m1]
              simp [List.getD, m3]
            cases hpv.symm.trans x
            exact ⟨v, m4, y.monoF fun b gb => .inl ⟨n, hn, gb⟩⟩
          · rw [putW_out hj] at q
            obtain ⟨v, x, y⟩ := f1 j d q
            refine ⟨v, x, ((y.monoR g.1).monoH fun b o gb q' => ?_).monoF fun b gb => .inr (.inl ⟨hj, z, gb⟩)⟩
            exact k2 b o ((stay j hj b gb).1 o q')
        · have hj : j ∉ I := fun hj => by
            obtain ⟨n, hn⟩ := List.getElem?_of_mem hj
            obtain ⟨p, v, m1, m2, m3, m4⟩ := lent n j hn
            have := (List.getElem?_eq_some_iff.mp m4).1
            omega
          rw [List.getElem?_append_right (by rw [putW_length]; omega), putW_length] at q
          obtain ⟨v, x, y⟩ := h1 (I.length + (j - ρ.length)) d (by
            rw [List.getElem?_append_right (by omega), lw2]
            rw [show I.length + (j - ρ.length) - I.length = j - ρ.length by omega]
            exact q)
          refine ⟨v, ?_, y.monoF fun b gb => .inr (.inr ⟨j - ρ.length, by omega, hj, gb⟩)⟩
          rw [List.getElem?_append_right (by omega), l]
          have lp : ((pickV ms' vs).map some).length = I.length := by unfold pickV; simp [lIm]
          rw [List.getElem?_append_right (by omega), lp, show I.length + (j - ρ.length) - I.length = j - ρ.length by omega] at x
          exact x
      · have old : ∀ (i j : Nat) (b : Addr), (i ∉ I ∧ i < ρ.length ∧ F i b) → ∀ n, ¬ F2 n b := fun i j b ⟨hi, _, gi⟩ n gn => by
          have no : ¬ ∃ j ∈ I, F j b := fun ⟨j, hj, gj⟩ => f2 i j b (fun e => hi (by rw [e]; exact hj)) gi gj
          have z : (if ∃ i ∈ I, F i b then none else H b) = none := (h3 n b gn).2.2
          rw [if_neg no] at z
          exact (f3 i b gi).2.1 z
        rcases x with ⟨n, x1, x2⟩ | x | ⟨m, x1, x2, x3⟩ <;> rcases y with ⟨n', y1, y2⟩ | y | ⟨m', y1, y2, y3⟩
        · exact h2 n n' b (fun e => ne (by subst e; exact Option.some.inj (x1.symm.trans y1))) x2 y2
        · exact old j i b y n x2
        · have := (List.getElem?_eq_some_iff.mp x1).1
          exact h2 n _ b (by omega) x2 y3
        · exact old i j b x n' y2
        · exact f2 i j b ne x.2.2 y.2.2
        · exact old i j b x _ y3
        · have := (List.getElem?_eq_some_iff.mp y1).1
          exact h2 n' _ b (by omega) y2 x3
        · exact old j i b y _ x3
        · exact h2 _ _ b (by omega) x3 y3
      · rcases q with ⟨n, _, q⟩ | ⟨hj, _, q⟩ | ⟨m, _, _, q⟩
        · obtain ⟨a, b', c⟩ := h3 _ b q
          exact ⟨a, b', n0 b c⟩
        · obtain ⟨st1, st2⟩ := stay j hj b q
          obtain ⟨a, b', c⟩ := f3 j b q
          refine ⟨st2, ?_, c⟩
          cases e : H b with
          | none => exact absurd e b'
          | some o => rw [k2 b o (st1 o e)]; exact Option.some_ne_none _
        · obtain ⟨a, b', c⟩ := h3 _ b q
          exact ⟨a, b', n0 b c⟩
    refine ⟨g0, fun y u o => main [y] [u] rfl o, fun o => ?_⟩
    have := main [] [] rfl (by simpa using o)
    simpa using this
/-- a call -/
def mCall (ms' : List Nat) (m : List D → Ans) (f : M (List Arg)) : M D := mB f fun as => mB (mGet fun ρ => argsD ρ as) fun ds =>
  if (brw 0 as).map (·.1) = ms' ∧ ((brw 0 as).map (·.2)).Nodup then fun ρ => match m ds with
    | .ok d w => if w.length = ms'.length then .ok d (putW ((brw 0 as).map (·.2)) w ρ) else .st
    | .ex c x w => if w.length = ms'.length then .ex c x (putW ((brw 0 as).map (·.2)) w ρ) else .st
    | .st => .st
  else fun _ => .st
/-- a call that lets no error out -/
def noX (m : List D → Ans) : List D → Ans := fun ds => match m ds with
  | .ok d w => .ok d w
  | _ => .st
theorem call_core {ms' : List Nat} {m : List D → Ans} {f : M (List Arg)} {ta : TA} {S : L2.St → List V → Hp → VK → Prop} (hf : SimB K ct ms vp W ta f)
    (hu : ∀ σ vs H Q, SpM K ct.b ms' m vs H Q (WE W σ) → S σ vs H Q) : SimE K ct ms vp W (fun σ H Q => ta σ H fun vs H1 => S σ vs H1 Q) (mCall ms' m f) := fun H0 ρ σ R H ok Q q => by
  refine hf H0 ρ σ R H ok _ (Po.mono (Po.bind q) fun as ρ1 q vs R1 H1 g1 ok1 r1 => hu σ vs H1 Q ?_)
  obtain ⟨ds, e, q⟩ := Po.get (Po.bind q)
  split at q
  · rename_i hc
    obtain ⟨HX, okX, back⟩ := ok1.back r1 e hc.1 rfl hc.2
    refine ⟨HX, R1, ds, okX.cast rfl trivial, ?_⟩
    cases em : m ds with
    | st => rw [em] at q; exact q.elim
    | ok d w =>
      rw [em] at q
      intro v R2 H2 g2 lw ok2
      obtain ⟨g3, b1, _⟩ := back w R2 H2 g2 lw
      dsimp only at q
      rw [if_pos lw] at q
      exact q v R2 H2 (g1.trans g3) (b1 _ _ (ok2.cast rfl (ct.mono _ _ g2.1 okX.inv))) (by rw [putW_length]; exact ok1.len.symm)
    | ex c x w =>
      rw [em] at q
      intro od R2 H2 g2 lw ok2 xo
      obtain ⟨g3, _, b2⟩ := back w R2 H2 g2 lw
      dsimp only at q
      rw [if_pos lw] at q
      exact q od R2 H2 (g1.trans g3) (b2 (ok2.cast rfl (ct.mono _ _ g2.1 okX.inv))) xo
  · exact q.elim
/-- a promise about a def that lets no error out -/
theorem SpM.noX {ms' : List Nat} {m : List D → Ans} {vs : List V} {H : Hp} {Q : VK} {E : XK} (h : SpM K ct.b ms' (noX m) vs H Q E) (E' : XK) : SpM K ct.b ms' m vs H Q E' := by
  obtain ⟨H0, R, ds, ok, q⟩ := h
  refine ⟨H0, R, ds, ok, ?_⟩
  unfold Y.noX at q
  cases e : m ds with
  | ok d w => rw [e] at q; exact q
  | ex c x w => rw [e] at q; exact q.elim
  | st => rw [e] at q; exact q.elim
theorem sim_callS {ms' : List Nat} {m : List D → Ans} {f : M (List Arg)} {ta : TA} (hf : SimB K ct ms vp W ta f) : SimE K ct ms vp W (tCallS (SpM K ct.b ms' m) (WE W) ta) (mCall ms' m f) :=
  call_core hf fun σ vs H Q h => h
theorem sim_call0 {ms' : List Nat} {m : List D → Ans} {f : M (List Arg)} {ta : TA} {E : XK} (hf : SimB K ct ms vp W ta f) : SimE K ct ms vp W (tCall (SpM K ct.b ms' m) [] E ta) (mCall ms' (noX m) f) :=
  call_core hf fun σ vs H Q h => by
    show SpM K ct.b ms' m (vs ++ []) H Q E
    rw [List.append_nil]
    exact h.noX E
/-! ### defs -/
def getW (ms : List Nat) (ρ : Env) : Option (List D) := argsD ρ (ms.map Sum.inl)
def mkFn (np n : Nat) (ms : List Nat) (body : Stm) : List D → Ans := fun ds => if ds.length = np then (match body (ds.map some ++ List.replicate (n - ds.length) none) with
    | .nx ρ => match getW ms ρ with
      | some w => .ok .non w
      | none => .st
    | .rt d ρ => match getW ms ρ with
      | some w => .ok d w
      | none => .st
    | .ex c x ρ => match getW ms ρ with
      | some w => .ex c x w
      | none => .st
    | _ => .st) else .st
theorem getW_at {w : List D} (h : getW ms ρ = some w) : w.length = ms.length ∧ ∀ (k : Nat) (d : D), w[k]? = some d → ∃ i, ms[k]? = some i ∧ ρ[i]? = some (some d) := by
  obtain ⟨l, f⟩ := argsD_at h
  refine ⟨by simpa using l, fun k d hk => ?_⟩
  obtain ⟨a, h1, h2⟩ := f k d hk
  rw [List.getElem?_map] at h1
  obtain ⟨i, h3, h4⟩ := Option.map_eq_some_iff.mp h1
  subst h4
  refine ⟨i, h3, ?_⟩
  simp only [argD] at h2
  cases e : ρ[i]? with
  | none => rw [e] at h2; cases h2
  | some y =>
    rw [e] at h2
    cases y with
    | none => cases h2
    | some z => cases h2; rfl
/-- what was lent, and more -/
theorem Ok.hand {vs : List V} {w : List D} {ys : Env} {us : L2.St} (ok : Ok K ct H0 ms vp (ρ ++ ys) (σ ++ us) R H) (l : ρ.length = σ.length) (lys : ys.length = us.length) (hvp : ∀ i ∈ ms, vp i = vs.getD i .non) (hlt : ∀ i ∈ ms, i < σ.length) (nd : ms.Nodup) (h : getW ms ρ = some w) :
    Ok K ct H0 [] (fun _ => .non) (w.map some ++ ys) ((pickV ms vs).map some ++ us) R H := by
  obtain ⟨lw, f⟩ := getW_at h
  have lp : ((pickV ms vs).map some).length = ms.length := by simp [pickV]
  refine ok.sel (fun k => if k < ms.length then ms.getD k 0 else ρ.length + (k - ms.length)) (by simp [pickV, lw, lys]) (fun i hi => (by cases hi)) (fun k d q => ?_) (fun k k' hk hk' e => ?_)
  · by_cases z : k < ms.length
    · rw [List.getElem?_append_left (by simpa [lw] using z), List.getElem?_map] at q
      obtain ⟨d', e1, e2⟩ := Option.map_eq_some_iff.mp q
      cases e2
      obtain ⟨i, h1, h2⟩ := f k d e1
      have hi : i ∈ ms := List.mem_of_getElem? h1
      have ei : ms.getD k 0 = i := by simp [List.getD, h1]
      rw [if_pos z, ei, List.getElem?_append_left (List.getElem?_eq_some_iff.mp h2).1, List.getElem?_append_left (by omega)]
      refine ⟨h2, ?_⟩
      have p := ok.pins i hi
      rw [p, List.getElem?_map]
      unfold pickV
      rw [List.getElem?_map, h1, hvp i hi]
      rfl
    · rw [if_neg z]
      have hw : (w.map some).length = ms.length := by simp [lw]
      rw [List.getElem?_append_right (by omega), hw] at q
      rw [List.getElem?_append_right (by omega), List.getElem?_append_right (by omega), lp, List.getElem?_append_right (by omega)]
      rw [show ρ.length + (k - ms.length) - ρ.length = k - ms.length by omega, show ρ.length + (k - ms.length) - σ.length = k - ms.length by omega]
      exact ⟨q, rfl⟩
  · have hm : ∀ j, j < ms.length → ms.getD j 0 < σ.length := fun j hj => by
      have : ms.getD j 0 = ms[j] := by simp [List.getD, hj]
      rw [this]
      exact hlt _ (List.getElem_mem hj)
    try dsimp only at e
    split at e <;> split at e
    · rename_i h1 h2
      have e1 : ms.getD k 0 = ms[k] := by simp [List.getD, h1]
      have e2 : ms.getD k' 0 = ms[k'] := by simp [List.getD, h2]
      rw [e1, e2] at e
      exact (List.getElem_inj nd).mp e
    · have := hm k (by assumption); omega
    · have := hm k' (by assumption); omega
    · omega
end
section
variable {K : PySem.W.Frag} {ct : CTB} {ms : List Nat}
/-- a def's body keeps the promise -/
theorem sim_fn {np : Nat} {body : Stm} {t : TS} {N : List Str} {vs : List V} {Q : VK} {E : XK} (hs : SimS K ct.triv ms (fun i => vs.getD i .non) (fun cls d _ H => E cls d H) t body) (hm : ms.all (fun i => decide (i < np)) = true) (nd : ms.Nodup)
    (h : SpM K ct ms (mkFn np N.length ms body) vs H Q E) : t { nx := fun _ H' => Q .non H', rt := Q } (L2.start N vs) H := by
  obtain ⟨H0, R, ds, ok, q⟩ := h
  unfold mkFn at q
  have lv : vs.length = ds.length := by simpa using ok.len
  have hl : ds.length = np := by
    by_cases hl : ds.length = np
    · exact hl
    · rw [if_neg hl] at q; exact q.elim
  rw [if_pos hl] at q
  have hlt : ∀ i ∈ ms, i < vs.length := fun i hi => by
    have := List.all_eq_true.mp hm i hi
    have := of_decide_eq_true this
    omega
  have ok0 : Ok K ct.triv H0 ms (fun i => vs.getD i .non) (ds.map some ++ List.replicate (N.length - ds.length) none) (L2.start N vs) R H := by
    unfold L2.start
    rw [lv]
    refine ok.sel id (by simp [lv]) (fun i hi => ?_) (fun k d h => ?_) fun k k' _ _ e => e
    · have := hlt i hi
      rw [List.getElem?_append_left (by simpa using this), List.getElem?_map]
      simp [List.getD, this]
    · by_cases z : k < ds.length
      · rw [List.getElem?_append_left (by simpa using z)] at h
        refine ⟨h, ?_⟩
        rw [List.getElem?_append_left (by simpa [lv] using z)]
        rfl
      · rw [List.getElem?_append_right (by simpa using z), List.getElem?_replicate] at h
        split at h <;> cases h
  refine hs H0 _ _ R H ok0 _ ?_
  cases e : body (ds.map some ++ List.replicate (N.length - ds.length) none) with
  | nx ρ' =>
    rw [e] at q
    dsimp only at q
    cases ew : getW ms ρ' with
    | none => rw [ew] at q; exact q.elim
    | some w =>
      rw [ew] at q
      intro σ' R' H' g ok'
      exact q .non R' H' g (getW_at ew).1 ((ok'.temp .non).hand ok'.len.symm rfl (fun i _ => rfl) ok'.mslt nd ew)
  | rt d ρ' =>
    rw [e] at q
    dsimp only at q
    cases ew : getW ms ρ' with
    | none => rw [ew] at q; exact q.elim
    | some w =>
      rw [ew] at q
      intro v σ' R' H' g ok' l
      refine q v R' H' g (getW_at ew).1 (ok'.hand l rfl (fun i _ => rfl) (fun i hi => ?_) nd ew)
      obtain ⟨_, f⟩ := getW_at ew
      obtain ⟨k, hk⟩ := List.getElem?_of_mem hi
      have hkw : k < w.length := by
        rw [(getW_at ew).1]
        exact (List.getElem?_eq_some_iff.mp hk).1
      obtain ⟨i', h1, h2⟩ := f k w[k] (List.getElem?_eq_getElem hkw)
      cases hk.symm.trans h1
      have := (List.getElem?_eq_some_iff.mp h2).1
      omega
  | ex c x ρ' =>
    rw [e] at q
    dsimp only at q
    cases ew : getW ms ρ' with
    | none => rw [ew] at q; exact q.elim
    | some w =>
      rw [ew] at q
      intro od σ' R' H' g ok' xo
      have := (show Ok K ct.triv H0 ms _ (ρ' ++ []) (σ' ++ []) R' H' by simpa using ok').hand ok'.len.symm rfl (fun i _ => rfl) ok'.mslt nd ew
      exact q od R' H' g (getW_at ew).1 (by simpa using this) xo
  | bk ρ' => rw [e] at q; exact q.elim
  | ct ρ' => rw [e] at q; exact q.elim
  | st => rw [e] at q; exact q.elim
/-- as many arguments as parameters -/
theorem SpM.len {np n : Nat} {body : Stm} {vs : List V} {Q : VK} {E : XK} (h : SpM K ct ms (mkFn np n ms body) vs H Q E) : vs.length = np := by
  obtain ⟨H0, R, ds, ok, q⟩ := h
  have lv : vs.length = ds.length := by simpa using ok.len
  unfold mkFn at q
  by_cases hl : ds.length = np
  · omega
  · rw [if_neg hl] at q; exact q.elim
end
end Y

namespace Y
open PySem PySem.Spec PyProof.Rows L2
section
variable {K : PySem.W.Frag} {b : CTB}
/-! ### operators -/
def oI0 (g : Int → Int → D) : D → D → Option D
  | .int i, .int j => some (g i j)
  | _, _ => none
/-- g as values, g' as data -/
theorem op_I0 {g : Int → Int → V} {g' : Int → Int → D} (h : ∀ i j R, Rep K b R (g i j) (g' i j)) : OpF K b (rI0 g) (oI0 g') := fun R H x y dx dy s rx ry Q q => by
  cases dx <;> cases dy <;> simp only [oI0] at q <;> try exact q.elim
  rename_i i j
  cases rx.int_inv; cases ry.int_inv
  exact ⟨i, j, rfl, rfl, q _ R H (Ext.refl s) (h i j R)⟩
def oI (C : Int → Int → Bool) (g : Int → Int → Int) : D → D → Option D
  | .int i, .int j => if C i j = true then some (.int (g i j)) else none
  | _, _ => none
theorem op_I {C : Int → Int → Prop} {C' : Int → Int → Bool} {g : Int → Int → Int} (h : ∀ i j, C' i j = true → C i j) : OpF K b (rI C fun i j => .int (g i j)) (oI C' g) := fun R H x y dx dy s rx ry Q q => by
  cases dx <;> cases dy <;> simp only [oI] at q <;> try exact q.elim
  rename_i i j
  cases rx.int_inv; cases ry.int_inv
  by_cases c : C' i j = true
  · rw [if_pos c] at q
    exact ⟨i, j, rfl, rfl, h i j c, q _ R H (Ext.refl s) (.int _)⟩
  · rw [if_neg c] at q
    exact q.elim
abbrev oAdd := oI0 fun i j => .int (i + j)
abbrev oSub := oI0 fun i j => .int (i - j)
abbrev oLt := oI0 fun i j => .bl (decide (i < j))
abbrev oLe := oI0 fun i j => .bl (decide (i ≤ j))
abbrev oGt := oI0 fun i j => .bl (decide (j < i))
abbrev oGe := oI0 fun i j => .bl (decide (j ≤ i))
theorem so_add : OpF K b (rI0 fun i j => .int (i + j)) oAdd := op_I0 fun _ _ _ => .int _
theorem so_sub : OpF K b (rI0 fun i j => .int (i - j)) oSub := op_I0 fun _ _ _ => .int _
theorem so_lt : OpF K b (rI0 fun i j => .bl (decide (i < j))) oLt := op_I0 fun _ _ _ => .bl _
theorem so_le : OpF K b (rI0 fun i j => .bl (decide (i ≤ j))) oLe := op_I0 fun _ _ _ => .bl _
theorem so_gt : OpF K b (rI0 fun i j => .bl (decide (j < i))) oGt := op_I0 fun _ _ _ => .bl _
theorem so_ge : OpF K b (rI0 fun i j => .bl (decide (j ≤ i))) oGe := op_I0 fun _ _ _ => .bl _
def big (i : Int) : Bool := decide (i.natAbs.log2 < 450000)
abbrev oMul := oI (fun i j => big i && big j) fun i j => i * j
abbrev oMod := oI (fun _ j => decide (0 < j)) fun i j => i % j
abbrev oDiv := oI (fun _ j => decide (0 < j) && decide (j.natAbs.log2 < 9000)) fun i j => i / j
abbrev oPow := oI (fun i j => decide (0 ≤ j) && (decide (j ≤ 1000000) && decide (i.natAbs < 2 ^ 64))) fun i j => i ^ j.toNat
theorem so_mul : OpF K b (rI CMulW fun i j => .int (i * j)) oMul := op_I fun i j h => by
  simp only [Bool.and_eq_true, big, decide_eq_true_eq] at h
  show i.natAbs.log2 + j.natAbs.log2 < 1000000
  omega
theorem so_mod : OpF K b (rI (fun _ j => 0 < j) fun i j => .int (i % j)) oMod := op_I fun i j h => by simpa using h
theorem so_div : OpF K b (rI CDivW fun i j => .int (i / j)) oDiv := op_I fun i j h => by simpa [CDivW] using h
theorem so_pow : OpF K b (rI CPow fun i j => .int (i ^ j.toNat)) oPow := op_I fun i j h => by
  simp only [Bool.and_eq_true, decide_eq_true_eq] at h
  exact h
/-- == of scalars -/
def eqS : D → D → Option Bool
  | .non, .non => some true | .non, .int _ => some false | .int _, .non => some false | .non, .bl _ => some false | .bl _, .non => some false | .non, .str _ => some false | .str _, .non => some false
  | .int i, .int j => some (decide (i = j)) | .bl i, .bl j => some (decide (i = j)) | .str i, .str j => some (decide (i = j))
  | .int _, .str _ => some false | .str _, .int _ => some false | .bl _, .str _ => some false | .str _, .bl _ => some false
  | _, _ => none
theorem eqS_some {R : Hp} {x y : V} {dx dy : D} {r : Bool} (h : eqS dx dy = some r) (rx : Rep K b R x dx) (ry : Rep K b R y dy) : scal x y = true ∧ decide (x = y) = r := by
  cases dx <;> cases dy <;> simp only [eqS] at h <;> try (cases h; done)
  all_goals cases rx
  all_goals cases ry
  all_goals cases h
  all_goals first
    | exact ⟨rfl, Y.dec_int⟩ | exact ⟨rfl, Y.dec_bl⟩ | exact ⟨rfl, Y.dec_str⟩
    | (refine ⟨rfl, ?_⟩; simp)
def oEq (x y : D) : Option D := (eqS x y).map D.bl
def oNe (x y : D) : Option D := (eqS x y).map fun r => D.bl (!r)
theorem so_eq : OpF K b rEq oEq := fun R H x y dx dy s rx ry Q q => by
  unfold oEq at q
  cases e : eqS dx dy with
  | none => rw [e] at q; exact q.elim
  | some r =>
    rw [e] at q
    obtain ⟨h1, h2⟩ := eqS_some e rx ry
    exact ⟨h1, q _ R H (Ext.refl s) (by rw [h2]; exact .bl r)⟩
theorem so_ne : OpF K b rNe oNe := fun R H x y dx dy s rx ry Q q => by
  unfold oNe at q
  cases e : eqS dx dy with
  | none => rw [e] at q; exact q.elim
  | some r =>
    rw [e] at q
    obtain ⟨h1, h2⟩ := eqS_some e rx ry
    exact ⟨h1, q _ R H (Ext.refl s) (by rw [h2]; exact .bl _)⟩
/-- x is None -/
def isN : D → Bool
  | .non => true
  | _ => false
theorem isN_dec {R : Hp} {x : V} {d : D} (r : Rep K b R x d) : decide (x = .non) = isN d := by
  cases r <;> simp [isN]
def oIsN (x y : D) : Option D := match y with
  | .non => some (.bl (isN x))
  | _ => none
def oNotN (x y : D) : Option D := match y with
  | .non => some (.bl (!isN x))
  | _ => none
theorem so_isN : OpF K b (fun x y H Q => y = .non ∧ Q (.bl (decide (x = .non))) H) oIsN := fun R H x y dx dy s rx ry Q q => by
  cases dy <;> simp only [oIsN] at q <;> try exact q.elim
  exact ⟨ry.non_inv, q _ R H (Ext.refl s) (by rw [isN_dec rx]; exact .bl _)⟩
theorem so_notN : OpF K b (fun x y H Q => y = .non ∧ Q (.bl (!decide (x = .non))) H) oNotN := fun R H x y dx dy s rx ry Q q => by
  cases dy <;> simp only [oNotN] at q <;> try exact q.elim
  exact ⟨ry.non_inv, q _ R H (Ext.refl s) (by rw [isN_dec rx]; exact .bl _)⟩
/-- x is True, x is False, x a truth or None -/
def isW : D → D → Option Bool
  | .non, .bl _ => some false
  | .bl i, .bl j => some (decide (i = j))
  | _, _ => none
def oIsW (x y : D) : Option D := (isW x y).map D.bl
def oNotW (x y : D) : Option D := (isW x y).map fun r => D.bl (!r)
theorem isW_some {R : Hp} {x y : V} {dx dy : D} {r : Bool} (h : isW dx dy = some r) (rx : Rep K b R x dx) (ry : Rep K b R y dy) : ∃ c, y = .bl c ∧ (x = .non ∨ ∃ a, x = .bl a) ∧ decide (x = .bl c) = r := by
  cases dx <;> cases dy <;> simp only [isW] at h <;> try (cases h; done)
  all_goals cases rx
  all_goals cases ry
  all_goals cases h
  · exact ⟨_, rfl, .inl rfl, by simp⟩
  · exact ⟨_, rfl, .inr ⟨_, rfl⟩, Y.dec_bl⟩
theorem so_isW : OpF K b rIsW oIsW := fun R H x y dx dy s rx ry Q q => by
  unfold oIsW at q
  cases e : isW dx dy with
  | none => rw [e] at q; exact q.elim
  | some r =>
    rw [e] at q
    obtain ⟨c, h1, h2, h3⟩ := isW_some e rx ry
    exact ⟨c, h1, h2, q _ R H (Ext.refl s) (by rw [h3]; exact .bl r)⟩
theorem so_notW : OpF K b rNotW oNotW := fun R H x y dx dy s rx ry Q q => by
  unfold oNotW at q
  cases e : isW dx dy with
  | none => rw [e] at q; exact q.elim
  | some r =>
    rw [e] at q
    obtain ⟨c, h1, h2, h3⟩ := isW_some e rx ry
    exact ⟨c, h1, h2, q _ R H (Ext.refl s) (by rw [h3]; exact .bl _)⟩
/-! in -/
def flD : D → Bool
  | .non => true | .bl _ => true | .int _ => true | .str _ => true
  | _ => false
def eqF : D → D → Bool
  | .non, .non => true
  | .bl a, .bl b => a == b
  | .bl a, .int b => (if a then 1 else 0) == b
  | .int a, .bl b => a == (if b then 1 else 0)
  | .int a, .int b => a == b
  | .str a, .str b => a == b
  | _, _ => false
def inD (x : D) (ds : List D) : Bool := ds.any fun y => eqF y x
theorem flD_V {R : Hp} {x : V} {d : D} (r : Rep K b R x d) (h : flD d = true) : flatV x = true := by
  cases r <;> first | rfl | cases h
theorem eqF_V {R : Hp} {x y : V} {d e : D} (r : Rep K b R x d) (t : Rep K b R y e) (h : flD d = true) (g : flD e = true) : eqV x y = eqF d e := by
  cases r <;> cases t <;> first | rfl | cases h | cases g
theorem inD_V {R : Hp} {x : V} {d : D} {vs : List V} {ds : List D} (r : Rep K b R x d) (h : flD d = true) (rs : Reps K b R vs ds) (hs : ds.all flD = true) : vs.all flatV = true ∧ inV x vs = inD d ds := by
  induction ds generalizing vs with
  | nil => cases rs.nil_inv; exact ⟨rfl, rfl⟩
  | cons e ds ih =>
    obtain ⟨v, ws, rfl, rv, rw'⟩ := rs.cons_inv
    rw [List.all_cons, Bool.and_eq_true] at hs
    obtain ⟨i1, i2⟩ := ih rw' hs.2
    refine ⟨by rw [List.all_cons, flD_V rv hs.1, i1]; rfl, ?_⟩
    show (eqV v x || inV x ws) = (eqF e d || inD d ds)
    rw [eqF_V rv r hs.1 h, i2]
def seqD : D → Option (List D)
  | .lst ds => some ds
  | .tup ds => some ds
  | _ => none
theorem seqD_some {R : Hp} {v : V} {d : D} {ds : List D} (h : seqD d = some ds) (r : Rep K b R v d) : ∃ a vs, v = .ref a ∧ (SqL K R a vs ∨ SqT K R a vs) ∧ Reps K b R vs ds := by
  cases d <;> simp only [seqD] at h <;> try (cases h; done)
  all_goals cases h
  · obtain ⟨a, vs, e, h, t⟩ := r.lst_inv
    exact ⟨a, vs, e, .inl (.inl (.inl h)), t⟩
  · obtain ⟨a, vs, e, h, t⟩ := r.tup_inv
    exact ⟨a, vs, e, .inr h, t⟩
def oIn (neg : Bool) (x y : D) : Option D := (seqD y).bind fun ds => if (flD x && ds.all flD) = true then some (.bl (if neg = true then !inD x ds else inD x ds)) else none
theorem so_in {neg : Bool} : OpF K b (rIn K neg) (oIn neg) := fun R H x y dx dy s rx ry Q q => by
  unfold oIn at q
  cases e : seqD dy with
  | none => rw [e] at q; exact q.elim
  | some ds =>
    rw [e] at q
    dsimp only [Option.bind] at q
    obtain ⟨a, vs, rfl, h, t⟩ := seqD_some e ry
    by_cases f : (flD dx && ds.all flD) = true
    · rw [if_pos f] at q
      obtain ⟨f1, f2⟩ := Bool.and_eq_true_iff.mp f
      obtain ⟨g1, g2⟩ := inD_V rx f1 t f2
      exact ⟨a, vs, rfl, h.imp (SqL.mono s) (SqT.mono s), flD_V rx f1, g1, q _ R H (Ext.refl s) (by rw [g2]; cases neg <;> exact .bl _)⟩
    · rw [if_neg f] at q
      exact q.elim
def oNeg : D → Option D
  | .int i => some (.int (-i))
  | _ => none
theorem so_neg : UnF K b (rU fun i => .int (-i)) oNeg := fun R H x dx s rx Q q => by
  cases dx <;> simp only [oNeg] at q <;> try exact q.elim
  cases rx.int_inv
  exact ⟨_, rfl, q _ R H (Ext.refl s) (.int _)⟩
/-! lists and tuples: +, *, items -/
def oCat : D → D → Option (List D)
  | .lst xs, .lst ys => if xs.length + ys.length ≤ 100000 then some (xs ++ ys) else none
  | _, _ => none
theorem so_cat : OpL K b rCat oCat := fun R H x y dx dy s rx ry Q q => by
  cases dx <;> cases dy <;> simp only [oCat] at q <;> try exact q.elim
  rename_i xs ys
  obtain ⟨a, vs, rfl, h1, r1⟩ := rx.lst_inv
  obtain ⟨c, ws, rfl, h2, r2⟩ := ry.lst_inv
  by_cases l : xs.length + ys.length ≤ 100000
  · rw [if_pos l] at q
    exact ⟨a, c, vs, ws, rfl, rfl, s _ _ h1, s _ _ h2, by rw [r1.1, r2.1]; exact Nat.le_trans l (by decide), fun p hp => q p _ hp (r1.app r2)⟩
  · rw [if_neg l] at q; exact q.elim
def oCatT : D → D → Option D
  | .tup xs, .tup ys => if xs ≠ [] ∧ xs.length + ys.length ≤ 100000 then some (.tup (xs ++ ys)) else none
  | _, _ => none
def ixO (ds : List D) (y : D) : Option D := match y with
  | .int i => atI ds i
  | _ => none
def oIx (x y : D) : Option D := match x with
  | .lst ds => ixO ds y
  | _ => none
def oIxT (x y : D) : Option D := match x with
  | .tup ds => ixO ds y
  | _ => none
theorem so_ix : OpF K b (rIxL K) oIx := fun R H x y dx dy s rx ry Q q => by
  cases dx <;> simp only [oIx] at q <;> try exact q.elim
  cases dy <;> simp only [ixO] at q <;> try exact q.elim
  rename_i ds i
  obtain ⟨a, vs, rfl, h1, r1⟩ := rx.lst_inv
  cases ry.int_inv
  cases e : atI ds i with
  | none => rw [e] at q; exact q.elim
  | some d =>
    rw [e] at q
    obtain ⟨j, u, _, k1, k2, k3⟩ := atI_len (xs := vs) r1.1 e
    exact ⟨a, vs, i, u, rfl, rfl, .inl (.inl (s _ _ h1)), k3, q u R H (Ext.refl s) (r1.2 j u d k1 k2)⟩
theorem so_ixT : OpF K b (rIxT K) oIxT := fun R H x y dx dy s rx ry Q q => by
  cases dx <;> simp only [oIxT] at q <;> try exact q.elim
  cases dy <;> simp only [ixO] at q <;> try exact q.elim
  rename_i ds i
  obtain ⟨a, vs, rfl, h1, r1⟩ := rx.tup_inv
  cases ry.int_inv
  cases e : atI ds i with
  | none => rw [e] at q; exact q.elim
  | some d =>
    rw [e] at q
    obtain ⟨j, u, _, k1, k2, k3⟩ := atI_len (xs := vs) r1.1 e
    exact ⟨a, vs, i, u, rfl, rfl, SqT.mono s h1, k3, q u R H (Ext.refl s) (r1.2 j u d k1 k2)⟩
/-! built-in functions -/
def oLen : List D → Option D
  | [d] => (seqD d).map fun ds => .int ds.length
  | _ => none
theorem so_len : CbF K b (fun (xs : List V) (H : Hp) (Q : VK) => ∃ p ys, xs = [.ref p] ∧ (SqL K H p ys ∨ SqT K H p ys) ∧ Q (.int ys.length) H) oLen := fun R H vs ds s r Q q => by
  match ds, q, r with
  | [d], q, r =>
    obtain ⟨v, ws, rfl, r1, r2⟩ := r.cons_inv
    cases r2.nil_inv
    simp only [oLen] at q
    cases e : seqD d with
    | none => rw [e] at q; exact q.elim
    | some es =>
      rw [e] at q
      obtain ⟨a, us, rfl, h, t⟩ := seqD_some e r1
      exact ⟨a, us, rfl, h.imp (SqL.mono s) (SqT.mono s), q _ R H (Ext.refl s) (by rw [t.1]; exact .int _)⟩
  | [], q, _ => exact q.elim
  | _ :: _ :: _, q, _ => exact q.elim
theorem one {R : Hp} {vs : List V} {d : D} (r : Reps K b R vs [d]) : ∃ v, vs = [v] ∧ Rep K b R v d := by
  obtain ⟨v, ws, rfl, r1, r2⟩ := r.cons_inv
  cases r2.nil_inv
  exact ⟨v, rfl, r1⟩
theorem two {R : Hp} {vs : List V} {d e : D} (r : Reps K b R vs [d, e]) : ∃ v u, vs = [v, u] ∧ Rep K b R v d ∧ Rep K b R u e := by
  obtain ⟨v, ws, rfl, r1, r2⟩ := r.cons_inv
  obtain ⟨u, rfl, r3⟩ := one r2
  exact ⟨v, u, rfl, r1, r3⟩
def oAbs : List D → Option D
  | [.int i] => some (.int (if i < 0 then -i else i))
  | _ => none
def oMin2 : List D → Option D
  | [.int i, .int j] => some (.int (if j < i then j else i))
  | _ => none
def oMax2 : List D → Option D
  | [.int i, .int j] => some (.int (if j > i then j else i))
  | _ => none
def oInt : List D → Option D
  | [.int i] => some (.int i)
  | [.bl k] => some (.int (if k then 1 else 0))
  | _ => none
theorem so_abs : CbF K b (fun xs H Q => ∃ i, xs = [.int i] ∧ Q (.int (if i < 0 then -i else i)) H) oAbs := fun R H vs ds s r Q q => by
  match ds, q, r with
  | [.int i], q, r =>
    obtain ⟨v, rfl, r1⟩ := one r
    cases r1.int_inv
    exact ⟨i, rfl, q _ R H (Ext.refl s) (.int _)⟩
end
end Y

namespace Y
open PySem PySem.Spec PyProof.Rows L2
section
variable {K : PySem.W.Frag} {b : CTB}
theorem so_min2 : CbF K b (fun xs H Q => ∃ i j, xs = [.int i, .int j] ∧ Q (.int (if j < i then j else i)) H) oMin2 := fun R H vs ds s r Q q => by
  match ds, q, r with
  | [.int i, .int j], q, r =>
    obtain ⟨v, u, rfl, r1, r2⟩ := two r
    cases r1.int_inv; cases r2.int_inv
    exact ⟨i, j, rfl, q _ R H (Ext.refl s) (.int _)⟩
theorem so_max2 : CbF K b (fun xs H Q => ∃ i j, xs = [.int i, .int j] ∧ Q (.int (if j > i then j else i)) H) oMax2 := fun R H vs ds s r Q q => by
  match ds, q, r with
  | [.int i, .int j], q, r =>
    obtain ⟨v, u, rfl, r1, r2⟩ := two r
    cases r1.int_inv; cases r2.int_inv
    exact ⟨i, j, rfl, q _ R H (Ext.refl s) (.int _)⟩
theorem so_int : CbF K b (fun xs H Q => (∃ i, xs = [.int i] ∧ Q (.int i) H) ∨ ∃ k, xs = [.bl k] ∧ Q (.int (if k then 1 else 0)) H) oInt := fun R H vs ds s r Q q => by
  match ds, q, r with
  | [.int i], q, r =>
    obtain ⟨v, rfl, r1⟩ := one r
    cases r1.int_inv
    exact .inl ⟨i, rfl, q _ R H (Ext.refl s) (.int _)⟩
  | [.bl k], q, r =>
    obtain ⟨v, rfl, r1⟩ := one r
    cases r1.bl_inv
    exact .inr ⟨k, rfl, q _ R H (Ext.refl s) (.int _)⟩
/-- list(x) -/
def oList : List D → Option (List D)
  | [.lst ds] => some ds
  | [.tup ds] => some ds
  | [.scr ns] => some (ns.map D.int)
  | _ => none
theorem so_list : CbL K b (fun xs H Q => ∃ p ys, xs = [.ref p] ∧ (SqL K H p ys ∨ SqT K H p ys) ∧ ∀ l, H l = none → Q (.ref l) (upd H l (.lst ys))) oList := fun R H vs ds s r Q q => by
  match ds, q, r with
  | [.lst es], q, r =>
    obtain ⟨v, rfl, r1⟩ := one r
    obtain ⟨a, us, rfl, h, t⟩ := r1.lst_inv
    exact ⟨a, us, rfl, .inl (.inl (.inl (s _ _ h))), fun l hl => q l us hl t⟩
  | [.tup es], q, r =>
    obtain ⟨v, rfl, r1⟩ := one r
    obtain ⟨a, us, rfl, h, t⟩ := r1.tup_inv
    exact ⟨a, us, rfl, .inr (SqT.mono s h), fun l hl => q l us hl t⟩
  | [.scr ns], q, r =>
    obtain ⟨v, rfl, r1⟩ := one r
    cases r1 with
    | scr h => exact ⟨_, _, rfl, .inl (SqL.mono s h), fun l hl => q l _ hl (.ints ns)⟩
/-- tuple(x) -/
def oTuple : List D → Option D
  | [.lst ds] => some (.tup ds)
  | [.tup ds] => some (.tup ds)
  | _ => none
theorem so_tuple : CbF K b (fun xs H Q => ∃ p ys, xs = [.ref p] ∧ ((SqL K H p ys ∧ ∀ l, H l = none → Q (.ref l) (upd H l (.tup ys))) ∨ (SqT K H p ys ∧ Q (.ref p) H))) oTuple := fun R H vs ds s r Q q => by
  match ds, q, r with
  | [.lst es], q, r =>
    obtain ⟨v, rfl, r1⟩ := one r
    obtain ⟨a, us, rfl, h, t⟩ := r1.lst_inv
    refine ⟨a, us, rfl, .inl ⟨.inl (.inl (s _ _ h)), fun l hl => ?_⟩⟩
    have x := Ext.new (o := .tup us) s hl
    exact q _ _ _ x (.tup (.inl (.inl upd_same)) t.1 (t.mono x.r).2)
  | [.tup es], q, r =>
    obtain ⟨v, rfl, r1⟩ := one r
    obtain ⟨a, us, e, h, t⟩ := r1.tup_inv
    subst e
    exact ⟨a, us, rfl, .inr ⟨SqT.mono s h, q _ R H (Ext.refl s) r1⟩⟩
theorem so_catT : OpF K b (rCatT K) oCatT := fun R H x y dx dy s rx ry Q q => by
  cases dx <;> cases dy <;> simp only [oCatT] at q <;> try exact q.elim
  rename_i xs ys
  obtain ⟨a, vs, rfl, h1, r1⟩ := rx.tup_inv
  obtain ⟨c, ws, rfl, h2, r2⟩ := ry.tup_inv
  by_cases l : xs ≠ [] ∧ xs.length + ys.length ≤ 100000
  · rw [if_pos l] at q
    refine ⟨a, c, vs, ws, rfl, rfl, SqT.mono s h1, SqT.mono s h2, fun z => l.1 ?_, by rw [r1.1, r2.1]; exact Nat.le_trans l.2 (by decide), ?_⟩
    · have := r1.1
      rw [z] at this
      exact List.eq_nil_of_length_eq_zero this.symm
    · refine ⟨fun z => ?_, fun _ p hp => ?_⟩
      · subst z
        cases (List.eq_nil_of_length_eq_zero r2.1.symm)
        rw [List.append_nil] at q
        exact q _ R H (Ext.refl s) rx
      · have x := Ext.new (o := .tup (vs ++ ws)) s hp
        exact q _ _ _ x (.tup (.inl (.inl upd_same)) (by simp [r1.1, r2.1]) ((r1.app r2).mono x.r).2)
  · rw [if_neg l] at q; exact q.elim
/-! isinstance of a written class -/
inductive Ty where
  | list | tuple | int | bool | str
def Ty.nm : Ty → String
  | .list => "list" | .tuple => "tuple" | .int => "int" | .bool => "bool" | .str => "str"
def isTy : Ty → D → Option Bool
  | .list, .lst _ => some true | .tuple, .tup _ => some true | .int, .int _ => some true | .int, .bl _ => some true | .bool, .bl _ => some true | .str, .str _ => some true
  | _, .ins _ _ _ => none
  | _, .ols _ => none
  | _, .scr _ => none
  | _, .dct _ _ _ => none
  | _, .odc _ _ _ => none
  | _, .oin _ _ _ => none
  | _, _ => some false
def tyN : D → Option String
  | .non => some "NoneType" | .bl _ => some "bool" | .int _ => some "int" | .str _ => some "str" | .lst _ => some "list" | .tup _ => some "tuple"
  | _ => none
theorem tyN_ty {R : Hp} {v : V} {d : D} {t : String} (h : tyN d = some t) (q : Rep K b R v d) : TyX K R v (.type t) := by
  cases q <;> simp only [tyN] at h <;> cases h
  · exact .base .non
  · exact .base (.bl _)
  · exact .base (.int _)
  · exact .base (.str _)
  · exact ty_lst (.inl (.inl (by assumption)))
  · exact ty_tup (by assumption)
theorem tyN_k {d : D} {t : String} {T : Ty} {r : Bool} (h : tyN d = some t) (e : isTy T d = some r) : kitB t T.nm = some r := by
  cases d <;> simp only [tyN] at h <;> cases h <;> cases T <;> (cases e; decide +kernel)
theorem isTy_N {d : D} {T : Ty} {r : Bool} (e : isTy T d = some r) : ∃ t, tyN d = some t := by
  cases d <;> first | exact ⟨_, rfl⟩ | (cases T <;> cases e)
def mIsi (T : Ty) (f : M D) : M D := mB f fun d => mO ((isTy T d).map D.bl)
/-- isinstance(x, (list, tuple)) -/
def isSq (d : D) : Option Bool := (isTy .list d).bind fun r => if r = true then some true else isTy .tuple d
def mIsi2 (f : M D) : M D := mB f fun d => mO ((isSq d).map D.bl)
end
section
variable {K : PySem.W.Frag} {ct : CT} {ms : List Nat} {W : WX} {H0 R R' H H' : Hp} {vp : Nat → V} {ρ : Env} {σ : L2.St}
theorem sim_isi {T : Ty} {t : TE} {f : M D} (hf : SimF K ct ms vp W t f) : SimF K ct ms vp W (tCB (rIsi K) (tCons t (tCons (tC (.ty T.nm)) tNil))) (mIsi T f) := fun H0 ρ σ R H ok Q q =>
  hf H0 ρ σ R H ok _ (Po.mono (Po.bind q) fun d ρ1 q v R1 H1 g1 ok1 r1 => by
    obtain ⟨d', e, q⟩ := Po.opt q
    obtain ⟨r, e1, e2⟩ := Option.map_eq_some_iff.mp e
    subst e2
    obtain ⟨t, et⟩ := isTy_N e1
    exact r_isi (tyN_ty et (r1.mono ok1.same)) (tyN_k et e1) (q _ R1 H1 g1 ok1 (.bl _)))
theorem sim_isi2 {t : TE} {f : M D} (hf : SimF K ct ms vp W t f) : SimF K ct ms vp W (tCB (rIsiT K) (tCons t (tCons (tTup (tCons (tC (.ty "list")) (tCons (tC (.ty "tuple")) tNil))) tNil))) (mIsi2 f) := fun H0 ρ σ R H ok Q q =>
  hf H0 ρ σ R H ok _ (Po.mono (Po.bind q) fun d ρ1 q v R1 H1 g1 ok1 r1 => by
    obtain ⟨d', e, q⟩ := Po.opt q
    obtain ⟨r, e1, e2⟩ := Option.map_eq_some_iff.mp e
    subst e2
    refine ⟨by decide, fun p hp => ?_⟩
    have x := Ext.heap (o := .tup [.ty "list", .ty "tuple"]) ok1.same hp
    have ok2 := ok1.ext x
    have fin := q (.bl r) R1 _ (g1.trans (ok1.gr x)) ok2 (.bl r)
    obtain ⟨r0, e3, e4⟩ := Option.bind_eq_some_iff.mp e1
    obtain ⟨t, et⟩ := isTy_N e3
    have ty := tyN_ty et (r1.mono x.s)
    have k := tyN_k et e3
    cases r0 with
    | true =>
      cases e4
      exact r_isi2 upd_same ty (kit2 k (.inl rfl)) fin
    | false =>
      have k' := tyN_k et e4
      cases r with
      | true => exact r_isi2 upd_same ty (kit2t k k') fin
      | false => exact r_isi2 upd_same ty (kit2 k (.inr k')) fin)
/-! truth -/
def truD : D → Option Bool
  | .non => some false
  | .bl r => some r
  | .int i => some (i != 0)
  | .lst ds => some (!ds.isEmpty)
  | .tup ds => some (!ds.isEmpty)
  | _ => none
theorem isEmpty_reps {b : CTB} {vs : List V} {ds : List D} (r : Reps K b R vs ds) : vs.isEmpty = ds.isEmpty := by
  cases ds with
  | nil => cases r.nil_inv; rfl
  | cons => obtain ⟨v, ws, rfl, _⟩ := r.cons_inv; rfl
theorem truD_V {b : CTB} {v : V} {d : D} {r : Bool} (h : truD d = some r) (q : Rep K b R v d) (s : Same R H) : TruV K v H r := by
  cases q with
  | non => cases h; rfl
  | bl => cases h; rfl
  | int => cases h; rfl
  | str => cases h
  | lst e hl hc => cases h; exact .inl ⟨_, .inl (.inl (s _ _ e)), by rw [isEmpty_reps ⟨hl, hc⟩]⟩
  | tup e hl hc => cases h; exact .inr (.inl ⟨_, SqT.mono s e, by rw [isEmpty_reps ⟨hl, hc⟩]⟩)
  | scr => cases h
  | ins => cases h
  | slt => cases h
  | dct => cases h
def mTru (f : M D) : M Bool := mB f fun d => mO (truD d)
theorem sim_tru {t : TE} {f : M D} (hf : SimF K ct ms vp W t f) : SimT K ct ms vp W (fun σ H Q => t σ H fun x H' => ∃ k, TruV K x H' k ∧ Q k H') (mTru f) := fun H0 ρ σ R H ok Q q =>
  hf H0 ρ σ R H ok _ (Po.mono (Po.bind q) fun d ρ1 q v R1 H1 g1 ok1 r1 => by
    obtain ⟨r, e, q⟩ := Po.opt q
    exact ⟨r, truD_V e r1 ok1.same, q R1 H1 g1 ok1⟩)
/-- the truth of a list in a slot -/
def mTruV (i : Nat) : M Bool := mB (mGet fun ρ => seqOf ρ[i]?) fun ds => mP (!ds.isEmpty)
theorem isEmpty_len {α β : Type} {xs : List α} {ys : List β} (h : xs.length = ys.length) : xs.isEmpty = ys.isEmpty := by
  cases xs <;> cases ys <;> first | rfl | simp at h
theorem sim_truV {i : Nat} : SimT K ct ms vp W (fun σ H Q => tVar i σ H fun x H' => ∃ k, TruV K x H' k ∧ Q k H') (mTruV i) := fun H0 ρ σ R H ok Q q => by
  obtain ⟨ds, e, q⟩ := Po.get (Po.bind q)
  obtain ⟨d, e2, e3⟩ := seqOf_some e
  obtain ⟨a, vs, x, y, l, _⟩ := ok.seq e2 e3
  exact ⟨.ref a, x, _, .inl ⟨vs, sql0 y, rfl⟩, by rw [isEmpty_len l]; exact q R H (Gr.refl _ _) ok⟩
/-! slices -/
def SimPO (K : PySem.W.Frag) (ct : CT) (ms : List Nat) (vp : Nat → V) (W : WX) (t : TO) (f : M (Option Int)) : Prop := ∀ H0 ρ σ R H, Ok K ct H0 ms vp ρ σ R H → ∀ Q : Option Int → Hp → Prop, Po K ct ms vp W H0 σ R (fun b ρ' => ∀ R' H', Gr H0 R R' → Ok K ct H0 ms vp ρ' σ R' H' → Q b H') (f ρ) → t σ H Q
def mPNo : M (Option Int) := mP none
def mPSome (f : M D) : M (Option Int) := mB f fun d => mO (match d with | .int i => some (some i) | _ => none)
theorem sim_pno : SimPO K ct ms vp W tNoPart mPNo := fun H0 ρ σ R H ok Q q => q R H (Gr.refl _ _) ok
theorem sim_psome {t : TE} {f : M D} (hf : SimF K ct ms vp W t f) : SimPO K ct ms vp W (tPart t) (mPSome f) := fun H0 ρ σ R H ok Q q =>
  hf H0 ρ σ R H ok _ (Po.mono (Po.bind q) fun d ρ1 q v R1 H1 g1 ok1 r1 => by
    obtain ⟨r, e, q⟩ := Po.opt q
    cases d with
    | int i => cases e; exact ⟨i, r1.int_inv, q R1 H1 g1 ok1⟩
    | _ => cases e)
def cutD (xs : List D) (lo hi : Option Int) : List D := (xs.drop (HT.sIx xs.length 0 lo)).take (HT.sIx xs.length xs.length hi - HT.sIx xs.length 0 lo)
theorem Reps.cut {b : CTB} {vs : List V} {ds : List D} (r : Reps K b R vs ds) (lo hi : Option Int) : Reps K b R (cutV vs lo hi) (cutD ds lo hi) := by
  unfold cutV cutD
  rw [r.1]
  exact (r.drop _).take _
def mSlL (f : M D) (l h : M (Option Int)) : M D := mB f fun d => mB l fun lo => mB h fun hi => mB (mO (asL d)) fun ds => mP (.ols (cutD ds lo hi))
theorem sim_slL {te : TE} {tl th : TO} {f : M D} {l h : M (Option Int)} (hf : SimF K ct ms vp W te f) (hl : SimPO K ct ms vp W tl l) (hh : SimPO K ct ms vp W th h) : SimE K ct ms vp W (tSl (rSlL K) te tl th) (mSlL f l h) := fun H0 ρ σ R H ok Q q =>
  hf H0 ρ σ R H ok _ (Po.mono (Po.bind q) fun d ρ1 q v R1 H1 g1 ok1 r1 =>
    hl H0 ρ1 σ R1 H1 ok1 _ (Po.gr g1 (Po.bind q) fun lo ρ2 q R2 H2 g2 ok2 =>
      hh H0 ρ2 σ R2 H2 ok2 _ (Po.gr (g1.trans g2) (Po.bind q) fun hi ρ3 q R3 H3 g3 ok3 => by
        obtain ⟨ds, e, q⟩ := Po.opt (Po.bind q)
        cases asL_some e
        obtain ⟨a, vs, rfl, h, t⟩ := r1.lst_inv
        have t3 := t.mono (g2.trans g3).1
        refine ⟨a, vs, rfl, .inl (.inl (ok3.same _ _ ((g2.trans g3).1 _ _ h))), fun p hp => ?_⟩
        exact q (.ref p) R3 _ ((g1.trans g2).trans g3) (ok3.list hp (t3.cut lo hi)) ok3.len.symm)))
def notAll (n : Nat) (lo hi : Option Int) : Option Unit := if HT.sIx n 0 lo = 0 ∧ HT.sIx n n hi = n then none else some ()
def mSlT (f : M D) (l h : M (Option Int)) : M D := mB f fun d => mB l fun lo => mB h fun hi => mB (mO (asT d)) fun ds => mB (mO (notAll ds.length lo hi)) fun _ => mP (.tup (cutD ds lo hi))
theorem sim_slT {te : TE} {tl th : TO} {f : M D} {l h : M (Option Int)} (hf : SimF K ct ms vp W te f) (hl : SimPO K ct ms vp W tl l) (hh : SimPO K ct ms vp W th h) : SimF K ct ms vp W (tSl (rSlT K) te tl th) (mSlT f l h) := fun H0 ρ σ R H ok Q q =>
  hf H0 ρ σ R H ok _ (Po.mono (Po.bind q) fun d ρ1 q v R1 H1 g1 ok1 r1 =>
    hl H0 ρ1 σ R1 H1 ok1 _ (Po.gr g1 (Po.bind q) fun lo ρ2 q R2 H2 g2 ok2 =>
      hh H0 ρ2 σ R2 H2 ok2 _ (Po.gr (g1.trans g2) (Po.bind q) fun hi ρ3 q R3 H3 g3 ok3 => by
        obtain ⟨ds, e, q⟩ := Po.opt (Po.bind q)
        obtain ⟨_, na, q⟩ := Po.opt (Po.bind q)
        rw [asT_some e] at r1
        obtain ⟨a, vs, rfl, h, t⟩ := r1.tup_inv
        have t3 := t.mono (g2.trans g3).1
        refine ⟨a, vs, rfl, SqT.mono ok3.same (SqT.mono (g2.trans g3).1 h), fun z => ?_, fun p hp => ?_⟩
        · rw [t.1] at z
          unfold notAll at na
          rw [if_pos z] at na
          cases na
        · have x := Ext.new (o := .tup (cutV vs lo hi)) ok3.same hp
          have tc := (t3.cut lo hi).mono x.r
          exact q (.ref p) _ _ (((g1.trans g2).trans g3).trans (ok3.gr x)) (ok3.ext x) (.tup (.inl (.inl upd_same)) tc.1 tc.2))))
/-! raise -/
def mRaise0 (c : Nat) : Stm := fun ρ => .ex c none ρ
theorem sim_raise0 {c : Nat} {C : Addr} (e : C = ct.b.err c) : SimS K ct ms vp W (fun _ σ H => W (.ref C) none σ H) (mRaise0 c) := fun H0 ρ σ R H ok D' q => by
  subst e
  exact q none σ R H (Gr.refl _ _) ok rfl
def mRaise1 (c : Nat) (g : M (List D)) : Stm := mThen g fun xs ρ => match xs with
  | [x] => .ex c (some x) ρ
  | _ => .st
theorem sim_raise1 {c : Nat} {C : Addr} {f : Str} {ta : TA} {g : M (List D)} (e : C = ct.b.err c) (ef : f = ct.b.fld c) (hg : SimA K ct ms vp W ta g) : SimS K ct ms vp W (fun _ σ H => tMkO C (spErr C f) [] ta σ H fun cls d H' => W cls d σ H') (mRaise1 c g) := fun H0 ρ σ R H ok D' q => by
  subst e ef
  refine hg H0 ρ σ R H ok _ (Po.mono (PoS.bind q) fun xs ρ1 q vs R1 H1 g1 ok1 r1 => ?_)
  match xs, q, r1 with
  | [x], q, r1 =>
    obtain ⟨v, rfl, rv⟩ := one r1
    refine ⟨by simp, fun a ha => err_heap (C := ct.b.err c) (f := ct.b.fld c) (v := v) (H := H1) (R := fun cls d H' => W cls d σ H') (fun d H' hd s h => ?_) ha⟩
    have hr : R1 d = none := ok1.same.free hd
    have ex : Ext R1 H1 (upd R1 d (.xd [(ct.b.fld c, v)])) H' := by
      refine ⟨fun a u h => ?_, fun a u h => ?_, s, fun b h => ?_⟩
      · rw [upd_ne (ne_of_none h hr)]; exact h
      · by_cases e : a = d
        · subst e; rw [upd_same] at h; rw [← h]; assumption
        · rw [upd_ne e] at h; exact s _ _ (ok1.same _ _ h)
      · by_cases e : b = d
        · subst e; exact .inr hd
        · rw [upd_ne e] at h; exact .inl h
    exact q (some d) σ _ H' (g1.trans (ok1.gr ex)) (ok1.ext ex) ⟨d, v, rfl, upd_same, rv.mono ex.r⟩
/-! try .. except X as n -/
def offO (i : Nat) : Out → Out
  | .nx ρ => .nx (ρ.set i none)
  | .bk ρ => .bk (ρ.set i none)
  | .ct ρ => .ct (ρ.set i none)
  | .rt d ρ => .rt d ρ
  | .ex c x ρ => .ex c x ρ
  | .st => .st
def mTry (body : Stm) (i : Nat) (fits : Nat → Option Bool) (h : Nat → Option D → Stm) : Stm := fun ρ => match body ρ with
  | .ex c x ρ1 => match fits c with
    | some true => if i < ρ1.length then offO i (h c x (ρ1.set i none)) else .st
    | some false => .ex c x ρ1
    | none => .st
  | .nx ρ1 => .nx ρ1 | .rt d ρ1 => .rt d ρ1 | .bk ρ1 => .bk ρ1 | .ct ρ1 => .ct ρ1 | .st => .st
/-- what is known of an error while it is looked at -/
def CT.with (ct : CT) (K : PySem.W.Frag) (c : Nat) (x : Option D) (od : Option Addr) : CT := ⟨ct.b, fun R => ct.inv R ∧ XOk K ct.b R c x od, fun _ _ s h => ⟨ct.mono _ _ s h.1, h.2.mono s⟩⟩
theorem Ok.unset (ok : Ok K ct H0 ms vp ρ σ R H) {i : Nat} (hi : i ∉ ms) (y : Option V) : Ok K ct H0 ms vp (ρ.set i none) (σ.set i y) R H := by
  refine ok.sel id (by simp [ok.len]) (fun j hj => ?_) (fun k d h => ?_) fun k k' _ _ e => e
  · rw [List.getElem?_set_ne (fun z => hi (by rw [z]; exact hj))]
    exact ok.pins j hj
  · by_cases e : i = k
    · subst e
      rw [List.getElem?_set] at h
      simp only [if_true] at h
      split at h <;> cases h
    · rw [List.getElem?_set_ne e] at h
      rw [List.getElem?_set_ne e]
      exact ⟨h, rfl⟩
/-- the slot that holds the error -/
def pinX (vp : Nat → V) (i : Nat) (a : Addr) : Nat → V := fun j => if j = i then .ref a else vp j
theorem sim_try {i : Nat} {cl : Value} {tb : WX → TS} {ts : Addr → Value → Option Addr → TS} {body : Stm} {fits : Nat → Option Bool} {h : Nat → Option D → Stm} (hi : i ∉ ms) (hf : ∀ c r, fits c = some r → PySem.W.exmOne K (.ref (ct.b.err c)) cl = some r)
    (hb : ∀ W', SimS K ct ms vp W' (tb W') body) (hh : ∀ a od c x, fits c = some true → SimS K (ct.with K c x od) (i :: ms) (pinX vp i a) W (ts a (.ref (ct.b.err c)) od) (h c x)) :
    SimS K ct ms vp W (fun D σ H => tb (wAs K cl i ts W D) D σ H) (mTry body i fits h) := fun H0 ρ σ R H ok D' q => by
  refine hb _ H0 ρ σ R H ok D' ?_
  unfold mTry at q
  have back : ∀ {c x od ρ3 a} {σ3 : L2.St} {R3 H3 : Hp}, Ok K (ct.with K c x od) H0 (i :: ms) (pinX vp i a) ρ3 σ3 R3 H3 → Ok K ct H0 ms vp ρ3 σ3 R3 H3 := fun {c x od ρ3 a σ3 R3 H3} o => by
    have := o.sel (ms' := ms) (vp' := vp) (ρ' := ρ3) (σ' := σ3) id o.len (fun j hj => by
      have p := o.pins j (List.mem_cons_of_mem _ hj)
      unfold pinX at p
      rw [if_neg (fun z => hi (by rw [← z]; exact hj))] at p
      exact p) (fun k d h => ⟨h, rfl⟩) fun k k' _ _ e => e
    exact this.cast rfl o.inv.1
  cases e : body ρ with
  | nx ρ1 => rw [e] at q; exact q
  | rt d ρ1 => rw [e] at q; exact q
  | bk ρ1 => rw [e] at q; exact q
  | ct ρ1 => rw [e] at q; exact q
  | st => rw [e] at q; exact q
  | ex c x ρ1 =>
    rw [e] at q
    dsimp only at q
    intro od σ1 R1 H1 g1 ok1 xo
    cases ef : fits c with
    | none => rw [ef] at q; exact q.elim
    | some r =>
      rw [ef] at q
      try dsimp only at q
      refine ⟨r, hf c r ef, fun er a ha => ?_, fun er => ?_⟩
      · subst er
        by_cases hlt : i < ρ1.length
        · have ok2 : Ok K (ct.with K c x od) H0 (i :: ms) (pinX vp i a) (ρ1.set i none) (σ1.set i (some (.ref a))) R1 H1 := by
            have o := ((ok1.unset hi (some (.ref a))).cast (ct' := ct.with K c x od) rfl ⟨ok1.inv, xo⟩)
            refine o.sel id o.len (fun j hj => ?_) (fun k d h => ⟨h, rfl⟩) fun k k' _ _ e => e
            unfold pinX
            by_cases ej : j = i
            · rw [if_pos ej, ej, List.getElem?_set_self (by rw [ok1.len]; exact hlt)]
            · rw [if_neg ej]
              refine o.pins j ?_
              cases hj with
              | head => exact absurd rfl ej
              | tail _ hj => exact hj
          refine hh a od c x ef H0 _ _ R1 H1 ok2 _ ?_
          have q2 := PoS.gr g1 q
          rw [if_pos hlt] at q2
          cases e2 : h c x (ρ1.set i none) with
          | nx ρ3 => rw [e2] at q2; exact fun σ3 R3 H3 g3 ok3 => q2 _ R3 H3 g3 ((back ok3).unset hi none)
          | bk ρ3 => rw [e2] at q2; exact fun σ3 R3 H3 g3 ok3 => q2 _ R3 H3 g3 ((back ok3).unset hi none)
          | ct ρ3 => rw [e2] at q2; exact fun σ3 R3 H3 g3 ok3 => q2 _ R3 H3 g3 ((back ok3).unset hi none)
          | rt d ρ3 =>
            rw [e2] at q2
            intro v σ3 R3 H3 g3 ok3 l
            refine q2 v σ3 R3 H3 g3 ?_ l
            have l3 : ρ3.length = σ3.length := l
            have := ok3.sel (ms' := ms) (vp' := vp) (ρ' := ρ3 ++ [some d]) (σ' := σ3 ++ [some v]) id ok3.len (fun j hj => by
              have p := ok3.pins j (List.mem_cons_of_mem _ hj)
              unfold pinX at p
              rw [if_neg (fun z => hi (by rw [← z]; exact hj))] at p
              exact p) (fun k d h => ⟨h, rfl⟩) fun k k' _ _ e => e
            exact this.cast rfl ok3.inv.1
          | ex c' x' ρ3 => rw [e2] at q2; exact fun od' σ3 R3 H3 g3 ok3 xo' => q2 od' σ3 R3 H3 g3 (back ok3) xo'
          | st => rw [e2] at q2; exact q2
        · rw [if_neg hlt] at q; exact q.elim
      · subst er
        exact q od σ1 R1 H1 g1 ok1 xo
/-- the field of the error that is looked at -/
def mXf (cs : List Nat) (c : Nat) (x : Option D) : M D := fun ρ => if c ∈ cs then (match x with
  | some d => .ok d ρ
  | none => .st) else .st
theorem sim_xf {i c cX : Nat} {x : Option D} {a : Addr} {od : Option Addr} {C : Addr} {f : Str} {vp' : Nat → V} {ms' : List Nat} (hC : C = ct.b.err cX) (hf : f = ct.b.fld cX) (hi : i ∈ ms') (hv : vp' i = .ref a) :
    SimF K (ct.with K c x od) ms' vp' W (tXf a (.ref (ct.b.err c)) od C f (tVar i)) (mXf [cX] c x) := fun H0 ρ σ R H ok Q q => by
  unfold mXf at q
  split at q
  · rename_i hc
    have hc : c = cX := by simpa using hc
    subst hc
    refine ⟨.ref a, by rw [ok.pins i hi, hv], rfl, by rw [hC], ?_⟩
    have iv := ok.inv.2
    cases x with
    | none => exact q.elim
    | some d =>
      obtain ⟨dd, v, e1, e2, r⟩ := iv
      exact ⟨dd, _, v, e1, ok.same _ _ e2, by rw [hf]; simp [List.lookup], q v R H (Gr.refl _ _) ok r⟩
  · exact q.elim
end
end Y

namespace Y
open PySem PySem.Spec PyProof.Rows L2
/-! ### operators of any kind of values -/
def r2or (r r' : R2) : R2 := fun x y H Q => r x y H Q ∨ r' x y H Q
theorem op_or2 {X : Cx} {f : Value → Value → Sem Value} {r r' : R2} (h : OpR X f r) (h' : OpR X f r') : OpR X f (r2or r r') := by
  intro pins s σ H x y v u Q I rx ry q
  rcases q with q | q
  · exact h pins s σ H x y v u Q I rx ry q
  · exact h' pins s σ H x y v u Q I rx ry q
def rAddS : R2 := fun x y H Q => ∃ i j, x = .str i ∧ y = .str j ∧ i.length + j.length ≤ sizeLine ∧ Q (.str (i ++ j)) H
def rAddA (K : PySem.W.Frag) : R2 := r2or (rI0 fun i j => .int (i + j)) (r2or rCat (r2or (rCatA K) rAddS))
theorem op_addA {X : Cx} {K : PySem.W.Frag} (hK : X.K = K) : OpR X (binaryOp .Add) (rAddA K) := by
  subst hK
  exact op_or2 op_add (op_or2 op_cat (op_or2 op_catA op_add_str))
def rMulA (K : PySem.W.Frag) : R2 := r2or (rI CMul fun i j => .int (i * j)) (r2or (rI CMulW fun i j => .int (i * j)) (r2or rRep (r2or (rRepTA K) (rRepT0 K))))
theorem op_mulA {X : Cx} {K : PySem.W.Frag} (hK : X.K = K) : OpR X (binaryOp .Mult) (rMulA K) := by
  subst hK
  exact op_or2 op_mul (op_or2 op_mulW (op_or2 op_rep (op_or2 op_repTA op_repT0)))
def rEqA (K : PySem.W.Frag) : R2 := r2or rEq (rEqD K)
def rNeA (K : PySem.W.Frag) : R2 := r2or rNe (rNeD K)
theorem op_eqA {X : Cx} {K : PySem.W.Frag} (hK : X.K = K) (hu : X.A.units + 64 < cLine) : OpR X (compareOp .Eq) (rEqA K) := by
  subst hK
  exact op_or2 op_eq (op_eqD hu)
theorem op_neA {X : Cx} {K : PySem.W.Frag} (hK : X.K = K) (hu : X.A.units + 64 < cLine) : OpR X (compareOp .NotEq) (rNeA K) := by
  subst hK
  exact op_or2 op_ne (op_neD hu)
theorem op_inA {X : Cx} {K : PySem.W.Frag} (hK : X.K = K) : OpR X (compareOp .In) (rIn K false) := by
  subst hK
  exact op_in_seq
theorem op_notInA {X : Cx} {K : PySem.W.Frag} (hK : X.K = K) : OpR X (compareOp .NotIn) (rIn K true) := by
  subst hK
  exact op_notIn_seq
def rIsA : R2 := r2or (fun x y H Q => y = .non ∧ Q (.bl (decide (x = .non))) H) rIsW
def rNotA : R2 := r2or (fun x y H Q => y = .non ∧ Q (.bl (!decide (x = .non))) H) rNotW
theorem op_isA {X : Cx} : OpR X (compareOp .Is) rIsA := op_or2 op_isN op_isW
theorem op_notA {X : Cx} : OpR X (compareOp .IsNot) rNotA := op_or2 op_notN op_notW
def rIxA (K : PySem.W.Frag) : R2 := fun x y H Q => rIxL K x y H Q ∨ rIxT K x y H Q
theorem ix_A {X : Cx} {K : PySem.W.Frag} (hK : X.K = K) : IxR X (rIxA K) := by
  subst hK
  exact ix_list.or ix_tup
def rSlA (K : PySem.W.Frag) : V → Option Int → Option Int → Hp → VK → Prop := fun x lo hi H Q => rSlL K x lo hi H Q ∨ rSlT K x lo hi H Q
theorem sl_A {X : Cx} {K : PySem.W.Frag} (hK : X.K = K) : SlR X (rSlA K) := by
  subst hK
  exact sl_list.or sl_tup
def iSeq (K : PySem.W.Frag) (t : TE) : TI := iOr (iList K t) (iTup K t)
theorem pi_seq {X : Cx} {K : PySem.W.Frag} {tg l : Expr} {t : TE} (hK : X.K = K) (h : PE X l t) : PI X tg l (iSeq K t) := by
  subst hK
  exact pi_or (pi_list h) (pi_tup h)
theorem pg_tupA {X : Cx} {K : PySem.W.Frag} {es : List Expr} {k : Nat} {t : TGs} {n : Nat} {pos : Pos} (hK : X.K = K) (hc : X.calm = true) (h : PGs X es t)
    (hn : (assignEach es X.env).length = n := by rfl) (hst : (assignEach es X.env).findIdx? (·.1) = none := by rfl) : PG X (.Tuple es k pos) (gTup K n t) := by
  subst hK
  exact pg_tup hc h hn hst
def rLen (K : PySem.W.Frag) : List V → Hp → VK → Prop := fun xs H Q => ∃ p ys, xs = [.ref p] ∧ (SqL K H p ys ∨ SqT K H p ys) ∧ Q (.int ys.length) H
theorem cr_len {X : Cx} {K : PySem.W.Frag} (hK : X.K = K) : CallR X (.builtin "len") (rLen K) := by
  subst hK
  exact call_len_seq
def rListA (K : PySem.W.Frag) : List V → Hp → VK → Prop := fun xs H Q => ∃ p ys, xs = [.ref p] ∧ (SqL K H p ys ∨ SqT K H p ys) ∧ ∀ l, H l = none → Q (.ref l) (upd H l (.lst ys))
theorem cr_list {X : Cx} {K : PySem.W.Frag} (hK : X.K = K) : CallR X (.type "list") (rListA K) := by
  subst hK
  exact call_list_of
def rTupleA (K : PySem.W.Frag) : List V → Hp → VK → Prop := fun xs H Q => ∃ p ys, xs = [.ref p] ∧ ((SqL K H p ys ∧ ∀ l, H l = none → Q (.ref l) (upd H l (.tup ys))) ∨ (SqT K H p ys ∧ Q (.ref p) H))
theorem cr_tuple {X : Cx} {K : PySem.W.Frag} (hK : X.K = K) : CallR X (.type "tuple") (rTupleA K) := by
  subst hK
  exact call_tuple_of
theorem cr_isi {X : Cx} {K : PySem.W.Frag} (hK : X.K = K) : CallR X (.builtin "isinstance") (rIsi K) := by
  subst hK
  exact call_isi
theorem cr_isi2 {X : Cx} {K : PySem.W.Frag} (hK : X.K = K) : CallR X (.builtin "isinstance") (rIsiT K) := by
  subst hK
  exact call_isiT
theorem cr_sumA {X : Cx} {K : PySem.W.Frag} (hK : X.K = K) (hc : X.calm = true) : CallR X (.builtin "sum") (rSum K) := by
  subst hK
  exact cr_sum hc
def tTru (K : PySem.W.Frag) (t : TE) : TT := fun σ H Q => t σ H fun x H' => ∃ k, TruV K x H' k ∧ Q k H'
theorem pt_tru {X : Cx} {K : PySem.W.Frag} {a : Expr} {ta : TE} (hK : X.K = K) (ha : PE X a ta) (he : ∀ whole, isTrue a X.env whole = (do let v ← whole; standAt a.pos; holding [v] (truthy v)) := by intro _; rfl) : PT X a (tTru K ta) := by
  subst hK
  exact pt_truth ha he
theorem pe_bmA {X : Cx} {K : PySem.W.Frag} {e : Expr} {f : PySem.W.Frag → TE} (hK : X.K = K) (h : PE X e (f X.K)) : PE X e (f K) := by
  subst hK
  exact h
section
variable {K : PySem.W.Frag} {b : CTB}
/-- by values: a list that is laid is one's own, all else is never written again -/
def OpE (K : PySem.W.Frag) (b : CTB) (r : R2) (op : D → D → Option D) : Prop := ∀ R H x y dx dy, Same R H → Rep K b R x dx → Rep K b R y dy → ∀ Q : VK, (match op dx dy with
  | some (.ols ds) => ∀ p vs, H p = none → Reps K b R vs ds → Q (.ref p) (upd H p (.lst vs))
  | some d => ∀ v R' H', Ext R H R' H' → Rep K b R' v d → Q v H'
  | none => False) → r x y H Q
def oAddA : D → D → Option D
  | .int i, .int j => some (.int (i + j))
  | .str x, .str y => if x.length + y.length ≤ 100000 then some (.str (x ++ y)) else none
  | .lst xs, .lst ys => if xs.length + ys.length ≤ 100000 then some (.ols (xs ++ ys)) else none
  | .tup xs, .tup ys => if xs.length + ys.length ≤ 100000 then some (.tup (xs ++ ys)) else none
  | _, _ => none
theorem so_addA : OpE K b (rAddA K) oAddA := fun R H x y dx dy s rx ry Q q => by
  cases dx <;> cases dy <;> simp only [oAddA] at q <;> try exact q.elim
  · exact .inl (so_add R H x y _ _ s rx ry Q q)
  · rename_i x y
    cases rx.str_inv; cases ry.str_inv
    by_cases l : x.length + y.length ≤ 100000
    · rw [if_pos l] at q
      exact .inr (.inr (.inr ⟨x, y, rfl, rfl, Nat.le_trans l (by decide), q _ R H (Ext.refl s) (.str _)⟩))
    · rw [if_neg l] at q; exact q.elim
  · rename_i xs ys
    refine .inr (.inl (so_cat R H x y _ _ s rx ry Q ?_))
    simp only [oCat]
    by_cases l : xs.length + ys.length ≤ 100000
    · rw [if_pos l] at q ⊢; exact q
    · rw [if_neg l] at q; exact q.elim
  · rename_i xs ys
    by_cases l : xs.length + ys.length ≤ 100000
    · rw [if_pos l] at q
      obtain ⟨a, vs, rfl, h1, r1⟩ := rx.tup_inv
      obtain ⟨c, ws, rfl, h2, r2⟩ := ry.tup_inv
      refine .inr (.inr (.inl ⟨a, c, vs, ws, rfl, rfl, SqT.mono s h1, SqT.mono s h2, by rw [r1.1, r2.1]; exact Nat.le_trans l (by decide), fun z => ?_, fun _ z => ?_, fun _ _ p hp => ?_⟩))
      · subst z
        cases (List.eq_nil_of_length_eq_zero r1.1.symm)
        exact q _ R H (Ext.refl s) ry
      · subst z
        cases (List.eq_nil_of_length_eq_zero r2.1.symm)
        rw [List.append_nil] at q
        exact q _ R H (Ext.refl s) rx
      · have x := Ext.new (o := .tup (vs ++ ws)) s hp
        exact q _ _ _ x (.tup (.inl (.inl upd_same)) (by simp [r1.1, r2.1]) ((r1.app r2).mono x.r).2)
    · rw [if_neg l] at q; exact q.elim
/-- below 2 ^ 64 -/
def sml (i : Int) : Bool := decide (-18446744073709551616 < i ∧ i < 18446744073709551616)
def oMulA : D → D → Option D
  | .int i, .int j => if (sml i || sml j || (big i && big j)) = true then some (.int (i * j)) else none
  | .lst xs, .int k => if k < 100000 ∧ xs.length * k.toNat ≤ 100000 ∧ -100000 < k then some (.ols (List.replicate k.toNat xs).flatten) else none
  | .tup xs, .int k => if xs ≠ [] ∧ -1000 ≤ k ∧ k ≤ 1000 ∧ xs.length ≤ 1000 then some (.tup (List.replicate k.toNat xs).flatten) else none
  | _, _ => none
theorem Reps.flat {R : Hp} {vs : List V} {ds : List D} (r : Reps K b R vs ds) : ∀ n : Nat, Reps K b R (List.replicate n vs).flatten (List.replicate n ds).flatten
  | 0 => .nil
  | n + 1 => by
    rw [List.replicate_succ, List.replicate_succ, List.flatten_cons, List.flatten_cons]
    exact r.app (Reps.flat r n)
theorem so_mulA : OpE K b (rMulA K) oMulA := fun R H x y dx dy s rx ry Q q => by
  cases dx <;> cases dy <;> simp only [oMulA] at q <;> try exact q.elim
  · rename_i i j
    cases rx.int_inv; cases ry.int_inv
    by_cases l : (sml i || sml j || (big i && big j)) = true
    · rw [if_pos l] at q
      have fin := q (.int (i * j)) R H (Ext.refl s) (.int _)
      simp only [Bool.or_eq_true, Bool.and_eq_true, sml, decide_eq_true_eq] at l
      rcases l with (l | l) | l
      · exact .inl ⟨i, j, rfl, rfl, .inl (by simpa using l), fin⟩
      · exact .inl ⟨i, j, rfl, rfl, .inr (by simpa using l), fin⟩
      · refine .inr (.inl ⟨i, j, rfl, rfl, ?_, fin⟩)
        simp only [big, decide_eq_true_eq] at l
        show i.natAbs.log2 + j.natAbs.log2 < 1000000
        omega
    · rw [if_neg l] at q; exact q.elim
  · rename_i xs k
    obtain ⟨a, vs, rfl, h1, r1⟩ := rx.lst_inv
    cases ry.int_inv
    by_cases l : k < 100000 ∧ xs.length * k.toNat ≤ 100000 ∧ -100000 < k
    · rw [if_pos l] at q
      refine .inr (.inr (.inl ⟨a, k, vs, rfl, rfl, s _ _ h1, ?_, ?_, by rw [r1.1]; exact Nat.le_trans l.2.1 (by decide), fun p hp => q p _ hp (r1.flat _)⟩))
      · simp only [Int.reducePow]; omega
      · simp only [Int.reducePow]; omega
    · rw [if_neg l] at q; exact q.elim
  · rename_i xs k
    obtain ⟨a, vs, rfl, h1, r1⟩ := rx.tup_inv
    cases ry.int_inv
    by_cases l : xs ≠ [] ∧ -1000 ≤ k ∧ k ≤ 1000 ∧ xs.length ≤ 1000
    · rw [if_pos l] at q
      have hne : vs ≠ [] := fun z => l.1 (by
        have := r1.1
        rw [z] at this
        exact List.eq_nil_of_length_eq_zero this.symm)
      by_cases k1 : 1 ≤ k
      · refine .inr (.inr (.inr (.inl ⟨a, k, vs, rfl, rfl, SqT.mono s h1, hne, k1, l.2.2.1, by rw [r1.1]; exact l.2.2.2, fun e => ?_, fun e p hp => ?_⟩)))
        · subst e
          have : (List.replicate (1 : Int).toNat xs).flatten = xs := by simp
          rw [this] at q
          exact q _ R H (Ext.refl s) rx
        · have x := Ext.new (o := .tup (List.replicate k.toNat vs).flatten) s hp
          have t := (r1.flat k.toNat).mono x.r
          exact q _ _ _ x (.tup (.inl (.inl upd_same)) t.1 t.2)
      · have : k.toNat = 0 := by omega
        rw [this] at q
        refine .inr (.inr (.inr (.inr ⟨a, k, vs, rfl, rfl, SqT.mono s h1, hne, l.2.1, by omega, fun p hp => ?_⟩)))
        have x := Ext.new (o := .tup []) s hp
        exact q _ _ _ x (.tup (.inl (.inl upd_same)) rfl (Reps.nil (K := K) (ct := b) (R := upd R p (.tup []))).2)
    · rw [if_neg l] at q; exact q.elim
/-! == -/
mutual
def toPy : D → Option PyData
  | .non => some .none | .bl r => some (.bool r) | .int i => some (.int i) | .str x => some (.str x)
  | .lst ds => (toPys ds).map .list
  | .tup ds => (toPys ds).map .tuple
  | .ols _ => none | .ins _ _ _ => none | .scr _ => none | .dct _ _ _ => none | .odc _ _ _ => none | .oin _ _ _ => none
def toPys : List D → Option (List PyData)
  | [] => some []
  | d :: ds => match toPy d, toPys ds with
    | some x, some xs => some (x :: xs)
    | _, _ => none
end
mutual
theorem dp_of {R : Hp} : ∀ (d : D) (v : V) (p : PyData), toPy d = some p → Rep K b R v d → Dp K R v p
  | .non, _, _, h, r => by cases r; cases h; exact .non
  | .bl _, _, _, h, r => by cases r; cases h; exact .bl _
  | .int _, _, _, h, r => by cases r; cases h; exact .int _
  | .str _, _, _, h, r => by cases r; cases h; exact .str _
  | .lst ds, _, _, h, r => by
    obtain ⟨a, vs, rfl, e, t⟩ := r.lst_inv
    rw [toPy] at h
    obtain ⟨ps, h1, h2⟩ := Option.map_eq_some_iff.mp h
    subst h2
    exact .lst (.inl (.inl e)) (dps_of ds vs ps h1 t)
  | .tup ds, _, _, h, r => by
    obtain ⟨a, vs, rfl, e, t⟩ := r.tup_inv
    rw [toPy] at h
    obtain ⟨ps, h1, h2⟩ := Option.map_eq_some_iff.mp h
    subst h2
    exact .tup e (dps_of ds vs ps h1 t)
  | .ols _, _, _, h, _ => by cases h
  | .ins _ _ _, _, _, h, _ => by cases h
  | .scr _, _, _, h, _ => by cases h
  | .dct _ _ _, _, _, h, _ => by cases h
  | .odc _ _ _, _, _, h, _ => by cases h
  | .oin _ _ _, _, _, h, _ => by cases h
theorem dps_of {R : Hp} : ∀ (ds : List D) (vs : List V) (ps : List PyData), toPys ds = some ps → Reps K b R vs ds → DpAll K R vs ps
  | [], _, _, h, r => by
    cases r.nil_inv
    cases h
    exact .nil
  | d :: ds, _, _, h, r => by
    obtain ⟨v, ws, rfl, r1, r2⟩ := r.cons_inv
    rw [toPys] at h
    split at h
    · rename_i x xs e1 e2
      cases h
      exact .cons (dp_of d v x e1 r1) (dps_of ds ws xs e2 r2)
    · cases h
end
def eqDp (x y : D) : Option Bool := match toPy x, toPy y with
  | some d, some e => if (SeqAt.shaped d && SeqAt.shaped e) = true then some (PyData.eqv d e) else none
  | _, _ => none
def eqA (x y : D) : Option Bool := (eqS x y).orElse fun _ => eqDp x y
def oEqA (x y : D) : Option D := (eqA x y).map D.bl
def oNeA (x y : D) : Option D := (eqA x y).map fun r => D.bl (!r)
theorem eqDp_some {R : Hp} {x y : V} {dx dy : D} {r : Bool} (h : eqDp dx dy = some r) (rx : Rep K b R x dx) (ry : Rep K b R y dy) : ∃ d e, Dp K R x d ∧ Dp K R y e ∧ SeqAt.shaped d = true ∧ SeqAt.shaped e = true ∧ PyData.eqv d e = r := by
  unfold eqDp at h
  split at h
  · rename_i d e h1 h2
    split at h
    · rename_i hs
      cases h
      obtain ⟨s1, s2⟩ := Bool.and_eq_true_iff.mp hs
      exact ⟨d, e, dp_of _ _ _ h1 rx, dp_of _ _ _ h2 ry, s1, s2, rfl⟩
    · cases h
  · cases h
theorem so_eqA : OpF K b (rEqA K) oEqA := fun R H x y dx dy s rx ry Q q => by
  unfold oEqA eqA at q
  cases e : eqS dx dy with
  | some r =>
    rw [e] at q
    obtain ⟨h1, h2⟩ := eqS_some e rx ry
    exact .inl ⟨h1, q _ R H (Ext.refl s) (by rw [h2]; exact .bl r)⟩
  | none =>
    rw [e] at q
    dsimp only [Option.orElse] at q
    cases e2 : eqDp dx dy with
    | none => rw [e2] at q; exact q.elim
    | some r =>
      rw [e2] at q
      obtain ⟨d, e', h1, h2, s1, s2, h3⟩ := eqDp_some e2 (rx.mono s) (ry.mono s)
      exact .inr ⟨d, e', h1, h2, s1, s2, q _ R H (Ext.refl s) (by rw [h3]; exact .bl r)⟩
theorem so_neA : OpF K b (rNeA K) oNeA := fun R H x y dx dy s rx ry Q q => by
  unfold oNeA eqA at q
  cases e : eqS dx dy with
  | some r =>
    rw [e] at q
    obtain ⟨h1, h2⟩ := eqS_some e rx ry
    exact .inl ⟨h1, q _ R H (Ext.refl s) (by rw [h2]; exact .bl _)⟩
  | none =>
    rw [e] at q
    dsimp only [Option.orElse] at q
    cases e2 : eqDp dx dy with
    | none => rw [e2] at q; exact q.elim
    | some r =>
      rw [e2] at q
      obtain ⟨d, e', h1, h2, s1, s2, h3⟩ := eqDp_some e2 (rx.mono s) (ry.mono s)
      exact .inr ⟨d, e', h1, h2, s1, s2, q _ R H (Ext.refl s) (by rw [h3]; exact .bl _)⟩
def oIsA (x y : D) : Option D := match y with
  | .non => some (.bl (isN x))
  | _ => (isW x y).map D.bl
def oNotA (x y : D) : Option D := match y with
  | .non => some (.bl (!isN x))
  | _ => (isW x y).map fun r => D.bl (!r)
theorem so_isA : OpF K b rIsA oIsA := fun R H x y dx dy s rx ry Q q => by
  cases dy <;> simp only [oIsA] at q
  · exact .inl (so_isN R H x y _ _ s rx ry Q (by simp only [oIsN]; exact q))
  all_goals exact .inr (so_isW R H x y _ _ s rx ry Q q)
theorem so_notA : OpF K b rNotA oNotA := fun R H x y dx dy s rx ry Q q => by
  cases dy <;> simp only [oNotA] at q
  · exact .inl (so_notN R H x y _ _ s rx ry Q (by simp only [oNotN]; exact q))
  all_goals exact .inr (so_notW R H x y _ _ s rx ry Q q)
def oIxA (x y : D) : Option D := match x with
  | .lst ds => ixO ds y
  | .tup ds => ixO ds y
  | _ => none
theorem so_ixA : OpF K b (rIxA K) oIxA := fun R H x y dx dy s rx ry Q q => by
  cases dx <;> simp only [oIxA] at q <;> try exact q.elim
  · exact .inl (so_ix R H x y _ _ s rx ry Q q)
  · exact .inr (so_ixT R H x y _ _ s rx ry Q q)
def asI : D → Option Int
  | .int i => some i
  | _ => none
def oSum : List D → Option D
  | [.lst ds] => (ds.mapM asI).map fun ns => .int ns.sum
  | _ => none
theorem ints_of : ∀ {ds : List D} {ns : List Int}, ds.mapM asI = some ns → ds = ns.map D.int
  | [], ns, h => by
    cases h
    rfl
  | d :: ds, ns, h => by
    rw [List.mapM_cons] at h
    obtain ⟨i, h1, h2⟩ := Option.bind_eq_some_iff.mp h
    obtain ⟨is, h3, h4⟩ := Option.bind_eq_some_iff.mp h2
    cases h4
    cases d <;> simp only [asI] at h1 <;> cases h1
    rw [List.map_cons, ← ints_of h3]
theorem Reps.ints_inv {R : Hp} : ∀ {ns : List Int} {vs : List V}, Reps K b R vs (ns.map D.int) → vs = ns.map V.int
  | [], vs, r => r.nil_inv
  | n :: ns, vs, r => by
    obtain ⟨v, ws, rfl, r1, r2⟩ := r.cons_inv
    cases r1.int_inv
    rw [List.map_cons, ← Reps.ints_inv r2]
theorem so_sum : CbF K b (rSum K) oSum := fun R H vs ds s r Q q => by
  match ds, q, r with
  | [.lst es], q, r =>
    obtain ⟨v, rfl, r1⟩ := one r
    obtain ⟨a, us, rfl, h, t⟩ := r1.lst_inv
    simp only [oSum] at q
    cases e : es.mapM asI with
    | none => rw [e] at q; exact q.elim
    | some ns =>
      rw [e] at q
      have e2 := ints_of e
      subst e2
      cases t.ints_inv
      exact ⟨a, ns, rfl, .inl (.inl (s _ _ h)), q _ R H (Ext.refl s) (.int _)⟩
end
section
variable {K : PySem.W.Frag} {ct : CT} {ms : List Nat} {W : WX} {H0 R R' H H' : Hp} {vp : Nat → V} {ρ : Env} {σ : L2.St}
theorem sim_opE {r : R2} {op : D → D → Option D} {ta tb : TE} {f g : M D} (ho : OpE K ct.b r op) (hf : SimF K ct ms vp W ta f) (hg : SimF K ct ms vp W tb g) : SimE K ct ms vp W (tOp r ta tb) (mOp op f g) := fun H0 ρ σ R H ok Q q =>
  hf H0 ρ σ R H ok _ (Po.mono (Po.bind q) fun d ρ1 q v R1 H1 g1 ok1 r1 =>
    hg H0 ρ1 σ R1 H1 ok1 _ (Po.gr g1 (Po.bind q) fun d2 ρ2 q v2 R2 H2 g2 ok2 r2 => by
      obtain ⟨d3, e, q⟩ := Po.opt q
      refine ho R2 H2 v v2 d d2 ok2.same (r1.mono g2.1) r2 Q ?_
      rw [e]
      have fr : ∀ v3 R3 H3, Ext R2 H2 R3 H3 → Rep K ct.b R3 v3 d3 → Q v3 H3 := fun v3 R3 H3 x r3 => q v3 R3 H3 ((g1.trans g2).trans (ok2.gr x)) ((ok2.ext x).temp r3) ok2.len.symm
      cases d3 with
      | ols ds => exact fun p vs hp r3 => q (.ref p) R2 _ (g1.trans g2) (ok2.list hp r3) ok2.len.symm
      | _ => exact fr))
def mItA (f : M D) : M (List D) := mB f fun d => mO (seqD d)
theorem sim_seqI {t : TE} {f : M D} (hf : SimF K ct ms vp W t f) : SimI K ct ms vp W (iSeq K t) (mItA f) := fun H0 ρ σ R H ok Rr q => by
  have q := Po.bind q
  cases e : f ρ with
  | st => rw [e] at q; exact q.elim
  | ex c x ρ1 =>
    rw [e] at q
    exact .inl (hf H0 ρ σ R H ok _ (by rw [e]; exact q))
  | ok d ρ1 =>
    rw [e] at q
    have q : Po K ct ms vp W H0 σ R _ (mO (seqD d) ρ1) := q
    obtain ⟨ds, e2, q⟩ := Po.opt q
    cases d <;> simp only [seqD] at e2 <;> try (cases e2; done)
    · cases e2
      refine .inl (hf H0 ρ σ R H ok _ ?_)
      rw [e]
      intro v R1 H1 g1 ok1 r1
      obtain ⟨a, vs, rfl, h, r⟩ := r1.lst_inv
      exact ⟨a, rfl, ⟨vs, .inl (.inl (ok1.same _ _ h))⟩, q _ R1 H1 g1 ok1 (itok_list h r)⟩
    · cases e2
      refine .inr (hf H0 ρ σ R H ok _ ?_)
      rw [e]
      intro v R1 H1 g1 ok1 r1
      obtain ⟨a, vs, rfl, h, r⟩ := r1.tup_inv
      exact ⟨a, rfl, ⟨vs, SqT.mono ok1.same h⟩, q _ R1 H1 g1 ok1 (itok_tup h r)⟩
/-- an item of what stands in a slot -/
def sqOf (x : Option (Option D)) : Option (List D) := (seqOf x).orElse fun _ => tupOf x
def mIxAV (i : Nat) (g : M D) : M D := mB (mGet fun ρ => sqOf ρ[i]?) fun _ => mB g fun x => mB (mGet fun ρ => sqOf ρ[i]?) fun ds => mO (ixD ds x)
theorem Ok.sq (ok : Ok K ct H0 ms vp ρ σ R H) {i : Nat} {ds : List D} (e : sqOf ρ[i]? = some ds) :
    ∃ a vs, σ[i]? = some (some (.ref a)) ∧ (SqL K H a vs ∨ SqT K H a vs) ∧ vs.length = ds.length ∧ ∀ (k : Nat) (v : V) (d : D), vs[k]? = some v → ds[k]? = some d → d.isO = false → Rep K ct.b R v d := by
  unfold sqOf at e
  cases e1 : seqOf ρ[i]? with
  | some es =>
    rw [e1] at e
    cases e
    obtain ⟨d, e2, e3⟩ := seqOf_some e1
    obtain ⟨a, vs, x, y, l, rd⟩ := ok.seq e2 e3
    exact ⟨a, vs, x, .inl (sql0 y), l, rd⟩
  | none =>
    rw [e1] at e
    obtain ⟨a, vs, x, y, r⟩ := ok.tupS (tupOf_some e)
    exact ⟨a, vs, x, .inr y, r.1, fun k v d p q _ => r.2 k v d p q⟩
theorem sim_ixAV {i : Nat} {tb : TE} {g : M D} (hg : SimF K ct ms vp W tb g) : SimF K ct ms vp W (tOp (rIxA K) (tVar i) tb) (mIxAV i g) := fun H0 ρ σ R H ok Q q => by
  obtain ⟨ds0, e0, q⟩ := Po.get (Po.bind q)
  obtain ⟨a0, vs0, x0, _⟩ := ok.sq e0
  refine ⟨.ref a0, x0, hg H0 ρ σ R H ok _ (Po.mono (Po.bind q) fun d ρ1 q w R1 H1 g1 ok1 r1 => ?_)⟩
  obtain ⟨ds, e, q⟩ := Po.get (Po.bind q)
  obtain ⟨a, vs, x, y, l, rd⟩ := ok1.sq e
  cases x0.symm.trans x
  obtain ⟨d3, e4, q⟩ := Po.opt q
  obtain ⟨n, e5, h1, h2⟩ := ixD_some e4
  rw [e5] at r1
  obtain ⟨j, u, _, k1, k2, k3⟩ := atI_len (xs := vs) l h1
  have fin := q u R1 H1 g1 ok1 (rd j u d3 k1 k2 h2)
  rcases y with y | y
  · exact .inl ⟨a0, vs, n, u, rfl, r1.int_inv, y, k3, fin⟩
  · exact .inr ⟨a0, vs, n, u, rfl, r1.int_inv, y, k3, fin⟩
/-- a part -/
def slA (d : D) (lo hi : Option Int) : Option D := match d with
  | .lst ds => some (.ols (cutD ds lo hi))
  | .tup ds => (notAll ds.length lo hi).map fun _ => .tup (cutD ds lo hi)
  | _ => none
def mSlA (f : M D) (l h : M (Option Int)) : M D := mB f fun d => mB l fun lo => mB h fun hi => mO (slA d lo hi)
theorem sim_slA {te : TE} {tl th : TO} {f : M D} {l h : M (Option Int)} (hf : SimF K ct ms vp W te f) (hl : SimPO K ct ms vp W tl l) (hh : SimPO K ct ms vp W th h) : SimE K ct ms vp W (tSl (rSlA K) te tl th) (mSlA f l h) := fun H0 ρ σ R H ok Q q =>
  hf H0 ρ σ R H ok _ (Po.mono (Po.bind q) fun d ρ1 q v R1 H1 g1 ok1 r1 =>
    hl H0 ρ1 σ R1 H1 ok1 _ (Po.gr g1 (Po.bind q) fun lo ρ2 q R2 H2 g2 ok2 =>
      hh H0 ρ2 σ R2 H2 ok2 _ (Po.gr (g1.trans g2) (Po.bind q) fun hi ρ3 q R3 H3 g3 ok3 => by
        obtain ⟨d', e, q⟩ := Po.opt q
        have r3 := r1.mono (g2.trans g3).1
        have gg := (g1.trans g2).trans g3
        cases d <;> simp only [slA] at e <;> try (cases e; done)
        · cases e
          obtain ⟨a, vs, rfl, h, t⟩ := r3.lst_inv
          refine .inl ⟨a, vs, rfl, .inl (.inl (ok3.same _ _ h)), fun p hp => ?_⟩
          exact q (.ref p) R3 _ gg (ok3.list hp (t.cut lo hi)) ok3.len.symm
        · obtain ⟨_, na, e'⟩ := Option.map_eq_some_iff.mp e
          cases e'
          obtain ⟨a, vs, rfl, h, t⟩ := r3.tup_inv
          refine .inr ⟨a, vs, rfl, SqT.mono ok3.same h, fun z => ?_, fun p hp => ?_⟩
          · rw [t.1] at z
            unfold notAll at na
            rw [if_pos z] at na
            cases na
          · have x := Ext.new (o := .tup (cutV vs lo hi)) ok3.same hp
            have tc := (t.cut lo hi).mono x.r
            exact q (.ref p) _ _ (gg.trans (ok3.gr x)) ((ok3.ext x).temp (.tup (.inl (.inl upd_same)) tc.1 tc.2)) ok3.len.symm)))
/-! calls with values of parameters that are left out, and with names -/
def ArgsOk.app {vs ws : List V} {as bs : List Arg} (h : ArgsOk K ct σ R vs as) (g : ArgsOk K ct σ R ws bs) : ArgsOk K ct σ R (vs ++ ws) (as ++ bs) := by
  refine ⟨by simp [h.1, g.1], fun i v d a b => ?_⟩
  by_cases hi : i < vs.length
  · rw [List.getElem?_append_left hi] at a
    rw [List.getElem?_append_left (by rw [← h.1]; exact hi)] at b
    exact h.2 i v d a b
  · rw [List.getElem?_append_right (by omega)] at a
    rw [List.getElem?_append_right (by rw [← h.1]; omega), ← h.1] at b
    exact g.2 _ v d a b
theorem ArgsOk.of {vs : List V} {ds : List D} (r : Reps K ct.b R vs ds) : ArgsOk K ct σ R vs (ds.map Sum.inr) := by
  refine ⟨by simp [r.1], fun i v a x y => ?_⟩
  rw [List.getElem?_map] at y
  obtain ⟨d, e1, e2⟩ := Option.map_eq_some_iff.mp y
  subst e2
  exact r.2 i v d x e1
theorem ArgsOk.mono {vs : List V} {as : List Arg} (h : ArgsOk K ct σ R vs as) (s : Same R R') : ArgsOk K ct σ R' vs as := by
  refine ⟨h.1, fun i v a x y => ?_⟩
  have := h.2 i v a x y
  cases a with
  | inl j => exact this
  | inr d => exact Rep.mono this s
def bApp (f : M (List Arg)) (ds : List D) : M (List Arg) := mB f fun as => mP (as ++ ds.map Sum.inr)
theorem sim_callSD {ms' : List Nat} {m : List D → Ans} {f : M (List Arg)} {ta : TA} {dvs : List V} {dds : List D} (hf : SimB K ct ms vp W ta f) (hd : ∀ R, Reps K ct.b R dvs dds) : SimE K ct ms vp W (tCallSD (SpM K ct.b ms' m) dvs (WE W) ta) (mCall ms' m (bApp f dds)) := by
  have h : SimB K ct ms vp W (fun σ H Q => ta σ H fun vs H1 => Q (vs ++ dvs) H1) (bApp f dds) := fun H0 ρ σ R H ok Q q =>
    hf H0 ρ σ R H ok _ (Po.mono (Po.bind q) fun as ρ1 q vs R1 H1 g1 ok1 r1 => q (vs ++ dvs) R1 H1 g1 ok1 (r1.app (.of (hd R1))))
  exact call_core (ta := fun σ H Q => ta σ H fun vs H1 => Q (vs ++ dvs) H1) (S := fun σ vs H Q => SpM K ct.b ms' m vs H Q (WE W σ)) h fun _ _ _ _ h => h
/-- what is named, behind what is left out or ahead of it -/
def bKw (n j : Nat) (f : M (List Arg)) (g : M (List D)) (k : List Arg → List Arg → List Arg) : M (List Arg) := mB f fun as => mB g fun zs => if as.length = n ∧ zs.length = j then mP (k as (zs.map Sum.inr)) else fun _ => .st
theorem sim_callNS {ms' : List Nat} {m : List D → Ans} {f : M (List Arg)} {g : M (List D)} {ta tk : TA} {n j : Nat} {gV : List V → List V → List V} {k : List Arg → List Arg → List Arg} (hf : SimB K ct ms vp W ta f) (hg : SimA K ct ms vp W tk g)
    (hk : ∀ σ R vs zs as bs, ArgsOk K ct σ R vs as → ArgsOk K ct σ R zs bs → ArgsOk K ct σ R (gV vs zs) (k as bs)) :
    SimE K ct ms vp W (tCallNS n j (SpM K ct.b ms' m) gV (WE W) ta tk) (mCall ms' m (bKw n j f g k)) := by
  have h : SimB K ct ms vp W (fun σ H Q => ta σ H fun vs H1 => tk σ H1 fun zs H2 => vs.length = n ∧ zs.length = j ∧ Q (gV vs zs) H2) (bKw n j f g k) := fun H0 ρ σ R H ok Q q =>
    hf H0 ρ σ R H ok _ (Po.mono (Po.bind q) fun as ρ1 q vs R1 H1 g1 ok1 r1 =>
      hg H0 ρ1 σ R1 H1 ok1 _ (Po.gr g1 (Po.bind q) fun zs ρ2 q ws R2 H2 g2 ok2 r2 => by
        split at q
        · rename_i hl
          exact ⟨r1.1.trans hl.1, r2.1.trans hl.2, q (gV vs ws) R2 H2 (g1.trans g2) ok2 (hk σ R2 vs ws as _ (r1.mono g2.1) (.of r2))⟩
        · exact q.elim))
  exact call_core (ta := fun σ H Q => ta σ H fun vs H1 => tk σ H1 fun zs H2 => vs.length = n ∧ zs.length = j ∧ Q (gV vs zs) H2) (S := fun σ vs H Q => SpM K ct.b ms' m vs H Q (WE W σ)) h fun _ _ _ _ h => h
end
end Y

namespace Y
open PySem PySem.Spec PyProof.Rows L2
section
variable {K : PySem.W.Frag} {ct : CT} {ms : List Nat} {W : WX} {H0 R R' H H' : Hp} {vp : Nat → V} {ρ : Env} {σ : L2.St}
theorem sim_yes : SimT K ct ms vp W tYes (mP true) := fun H0 ρ σ R H ok Q q => q R H (Gr.refl _ _) ok
/-! list(range(..)) -/
def rgD (a b : Int) : List D := (List.range (b - a).toNat).map fun (i : Nat) => D.int (a + (i : Nat))
def rgOk (a b : Int) : Option Unit := if 0 ≤ a ∧ a ≤ 100000 ∧ 0 ≤ b ∧ b ≤ 100000 then some () else none
theorem rgOk_ok {a b : Int} {u : Unit} (h : rgOk a b = some u) : RgOk a b := by
  unfold rgOk at h
  split at h
  · exact RgOk.of_le (by omega) (by omega) (by omega) (by omega)
  · cases h
theorem reps_rg {b : CTB} (i j : Int) : Reps K b R (rgV i j) (rgD i j) := by
  unfold rgV rgD
  have := Reps.ints (K := K) (ct := b) (R := R) ((List.range (j - i).toNat).map fun (k : Nat) => i + (k : Nat))
  simpa [List.map_map, Function.comp_def] using this
def mListRg1 (f : M D) : M D := mB f fun d => mB (mO (asI d)) fun n => mB (mO (rgOk 0 n)) fun _ => mP (.ols (rgD 0 n))
theorem asI_some {d : D} {n : Int} (h : asI d = some n) : d = .int n := by cases d <;> simp [asI] at h; rw [h]
theorem sim_listRg1 {t : TE} {f : M D} (hf : SimF K ct ms vp W t f) : SimE K ct ms vp W (tLstRg (tRg1 t)) (mListRg1 f) := fun H0 ρ σ R H ok Q q =>
  hf H0 ρ σ R H ok _ (Po.mono (Po.bind q) fun d ρ1 q v R1 H1 g1 ok1 r1 => by
    obtain ⟨n, e, q⟩ := Po.opt (Po.bind q)
    obtain ⟨u, e2, q⟩ := Po.opt (Po.bind q)
    rw [asI_some e] at r1
    exact ⟨n, r1.int_inv, rgOk_ok e2, fun p hp => q (.ref p) R1 _ g1 (ok1.list hp (reps_rg 0 n)) ok1.len.symm⟩)
def mListRg2 (f g : M D) : M D := mB f fun d => mB g fun e => mB (mO (asI d)) fun i => mB (mO (asI e)) fun j => mB (mO (rgOk i j)) fun _ => mP (.ols (rgD i j))
theorem sim_listRg2 {t u : TE} {f g : M D} (hf : SimF K ct ms vp W t f) (hg : SimF K ct ms vp W u g) : SimE K ct ms vp W (tLstRg (tRg2 t u)) (mListRg2 f g) := fun H0 ρ σ R H ok Q q =>
  hf H0 ρ σ R H ok _ (Po.mono (Po.bind q) fun d ρ1 q v R1 H1 g1 ok1 r1 =>
    hg H0 ρ1 σ R1 H1 ok1 _ (Po.gr g1 (Po.bind q) fun d2 ρ2 q v2 R2 H2 g2 ok2 r2 => by
      obtain ⟨i, e, q⟩ := Po.opt (Po.bind q)
      obtain ⟨j, e2, q⟩ := Po.opt (Po.bind q)
      obtain ⟨u, e3, q⟩ := Po.opt (Po.bind q)
      rw [asI_some e] at r1
      rw [asI_some e2] at r2
      exact ⟨i, j, r1.int_inv, r2.int_inv, rgOk_ok e3, fun p hp => q (.ref p) R2 _ (g1.trans g2) (ok2.list hp (reps_rg i j)) ok2.len.symm⟩))
/-! isinstance of the error that is looked at -/
def mIsX (cX : Nat) (r : Bool) (c : Nat) (x : Option D) : M D := fun ρ => if c = cX ∧ x.isSome = true then .ok (.bl r) ρ else .st
theorem sim_isX {i c cX : Nat} {r : Bool} {x : Option D} {a : Addr} {od : Option Addr} {C Y : Addr} {vp' : Nat → V} {ms' : List Nat} (hC : C = ct.b.err cX) (hi : i ∈ ms') (hv : vp' i = .ref a) (hk : PySem.W.kitOne K (.ref C) (.ref Y) = some r) :
    SimF K (ct.with K c x od) ms' vp' W (tCB (rIsX K C a (.ref (ct.b.err c)) od) (tCons (tVar i) (tCons (tC (.ref Y)) tNil))) (mIsX cX r c x) := fun H0 ρ σ R H ok Q q => by
  unfold mIsX at q
  split at q
  · rename_i hc
    obtain ⟨rfl, hx⟩ := hc
    refine ⟨.ref a, by rw [ok.pins i hi, hv], ?_⟩
    have iv := ok.inv.2
    cases x with
    | none => cases hx
    | some d =>
      obtain ⟨dd, v, e1, e2, r1⟩ := iv
      exact ⟨.ref Y, .ref Y, r, dd, _, rfl, by rw [hC], e1, ok.same _ _ e2, fun u h => h, hk, q (.bl r) R H (Gr.refl _ _) ok (.bl r)⟩
  · exact q.elim
def mIsN (cX : Nat) (r : Bool) (c : Nat) (x : Option D) : M D := fun ρ => if c = cX ∧ x.isNone = true then .ok (.bl r) ρ else .st
theorem sim_isN {i c cX : Nat} {r : Bool} {x : Option D} {a : Addr} {od : Option Addr} {C Y : Addr} {vp' : Nat → V} {ms' : List Nat} (hC : C = ct.b.err cX) (hi : i ∈ ms') (hv : vp' i = .ref a) (hk : PySem.W.kitOne K (.ref C) (.ref Y) = some r) :
    SimF K (ct.with K c x od) ms' vp' W (tCB (_root_.Y.rIsN K C a (.ref (ct.b.err c)) od) (tCons (tVar i) (tCons (tC (.ref Y)) tNil))) (mIsN cX r c x) := fun H0 ρ σ R H ok Q q => by
  unfold mIsN at q
  split at q
  · rename_i hc
    obtain ⟨rfl, hx⟩ := hc
    refine ⟨.ref a, by rw [ok.pins i hi, hv], ?_⟩
    have iv := ok.inv.2
    cases x with
    | some d => cases hx
    | none => exact ⟨by rw [hC], iv, .ref Y, .ref Y, r, rfl, fun u h => h, hk, q (.bl r) R H (Gr.refl _ _) ok (.bl r)⟩
  · exact q.elim
/-! calls that let nothing out, with values left out or named -/
theorem sim_callSD0 {ms' : List Nat} {m : List D → Ans} {f : M (List Arg)} {ta : TA} {dvs : List V} {dds : List D} {E : L2.St → XK} (hf : SimB K ct ms vp W ta f) (hd : ∀ R, Reps K ct.b R dvs dds) : SimE K ct ms vp W (tCallSD (SpM K ct.b ms' m) dvs E ta) (mCall ms' (noX m) (bApp f dds)) := by
  have h : SimB K ct ms vp W (fun σ H Q => ta σ H fun vs H1 => Q (vs ++ dvs) H1) (bApp f dds) := fun H0 ρ σ R H ok Q q =>
    hf H0 ρ σ R H ok _ (Po.mono (Po.bind q) fun as ρ1 q vs R1 H1 g1 ok1 r1 => q (vs ++ dvs) R1 H1 g1 ok1 (r1.app (.of (hd R1))))
  exact call_core (ta := fun σ H Q => ta σ H fun vs H1 => Q (vs ++ dvs) H1) (S := fun σ vs H Q => SpM K ct.b ms' m vs H Q (E σ)) h fun σ _ _ _ h => h.noX (E σ)
theorem sim_callNS0 {ms' : List Nat} {m : List D → Ans} {f : M (List Arg)} {g : M (List D)} {ta tk : TA} {n j : Nat} {gV : List V → List V → List V} {k : List Arg → List Arg → List Arg} {E : L2.St → XK} (hf : SimB K ct ms vp W ta f) (hg : SimA K ct ms vp W tk g)
    (hk : ∀ σ R vs zs as bs, ArgsOk K ct σ R vs as → ArgsOk K ct σ R zs bs → ArgsOk K ct σ R (gV vs zs) (k as bs)) :
    SimE K ct ms vp W (tCallNS n j (SpM K ct.b ms' m) gV E ta tk) (mCall ms' (noX m) (bKw n j f g k)) := by
  have h : SimB K ct ms vp W (fun σ H Q => ta σ H fun vs H1 => tk σ H1 fun zs H2 => vs.length = n ∧ zs.length = j ∧ Q (gV vs zs) H2) (bKw n j f g k) := fun H0 ρ σ R H ok Q q =>
    hf H0 ρ σ R H ok _ (Po.mono (Po.bind q) fun as ρ1 q vs R1 H1 g1 ok1 r1 =>
      hg H0 ρ1 σ R1 H1 ok1 _ (Po.gr g1 (Po.bind q) fun zs ρ2 q ws R2 H2 g2 ok2 r2 => by
        split at q
        · rename_i hl
          exact ⟨r1.1.trans hl.1, r2.1.trans hl.2, q (gV vs ws) R2 H2 (g1.trans g2) ok2 (hk σ R2 vs ws as _ (r1.mono g2.1) (.of r2))⟩
        · exact q.elim))
  exact call_core (ta := fun σ H Q => ta σ H fun vs H1 => tk σ H1 fun zs H2 => vs.length = n ∧ zs.length = j ∧ Q (gV vs zs) H2) (S := fun σ vs H Q => SpM K ct.b ms' m vs H Q (E σ)) h fun σ _ _ _ h => h.noX (E σ)
end
theorem SpM.unX {K : PySem.W.Frag} {b : CTB} {ms' : List Nat} {m : List D → Ans} {vs : List V} {H : Hp} {Q : VK} {E : XK} (h : SpM K b ms' (Y.noX m) vs H Q E) (E' : XK) : SpM K b ms' m vs H Q E' := SpM.noX (ct := b.triv) h E'
/-! which errors a clause takes -/
def fitsD (yes : List Nat) (n : Nat) (c : Nat) : Option Bool := if c < n then some (decide (c ∈ yes)) else none
/-- an error's __init__ -/
theorem err_init {K : PySem.W.Frag} {C a : Addr} {f msg : Str} {v : V} {H : Hp} {Q : VK} {N : List Str} (oc : OexC K C) (no : PySem.W.findIn K (.ref C) f = some none) (ha : H a = some (exo a C none))
    (k : ∀ dx, H dx = none → dx ≠ a → Q .non (upd (upd H dx (exd dx [(f, v)])) a (exo a C (some dx)))) :
    tSeq (tDrop (tVeI K (tCons (tVar 0) (tCons (tC (.str msg)) tNil)))) (tOst K f (tVar 0) (tVar 1)) { nx := fun _ H' => Q .non H', rt := Q } (L2.start N [.ref a, v]) H := by
  refine ⟨.ref a, rfl, a, C, [.str msg], rfl, by simp, oc, ha, ?_⟩
  exact ⟨v, rfl, .ref a, rfl, a, C, rfl, oc, no, .inl ⟨ha, fun dx h1 h2 => k dx h1 h2⟩⟩
theorem SpM.none {K : PySem.W.Frag} {b : CTB} {ms : List Nat} {vs : List V} {H : Hp} {Q : VK} {E : XK} (h : SpM K b ms (fun _ => .st) vs H Q E) : False := by
  obtain ⟨_, _, _, _, q⟩ := h
  exact q
/-- the law's call -/
theorem law_sp {K : PySem.W.Frag} {b : CTB} {m : List D → Ans} (ht : ∀ ns : List Int, ns.length ≤ 63 → m [.scr ns] = .ok (.bl true) []) {vs : List V} {H : Hp} {Q : VK} {E : XK}
    (h : ∃ (a : Addr) (ns : List Int), vs = [.ref a] ∧ SqL K H a (ns.map V.int) ∧ ns.length ≤ 63 ∧ ∀ H', Q (.bl true) H') : SpM K b [] m vs H Q E := by
  obtain ⟨a, ns, rfl, hs, hl, k⟩ := h
  refine ⟨H, H, [.scr ns], ⟨Same.refl _, Same.refl _, trivial, rfl, fun i hi => (by cases hi), fun _ _ => False, fun i d h => ?_, fun _ _ _ _ h => h.elim, fun _ _ h => h.elim⟩, ?_⟩
  · cases i with
    | zero =>
      cases (show D.scr ns = d by simpa using h)
      exact ⟨.ref a, rfl, .fz (.scr hs)⟩
    | succ i => simp at h
  · rw [ht ns hl]
    intro v R' H' _ _ ok
    obtain ⟨u, x, r⟩ := ok.slot (i := 0) (d := .bl true) (by rfl) rfl
    cases (show v = u by simpa [pickV] using x)
    cases r.bl_inv
    exact k H'
end Y

namespace Y
open PySem PySem.Spec PyProof.Rows L2
/-! ### reckoning: what a piece gives at given slots -/
def bK {α β : Type} : Res α → (α → M β) → Res β
  | .ok a ρ, g => g a ρ
  | .ex c x ρ, _ => .ex c x ρ
  | .st, _ => .st
def tK {α : Type} : Res α → (α → Stm) → Out
  | .ok a ρ, g => g a ρ
  | .ex c x ρ, _ => .ex c x ρ
  | .st, _ => .st
def sK : Out → Stm → Out
  | .nx ρ, g => g ρ
  | .rt d ρ, _ => .rt d ρ | .bk ρ, _ => .bk ρ | .ct ρ, _ => .ct ρ | .ex c x ρ, _ => .ex c x ρ | .st, _ => .st
def oK {α : Type} : Option α → Env → Res α
  | some a, ρ => .ok a ρ
  | none, _ => .st
def eK : Option (Option D) → Env → Nat → Res D
  | some (some d), ρ, i => if d.isO = true then .ok d.fz (ρ.set i (some d.fz)) else .ok d ρ
  | _, _, _ => .st
def cK : Ans → List Nat → Nat → Env → Res D
  | .ok d w, is, n, ρ => if w.length = n then .ok d (putW is w ρ) else .st
  | .ex c x w, is, n, ρ => if w.length = n then .ex c x (putW is w ρ) else .st
  | .st, _, _, _ => .st
def fK : Out → List Nat → Ans
  | .nx ρ, ms => match getW ms ρ with
      | some w => .ok .non w
      | none => .st
  | .rt d ρ, ms => match getW ms ρ with
      | some w => .ok d w
      | none => .st
  | .ex c x ρ, ms => match getW ms ρ with
      | some w => .ex c x w
      | none => .st
  | _, _ => .st
def xK : Ans → Ans
  | .ok d w => .ok d w
  | _ => .st
section
variable {α β : Type} {ρ : Env}
@[simp] theorem bK_ok {a : α} {g : α → M β} : bK (.ok a ρ) g = g a ρ := (rfl)
@[simp] theorem bK_ex {c x} {g : α → M β} : bK (.ex c x ρ) g = .ex c x ρ := (rfl)
@[simp] theorem tK_ok {a : α} {g : α → Stm} : tK (.ok a ρ) g = g a ρ := (rfl)
@[simp] theorem tK_ex {c x} {g : α → Stm} : tK (.ex c x ρ) g = .ex c x ρ := (rfl)
@[simp] theorem sK_nx {g : Stm} : sK (.nx ρ) g = g ρ := (rfl)
@[simp] theorem sK_rt {d : D} {g : Stm} : sK (.rt d ρ) g = .rt d ρ := (rfl)
@[simp] theorem sK_bk {g : Stm} : sK (.bk ρ) g = .bk ρ := (rfl)
@[simp] theorem sK_ct {g : Stm} : sK (.ct ρ) g = .ct ρ := (rfl)
@[simp] theorem sK_ex {c x} {g : Stm} : sK (.ex c x ρ) g = .ex c x ρ := (rfl)
@[simp] theorem oK_some {a : α} : oK (some a) ρ = .ok a ρ := (rfl)
@[simp] theorem eK_some {d : D} {i : Nat} : eK (some (some d)) ρ i = if d.isO = true then .ok d.fz (ρ.set i (some d.fz)) else .ok d ρ := (rfl)
@[simp] theorem cK_ok {d : D} {w : List D} {is : List Nat} {n : Nat} : cK (.ok d w) is n ρ = if w.length = n then .ok d (putW is w ρ) else .st := (rfl)
@[simp] theorem cK_ex {c x} {w : List D} {is : List Nat} {n : Nat} : cK (.ex c x w) is n ρ = if w.length = n then .ex c x (putW is w ρ) else .st := (rfl)
@[simp] theorem fK_nx {ms : List Nat} : fK (.nx ρ) ms = match getW ms ρ with | some w => .ok .non w | none => .st := (rfl)
@[simp] theorem fK_rt {d : D} {ms : List Nat} : fK (.rt d ρ) ms = match getW ms ρ with | some w => .ok d w | none => .st := (rfl)
@[simp] theorem fK_ex {c x} {ms : List Nat} : fK (.ex c x ρ) ms = match getW ms ρ with | some w => .ex c x w | none => .st := (rfl)
@[simp] theorem xK_ok {d : D} {w : List D} : xK (.ok d w) = .ok d w := (rfl)
@[simp] theorem a_mB {f : M α} {g : α → M β} : mB f g ρ = bK (f ρ) g := by unfold mB bK; cases f ρ <;> rfl
@[simp] theorem a_mThen {f : M α} {g : α → Stm} : mThen f g ρ = tK (f ρ) g := by unfold mThen tK; cases f ρ <;> rfl
@[simp] theorem a_mSeq {f g : Stm} : mSeq f g ρ = sK (f ρ) g := by unfold mSeq sK; cases f ρ <;> rfl
@[simp] theorem a_mP {a : α} : mP a ρ = .ok a ρ := (rfl)
@[simp] theorem a_mO {x : Option α} : mO x ρ = oK x ρ := by cases x <;> rfl
@[simp] theorem a_mGet {f : Env → Option α} : mGet f ρ = oK (f ρ) ρ := by unfold mGet oK; cases f ρ <;> rfl
@[simp] theorem a_mPut {i : Nat} {d : D} : mPut i d ρ = .ok () (ρ.set i (some d)) := (rfl)
@[simp] theorem a_mVar {i : Nat} : mVar i ρ = eK ρ[i]? ρ i := by
  unfold mVar
  rcases ρ[i]? with _ | _ | d <;> rfl
@[simp] theorem a_frz {f : M D} : frz f ρ = bK (f ρ) fun d => mP d.fz := a_mB
@[simp] theorem a_mOp {op : D → D → Option D} {f g : M D} : mOp op f g ρ = bK (f ρ) fun x => mB g fun y => mO (op x y) := a_mB
@[simp] theorem a_mUn {op : D → Option D} {f : M D} : mUn op f ρ = bK (f ρ) fun x => mO (op x) := a_mB
@[simp] theorem a_mNil : mNil ρ = .ok [] ρ := (rfl)
@[simp] theorem a_mCons {f : M D} {g : M (List D)} : mCons f g ρ = bK (f ρ) fun x => mB g fun xs => mP (x :: xs) := a_mB
@[simp] theorem a_mLst {g : M (List D)} : mLst g ρ = bK (g ρ) fun ds => mB (mO (szok ds.length)) fun _ => mP (.ols ds) := a_mB
@[simp] theorem a_mTup {g : M (List D)} : mTup g ρ = bK (g ρ) fun ds => mB (mO (szok ds.length)) fun _ => mP (.tup ds) := a_mB
@[simp] theorem a_mCb {op : List D → Option D} {g : M (List D)} : mCb op g ρ = bK (g ρ) fun ds => mO (op ds) := a_mB
@[simp] theorem a_mCbL {op : List D → Option (List D)} {g : M (List D)} : mCbL op g ρ = bK (g ρ) fun ds => mB (mO (op ds)) fun es => mP (.ols es) := a_mB
@[simp] theorem a_mTest {f : M D} : mTest f ρ = bK (f ρ) fun d => mO (asB d) := a_mB
@[simp] theorem a_mAnd {f g : M Bool} : mAnd f g ρ = bK (f ρ) fun b => if b = true then g else mP false := a_mB
@[simp] theorem a_mOr {f g : M Bool} : mOr f g ρ = bK (f ρ) fun b => if b = true then mP true else g := a_mB
@[simp] theorem a_mNot {f : M Bool} : mNot f ρ = bK (f ρ) fun b => mP (!b) := a_mB
@[simp] theorem a_mAndV {f g : M D} : mAndV f g ρ = bK (mTest f ρ) fun b => if b = true then g else mP (.bl false) := a_mB
@[simp] theorem a_mOrV {f g : M D} : mOrV f g ρ = bK (mTest f ρ) fun b => if b = true then mP (.bl true) else g := a_mB
@[simp] theorem a_mNotV {f : M D} : mNotV f ρ = bK (mTest f ρ) fun b => mP (.bl (!b)) := a_mB
@[simp] theorem a_mIf {c : M Bool} {f g : M α} : mIf c f g ρ = bK (c ρ) fun b => if b = true then f else g := a_mB
@[simp] theorem a_mChain {op op' : D → D → Option D} {f g h : M D} : mChain op op' f g h ρ = bK (f ρ) fun x => mB g fun y => mB (mO ((op x y).bind asB)) fun b => if b = true then mB h fun z => mO (op' y z) else mP (.bl false) := a_mB
@[simp] theorem a_mIxAV {i : Nat} {g : M D} : mIxAV i g ρ = bK (oK (sqOf ρ[i]?) ρ) fun _ => mB g fun x => mB (mGet fun ρ => sqOf ρ[i]?) fun ds => mO (ixD ds x) := by rw [mIxAV, a_mB, a_mGet]
@[simp] theorem a_mLenV {i : Nat} : mLenV i ρ = bK (oK ((seqOf ρ[i]?).orElse fun _ => tupOf ρ[i]?) ρ) fun ds => mP (.int ds.length) := by rw [mLenV, a_mB, a_mGet]
@[simp] theorem a_mTru {f : M D} : mTru f ρ = bK (f ρ) fun d => mO (truD d) := a_mB
@[simp] theorem a_mTruV {i : Nat} : mTruV i ρ = bK (oK (seqOf ρ[i]?) ρ) fun ds => mP (!ds.isEmpty) := by rw [mTruV, a_mB, a_mGet]
@[simp] theorem a_mPNo : mPNo ρ = .ok none ρ := (rfl)
def asO : D → Option (Option Int)
  | .int i => some (some i)
  | _ => none
@[simp] theorem asO_int {i : Int} : asO (.int i) = some (some i) := (rfl)
@[simp] theorem a_mPSome {f : M D} : mPSome f ρ = bK (f ρ) fun d => mO (asO d) := by
  rw [mPSome, a_mB]
  congr 1
@[simp] theorem a_mSlA {f : M D} {l h : M (Option Int)} : mSlA f l h ρ = bK (f ρ) fun d => mB l fun lo => mB h fun hi => mO (slA d lo hi) := a_mB
@[simp] theorem a_mIsi {T : Ty} {f : M D} : mIsi T f ρ = bK (f ρ) fun d => mO ((isTy T d).map D.bl) := a_mB
@[simp] theorem a_mIsi2 {f : M D} : mIsi2 f ρ = bK (f ρ) fun d => mO ((isSq d).map D.bl) := a_mB
def app1 (i : Nat) (ds : List D) : List D → M D
  | [x] => mB (mO (szok ds.length)) fun _ => mB (mPut i (.ols (ds ++ [x]))) fun _ => mP .non
  | _ => fun _ => .st
@[simp] theorem app1_one {i : Nat} {ds : List D} {x : D} : app1 i ds [x] ρ = bK (oK (szok ds.length) ρ) fun _ => mB (mPut i (.ols (ds ++ [x]))) fun _ => mP .non := by rw [app1, a_mB, a_mO]
@[simp] theorem a_mAppend {i : Nat} {g : M (List D)} : mAppend i g ρ = bK (oK (olsOf ρ[i]?) ρ) fun _ => mB g fun xs => mB (mGet fun ρ => olsOf ρ[i]?) fun ds => app1 i ds xs := by
  rw [mAppend, a_mB, a_mGet]
  rfl
@[simp] theorem a_mExtend {i : Nat} {g : M D} : mExtend i g ρ = bK (oK (olsOf ρ[i]?) ρ) fun _ => mB g fun x => mB (mGet fun ρ => olsOf ρ[i]?) fun ds => mB (mO (flatO x)) fun xs => mB (mO (szok (ds.length + xs.length))) fun _ => mB (mPut i (.ols (ds ++ xs))) fun _ => mP .non := by rw [mExtend, a_mB, a_mGet]
def popL (ds : List D) : Option (D × List D) := match ds.getLast? with
  | some d => if d.isO = true then none else some (d, ds.dropLast)
  | none => none
@[simp] theorem popL_snoc {ds : List D} {d : D} (h : d.isO = false) : popL (ds ++ [d]) = some (d, ds) := by simp [popL, h]
@[simp] theorem a_mPop {i : Nat} : mPop i ρ = bK (oK (olsOf ρ[i]?) ρ) fun ds => mB (mO (popL ds)) fun z => mB (mPut i (.ols z.2)) fun _ => mP z.1 := by
  rw [mPop, a_mB, a_mGet]
  congr 1
  funext ds ρ
  rw [a_mB, a_mO]
  unfold popL
  cases ds.getLast? with
  | none => rfl
  | some d =>
    dsimp only
    by_cases h : d.isO = true
    · rw [if_pos h, if_pos h]; rfl
    · rw [if_neg h, if_neg h]; rfl
@[simp] theorem a_mPopAt {i : Nat} {g : M (List D)} : mPopAt i g ρ = bK (oK (olsOf ρ[i]?) ρ) fun _ => mB g fun xs => mB (mGet fun ρ => olsOf ρ[i]?) fun ds => mB (mO (popD ds xs)) fun z => mB (mPut i (.ols (ds.eraseIdx z.1))) fun _ => mP z.2 := by rw [mPopAt, a_mB, a_mGet]
@[simp] theorem a_bNil : bNil ρ = .ok [] ρ := (rfl)
@[simp] theorem a_bCons {f : M D} {g : M (List Arg)} : bCons f g ρ = bK (f ρ) fun x => mB g fun xs => mP (.inr x :: xs) := a_mB
@[simp] theorem a_bSlot {i : Nat} {g : M (List Arg)} : bSlot i g ρ = bK (oK (ρ[i]?).join ρ) fun _ => mB g fun xs => mP (.inl i :: xs) := by rw [bSlot, a_mB, a_mGet]
@[simp] theorem a_bApp {f : M (List Arg)} {ds : List D} : bApp f ds ρ = bK (f ρ) fun as => mP (as ++ ds.map Sum.inr) := a_mB
@[simp] theorem a_bKw {n j : Nat} {f : M (List Arg)} {g : M (List D)} {k : List Arg → List Arg → List Arg} : bKw n j f g k ρ = bK (f ρ) fun as => mB g fun zs => if as.length = n ∧ zs.length = j then mP (k as (zs.map Sum.inr)) else fun _ => .st := a_mB
/-- a call, its arguments known -/
def callD (ms' : List Nat) (m : List D → Ans) (as : List Arg) (ds : List D) : M D := if (brw 0 as).map (·.1) = ms' ∧ ((brw 0 as).map (·.2)).Nodup then fun ρ => cK (m ds) ((brw 0 as).map (·.2)) ms'.length ρ else fun _ => .st
@[simp] theorem a_mCall {ms' : List Nat} {m : List D → Ans} {f : M (List Arg)} : mCall ms' m f ρ = bK (f ρ) fun as => mB (mGet fun ρ => argsD ρ as) fun ds => callD ms' m as ds := by
  rw [mCall, a_mB]
  congr 1
  funext as ρ
  rw [a_mB, a_mB]
  congr 1
  funext ds
  unfold callD
  split
  · funext ρ
    unfold cK
    cases m ds <;> rfl
  · rfl
@[simp] theorem callD_0 {m : List D → Ans} {ds : List D} {as : List Arg} (h : brw 0 as = []) : callD [] m as ds ρ = cK (m ds) [] 0 ρ := by
  unfold callD
  rw [h, if_pos ⟨rfl, List.nodup_nil⟩]
  rfl
@[simp] theorem callD_1 {m : List D → Ans} {ds : List D} {as : List Arg} {p i : Nat} (h : brw 0 as = [(p, i)]) : callD [p] m as ds ρ = cK (m ds) [i] 1 ρ := by
  unfold callD
  rw [h, if_pos ⟨rfl, by simp⟩]
  rfl
@[simp] theorem a_noX {m : List D → Ans} {ds : List D} : noX m ds = xK (m ds) := by unfold noX xK; cases m ds <;> rfl
@[simp] theorem a_mkFn {np n : Nat} {ms : List Nat} {body : Stm} {ds : List D} : mkFn np n ms body ds = if ds.length = np then fK (body (ds.map some ++ List.replicate (n - ds.length) none)) ms else .st := by
  unfold mkFn fK
  split
  · cases body (ds.map some ++ List.replicate (n - ds.length) none) <;> rfl
  · rfl
@[simp] theorem a_mNext : mNext ρ = .nx ρ := (rfl)
@[simp] theorem a_mSet {i : Nat} {f : M D} : mSet i f ρ = tK (f ρ) fun d ρ => .nx (ρ.set i (some d)) := a_mThen
@[simp] theorem a_mRet {f : M D} : mRet f ρ = tK (f ρ) fun d ρ => .rt d ρ := a_mThen
@[simp] theorem a_mRetN : mRetN ρ = .rt .non ρ := (rfl)
@[simp] theorem a_mDrop {f : M D} : mDrop f ρ = tK (f ρ) fun _ ρ => .nx ρ := a_mThen
@[simp] theorem a_mIfS {c : M Bool} {f g : Stm} : mIfS c f g ρ = tK (c ρ) fun b => if b = true then f else g := a_mThen
@[simp] theorem a_mBrk : mBrk ρ = .bk ρ := (rfl)
@[simp] theorem a_mCnt : mCnt ρ = .ct ρ := (rfl)
def outO : Option Env → Out
  | some ρ => .nx ρ
  | none => .st
@[simp] theorem outO_some : outO (some ρ) = .nx ρ := (rfl)
@[simp] theorem a_mTo {tg : D → Env → Option Env} {f : M D} : mTo tg f ρ = tK (f ρ) fun d ρ => outO (tg d ρ) := by
  rw [mTo, a_mThen]
  congr 1
@[simp] theorem a_mSetIx {i : Nat} {f g : M D} : mSetIx i f g ρ = tK (f ρ) fun x => mThen (mGet fun ρ => olsOf ρ[i]?) fun _ => mThen g fun j => mThen (mGet fun ρ => olsOf ρ[i]?) fun ds => mThen (mO (ixSet ds j)) fun n ρ => .nx (ρ.set i (some (.ols (ds.set n x)))) := a_mThen
def intOf : Option (Option D) → Option Int
  | some (some (.int n)) => some n
  | _ => none
@[simp] theorem intOf_int {n : Int} : intOf (some (some (.int n))) = some n := (rfl)
@[simp] theorem a_mAug {i : Nat} {op : Int → Int → Int} {f : M D} : mAug i op f ρ = tK (oK (intOf ρ[i]?) ρ) fun n => mThen f fun d => mThen (mO (asI d)) fun k ρ => .nx (ρ.set i (some (.int (op n k)))) := by
  rw [mAug, a_mThen, a_mGet]
  rfl
def lK : Res (List D) → (D → Env → Option Env) → Stm → Out
  | .ok ds ρ, tg, body => mLoop tg body ds ρ
  | .ex c x ρ, _, _ => .ex c x ρ
  | .st, _, _ => .st
@[simp] theorem lK_ok {ds : List D} {tg : D → Env → Option Env} {body : Stm} : lK (.ok ds ρ) tg body = mLoop tg body ds ρ := (rfl)
@[simp] theorem a_mFor {it : M (List D)} {tg : D → Env → Option Env} {body : Stm} : mFor it tg body ρ = lK (it ρ) tg body := by
  rw [mFor, a_mThen]
  unfold tK lK
  cases it ρ <;> rfl
@[simp] theorem a_mItA {f : M D} : mItA f ρ = bK (f ρ) fun d => mO (seqD d) := a_mB
@[simp] theorem a_mRg1 {g : M (List D)} : mRg1 g ρ = bK (g ρ) fun ds => mO (rg1 ds) := a_mB
@[simp] theorem a_mRg2 {g : M (List D)} : mRg2 g ρ = bK (g ρ) fun ds => mO (rg2 ds) := a_mB
@[simp] theorem a_mListRg1 {f : M D} : mListRg1 f ρ = bK (f ρ) fun d => mB (mO (asI d)) fun n => mB (mO (rgOk 0 n)) fun _ => mP (.ols (rgD 0 n)) := a_mB
@[simp] theorem a_mListRg2 {f g : M D} : mListRg2 f g ρ = bK (f ρ) fun d => mB g fun e => mB (mO (asI d)) fun i => mB (mO (asI e)) fun j => mB (mO (rgOk i j)) fun _ => mP (.ols (rgD i j)) := a_mB
def gK : Option (List D × Env) → Res D
  | some (acc, ρ) => .ok (.ols acc) ρ
  | none => .st
@[simp] theorem gK_some {acc : List D} : gK (some (acc, ρ)) = .ok (.ols acc) ρ := (rfl)
@[simp] theorem a_mLc {it : M (List D)} {tg : D → Env → Option Env} {test : M Bool} {elt : M D} {vs : List Nat} : mLc it tg test elt vs ρ = bK (it ρ) fun ds ρ => gK (lcGo (lcStep tg test elt vs) vs ds [] (wipeE ρ vs)) := by
  rw [mLc, a_mB]
  congr 1
@[simp] theorem a_mLc2 {it : M (List D)} {tg : D → Env → Option Env} {test : M Bool} {it1 : M (List D)} {tg1 : D → Env → Option Env} {test1 : M Bool} {elt : M D} {vs vs1 : List Nat} : mLc2 it tg test it1 tg1 test1 elt vs vs1 ρ = bK (it ρ) fun ds ρ => gK (lc2Go (lc2Step tg test it1 (lcStep tg1 test1 elt vs1) vs vs1) vs ds [] (wipeE ρ vs)) := by
  rw [mLc2, a_mB]
  congr 1
/-! what values do -/
@[simp] theorem szok_s {n : Nat} (h : n ≤ 100000) : szok n = some () := if_pos h
@[simp] theorem isO_non : D.isO .non = false := (rfl)
@[simp] theorem isO_bl {b : Bool} : D.isO (.bl b) = false := (rfl)
@[simp] theorem isO_int {b : Int} : D.isO (.int b) = false := (rfl)
@[simp] theorem isO_str {b : Str} : D.isO (.str b) = false := (rfl)
@[simp] theorem isO_lst {b : List D} : D.isO (.lst b) = false := (rfl)
@[simp] theorem isO_tup {b : List D} : D.isO (.tup b) = false := (rfl)
@[simp] theorem isO_scr {b : List Int} : D.isO (.scr b) = false := (rfl)
@[simp] theorem isO_ols {b : List D} : D.isO (.ols b) = true := (rfl)
@[simp] theorem fz_non : D.fz .non = .non := by simp [D.fz]
@[simp] theorem fz_bl {b : Bool} : D.fz (.bl b) = .bl b := by simp [D.fz]
@[simp] theorem fz_int {b : Int} : D.fz (.int b) = .int b := by simp [D.fz]
@[simp] theorem fz_str {b : Str} : D.fz (.str b) = .str b := by simp [D.fz]
@[simp] theorem fz_lst {b : List D} : D.fz (.lst b) = .lst b := by simp [D.fz]
@[simp] theorem fz_tup {b : List D} : D.fz (.tup b) = .tup b := by simp [D.fz]
@[simp] theorem fz_ols {b : List D} : D.fz (.ols b) = .lst (fzs b) := by simp [D.fz]
@[simp] theorem fzs_nil : fzs [] = [] := by simp [fzs]
@[simp] theorem fzs_cons {d : D} {ds : List D} : fzs (d :: ds) = d.fz :: fzs ds := by simp [fzs]
@[simp] theorem fzs_app {ds es : List D} : fzs (ds ++ es) = fzs ds ++ fzs es := by simp [fzs_eq]
@[simp] theorem fzs_ints {ns : List Int} : fzs (ns.map D.int) = ns.map D.int := by simp [fzs_eq, Function.comp_def]
@[simp] theorem seqOf_ols {ds : List D} : seqOf (some (some (.ols ds))) = some ds := (rfl)
@[simp] theorem seqOf_lst {ds : List D} : seqOf (some (some (.lst ds))) = some ds := (rfl)
@[simp] theorem seqOf_tup {ds : List D} : seqOf (some (some (.tup ds))) = none := (rfl)
@[simp] theorem tupOf_tup {ds : List D} : tupOf (some (some (.tup ds))) = some ds := (rfl)
@[simp] theorem olsOf_ols {ds : List D} : olsOf (some (some (.ols ds))) = some ds := (rfl)
@[simp] theorem sqOf_ols {ds : List D} : sqOf (some (some (.ols ds))) = some ds := (rfl)
@[simp] theorem sqOf_lst {ds : List D} : sqOf (some (some (.lst ds))) = some ds := (rfl)
@[simp] theorem sqOf_tup {ds : List D} : sqOf (some (some (.tup ds))) = some ds := (rfl)
@[simp] theorem seqD_lst {ds : List D} : seqD (.lst ds) = some ds := (rfl)
@[simp] theorem seqD_tup {ds : List D} : seqD (.tup ds) = some ds := (rfl)
@[simp] theorem asB_bl {b : Bool} : asB (.bl b) = some b := (rfl)
@[simp] theorem asI_int {b : Int} : asI (.int b) = some b := (rfl)
@[simp] theorem truD_non : truD .non = some false := (rfl)
@[simp] theorem truD_bl {b : Bool} : truD (.bl b) = some b := (rfl)
@[simp] theorem truD_lst {ds : List D} : truD (.lst ds) = some (!ds.isEmpty) := (rfl)
@[simp] theorem truD_tup {ds : List D} : truD (.tup ds) = some (!ds.isEmpty) := (rfl)
@[simp] theorem kName_ap {i : Nat} {d : D} : kName i d ρ = some (ρ.set i (some d)) := (rfl)
@[simp] theorem kNil_ap : kNil [] ρ = some ρ := (rfl)
@[simp] theorem kCons_ap {f : D → Env → Option Env} {g : List D → Env → Option Env} {d : D} {ds : List D} : kCons f g (d :: ds) ρ = (f d ρ).bind (g ds) := (rfl)
@[simp] theorem kTup_ap {n : Nat} {g : List D → Env → Option Env} {ds : List D} : kTup n g (.tup ds) ρ = if ds.length = n then g ds ρ else none := (rfl)
@[simp] theorem getW_nil : getW [] ρ = some [] := (rfl)
@[simp] theorem getW_cons {i : Nat} {ms : List Nat} : getW (i :: ms) ρ = (ρ[i]?).join.bind fun d => (getW ms ρ).map fun w => d :: w := by
  unfold getW
  rw [List.map_cons, argsD]
  simp only [argD]
  cases (ρ[i]?).join <;> cases argsD ρ (ms.map Sum.inl) <;> rfl
@[simp] theorem argsD_nil : argsD ρ [] = some [] := (rfl)
@[simp] theorem argsD_inr {d : D} {as : List Arg} : argsD ρ (.inr d :: as) = (argsD ρ as).map fun w => d :: w := by
  rw [argsD]
  simp only [argD]
  cases argsD ρ as <;> rfl
@[simp] theorem argsD_inl {i : Nat} {as : List Arg} : argsD ρ (.inl i :: as) = (ρ[i]?).join.bind fun d => (argsD ρ as).map fun w => d :: w := by
  rw [argsD]
  simp only [argD]
  cases (ρ[i]?).join <;> cases argsD ρ as <;> rfl
@[simp] theorem brw_nil {n : Nat} : brw n [] = [] := (rfl)
@[simp] theorem brw_inr {n : Nat} {d : D} {as : List Arg} : brw n (.inr d :: as) = brw (n + 1) as := (rfl)
@[simp] theorem brw_inl {n i : Nat} {as : List Arg} : brw n (.inl i :: as) = (n, i) :: brw (n + 1) as := (rfl)
@[simp] theorem putW_nil {w : List D} : putW [] w ρ = ρ := by cases w <;> rfl
@[simp] theorem putW_cons {i : Nat} {is : List Nat} {d : D} {w : List D} : putW (i :: is) (d :: w) ρ = putW is w (ρ.set i (some d)) := (rfl)
@[simp] theorem wipeE_nil : wipeE ρ [] = ρ := (rfl)
@[simp] theorem wipeE_cons {v : Nat} {vs : List Nat} : wipeE ρ (v :: vs) = (wipeE ρ vs).set v none := (rfl)
@[simp] theorem oI0_int {g : Int → Int → D} {i j : Int} : oI0 g (.int i) (.int j) = some (g i j) := (rfl)
@[simp] theorem oI_int {C : Int → Int → Bool} {g : Int → Int → Int} {i j : Int} : oI C g (.int i) (.int j) = if C i j = true then some (.int (g i j)) else none := (rfl)
@[simp] theorem oAddA_int {i j : Int} : oAddA (.int i) (.int j) = some (.int (i + j)) := (rfl)
@[simp] theorem oAddA_lst {xs ys : List D} : oAddA (.lst xs) (.lst ys) = if xs.length + ys.length ≤ 100000 then some (.ols (xs ++ ys)) else none := (rfl)
@[simp] theorem oAddA_tup {xs ys : List D} : oAddA (.tup xs) (.tup ys) = if xs.length + ys.length ≤ 100000 then some (.tup (xs ++ ys)) else none := (rfl)
@[simp] theorem oMulA_int {i j : Int} : oMulA (.int i) (.int j) = if (sml i || sml j || (big i && big j)) = true then some (.int (i * j)) else none := (rfl)
@[simp] theorem oMulA_lst {xs : List D} {k : Int} : oMulA (.lst xs) (.int k) = if k < 100000 ∧ xs.length * k.toNat ≤ 100000 ∧ -100000 < k then some (.ols (List.replicate k.toNat xs).flatten) else none := (rfl)
@[simp] theorem oMulA_tup {xs : List D} {k : Int} : oMulA (.tup xs) (.int k) = if xs ≠ [] ∧ -1000 ≤ k ∧ k ≤ 1000 ∧ xs.length ≤ 1000 then some (.tup (List.replicate k.toNat xs).flatten) else none := (rfl)
@[simp] theorem oEqA_int {i j : Int} : oEqA (.int i) (.int j) = some (.bl (decide (i = j))) := (rfl)
@[simp] theorem oNeA_int {i j : Int} : oNeA (.int i) (.int j) = some (.bl (!decide (i = j))) := (rfl)
@[simp] theorem oEqA_bl {i j : Bool} : oEqA (.bl i) (.bl j) = some (.bl (decide (i = j))) := (rfl)
@[simp] theorem oNeA_bl {i j : Bool} : oNeA (.bl i) (.bl j) = some (.bl (!decide (i = j))) := (rfl)
@[simp] theorem oEqA_str {i j : Str} : oEqA (.str i) (.str j) = some (.bl (decide (i = j))) := (rfl)
@[simp] theorem oNeA_str {i j : Str} : oNeA (.str i) (.str j) = some (.bl (!decide (i = j))) := (rfl)
@[simp] theorem oIsA_non {x : D} : oIsA x .non = some (.bl (isN x)) := (rfl)
@[simp] theorem oNotA_non {x : D} : oNotA x .non = some (.bl (!isN x)) := (rfl)
@[simp] theorem oIsA_bl {i j : Bool} : oIsA (.bl i) (.bl j) = some (.bl (decide (i = j))) := (rfl)
@[simp] theorem oNotA_bl {i j : Bool} : oNotA (.bl i) (.bl j) = some (.bl (!decide (i = j))) := (rfl)
@[simp] theorem oIsA_nbl {j : Bool} : oIsA .non (.bl j) = some (.bl false) := (rfl)
@[simp] theorem oNotA_nbl {j : Bool} : oNotA .non (.bl j) = some (.bl true) := (rfl)
@[simp] theorem isN_non : isN .non = true := (rfl)
@[simp] theorem isN_bl {b : Bool} : isN (.bl b) = false := (rfl)
@[simp] theorem isN_int {b : Int} : isN (.int b) = false := (rfl)
@[simp] theorem isN_str {b : Str} : isN (.str b) = false := (rfl)
@[simp] theorem isN_lst {b : List D} : isN (.lst b) = false := (rfl)
@[simp] theorem isN_tup {b : List D} : isN (.tup b) = false := (rfl)
@[simp] theorem oIxA_lst {ds : List D} {y : D} : oIxA (.lst ds) y = ixO ds y := (rfl)
@[simp] theorem oIxA_tup {ds : List D} {y : D} : oIxA (.tup ds) y = ixO ds y := (rfl)
theorem atI_get {α : Type} {xs : List α} {i : Int} (h0 : 0 ≤ i) (h1 : i < xs.length) : atI xs i = xs[i.toNat]? := by
  unfold atI ixN
  rw [if_pos h0, if_pos h1]
  rfl
@[simp] theorem atI_n {α : Type} {xs : List α} {n : Nat} : atI xs (n : Int) = xs[n]? := by
  unfold atI ixN
  rw [if_pos (by omega)]
  by_cases h : n < xs.length
  · rw [if_pos (by omega)]; simp
  · rw [if_neg (by omega), List.getElem?_eq_none (by omega)]; rfl
@[simp] theorem atI_0 {α : Type} {xs : List α} : atI xs 0 = xs[0]? := atI_n (n := 0)
@[simp] theorem atI_lit {α : Type} {xs : List α} {n : Nat} : atI xs (no_index (OfNat.ofNat n) : Int) = xs[n]? := atI_n (n := n)
@[simp] theorem atI_1 {α : Type} {xs : List α} : atI xs 1 = xs[1]? := atI_n (n := 1)
@[simp] theorem ixO_int {ds : List D} {i : Int} : ixO ds (.int i) = atI ds i := (rfl)
def ixq : Option D → Option D
  | some d => if d.isO = true then none else some d
  | none => none
@[simp] theorem ixq_some {d : D} : ixq (some d) = if d.isO = true then none else some d := (rfl)
@[simp] theorem ixD_int {ds : List D} {i : Int} : ixD ds (.int i) = ixq (atI ds i) := by
  unfold ixD ixq
  rfl
@[simp] theorem ixSet_n {ds : List D} {n : Nat} : ixSet ds (.int (n : Int)) = if n < ds.length then some n else none := by
  unfold ixSet ixN
  dsimp only
  rw [if_pos (by omega)]
  by_cases h : n < ds.length
  · rw [if_pos (by omega), if_pos h]; simp
  · rw [if_neg (by omega), if_neg h]
@[simp] theorem ixSet_0 {ds : List D} : ixSet ds (.int 0) = if 0 < ds.length then some 0 else none := ixSet_n (n := 0)
@[simp] theorem ixSet_1 {ds : List D} : ixSet ds (.int 1) = if 1 < ds.length then some 1 else none := ixSet_n (n := 1)
@[simp] theorem ixSet_lit {ds : List D} {n : Nat} : ixSet ds (.int (no_index (OfNat.ofNat n))) = if n < ds.length then some n else none := ixSet_n (n := n)
@[simp] theorem oLen_lst {ds : List D} : oLen [.lst ds] = some (.int ds.length) := (rfl)
@[simp] theorem oLen_tup {ds : List D} : oLen [.tup ds] = some (.int ds.length) := (rfl)
@[simp] theorem oInt_int {i : Int} : oInt [.int i] = some (.int i) := (rfl)
@[simp] theorem oInt_bl {k : Bool} : oInt [.bl k] = some (.int (if k then 1 else 0)) := (rfl)
@[simp] theorem oAbs_int {i : Int} : oAbs [.int i] = some (.int (if i < 0 then -i else i)) := (rfl)
@[simp] theorem oMin2_int {i j : Int} : oMin2 [.int i, .int j] = some (.int (if j < i then j else i)) := (rfl)
@[simp] theorem oMax2_int {i j : Int} : oMax2 [.int i, .int j] = some (.int (if j > i then j else i)) := (rfl)
@[simp] theorem oNeg_int {i : Int} : oNeg (.int i) = some (.int (-i)) := (rfl)
@[simp] theorem oList_lst {ds : List D} : oList [.lst ds] = some ds := (rfl)
@[simp] theorem oList_tup {ds : List D} : oList [.tup ds] = some ds := (rfl)
@[simp] theorem oList_scr {ns : List Int} : oList [.scr ns] = some (ns.map D.int) := (rfl)
@[simp] theorem oTuple_lst {ds : List D} : oTuple [.lst ds] = some (.tup ds) := (rfl)
@[simp] theorem oTuple_tup {ds : List D} : oTuple [.tup ds] = some (.tup ds) := (rfl)
@[simp] theorem oIn_lst {n : Bool} {x : D} {ds : List D} : oIn n x (.lst ds) = if (flD x && ds.all flD) = true then some (.bl (if n = true then !inD x ds else inD x ds)) else none := (rfl)
@[simp] theorem oIn_tup {n : Bool} {x : D} {ds : List D} : oIn n x (.tup ds) = if (flD x && ds.all flD) = true then some (.bl (if n = true then !inD x ds else inD x ds)) else none := (rfl)
@[simp] theorem flD_non : flD .non = true := (rfl)
@[simp] theorem flD_bl {b : Bool} : flD (.bl b) = true := (rfl)
@[simp] theorem flD_int {b : Int} : flD (.int b) = true := (rfl)
@[simp] theorem flD_str {b : Str} : flD (.str b) = true := (rfl)
@[simp] theorem flatO_ols {xs : List D} : flatO (.ols xs) = if xs.any D.isO = true then none else some xs := (rfl)
@[simp] theorem flatO_lst {xs : List D} : flatO (.lst xs) = some xs := (rfl)
/-- 0, 1, .. -/
def upto (n : Nat) : List D := (List.range n).map fun (k : Nat) => D.int (k : Int)
theorem upto_at {n i : Nat} {d : D} (h : (upto n)[i]? = some d) : i < n ∧ d = .int (i : Int) := by
  unfold upto at h
  rw [List.getElem?_map] at h
  obtain ⟨j, h1, h2⟩ := Option.map_eq_some_iff.mp h
  obtain ⟨h3, h4⟩ := List.getElem?_eq_some_iff.mp h1
  rw [List.getElem_range] at h4
  rw [List.length_range] at h3
  subst h4
  exact ⟨h3, h2.symm⟩
@[simp] theorem upto_len {n : Nat} : (upto n).length = n := by simp [upto]
@[simp] theorem rg1_int {j : Int} : rg1 [.int j] = if -(2 ^ 62) ≤ j ∧ j < 2 ^ 62 then some (upto j.toNat) else none := by simp [rg1, upto]
theorem rg1_n {n : Nat} (h : n ≤ 100000) : rg1 [.int (n : Int)] = some (upto n) := by
  rw [rg1_int, if_pos ⟨by omega, by omega⟩]
  rfl
@[simp] theorem rg2_int {i j : Int} : rg2 [.int i, .int j] = if -(2 ^ 62) ≤ i ∧ i < 2 ^ 62 ∧ -(2 ^ 62) ≤ j ∧ j < 2 ^ 62 then some ((List.range (j - i).toNat).map fun (k : Nat) => D.int (i + (k : Int))) else none := (rfl)
@[simp] theorem isTy_list_lst {b : List D} : isTy .list (.lst b) = some true := (rfl)
@[simp] theorem isTy_list_tup {b : List D} : isTy .list (.tup b) = some false := (rfl)
@[simp] theorem isTy_tuple_lst {b : List D} : isTy .tuple (.lst b) = some false := (rfl)
@[simp] theorem isTy_tuple_tup {b : List D} : isTy .tuple (.tup b) = some true := (rfl)
@[simp] theorem isSq_lst {b : List D} : isSq (.lst b) = some true := (rfl)
@[simp] theorem isSq_tup {b : List D} : isSq (.tup b) = some true := (rfl)
@[simp] theorem isSq_non : isSq .non = some false := (rfl)
@[simp] theorem isSq_bl {b : Bool} : isSq (.bl b) = some false := (rfl)
@[simp] theorem isSq_int {b : Int} : isSq (.int b) = some false := (rfl)
@[simp] theorem isSq_str {b : Str} : isSq (.str b) = some false := (rfl)
end
@[simp] theorem isTy_non {T : Ty} : isTy T .non = some false := by cases T <;> rfl
@[simp] theorem isTy_bool_bl {b : Bool} : isTy .bool (.bl b) = some true := (rfl)
@[simp] theorem isTy_bool_int {b : Int} : isTy .bool (.int b) = some false := (rfl)
@[simp] theorem isTy_bool_str {b : Str} : isTy .bool (.str b) = some false := (rfl)
@[simp] theorem isTy_bool_lst {b : List D} : isTy .bool (.lst b) = some false := (rfl)
@[simp] theorem isTy_bool_tup {b : List D} : isTy .bool (.tup b) = some false := (rfl)
@[simp] theorem isTy_int_bl {b : Bool} : isTy .int (.bl b) = some true := (rfl)
@[simp] theorem isTy_int_int {b : Int} : isTy .int (.int b) = some true := (rfl)
@[simp] theorem isTy_int_str {b : Str} : isTy .int (.str b) = some false := (rfl)
@[simp] theorem isTy_int_lst {b : List D} : isTy .int (.lst b) = some false := (rfl)
@[simp] theorem isTy_int_tup {b : List D} : isTy .int (.tup b) = some false := (rfl)
@[simp] theorem isTy_str_bl {b : Bool} : isTy .str (.bl b) = some false := (rfl)
@[simp] theorem isTy_str_int {b : Int} : isTy .str (.int b) = some false := (rfl)
@[simp] theorem isTy_str_str {b : Str} : isTy .str (.str b) = some true := (rfl)
@[simp] theorem isTy_str_lst {b : List D} : isTy .str (.lst b) = some false := (rfl)
@[simp] theorem isTy_str_tup {b : List D} : isTy .str (.tup b) = some false := (rfl)
@[simp] theorem isTy_list_bl {b : Bool} : isTy .list (.bl b) = some false := (rfl)
@[simp] theorem isTy_list_int {b : Int} : isTy .list (.int b) = some false := (rfl)
@[simp] theorem isTy_list_str {b : Str} : isTy .list (.str b) = some false := (rfl)
@[simp] theorem isTy_tuple_bl {b : Bool} : isTy .tuple (.bl b) = some false := (rfl)
@[simp] theorem isTy_tuple_int {b : Int} : isTy .tuple (.int b) = some false := (rfl)
@[simp] theorem isTy_tuple_str {b : Str} : isTy .tuple (.str b) = some false := (rfl)
theorem sml_of {i : Int} (h : -18446744073709551616 < i ∧ i < 18446744073709551616) : sml i = true := decide_eq_true h
theorem mapNat_inj : ∀ {a b : List Char}, a.map Char.toNat = b.map Char.toNat → a = b
  | [], [], _ => rfl
  | [], _ :: _, h => by cases h
  | _ :: _, [], h => by cases h
  | x :: a, y :: b, h => by
    rw [List.map_cons, List.map_cons] at h
    injection h with h1 h2
    rw [mapNat_inj h2, Char.toNat_inj.mp h1]
@[simp] theorem ofStr_inj {a b : String} : (Str.ofString a = Str.ofString b) ↔ a = b := by
  constructor
  · intro h
    rw [Str.ofString_eq_toList, Str.ofString_eq_toList] at h
    injection h with h
    exact String.toList_inj.mp (mapNat_inj (List.toArray_inj h))
  · rintro rfl; rfl
/-! ### loops -/
theorem loop_nx {tg : D → Env → Option Env} {body : Stm} (I : Nat → Env → Prop) : ∀ {ds : List D} {ρ : Env} {k : Nat}, I k ρ →
    (∀ i d ρ, ds[i]? = some d → I (k + i) ρ → ∃ ρ1 ρ2, tg d ρ = some ρ1 ∧ (body ρ1 = .nx ρ2 ∨ body ρ1 = .ct ρ2) ∧ I (k + i + 1) ρ2) → ∃ ρ', mLoop tg body ds ρ = .nx ρ' ∧ I (k + ds.length) ρ'
  | [], ρ, k, h0, _ => ⟨ρ, rfl, h0⟩
  | d :: ds, ρ, k, h0, hs => by
    obtain ⟨ρ1, ρ2, e1, e2, h2⟩ := hs 0 d ρ rfl h0
    obtain ⟨ρ', e3, h3⟩ := loop_nx I (ds := ds) (ρ := ρ2) (k := k + 1) h2 fun i d' ρ' hi hI => by
      have := hs (i + 1) d' ρ' (by simpa using hi) (by rw [show k + (i + 1) = k + 1 + i by omega]; exact hI)
      rw [show k + (i + 1) = k + 1 + i by omega] at this
      exact this
    refine ⟨ρ', ?_, by rw [List.length_cons, show k + (ds.length + 1) = k + 1 + ds.length by omega]; exact h3⟩
    rw [mLoop, e1]
    dsimp only
    rcases e2 with e2 | e2 <;> rw [e2] <;> exact e3
/-- a loop that may be left -/
theorem loop_or {tg : D → Env → Option Env} {body : Stm} (I : Nat → Env → Prop) (L : Out → Prop) : ∀ {ds : List D} {ρ : Env} {k : Nat}, I k ρ →
    (∀ i d ρ, ds[i]? = some d → I (k + i) ρ → ∃ ρ1, tg d ρ = some ρ1 ∧ ((∃ ρ2, (body ρ1 = .nx ρ2 ∨ body ρ1 = .ct ρ2) ∧ I (k + i + 1) ρ2) ∨ (∃ ρ2, body ρ1 = .bk ρ2 ∧ L (.nx ρ2)) ∨ (∃ d' ρ2, body ρ1 = .rt d' ρ2 ∧ L (.rt d' ρ2)))) →
    (∃ ρ', mLoop tg body ds ρ = .nx ρ' ∧ I (k + ds.length) ρ') ∨ L (mLoop tg body ds ρ)
  | [], ρ, k, h0, _ => .inl ⟨ρ, rfl, h0⟩
  | d :: ds, ρ, k, h0, hs => by
    obtain ⟨ρ1, e1, h⟩ := hs 0 d ρ rfl h0
    rcases h with ⟨ρ2, e2, h2⟩ | ⟨ρ2, e2, h2⟩ | ⟨d', ρ2, e2, h2⟩
    · have := loop_or I L (ds := ds) (ρ := ρ2) (k := k + 1) h2 fun i d' ρ' hi hI => by
        have := hs (i + 1) d' ρ' (by simpa using hi) (by rw [show k + (i + 1) = k + 1 + i by omega]; exact hI)
        rw [show k + (i + 1) = k + 1 + i by omega] at this
        exact this
      have em : mLoop tg body (d :: ds) ρ = mLoop tg body ds ρ2 := by
        rw [mLoop, e1]
        dsimp only
        rcases e2 with e2 | e2 <;> rw [e2]
      rw [em, List.length_cons, show k + (ds.length + 1) = k + 1 + ds.length by omega]
      exact this
    · refine .inr ?_
      rw [mLoop, e1]
      dsimp only
      rw [e2]
      exact h2
    · refine .inr ?_
      rw [mLoop, e1]
      dsimp only
      rw [e2]
      exact h2
end Y

namespace Y
open PySem PySem.Spec PyProof.Rows L2
/-! ### sorted sets of ints -/
def insU (k : Int) : List Int → List Int
  | [] => [k]
  | x :: xs => if k < x then k :: x :: xs else if k = x then x :: xs else x :: insU k xs
def sortU : List Int → List Int
  | [] => []
  | x :: xs => insU x (sortU xs)
theorem insU_mem {k z : Int} : ∀ {xs : List Int}, z ∈ insU k xs ↔ z = k ∨ z ∈ xs
  | [] => by simp [insU]
  | x :: xs => by
    unfold insU
    split
    · simp
    · split
      · rename_i h
        subst h
        simp
      · rw [List.mem_cons, insU_mem, List.mem_cons]
        exact ⟨fun h => h.elim (fun a => .inr (.inl a)) fun a => a.elim .inl fun b => .inr (.inr b), fun h => h.elim (fun a => .inr (.inl a)) fun a => a.elim .inl fun b => .inr (.inr b)⟩
theorem sortU_mem {z : Int} : ∀ {xs : List Int}, z ∈ sortU xs ↔ z ∈ xs
  | [] => Iff.rfl
  | x :: xs => by rw [sortU, insU_mem, sortU_mem, List.mem_cons]
theorem insU_asc {k : Int} : ∀ {xs : List Int}, xs.Pairwise (· < ·) → (insU k xs).Pairwise (· < ·)
  | [], _ => List.pairwise_singleton _ _
  | x :: xs, h => by
    obtain ⟨h1, h2⟩ := List.pairwise_cons.mp h
    unfold insU
    split
    · rename_i hk
      refine List.pairwise_cons.mpr ⟨fun z hz => ?_, h⟩
      rcases List.mem_cons.mp hz with e | e
      · omega
      · have := h1 z e
        omega
    · split
      · exact h
      · refine List.pairwise_cons.mpr ⟨fun z hz => ?_, insU_asc h2⟩
        rcases insU_mem.mp hz with e | e
        · omega
        · exact h1 z e
theorem sortU_asc : ∀ {xs : List Int}, (sortU xs).Pairwise (· < ·)
  | [] => List.Pairwise.nil
  | _ :: _ => insU_asc sortU_asc
theorem up_ext : ∀ {xs ys : List Int}, xs.Pairwise (· < ·) → ys.Pairwise (· < ·) → (∀ z, z ∈ xs ↔ z ∈ ys) → xs = ys
  | [], [], _, _, _ => rfl
  | [], y :: ys, _, _, h => absurd ((h y).mpr List.mem_cons_self) (by simp)
  | x :: xs, [], _, _, h => absurd ((h x).mp List.mem_cons_self) (by simp)
  | x :: xs, y :: ys, hx, hy, h => by
    obtain ⟨h1, h2⟩ := List.pairwise_cons.mp hx
    obtain ⟨h3, h4⟩ := List.pairwise_cons.mp hy
    have e : x = y := by
      rcases List.mem_cons.mp ((h x).mp List.mem_cons_self) with a | a
      · exact a
      · rcases List.mem_cons.mp ((h y).mpr List.mem_cons_self) with b | b
        · exact b.symm
        · have := h1 y b
          have := h3 x a
          omega
    subst e
    have t := up_ext h2 h4 fun z => by
      constructor
      · intro hz
        rcases List.mem_cons.mp ((h z).mp (List.mem_cons_of_mem _ hz)) with a | a
        · have := h1 z hz
          omega
        · exact a
      · intro hz
        rcases List.mem_cons.mp ((h z).mpr (List.mem_cons_of_mem _ hz)) with a | a
        · have := h3 z hz
          omega
        · exact a
    rw [t]
section
variable {K : PySem.W.Frag} {ct : CT} {ms : List Nat} {W : WX} {H0 R R' H H' : Hp} {vp : Nat → V} {ρ : Env} {σ : L2.St} {w : World}
/-- what stood by is let go -/
theorem Ok.letgo {p : Addr} {o : HO} (ok : Ok K ct (upd H0 p o) ms vp ρ σ R H) (h0 : H0 p = none) : Ok K ct H0 ms vp ρ σ R H := by
  obtain ⟨s, k, iv, l, pi, F, f1, f2, f3⟩ := ok
  refine ⟨s, fun b u q => k _ _ (by rw [upd_ne (ne_of_none q h0)]; exact q), iv, l, pi, F, f1, f2, fun i b h => ?_⟩
  obtain ⟨x, y, z⟩ := f3 i b h
  refine ⟨x, y, ?_⟩
  by_cases e : b = p
  · rw [e, upd_same] at z
    cases z
  · rw [upd_ne e] at z
    exact z
/-- the ints that a set comprehension meets -/
def scGo (step : D → Env → Option (Option D × Env)) (vs : List Nat) : List D → List Int → Env → Option (List Int × Env)
  | [], acc, ρ => some (acc, ρ)
  | d :: ds, acc, ρ => match step d ρ with
    | none => none
    | some (some (.int k), ρ1) => if (sortU (acc ++ [k])).length < 1000 then scGo step vs ds (acc ++ [k]) (wipeE ρ1 vs) else none
    | some (some _, _) => none
    | some (none, ρ1) => scGo step vs ds acc (wipeE ρ1 vs)
def mSortC (it : M (List D)) (tg : D → Env → Option Env) (test : M Bool) (elt : M D) (vs : List Nat) : M D := mB it fun ds ρ => match scGo (lcStep tg test elt vs) vs ds [] (wipeE ρ vs) with
  | some (acc, ρ1) => .ok (.ols ((sortU acc).map D.int)) ρ1
  | none => .st
theorem sim_sortC {wi : TI} {g : TG} {tt : TT} {te : TE} {vs : List Nat} {it : M (List D)} {tg : D → Env → Option Env} {test : M Bool} {elt : M D} {sl : List Nat} (hi : SimI K ct ms vp W wi it) (hg : SimG K ct ms vp g tg sl) (hs : ∀ i ∈ sl, i ∈ vs) (hv : ∀ v ∈ vs, v ∉ ms)
    (ht : SimT K ct ms vp WNo tt test) (he : SimF K ct ms vp WNo te elt) : SimE K ct ms vp W (tCB (rSortedSetW w) (tCons (tScI w wi g tt te vs) tNil)) (mSortC it tg test elt vs) := fun H0 ρ σ R H ok Q q => by
  refine hi H0 ρ σ R H ok _ (Po.mono (Po.bind q) fun ds ρ1 q J R1 H1 g1 ok1 it P hP => ?_)
  have h0 : H0 P = none := ok1.keep.free hP
  have r0 : R1 P = none := ok1.same.free hP
  have okw : Ok K ct (upd H0 P (SetO w P (fun _ => false) 0)) ms vp (wipeE ρ1 vs) σ R1 (upd H1 P (SetO w P (fun _ => false) 0)) := (ok1.guard hP).wipe hv rfl
  refine ⟨fun i m H => m = ds.length - i ∧ i ≤ ds.length ∧ ∃ ρ R2 S n acc, Gr H0 R1 R2 ∧ R2 P = none ∧ (∀ j, S j = true ↔ j ∈ acc) ∧ n = (sortU acc).length ∧ n ≤ 999 ∧ Ok K ct (upd H0 P (SetO w P S n)) ms vp ρ σ R2 H ∧
      Po K ct ms vp W H0 σ R (fun d ρ' => ∀ v R' H', Gr H0 R R' → Ok K ct H0 ms vp (ρ' ++ [some d]) (σ ++ [some v]) R' H' → ρ'.length = σ.length → Q v H')
        (match scGo (lcStep tg test elt vs) vs (ds.drop i) acc ρ with | some (acc, ρ1) => .ok (.ols ((sortU acc).map D.int)) ρ1 | none => .st),
    ⟨ds.length, by omega, Nat.zero_le _, _, R1, fun _ => false, 0, [], Gr.refl _ _, r0, fun j => by simp, rfl, by simp, okw, q⟩, ?_⟩
  rintro i m H2 ⟨rfl, hle, ρ2, R2, S, n, acc, g2, r2, sa, na, nl, ok2, q2⟩
  obtain ⟨yes, no⟩ := it R2 H2 g2.1 ok2.same i
  by_cases hlt : i < ds.length
  · obtain ⟨go, yl⟩ := yes ds[i] (List.getElem?_eq_getElem hlt)
    refine .inr ⟨go, fun H3 => ∃ ρ R2 S n acc, Gr H0 R1 R2 ∧ R2 P = none ∧ (∀ j, S j = true ↔ j ∈ acc) ∧ n = (sortU acc).length ∧ n ≤ 999 ∧ Ok K ct (upd H0 P (SetO w P S n)) ms vp ρ σ R2 H3 ∧
      Po K ct ms vp W H0 σ R (fun d ρ' => ∀ v R' H', Gr H0 R R' → Ok K ct H0 ms vp (ρ' ++ [some d]) (σ ++ [some v]) R' H' → ρ'.length = σ.length → Q v H')
        (match scGo (lcStep tg test elt vs) vs (ds.drop (i + 1)) acc ρ with | some (acc, ρ1) => .ok (.ols ((sortU acc).map D.int)) ρ1 | none => .st),
      fun H3 w => ⟨ds.length - (i + 1), by omega, rfl, hlt, w⟩, fun x H3 y => ?_⟩
    obtain ⟨R3, ex, rx⟩ := yl x H3 y
    have ok3 := (ok2.ext ex).wipe (σ' := L2.wipe σ vs) hv (wipe_wipe σ vs vs fun _ h => h)
    have g3 : Gr (upd H0 P (SetO w P S n)) R2 R3 := ok2.gr ex
    rw [List.drop_eq_getElem_cons hlt, scGo] at q2
    cases e : lcStep tg test elt vs ds[i] ρ2 with
    | none => rw [e] at q2; exact q2.elim
    | some zr =>
      obtain ⟨z, ρ6⟩ := zr
      rw [e] at q2
      try dsimp only at q2
      obtain ⟨ρ4, e4, hz⟩ := lcStep_some e
      refine hg _ _ _ R3 H3 x ds[i] ok3 rx _ ρ4 e4 fun σ4 ok4 w4 => ?_
      have w4' : L2.wipe σ4 vs = L2.wipe σ vs := (w4 vs hs).trans (wipe_wipe σ vs vs fun _ h => h)
      refine ⟨w4', ht _ ρ4 σ4 R3 H3 ok4 _ ?_⟩
      rcases hz with ⟨e1, ez⟩ | ⟨y, ρ5, e1, e2, ez⟩
      · rw [e1]
        rw [ez] at q2
        intro R5 H5 g5 ok5
        have gg := (g3.trans g5)
        exact ⟨wipeE ρ6 vs, R5, S, n, acc, g2.trans gg.unguard, gg.still r2, sa, na, nl, ok5.wipe (σ' := σ) hv w4'.symm, q2⟩
      · rw [e1]
        rw [ez] at q2
        intro R5 H5 g5 ok5
        refine he _ ρ5 σ4 R5 H5 ok5 _ ?_
        rw [e2]
        intro v R6 H6 g6 ok6 r6
        cases y with
        | int k =>
          dsimp only at q2
          by_cases hacc : (sortU (acc ++ [k])).length < 1000
          · rw [if_pos hacc] at q2
            have gg := ((g3.trans g5).trans g6)
            have rP := gg.still r2
            have ek := r6.int_inv
            have sa' : ∀ j, (S j || decide (j = k)) = true ↔ j ∈ acc ++ [k] := fun j => by
              rw [Bool.or_eq_true, sa, decide_eq_true_iff, List.mem_append, List.mem_singleton]
            have cnt : (if S k = true then n else n + 1) = (sortU (acc ++ [k])).length := by
              by_cases hk : S k = true
              · rw [if_pos hk, na]
                have : sortU (acc ++ [k]) = sortU acc := up_ext sortU_asc sortU_asc fun z => by
                  rw [sortU_mem, sortU_mem, List.mem_append, List.mem_singleton]
                  exact ⟨fun h => h.elim id fun h => h ▸ (sa k).mp hk, .inl⟩
                rw [this]
              · rw [if_neg hk, na]
                have hk2 : k ∉ sortU acc := fun h => hk ((sa k).mpr (sortU_mem.mp h))
                have : sortU (acc ++ [k]) = insU k (sortU acc) := up_ext sortU_asc (insU_asc sortU_asc) fun z => by
                  rw [sortU_mem, insU_mem, sortU_mem, List.mem_append, List.mem_singleton]
                  exact or_comm
                rw [this]
                have il : ∀ {xs : List Int}, k ∉ xs → (insU k xs).length = xs.length + 1 := fun {xs} => by
                  induction xs with
                  | nil => intro _; rfl
                  | cons x xs ih =>
                    intro h
                    unfold insU
                    split
                    · rfl
                    · split
                      · rename_i h2
                        exact absurd (h2 ▸ List.mem_cons_self) h
                      · rw [List.length_cons, ih fun h3 => h (List.mem_cons_of_mem _ h3), List.length_cons]
                exact (il hk2).symm
            refine ⟨k, S, n, ek, ok6.keep _ _ upd_same, Nat.lt_of_le_of_lt (show n + 1 ≤ 1000 by omega) (by decide), wipeE ρ6 vs, R6, _, _, acc ++ [k], g2.trans gg.unguard, rP, sa', cnt, by rw [cnt]; omega, (ok6.reguard rP).wipe (σ' := σ) hv w4'.symm, q2⟩
          · rw [if_neg hacc] at q2
            exact q2.elim
        | non => exact q2.elim
        | bl b => exact q2.elim
        | str b => exact q2.elim
        | lst b => exact q2.elim
        | tup b => exact q2.elim
        | ols b => exact q2.elim
        | ins a b c => exact q2.elim
        | scr b => exact q2.elim
        | dct a b c => exact q2.elim
        | odc a b c => exact q2.elim
        | oin a b c => exact q2.elim
  · rw [List.drop_eq_nil_of_le (by omega), scGo] at q2
    refine .inl ⟨no (by omega), ⟨P, S, n, rfl, ok2.keep _ _ upd_same, by omega, fun ns p asc mem len hp => ?_⟩⟩
    have en : ns = sortU acc := up_ext asc sortU_asc fun z => by rw [mem, sa, sortU_mem]
    subst en
    exact q2 (.ref p) R2 _ (g1.trans g2) ((ok2.letgo h0).list hp (Reps.ints (sortU acc))) ok2.len.symm
/-! a set of a list -/
def sortI (ns : List Int) : M D := if ns.length < 1000 then mP (.ols ((sortU ns).map D.int)) else fun _ => .st
def lstD : D → Option (List D)
  | .lst ds => some ds
  | _ => none
def mSortS (f : M D) : M D := mB f fun d => mB (mO ((lstD d).bind fun ds => ds.mapM asI)) sortI
theorem sim_sortS {te : TE} {f : M D} (hf : SimF K ct ms vp W te f) : SimE K ct ms vp W (tCB (rSortedSetW w) (tCons (tCB (rSetOfI K w) (tCons te tNil)) tNil)) (mSortS f) := fun H0 ρ σ R H ok Q q => by
  refine hf H0 ρ σ R H ok _ (Po.mono (Po.bind q) fun d ρ1 q v R1 H1 g1 ok1 r1 => ?_)
  obtain ⟨ns, e, q2⟩ := Po.opt (Po.bind q)
  obtain ⟨ds, e1, e2⟩ := Option.bind_eq_some_iff.mp e
  have ed : d = .lst ds := by
    cases d <;> simp only [lstD] at e1 <;> cases e1
    rfl
  subst ed
  obtain ⟨a, us, rfl, ha, t⟩ := r1.lst_inv
  have en := ints_of e2
  subst en
  have eu := t.ints_inv
  subst eu
  unfold sortI at q2
  by_cases hl : ns.length < 1000
  · rw [if_pos hl] at q2
    refine ⟨a, ns, rfl, sql0 (ok1.same _ _ ha), by omega, fun p c hp hc => ?_⟩
    have ex := Ext.heap (o := SetO w p (fun j => decide (j ∈ ns)) c) ok1.same hp
    have ok2 := ok1.ext ex
    refine ⟨p, _, c, rfl, upd_same, by omega, fun ms p2 asc mem len hp2 => ?_⟩
    have em : ms = sortU ns := up_ext asc sortU_asc fun z => by rw [mem, decide_eq_true_iff, sortU_mem]
    subst em
    exact q2 (.ref p2) R1 _ g1 (ok2.list hp2 (Reps.ints (sortU ns))) ok2.len.symm
  · rw [if_neg hl] at q2
    exact q2.elim
/-! the ascending list of a list of ints -/
def ascI (ns : List Int) : List Int := ns.mergeSort fun a b => decide (a ≤ b)
theorem ascI_perm (ns : List Int) : (ascI ns).Perm ns := List.mergeSort_perm _ _
theorem ascI_asc (ns : List Int) : (ascI ns).Pairwise (· ≤ ·) := by
  have := List.pairwise_mergeSort (le := fun (a b : Int) => decide (a ≤ b)) (fun a b c h1 h2 => by simp at *; omega) (fun a b => by simp; omega) ns
  exact this.imp fun h => by simpa using h
theorem ascI_only {ns ms : List Int} (p : ms.Perm ns) (h : ms.Pairwise (· ≤ ·)) : ms = ascI ns :=
  List.Perm.eq_of_pairwise (le := (· ≤ ·)) (fun a b _ _ h1 h2 => by omega) h (ascI_asc ns) (p.trans (ascI_perm ns).symm)
def oAsc : List D → Option (List D)
  | [.lst ds] => (ds.mapM asI).map fun ns => (ascI ns).map D.int
  | _ => none
theorem so_asc {b : CTB} : CbL K b (rSortedI K) oAsc := fun R H vs ds s r Q q => by
  match ds, q, r with
  | [.lst es], q, r =>
    obtain ⟨v, rfl, r1⟩ := one r
    obtain ⟨a, us, rfl, h, t⟩ := r1.lst_inv
    simp only [oAsc] at q
    cases e : es.mapM asI with
    | none => rw [e] at q; exact q.elim
    | some ns =>
      rw [e] at q
      have e2 := ints_of e
      subst e2
      have eu := t.ints_inv
      subst eu
      refine ⟨a, ns, rfl, .inl (.inl (s _ _ h)), fun ms p hp hs hn => ?_⟩
      have em := ascI_only hp hs
      subst em
      exact q p _ hn (.ints (ascI ns))
/-! a star among the items -/
def mStar (f : M D) (g : M (List D)) : M (List D) := mB f fun d => mB (mO (seqD d)) fun xs => mB g fun ys => mP (xs ++ ys)
theorem sim_star {te : TE} {t : TA} {f : M D} {g : M (List D)} (hf : SimF K ct ms vp W te f) (hg : SimA K ct ms vp W t g) : SimA K ct ms vp W (StX.tStar K te t) (mStar f g) := fun H0 ρ σ R H ok Q q =>
  hf H0 ρ σ R H ok _ (Po.mono (Po.bind q) fun d ρ1 q v R1 H1 g1 ok1 r1 => by
    obtain ⟨xs, e, q2⟩ := Po.opt (Po.bind q)
    obtain ⟨a, vs, rfl, hx, rx⟩ := seqD_some e r1
    refine ⟨a, vs, rfl, (hx.imp (SqL.mono ok1.same) (SqT.mono ok1.same)).symm, ?_⟩
    exact hg H0 ρ1 σ R1 H1 ok1 _ (Po.gr g1 (Po.bind q2) fun ys ρ2 q3 ws R2 H2 g2 ok2 r2 => q3 (vs ++ ws) R2 H2 (g1.trans g2) ok2 ((rx.mono g2.1).app r2)))
@[simp] theorem a_mStar {ρ : Env} {f : M D} {g : M (List D)} : mStar f g ρ = bK (f ρ) fun d => mB (mO (seqD d)) fun xs => mB g fun ys => mP (xs ++ ys) := a_mB
theorem pa_starA {X : Cx} {K0 : PySem.W.Frag} {e : Expr} {es : List Expr} {te : TE} {t : TA} {p : Pos} (hK : X.K = K0) (he : PE X e te) (hr : PA X es t) (hs : starEach (.Starred e p :: es) X.env = (true, eval e X.env) :: starEach es X.env := by rfl) : PA X (.Starred e p :: es) (StX.tStar K0 te t) := by
  subst hK
  exact StX.pa_star he hr hs
/-! try with several clauses -/
def pickH : List (Nat × (Nat → Option Bool) × (Nat → Option D → Stm)) → Nat → Option D → Stm
  | [], c, x, ρ1 => .ex c x ρ1
  | (i, fits, h) :: hs, c, x, ρ1 => match fits c with
    | some true => if i < ρ1.length then offO i (h c x (ρ1.set i none)) else .st
    | some false => pickH hs c x ρ1
    | none => .st
def mTryN (body : Stm) (hs : List (Nat × (Nat → Option Bool) × (Nat → Option D → Stm))) : Stm := fun ρ => match body ρ with
  | .ex c x ρ1 => pickH hs c x ρ1
  | .nx ρ1 => .nx ρ1 | .rt d ρ1 => .rt d ρ1 | .bk ρ1 => .bk ρ1 | .ct ρ1 => .ct ρ1 | .st => .st
inductive TryOk (K : PySem.W.Frag) (ct : CT) (ms : List Nat) (vp : Nat → V) (W : WX) : List Clause → List (Nat × (Nat → Option Bool) × (Nat → Option D → Stm)) → Prop where
  | nil : TryOk K ct ms vp W [] []
  | cons {cl : Value} {i : Nat} {ts : Addr → Value → Option Addr → TS} {fits : Nat → Option Bool} {h : Nat → Option D → Stm} {qs : List Clause} {hs : List (Nat × (Nat → Option Bool) × (Nat → Option D → Stm))} (hi : i ∉ ms)
      (hf : ∀ c r, fits c = some r → PySem.W.exmOne K (.ref (ct.b.err c)) cl = some r)
      (hh : ∀ a od c x, fits c = some true → SimS K (ct.with K c x od) (i :: ms) (pinX vp i a) W (ts a (.ref (ct.b.err c)) od) (h c x)) (r : TryOk K ct ms vp W qs hs) : TryOk K ct ms vp W (⟨cl, i, ts⟩ :: qs) ((i, fits, h) :: hs)
theorem sim_tryN {tb : WX → TS} {body : Stm} {qs : List Clause} {hs : List (Nat × (Nat → Option Bool) × (Nat → Option D → Stm))} (hT : TryOk K ct ms vp W qs hs) (hb : ∀ W', SimS K ct ms vp W' (tb W') body) :
    SimS K ct ms vp W (fun D σ H => tb (wNamed K W D qs) D σ H) (mTryN body hs) := fun H0 ρ σ R H ok D' q => by
  refine hb _ H0 ρ σ R H ok D' ?_
  unfold mTryN at q
  cases e : body ρ with
  | nx ρ1 => rw [e] at q; exact q
  | rt d ρ1 => rw [e] at q; exact q
  | bk ρ1 => rw [e] at q; exact q
  | ct ρ1 => rw [e] at q; exact q
  | st => rw [e] at q; exact q
  | ex c x ρ1 =>
    rw [e] at q
    dsimp only at q
    intro od σ1 R1 H1 g1 ok1 xo
    clear e hb
    induction hT with
    | nil => exact q od σ1 R1 H1 g1 ok1 xo
    | @cons cl i ts fits h qs hs hi hf hh r0 ih =>
      have back : ∀ {c x od ρ3 a} {σ3 : L2.St} {R3 H3 : Hp}, Ok K (ct.with K c x od) H0 (i :: ms) (pinX vp i a) ρ3 σ3 R3 H3 → Ok K ct H0 ms vp ρ3 σ3 R3 H3 := fun {c x od ρ3 a σ3 R3 H3} o => by
        have := o.sel (ms' := ms) (vp' := vp) (ρ' := ρ3) (σ' := σ3) id o.len (fun j hj => by
          have p := o.pins j (List.mem_cons_of_mem _ hj)
          unfold pinX at p
          rw [if_neg (fun z => hi (by rw [← z]; exact hj))] at p
          exact p) (fun k d h => ⟨h, rfl⟩) fun k k' _ _ e => e
        exact this.cast rfl o.inv.1
      rw [pickH] at q
      cases ef : fits c with
      | none => rw [ef] at q; exact q.elim
      | some r =>
        rw [ef] at q
        try dsimp only at q
        refine ⟨r, hf c r ef, fun er a ha => ?_, fun er => ?_⟩
        · subst er
          by_cases hlt : i < ρ1.length
          · have ok2 : Ok K (ct.with K c x od) H0 (i :: ms) (pinX vp i a) (ρ1.set i none) (σ1.set i (some (.ref a))) R1 H1 := by
              have o := ((ok1.unset hi (some (.ref a))).cast (ct' := ct.with K c x od) rfl ⟨ok1.inv, xo⟩)
              refine o.sel id o.len (fun j hj => ?_) (fun k d h => ⟨h, rfl⟩) fun k k' _ _ e => e
              unfold pinX
              by_cases ej : j = i
              · rw [if_pos ej, ej, List.getElem?_set_self (by rw [ok1.len]; exact hlt)]
              · rw [if_neg ej]
                refine o.pins j ?_
                cases hj with
                | head => exact absurd rfl ej
                | tail _ hj => exact hj
            refine hh a od c x ef H0 _ _ R1 H1 ok2 _ ?_
            have q2 := PoS.gr g1 q
            rw [if_pos hlt] at q2
            cases e2 : h c x (ρ1.set i none) with
            | nx ρ3 => rw [e2] at q2; exact fun σ3 R3 H3 g3 ok3 => q2 _ R3 H3 g3 ((back ok3).unset hi none)
            | bk ρ3 => rw [e2] at q2; exact fun σ3 R3 H3 g3 ok3 => q2 _ R3 H3 g3 ((back ok3).unset hi none)
            | ct ρ3 => rw [e2] at q2; exact fun σ3 R3 H3 g3 ok3 => q2 _ R3 H3 g3 ((back ok3).unset hi none)
            | rt d ρ3 =>
              rw [e2] at q2
              intro v σ3 R3 H3 g3 ok3 l
              refine q2 v σ3 R3 H3 g3 ?_ l
              have l3 : ρ3.length = σ3.length := l
              have := ok3.sel (ms' := ms) (vp' := vp) (ρ' := ρ3 ++ [some d]) (σ' := σ3 ++ [some v]) id ok3.len (fun j hj => by
                have p := ok3.pins j (List.mem_cons_of_mem _ hj)
                unfold pinX at p
                rw [if_neg (fun z => hi (by rw [← z]; exact hj))] at p
                exact p) (fun k d h => ⟨h, rfl⟩) fun k k' _ _ e => e
              exact this.cast rfl ok3.inv.1
            | ex c' x' ρ3 => rw [e2] at q2; exact fun od' σ3 R3 H3 g3 ok3 xo' => q2 od' σ3 R3 H3 g3 (back ok3) xo'
            | st => rw [e2] at q2; exact q2
          · rw [if_neg hlt] at q; exact q.elim
        · subst er
          exact ih q
section
variable {ρ : Env}
def hK : Option (List Int × Env) → Res D
  | some (acc, ρ) => .ok (.ols ((sortU acc).map D.int)) ρ
  | none => .st
@[simp] theorem hK_some {acc : List Int} : hK (some (acc, ρ)) = .ok (.ols ((sortU acc).map D.int)) ρ := (rfl)
@[simp] theorem a_mSortC {it : M (List D)} {tg : D → Env → Option Env} {test : M Bool} {elt : M D} {vs : List Nat} : mSortC it tg test elt vs ρ = bK (it ρ) fun ds ρ => hK (scGo (lcStep tg test elt vs) vs ds [] (wipeE ρ vs)) := by
  rw [mSortC, a_mB]
  congr 1
@[simp] theorem a_mSortS {f : M D} : mSortS f ρ = bK (f ρ) fun d => mB (mO ((lstD d).bind fun ds => ds.mapM asI)) sortI := a_mB
@[simp] theorem a_sortI {ns : List Int} : sortI ns ρ = if ns.length < 1000 then .ok (.ols ((sortU ns).map D.int)) ρ else .st := by
  unfold sortI
  split <;> rfl
@[simp] theorem oAsc_lst {ds : List D} : oAsc [.lst ds] = (ds.mapM asI).map fun ns => (ascI ns).map D.int := (rfl)
@[simp] theorem lstD_lst {ds : List D} : lstD (.lst ds) = some ds := (rfl)
end
end
end Y

namespace Y
open PySem PySem.Spec PyProof.Rows L2
section
variable {K : PySem.W.Frag} {ct : CT} {ms : List Nat} {W : WX} {H0 R R' H H' : Hp} {vp : Nat → V} {ρ : Env} {σ : L2.St}
/-! `in` where the right side is a list in a slot -/
def inF (neg : Bool) (x : D) (ds : List D) : Option D := if (flD x && ds.all flD) = true then some (.bl (if neg = true then !inD x ds else inD x ds)) else none
def mInV (neg : Bool) (f : M D) (i : Nat) : M D := mB f fun x => mB (mGet fun ρ => sqOf ρ[i]?) fun ds => mO (inF neg x ds)
theorem flD_isO {d : D} (h : flD d = true) : d.isO = false := by cases d <;> first | rfl | cases h
theorem sim_inV {neg : Bool} {i : Nat} {ta : TE} {f : M D} (hf : SimF K ct ms vp W ta f) : SimF K ct ms vp W (tOp (rIn K neg) ta (tVar i)) (mInV neg f i) := fun H0 ρ σ R H ok Q q =>
  hf H0 ρ σ R H ok _ (Po.mono (Po.bind q) fun d ρ1 q w R1 H1 g1 ok1 r1 => by
    obtain ⟨ds, e, q⟩ := Po.get (Po.bind q)
    obtain ⟨a, vs, x, y, l, rd⟩ := ok1.sq e
    obtain ⟨d3, e4, q⟩ := Po.opt q
    unfold inF at e4
    split at e4
    · rename_i hc
      cases e4
      obtain ⟨f1, f2⟩ := Bool.and_eq_true_iff.mp hc
      have rs : Reps K ct.b R1 vs ds := ⟨l, fun k v d p q => rd k v d p q (flD_isO (List.all_eq_true.mp f2 d (List.mem_of_getElem? q)))⟩
      obtain ⟨h1, h2⟩ := inD_V r1 f1 rs f2
      refine ⟨.ref a, x, a, vs, rfl, y, flD_V r1 f1, h1, ?_⟩
      refine q _ R1 H1 g1 ok1 ?_
      rw [h2]
      cases neg <;> exact .bl _
    · cases e4)
@[simp] theorem a_mInV {neg : Bool} {i : Nat} {f : M D} : mInV neg f i ρ = bK (f ρ) fun x => mB (mGet fun ρ => sqOf ρ[i]?) fun ds => mO (inF neg x ds) := a_mB
end
@[simp] theorem inF_of {neg : Bool} {x : D} {ds : List D} : inF neg x ds = if (flD x && ds.all flD) = true then some (.bl (if neg = true then !inD x ds else inD x ds)) else none := (rfl)
end Y

namespace Y
open PySem PySem.Spec PyProof.Rows L2
section
variable {K : PySem.W.Frag} {ct : CT} {ms : List Nat} {W : WX} {H0 R R' H H' : Hp} {vp : Nat → V} {ρ : Env} {σ : L2.St}
/-! ### what is new and one's own comes at the end -/
theorem Ok.add (ok : Ok K ct H0 ms vp ρ σ R H) (ex : Ext R H R' H') {v : V} {d : D} {G : Addr → Prop} (o : Own K ct.b R' H' G v d) (fr : ∀ b, G b → H b = none ∧ R' b = none ∧ H' b ≠ none) :
    Ok K ct H0 ms vp (ρ ++ [some d]) (σ ++ [some v]) R' H' := by
  have ok2 := ok.ext ex
  have h0 : ∀ b, G b → H0 b = none := fun b g => ok.keep.free (fr b g).1
  obtain ⟨_, _, _, _, _, F, f1, f2, f3⟩ := ok
  obtain ⟨s, k, iv, l, pi, _⟩ := ok2
  have nF : ∀ i b, F i b → ¬ G b := fun i b x y => (f3 i b x).2.1 (fr b y).1
  refine ⟨s, k, iv, by simp [l], fun i hi => ?_, fun i b => (i < ρ.length ∧ F i b) ∨ (i = ρ.length ∧ G b), fun i e h => ?_, fun i j b ne x y => ?_, fun i b h => ?_⟩
  · have q := pi i hi
    rw [List.getElem?_append_left (List.getElem?_eq_some_iff.mp q).1]
    exact q
  · by_cases z : i < ρ.length
    · rw [List.getElem?_append_left z] at h
      obtain ⟨u, a, w⟩ := f1 i e h
      refine ⟨u, by rw [List.getElem?_append_left (by rw [l]; exact z)]; exact a, ?_⟩
      exact ((w.monoR ex.r).monoH fun c o g q => ex.h c o q).monoF fun c g => .inl ⟨z, g⟩
    · have z2 : i = ρ.length := by
        have := (List.getElem?_eq_some_iff.mp h).1
        simp at this
        omega
      subst z2
      cases (show d = e by simpa using h)
      exact ⟨v, by rw [← l]; simp, o.monoF fun c g => .inr ⟨rfl, g⟩⟩
  · rcases x with x | x <;> rcases y with y | y
    · exact f2 i j b ne x.2 y.2
    · exact nF i b x.2 y.2
    · exact nF j b y.2 x.2
    · exact ne (x.1.trans y.1.symm)
  · rcases h with h | h
    · obtain ⟨a, b', c⟩ := f3 i b h.2
      refine ⟨?_, fun z => b' (ex.h.free z), c⟩
      cases q : R' b with
      | none => rfl
      | some o =>
        rcases ex.n b (by rw [q]; exact Option.some_ne_none o) with z | z
        · exact absurd a z
        · exact absurd z b'
    · exact ⟨(fr b h.2).2.1, (fr b h.2).2.2, h0 b h.2⟩
/-! ### a dict of one's own in a slot -/
def odcOf : Option (Option D) → Option (List D × List D)
  | some (some (.odc 0 ks ds)) => some (ks, ds)
  | _ => none
theorem odcOf_some {x : Option (Option D)} {ks ds : List D} (h : odcOf x = some (ks, ds)) : x = some (some (.odc 0 ks ds)) := by
  unfold odcOf at h
  split at h <;> cases h
  rfl
def keyD : D → Option (List Bool)
  | .tup ds => ds.mapM asB
  | _ => none
theorem keyD_some {R : Hp} {v : V} {d : D} {k : List Bool} (h : keyD d = some k) (r : Rep K ct.b R v d) : ∃ b, v = .ref b ∧ d = .tup (k.map D.bl) ∧ SqT K R b (k.map V.bl) := by
  cases d <;> simp only [keyD] at h <;> try (cases h; done)
  rename_i ds
  have e : ∀ {ds : List D} {k : List Bool}, ds.mapM asB = some k → ds = k.map D.bl := by
    intro ds
    induction ds with
    | nil => intro k h; cases h; rfl
    | cons d ds ih =>
      intro k h
      rw [List.mapM_cons] at h
      obtain ⟨b, h1, h2⟩ := Option.bind_eq_some_iff.mp h
      obtain ⟨bs, h3, h4⟩ := Option.bind_eq_some_iff.mp h2
      cases h4
      rw [asB_some h1, ih h3]
      rfl
  have e1 := e h
  subst e1
  obtain ⟨a, vs, rfl, q, t⟩ := r.tup_inv
  refine ⟨a, rfl, rfl, ?_⟩
  have ev : ∀ {k : List Bool} {vs : List V}, Reps K ct.b R vs (k.map D.bl) → vs = k.map V.bl := by
    intro k
    induction k with
    | nil => intro vs t; exact t.nil_inv
    | cons b k ih =>
      intro vs t
      obtain ⟨v, ws, rfl, r1, r2⟩ := Reps.cons_inv t
      rw [r1.bl_inv, ih r2]
      rfl
  rw [← ev t]
  exact q
/-- the keys, told from data -/
def hasD (k : List Bool) (ks : List D) : Bool := ks.any fun d => keyD d == some k
theorem keyD_key (k : List Bool) : keyD (.tup (k.map D.bl)) = some k := by
  show (k.map D.bl).mapM asB = some k
  induction k with
  | nil => rfl
  | cons b k ih =>
    rw [List.map_cons, List.mapM_cons, ih]
    rfl
theorem hasD_B {es : List EntB} {k : List Bool} : hasD k (es.map fun e => D.tup (e.1.map D.bl)) = hasB es k := by
  unfold hasD hasB
  induction es with
  | nil => simp
  | cons e es ih =>
    rw [List.map_cons, List.any_cons, ih, keyD_key]
    by_cases q : e.1 = k
    · simp [q]
    · have q2 : ¬ k = e.1 := fun z => q z.symm
      have q3 : (e.1 == k) = false := beq_eq_false_iff_ne.mpr q
      simp [q2, q3]
theorem Ok.dict (ok : Ok K ct H0 ms vp ρ σ R H) {i : Nat} {ks ds : List D} (h : ρ[i]? = some (some (.odc 0 ks ds))) :
    ∃ a es, σ[i]? = some (some (.ref a)) ∧ H a = some (DicB a es) ∧ (ks = es.map fun e => D.tup (e.1.map D.bl)) ∧ KeysB K R es ∧ Reps K ct.b R (es.map (·.2.2)) ds ∧
      ∀ (k : List Bool) (b : Addr) (v : V) (d : D), SqT K R b (k.map V.bl) → Rep K ct.b R v d → Ok K ct H0 ms vp (ρ.set i (some (.odc 0 (ks ++ [.tup (k.map D.bl)]) (ds ++ [d])))) σ R (upd H a (DicB a (es ++ [(k, b, v)]))) := by
  obtain ⟨s, kp, iv, l, p, F, f1, f2, f3⟩ := ok
  obtain ⟨v, hv, w⟩ := f1 i _ h
  cases w with
  | fz w => cases w
  | @odc _ a es _ _ ha hF hk kb r =>
    refine ⟨a, es, hv, ha, hk, kb, r, fun k b u d hb ru => ?_⟩
    obtain ⟨ra, _, h0a⟩ := f3 i a hF
    refine ⟨fun b o q => ?_, fun b o q => ?_, iv, by simpa using l, p, F, fun j d' q => ?_, f2, fun j b q => ?_⟩
    · rw [upd_ne (ne_of_none q ra)]; exact s b o q
    · rw [upd_ne (ne_of_none q h0a)]; exact kp b o q
    · by_cases z : j = i
      · subst z
        have hj : j < ρ.length := (List.getElem?_eq_some_iff.mp h).1
        rw [List.getElem?_set_self hj] at q
        cases q
        refine ⟨.ref a, hv, .odc upd_same hF (by rw [hk]; simp) (fun e he => ?_) ?_⟩
        · rcases List.mem_append.mp he with he | he
          · exact kb e he
          · rw [List.mem_singleton] at he
            subst he
            exact hb
        · rw [List.map_append]
          exact r.snoc ru
      · rw [List.getElem?_set_ne (Ne.symm z)] at q
        obtain ⟨u, x, y⟩ := f1 j d' q
        refine ⟨u, x, y.monoH fun b o g q' => ?_⟩
        rw [upd_ne fun e => f2 j i b z g (by rw [e]; exact hF)]
        exact q'
    · obtain ⟨x, y, z⟩ := f3 j b q
      refine ⟨x, ?_, z⟩
      by_cases e : b = a
      · rw [e, upd_same]; exact Option.some_ne_none _
      · rw [upd_ne e]; exact y
def mNewD : M D := mP (.odc 0 [] [])
theorem sim_newD : SimE K ct ms vp W tDNewB mNewD := fun H0 ρ σ R H ok Q q p hp => by
  have ex := Ext.heap (o := DicB p []) ok.same hp
  exact q (.ref p) R _ (Gr.refl _ _) (ok.add ex (G := fun b => b = p) (.odc upd_same rfl rfl (fun e he => nomatch he) .nil) fun b hb => by
    rw [hb]
    exact ⟨hp, ok.same.free hp, by rw [upd_same]; exact Option.some_ne_none _⟩) ok.len.symm
def mInD (neg : Bool) (f : M D) (i : Nat) : M D := mB f fun x => mB (mGet fun ρ => odcOf ρ[i]?) fun z => mB (mO (keyD x)) fun k => mP (.bl (if neg = true then !hasD k z.1 else hasD k z.1))
theorem sim_inD {neg : Bool} {i : Nat} {ta : TE} {f : M D} (hf : SimF K ct ms vp W ta f) : SimF K ct ms vp W (tOp (rInB K neg) ta (tVar i)) (mInD neg f i) := fun H0 ρ σ R H ok Q q =>
  hf H0 ρ σ R H ok _ (Po.mono (Po.bind q) fun d ρ1 q w R1 H1 g1 ok1 r1 => by
    obtain ⟨⟨ks, ds⟩, e, q⟩ := Po.get (Po.bind q)
    obtain ⟨a, es, x, y, hk, kb, _⟩ := ok1.dict (odcOf_some e)
    obtain ⟨k, e4, q⟩ := Po.opt (Po.bind q)
    obtain ⟨b, rfl, _, hb⟩ := keyD_some e4 r1
    refine ⟨.ref a, x, b, k, a, es, rfl, SqT.mono ok1.same hb, rfl, y, fun e he => SqT.mono ok1.same (kb e he), ?_⟩
    refine q _ R1 H1 g1 ok1 ?_
    rw [hk, hasD_B]
    exact .bl _)
/-- d[k] = v, k not there -/
def mSetD (i : Nat) (f g : M D) : Stm := mThen f fun x => mThen (mGet fun ρ => odcOf ρ[i]?) fun _ => mThen g fun y => mThen (mGet fun ρ => odcOf ρ[i]?) fun z => mThen (mO (keyD y)) fun k => mThen (mO (if hasD k z.1 = true then none else szok z.1.length)) fun _ ρ => .nx (ρ.set i (some (.odc 0 (z.1 ++ [.tup (k.map D.bl)]) (z.2 ++ [x]))))
theorem sim_setD {i : Nat} {te ti : TE} {f g : M D} (hf : SimF K ct ms vp W te f) (hg : SimF K ct ms vp W ti g) : SimS K ct ms vp W (tAsg te (gSub (tVar i) ti (rSetB K))) (mSetD i f g) := fun H0 ρ σ R H ok D' q =>
  hf H0 ρ σ R H ok _ (Po.mono (PoS.bind q) fun x ρ1 q v R1 H1 g1 ok1 r1 => by
    obtain ⟨⟨ks0, ds0⟩, e0, q⟩ := PoS.get q
    obtain ⟨a, es, x0, y, _⟩ := ok1.dict (odcOf_some e0)
    refine ⟨.ref a, x0, hg H0 ρ1 σ R1 H1 ok1 _ (Po.gr g1 (PoS.bind q) fun j ρ2 q w R2 H2 g2 ok2 r2 => ?_)⟩
    obtain ⟨⟨ks, ds⟩, e1, q⟩ := PoS.get q
    obtain ⟨k, e2, q⟩ := PoS.opt q
    obtain ⟨u, e3, q⟩ := PoS.opt q
    obtain ⟨a1, es1, x1, y1, hk, kb, rr, put⟩ := ok2.dict (odcOf_some e1)
    cases x0.symm.trans x1
    obtain ⟨b, rfl, _, hb⟩ := keyD_some e2 r2
    dsimp only at e3 hk q
    have no : hasD k ks = false := by
      cases z : hasD k ks with
      | false => rfl
      | true => rw [z, if_pos rfl] at e3; cases e3
    rw [no, if_neg Bool.false_ne_true] at e3
    have len : ks.length = es1.length := by rw [hk, List.length_map]
    have no2 : k ∉ es1.map (·.1) := by
      rw [hk, hasD_B] at no
      exact of_decide_eq_false no
    exact ⟨a, b, k, es1, rfl, rfl, SqT.mono ok2.same hb, y1, fun e he => SqT.mono ok2.same (kb e he), no2, by rw [← len]; exact szok_lt e3, q σ R2 _ (g1.trans g2) (put k b v x hb (r1.mono g2.1))⟩)
/-- list(d.items()) -/
def pairD (ks ds : List D) : List D := List.zipWith (fun k d => D.tup [k, d]) ks ds
def mItems (i : Nat) : M D := mB (mGet fun ρ => odcOf ρ[i]?) fun z => mP (.ols (pairD z.1 z.2))
theorem sim_items {i : Nat} : SimE K ct ms vp W (tItemsB (tVar i)) (mItems i) := fun H0 ρ σ R H ok Q q => by
  obtain ⟨⟨ks, ds⟩, e, q⟩ := Po.get (Po.bind q)
  obtain ⟨a, es, x, y, hk, kb, rr, _⟩ := ok.dict (odcOf_some e)
  refine ⟨.ref a, x, a, es, rfl, y, fun H' p ts kp hp hts pn hl len at_ => ?_⟩
  dsimp only at hk q
  classical
  have memE : ∀ t ∈ ts, ∃ (j : Nat) (e : EntB), ts[j]? = some t ∧ es[j]? = some e ∧ H' t = some (.tup [.ref e.2.1, e.2.2]) := fun t ht => by
    obtain ⟨j, hj⟩ := List.getElem?_of_mem ht
    have hjl : j < es.length := by rw [← len]; exact (List.getElem?_eq_some_iff.mp hj).1
    exact ⟨j, es[j], hj, List.getElem?_eq_getElem hjl, at_ j t _ hj (List.getElem?_eq_getElem hjl)⟩
  let R1 : Hp := fun b => if b ∈ ts then H' b else R b
  have r1 : ∀ {b}, b ∉ ts → R1 b = R b := fun h => if_neg h
  have r2 : ∀ {b}, b ∈ ts → R1 b = H' b := fun h => if_pos h
  have sR : Same R R1 := fun b o h => by
    rw [r1 fun z => by rw [ok.same.free (hts b z)] at h; cases h]
    exact h
  have ex : Ext R H R1 H' := by
    refine ⟨sR, fun b o h => ?_, kp, fun b h => ?_⟩
    · by_cases z : b ∈ ts
      · rw [r2 z] at h; exact h
      · rw [r1 z] at h; exact kp _ _ (ok.same _ _ h)
    · by_cases z : b ∈ ts
      · exact .inr (hts b z)
      · rw [r1 z] at h; exact .inl h
  have reps : Reps K ct.b R1 (ts.map V.ref) (pairD ks ds) := by
    have ld : ds.length = es.length := by rw [← rr.1, List.length_map]
    refine ⟨by rw [List.length_map, len, pairD, List.length_zipWith, hk, List.length_map, ld, Nat.min_self], fun j v d h1 h2 => ?_⟩
    rw [List.getElem?_map] at h1
    obtain ⟨t, h3, rfl⟩ := Option.map_eq_some_iff.mp h1
    have ht : t ∈ ts := List.mem_of_getElem? h3
    have hjl : j < es.length := by rw [← len]; exact (List.getElem?_eq_some_iff.mp h3).1
    have he : es[j]? = some es[j] := List.getElem?_eq_getElem hjl
    have hm : es[j] ∈ es := List.getElem_mem hjl
    have at' := at_ j t _ h3 he
    generalize es[j] = en at he hm at'
    have hd : ds[j]? = some ds[j] := List.getElem?_eq_getElem (by omega)
    generalize ds[j]'_ = dv at hd
    have e2 : d = .tup [.tup (en.1.map D.bl), dv] := by
      rw [pairD, List.getElem?_zipWith, hk, List.getElem?_map, he, hd] at h2
      exact (Option.some.inj h2).symm
    subst e2
    have hv : (es.map (·.2.2))[j]? = some en.2.2 := by rw [List.getElem?_map, he]; rfl
    have rk : Rep K ct.b R1 (.ref en.2.1) (.tup (en.1.map D.bl)) := by
      have : ∀ bs : List Bool, Reps K ct.b R1 (bs.map V.bl) (bs.map D.bl) := fun bs => by
        induction bs with
        | nil => exact .nil
        | cons b bs ih => exact ih.cons (.bl b)
      exact .tup (SqT.mono sR (kb en hm)) (this en.1).1 (this en.1).2
    have rv := (rr.2 j _ _ hv hd).mono sR
    have t2 : Reps K ct.b R1 [.ref en.2.1, en.2.2] [.tup (en.1.map D.bl), dv] := (Reps.nil.cons rv).cons rk
    exact .tup (.inl (.inl (by rw [r2 ht]; exact at'))) t2.1 t2.2
  have nR : R1 p = none := by rw [r1 pn]; exact ok.same.free hp
  refine q (.ref p) R1 H' (ok.gr ex) (ok.add ex (G := fun b => b = p) (.flat hl rfl reps) fun b hb => ?_) ok.len.symm
  rw [hb]
  exact ⟨hp, nR, by rw [hl]; exact Option.some_ne_none _⟩
/-! ### a deep look for an item -/
def inDeep (neg : Bool) (x : D) (ds : List D) : Option D := match toPy x, toPys ds with
  | some p, some ps => if (SeqAt.shaped p && SeqAt.shaped (.list ps)) = true then some (.bl (if neg = true then !ps.any fun z => PyData.eqv z p else ps.any fun z => PyData.eqv z p)) else none
  | _, _ => none
def rInDp (K : PySem.W.Frag) (neg : Bool) : R2 := fun x y H Q => ∃ d ds, Dp K H x d ∧ Dp K H y (.list ds) ∧ SeqAt.shaped d = true ∧ SeqAt.shaped (.list ds) = true ∧ Q (.bl (if neg = true then !ds.any fun z => PyData.eqv z d else ds.any fun z => PyData.eqv z d)) H
theorem op_inDp {X : Cx} {K : PySem.W.Frag} (hK : X.K = K) (hu : X.A.units + 65 < cLine) : OpR X (compareOp .In) (rInDp K false) := by
  subst hK
  exact op_inD hu
theorem op_notInDp {X : Cx} {K : PySem.W.Frag} (hK : X.K = K) (hu : X.A.units + 65 < cLine) : OpR X (compareOp .NotIn) (rInDp K true) := by
  subst hK
  exact op_notInD hu
theorem toPys_isO : ∀ {ds : List D} {ps : List PyData}, toPys ds = some ps → ∀ d ∈ ds, d.isO = false
  | [], _, _, d, h => nomatch h
  | e :: ds, _, h, d, hd => by
    rw [toPys] at h
    split at h
    · rename_i x xs h1 h2
      rcases List.mem_cons.mp hd with rfl | hd
      · cases d <;> first | rfl | (rw [toPy] at h1; cases h1)
      · exact toPys_isO h2 d hd
    · cases h
def mInP (neg : Bool) (f : M D) (i : Nat) : M D := mB f fun x => mB (mGet fun ρ => seqOf ρ[i]?) fun ds => mO (inDeep neg x ds)
theorem sim_inP {neg : Bool} {i : Nat} {ta : TE} {f : M D} (hf : SimF K ct ms vp W ta f) : SimF K ct ms vp W (tOp (rInDp K neg) ta (tVar i)) (mInP neg f i) := fun H0 ρ σ R H ok Q q =>
  hf H0 ρ σ R H ok _ (Po.mono (Po.bind q) fun d ρ1 q w R1 H1 g1 ok1 r1 => by
    obtain ⟨ds, e, q⟩ := Po.get (Po.bind q)
    obtain ⟨dd, e2, e3⟩ := seqOf_some e
    obtain ⟨a, vs, x, y, l, rd⟩ := ok1.seq e2 e3
    obtain ⟨d3, e4, q⟩ := Po.opt q
    unfold inDeep at e4
    split at e4
    · rename_i p ps h1 h2
      split at e4
      · rename_i hc
        cases e4
        obtain ⟨s1, s2⟩ := Bool.and_eq_true_iff.mp hc
        have rs : Reps K ct.b R1 vs ds := ⟨l, fun k v d p q => rd k v d p q (toPys_isO h2 d (List.mem_of_getElem? q))⟩
        exact ⟨.ref a, x, p, ps, dp_of _ _ _ h1 (r1.mono ok1.same), .lst (sql0 y) (dps_of _ _ _ h2 (rs.mono ok1.same)), s1, s2, q _ R1 H1 g1 ok1 (.bl _)⟩
      · cases e4
    · cases e4)
theorem units65 {k : Nat} {A : Around} (r : Room k A) : A.units + 65 < cLine := by have := r.un; omega
theorem units1 {k : Nat} {A : Around} (r : Room k A) : A.units + 1 < cLine := by have := r.un; omega
theorem op_inBA {X : Cx} {K : PySem.W.Frag} (hK : X.K = K) (hu : X.A.units + 1 < cLine) : OpR X (compareOp .In) (rInB K false) := by
  subst hK
  exact op_inB hu
theorem op_notInBA {X : Cx} {K : PySem.W.Frag} (hK : X.K = K) (hu : X.A.units + 1 < cLine) : OpR X (compareOp .NotIn) (rInB K true) := by
  subst hK
  exact op_notInB hu
theorem set_dicBA {X : Cx} {K : PySem.W.Frag} (hK : X.K = K) (hu : X.A.units + 1 < cLine) : PSet X (rSetB K) := by
  subst hK
  exact set_dicB hu
end
section
variable {ρ : Env}
@[simp] theorem odcOf_odc {ks ds : List D} : odcOf (some (some (.odc 0 ks ds))) = some (ks, ds) := (rfl)
@[simp] theorem a_mNewD : mNewD ρ = .ok (.odc 0 [] []) ρ := (rfl)
@[simp] theorem a_mInD {neg : Bool} {i : Nat} {f : M D} : mInD neg f i ρ = bK (f ρ) fun x => mB (mGet fun ρ => odcOf ρ[i]?) fun z => mB (mO (keyD x)) fun k => mP (.bl (if neg = true then !hasD k z.1 else hasD k z.1)) := a_mB
@[simp] theorem a_mSetD {i : Nat} {f g : M D} : mSetD i f g ρ = tK (f ρ) fun x => mThen (mGet fun ρ => odcOf ρ[i]?) fun _ => mThen g fun y => mThen (mGet fun ρ => odcOf ρ[i]?) fun z => mThen (mO (keyD y)) fun k => mThen (mO (if hasD k z.1 = true then none else szok z.1.length)) fun _ ρ => .nx (ρ.set i (some (.odc 0 (z.1 ++ [.tup (k.map D.bl)]) (z.2 ++ [x])))) := a_mThen
@[simp] theorem a_mItems {i : Nat} : mItems i ρ = bK (oK (odcOf ρ[i]?) ρ) fun z => mP (.ols (pairD z.1 z.2)) := by rw [mItems, a_mB, a_mGet]
@[simp] theorem a_mInP {neg : Bool} {i : Nat} {f : M D} : mInP neg f i ρ = bK (f ρ) fun x => mB (mGet fun ρ => seqOf ρ[i]?) fun ds => mO (inDeep neg x ds) := a_mB
@[simp] theorem isO_odc {k : Nat} {ks ds : List D} : D.isO (.odc k ks ds) = true := (rfl)
@[simp] theorem isO_dct {k : Nat} {ks ds : List D} : D.isO (.dct k ks ds) = false := (rfl)
@[simp] theorem fz_odc {k : Nat} {ks ds : List D} : D.fz (.odc k ks ds) = .dct k ks ds := by simp [D.fz]
@[simp] theorem keyD_bls {k : List Bool} : keyD (.tup (k.map D.bl)) = some k := keyD_key k
end
end Y

namespace Y
open PySem PySem.Spec PyProof.Rows L2
section
variable {K : PySem.W.Frag} {ct : CT} {ms : List Nat} {W : WX} {H0 R R' H H' : Hp} {vp : Nat → V} {ρ : Env} {σ : L2.St}
/-! ### zip -/
def isTp : D → Bool
  | .tup _ => true
  | _ => false
def zipD : List D → Option (List D)
  | [x, y] => match seqD x, seqD y with
    | some xs, some ys => if (isTp x || !isTp y) = true then some (List.zipWith (fun a b => D.tup [a, b]) xs ys) else none
    | _, _ => none
  | _ => none
theorem SqK.mono {k : Bool} {a : Addr} {xs : List V} (e : Same H H') (h : SqK K k H a xs) : SqK K k H' a xs := by
  cases k
  · exact SqL.mono e h
  · exact SqT.mono e h
theorem seqK_some {v : V} {d : D} {ds : List D} (h : seqD d = some ds) (r : Rep K ct.b R v d) : ∃ a vs, v = .ref a ∧ SqK K (isTp d) R a vs ∧ Reps K ct.b R vs ds := by
  cases d <;> simp only [seqD] at h <;> try (cases h; done)
  all_goals cases h
  · obtain ⟨a, vs, e, h, t⟩ := r.lst_inv
    exact ⟨a, vs, e, sql0 h, t⟩
  · obtain ⟨a, vs, e, h, t⟩ := r.tup_inv
    exact ⟨a, vs, e, h, t⟩
theorem itok_zip {k1 k2 : Bool} {a b : Addr} {xs ys : List V} {ds es : List D} (qa : SqK K k1 R a xs) (qb : SqK K k2 R b ys) (ra : Reps K ct.b R xs ds) (rb : Reps K ct.b R ys es) : ItOk K ct (ItZ K k1 k2 a b xs ys) R (List.zipWith (fun a b => D.tup [a, b]) ds es) := fun R1 H1 e1 e2 i => by
  have ha : SqK K k1 H1 a xs := SqK.mono e2 (SqK.mono e1 qa)
  have hb : SqK K k2 H1 b ys := SqK.mono e2 (SqK.mono e1 qb)
  refine ⟨fun d e => ?_, fun hl => ⟨ha, hb, ?_⟩⟩
  · rw [List.getElem?_zipWith] at e
    cases h1 : ds[i]? with
    | none => rw [h1] at e; cases e
    | some x =>
      cases h2 : es[i]? with
      | none => rw [h1, h2] at e; cases e
      | some y =>
        rw [h1, h2] at e
        cases e
        have l1 := (List.getElem?_eq_some_iff.mp h1).1
        have l2 := (List.getElem?_eq_some_iff.mp h2).1
        refine ⟨⟨ha, hb, by rw [ra.1]; exact l1, by rw [rb.1]; exact l2⟩, fun v H2 ⟨T, u, w, ev, hT, eH, hu, hw⟩ => ?_⟩
        subst ev eH
        have ex := Ext.new (o := .tup [u, w]) e2 hT
        have t : Reps K ct.b (upd R1 T (.tup [u, w])) [u, w] [x, y] := (Reps.nil.cons (((rb.2 i w y hw h2).mono e1).mono ex.r)).cons (((ra.2 i u x hu h1).mono e1).mono ex.r)
        exact ⟨_, ex, .tup (.inl (.inl upd_same)) t.1 t.2⟩
  · rw [List.length_zipWith] at hl
    rw [ra.1, rb.1]
    omega
def mZip (g : M (List D)) : M (List D) := mB g fun ds => mO (zipD ds)
theorem sim_zip {t : TA} {g : M (List D)} (hg : SimA K ct ms vp W t g) : SimI K ct ms vp W (iZm K t) (mZip g) := fun H0 ρ σ R H ok Rr q =>
  hg H0 ρ σ R H ok _ (Po.mono (Po.bind q) fun ds ρ1 q vs R1 H1 g1 ok1 r1 => by
    obtain ⟨zs, e, q⟩ := Po.opt q
    match ds, e, r1 with
    | [x, y], e, r1 =>
      obtain ⟨v, u, rfl, rx, ry⟩ := two r1
      unfold zipD at e
      dsimp only at e
      split at e
      · rename_i xs ys h1 h2
        split at e
        · rename_i hk
          cases e
          obtain ⟨a, us, rfl, qa, ra⟩ := seqK_some h1 rx
          obtain ⟨b, ws, rfl, qb, rb⟩ := seqK_some h2 ry
          refine ⟨isTp x, isTp y, a, b, us, ws, rfl, SqK.mono ok1.same qa, SqK.mono ok1.same qb, ?_, q _ R1 H1 g1 ok1 (itok_zip qa qb ra rb)⟩
          simpa using hk
        · cases e
      · cases e)
/-! ### instances with a dict -/
theorem Ok.inst (ok : Ok K ct H0 ms vp ρ σ R H) {i c : Nat} {ns : List Str} {ds : List D} (h : ρ[i]? = some (some (.oin c ns ds))) :
    ∃ a dx vs, σ[i]? = some (some (.ref a)) ∧ H a = some (.ins (ct.b.adr c) dx (ns.zip vs)) ∧ ns.length = vs.length ∧ Reps K ct.b R vs ds ∧ ct.b.slt c = false ∧
      ∀ (ns' : List Str) (vs' : List V) (ds' : List D), ns'.length = vs'.length → Reps K ct.b R vs' ds' → Ok K ct H0 ms vp (ρ.set i (some (.oin c ns' ds'))) σ R (upd H a (.ins (ct.b.adr c) dx (ns'.zip vs'))) := by
  obtain ⟨s, kp, iv, l, p, F, f1, f2, f3⟩ := ok
  obtain ⟨v, hv, w⟩ := f1 i _ h
  cases w with
  | fz w => cases w
  | @oin _ a dx _ _ vs _ hs ha hF hn r =>
    refine ⟨a, dx, vs, hv, ha, hn, r, hs, fun ns' vs' ds' hn' r' => ?_⟩
    obtain ⟨ra, _, h0a⟩ := f3 i a hF
    refine ⟨fun b o q => ?_, fun b o q => ?_, iv, by simpa using l, p, F, fun j d' q => ?_, f2, fun j b q => ?_⟩
    · rw [upd_ne (ne_of_none q ra)]; exact s b o q
    · rw [upd_ne (ne_of_none q h0a)]; exact kp b o q
    · by_cases z : j = i
      · subst z
        have hj : j < ρ.length := (List.getElem?_eq_some_iff.mp h).1
        rw [List.getElem?_set_self hj] at q
        cases q
        exact ⟨.ref a, hv, .oin hs upd_same hF hn' r'⟩
      · rw [List.getElem?_set_ne (Ne.symm z)] at q
        obtain ⟨u, x, y⟩ := f1 j d' q
        refine ⟨u, x, y.monoH fun b o g q' => ?_⟩
        rw [upd_ne fun e => f2 j i b z g (by rw [e]; exact hF)]
        exact q'
    · obtain ⟨x, y, z⟩ := f3 j b q
      refine ⟨x, ?_, z⟩
      by_cases e : b = a
      · rw [e, upd_same]; exact Option.some_ne_none _
      · rw [upd_ne e]; exact y
def oinOf (c : Nat) : Option (Option D) → Option (List Str × List D)
  | some (some (.oin k ns ds)) => if k = c then some (ns, ds) else none
  | _ => none
theorem oinOf_some {c : Nat} {x : Option (Option D)} {ns : List Str} {ds : List D} (h : oinOf c x = some (ns, ds)) : x = some (some (.oin c ns ds)) := by
  unfold oinOf at h
  split at h
  · split at h
    · rename_i hk
      cases h
      rw [hk]
    · cases h
  · cases h
theorem zip_put {f : Str} {y : V} : ∀ {ns : List Str} {vs : List V}, ns.length = vs.length → f ∉ ns → putF f y (ns.zip vs) = (ns ++ [f]).zip (vs ++ [y])
  | [], [], _, _ => rfl
  | n :: ns, v :: vs, hl, hf => by
    have h1 : ¬ n = f := fun e => hf (by rw [e]; exact List.mem_cons_self)
    have ih := zip_put (f := f) (y := y) (ns := ns) (vs := vs) (by simpa using hl) fun h => hf (List.mem_cons_of_mem _ h)
    show putF f y ((n, v) :: ns.zip vs) = (n, v) :: (ns ++ [f]).zip (vs ++ [y])
    rw [putF, if_neg h1, ih]
/-- self.f = e, f not there -/
def mSetFld (i c : Nat) (f : Str) (g : M D) : Stm := mThen g fun x => mThen (mGet fun ρ => oinOf c ρ[i]?) fun z => mThen (mO (if f ∈ z.1 ∨ 900 < z.1.length then none else some ())) fun _ ρ => .nx (ρ.set i (some (.oin c (z.1 ++ [f]) (z.2 ++ [x]))))
theorem sim_setFld {i c : Nat} {f : Str} {te : TE} {g : M D} (hg : SimF K ct ms vp W te g) (hc : Cls K (ct.b.adr c)) (hn : NoAttr K (ct.b.adr c) f) : SimS K ct ms vp W (sFld K (tVar i) te f) (mSetFld i c f g) := fun H0 ρ σ R H ok D' q =>
  hg H0 ρ σ R H ok _ (Po.mono (PoS.bind q) fun x ρ1 q v R1 H1 g1 ok1 r1 => by
    obtain ⟨⟨ns, ds⟩, e0, q⟩ := PoS.get q
    obtain ⟨u, e1, q⟩ := PoS.opt q
    obtain ⟨a, dx, vs, x0, y, hn', r, hs, put⟩ := ok1.inst (oinOf_some e0)
    dsimp only at e1 q
    split at e1
    · cases e1
    · rename_i hf
      refine ⟨.ref a, x0, a, _, dx, _, rfl, y, hc, hn, by rw [List.length_zip]; omega, ?_⟩
      have hf1 : f ∉ ns := fun h => hf (.inl h)
      rw [zip_put hn' hf1]
      exact q σ R1 _ g1 (put _ _ _ (by simp [hn']) (r.snoc r1)))
theorem zip_look {f : Str} {b : CTB} : ∀ {ns : List Str} {vs : List V} {ds : List D} {d : D}, Reps K b R vs ds → (ns.zip ds).lookup f = some d → ∃ v, (ns.zip vs).lookup f = some v ∧ Rep K b R v d
  | [], _, _, _, _, h => by simp at h
  | n :: ns, [], [], _, _, h => by simp at h
  | n :: ns, v :: vs, e :: ds, d, r, h => by
    rw [List.zip_cons_cons, List.lookup_cons] at h ⊢
    split at h
    · cases h
      exact ⟨v, rfl, r.head⟩
    · exact zip_look r.tail h
  | _ :: _, [], _ :: _, _, r, _ => by cases r.1
  | _ :: _, _ :: _, [], _, r, _ => by cases r.1
/-- a field of what stands in a slot -/
def insOf (c : Nat) : Option (Option D) → Option (List Str × List D)
  | some (some (.oin k ns ds)) => if k = c then some (ns, ds) else none
  | some (some (.ins k ns ds)) => if k = c then some (ns, ds) else none
  | _ => none
theorem Rep.ins_inv {v : V} {c : Nat} {ns : List Str} {ds : List D} (h : Rep K ct.b R v (.ins c ns ds)) (hs : ct.b.slt c = false) : ∃ a dx vs, v = .ref a ∧ R a = some (.ins (ct.b.adr c) dx (ns.zip vs)) ∧ ns.length = vs.length ∧ Reps K ct.b R vs ds := by
  cases h with
  | ins _ h hn hl hc => exact ⟨_, _, _, rfl, h, hn, hl, hc⟩
  | slt h _ _ _ => rw [hs] at h; cases h
theorem Ok.insS (ok : Ok K ct H0 ms vp ρ σ R H) {i c : Nat} {ns : List Str} {ds : List D} (hs : ct.b.slt c = false) (h : insOf c ρ[i]? = some (ns, ds)) :
    ∃ a dx vs, σ[i]? = some (some (.ref a)) ∧ H a = some (.ins (ct.b.adr c) dx (ns.zip vs)) ∧ ns.length = vs.length ∧ Reps K ct.b R vs ds := by
  unfold insOf at h
  split at h
  · rename_i k ns' ds' e
    split at h
    · rename_i hk
      cases h
      subst hk
      obtain ⟨a, dx, vs, x, y, hn, r, _⟩ := ok.inst e
      exact ⟨a, dx, vs, x, y, hn, r⟩
    · cases h
  · rename_i k ns' ds' e
    split at h
    · rename_i hk
      cases h
      subst hk
      obtain ⟨v, x, r⟩ := ok.slot e rfl
      obtain ⟨a, dx, vs, rfl, q, hn, t⟩ := r.ins_inv hs
      exact ⟨a, dx, vs, x, ok.same _ _ q, hn, t⟩
    · cases h
  · cases h
def fldV (z : List Str × List D) (f : Str) : Option D := (z.1.zip z.2).lookup f
def mFldV (i c : Nat) (f : Str) : M D := mB (mGet fun ρ => insOf c ρ[i]?) fun z => mO (fldV z f)
theorem sim_fldV {i c : Nat} {f : Str} (hs : ct.b.slt c = false) (hc : Cls K (ct.b.adr c)) (hn : NoAttr K (ct.b.adr c) f) : SimF K ct ms vp W (tFld K (tVar i) f) (mFldV i c f) := fun H0 ρ σ R H ok Q q => by
  obtain ⟨⟨ns, ds⟩, e0, q⟩ := Po.get (Po.bind q)
  obtain ⟨d, e1, q⟩ := Po.opt q
  obtain ⟨a, dx, vs, x, y, hn', r⟩ := ok.insS hs e0
  obtain ⟨v, h1, h2⟩ := zip_look r e1
  exact ⟨.ref a, x, a, _, dx, _, v, rfl, y, hc, hn, h1, q v R H (Gr.refl _ _) ok h2⟩
/-! the receiver of a method -/
def recvD (c : Nat) (m : Str) : D → Option Unit
  | .ins k ns _ => if k = c ∧ m ∉ ns then some () else none
  | _ => none
theorem zip_no {m : Str} {vs : List V} : ∀ {ns : List Str}, m ∉ ns → (ns.zip vs).lookup m = none := by
  induction vs with
  | nil => intro ns _; simp
  | cons v vs ih =>
    intro ns h
    cases ns with
    | nil => rfl
    | cons n ns =>
      have h1 : (m == n) = false := beq_eq_false_iff_ne.mpr fun e => h (by rw [e]; exact List.mem_cons_self)
      rw [List.zip_cons_cons, List.lookup_cons, h1]
      exact ih fun z => h (List.mem_cons_of_mem _ z)
def bRecv (c : Nat) (m : Str) (f : M D) (g : M (List Arg)) : M (List Arg) := mB f fun x => mB (mO (recvD c m x)) fun _ => mB g fun as => mP (.inr x :: as)
theorem sim_recv {c : Nat} {m : Str} {ta : TE} {t : TA} {f : M D} {g : M (List Arg)} (hs : ct.b.slt c = false) (hf : SimF K ct ms vp W ta f) (hg : SimB K ct ms vp W t g) : SimB K ct ms vp W (tRecvD (ct.b.adr c) m ta t) (bRecv c m f g) := fun H0 ρ σ R H ok Q q =>
  hf H0 ρ σ R H ok _ (Po.mono (Po.bind q) fun d ρ1 q v R1 H1 g1 ok1 r1 => by
    obtain ⟨u, e, q⟩ := Po.opt (Po.bind q)
    obtain ⟨ns, ds, rfl, hm⟩ : ∃ ns ds, d = .ins c ns ds ∧ m ∉ ns := by
      cases d <;> simp only [recvD] at e <;> try (cases e; done)
      split at e
      · rename_i hk
        exact ⟨_, _, by rw [hk.1], hk.2⟩
      · cases e
    obtain ⟨a, dx, vs, rfl, h1, h2, h3⟩ := r1.ins_inv hs
    exact ⟨a, dx, _, rfl, ok1.same _ _ h1, zip_no hm, hg H0 ρ1 σ R1 H1 ok1 _ (Po.gr g1 (Po.bind q) fun as ρ2 q ws R2 H2 g2 ok2 r2 => q _ R2 H2 (g1.trans g2) ok2 (.cons (r1.mono g2.1) r2))⟩)
theorem sim_methD {ms' : List Nat} {m : List D → Ans} {c : Nat} {n : Str} {f : M D} {g : M (List Arg)} {ta : TE} {t : TA} (hs : ct.b.slt c = false) (hf : SimF K ct ms vp W ta f) (hg : SimB K ct ms vp W t g) : SimE K ct ms vp W (tMethD (ct.b.adr c) n (SpM K ct.b ms' m) (WE W) ta t) (mCall ms' m (bRecv c n f g)) :=
  call_core (sim_recv hs hf hg) fun σ vs H Q h => h
theorem sim_methD0 {ms' : List Nat} {m : List D → Ans} {c : Nat} {n : Str} {f : M D} {g : M (List Arg)} {ta : TE} {t : TA} {E : L2.St → XK} (hs : ct.b.slt c = false) (hf : SimF K ct ms vp W ta f) (hg : SimB K ct ms vp W t g) : SimE K ct ms vp W (tMethD (ct.b.adr c) n (SpM K ct.b ms' m) E ta t) (mCall ms' (noX m) (bRecv c n f g)) :=
  call_core (S := fun σ vs H Q => SpM K ct.b ms' m vs H Q (E σ)) (sim_recv hs hf hg) fun σ vs H Q h => h.noX (E σ)
/-! an instance called -/
def isIns (c : Nat) : D → Option Unit
  | .ins k _ _ => if k = c then some () else none
  | _ => none
def bRecvO (c : Nat) (f : M D) (g : M (List Arg)) : M (List Arg) := mB f fun x => mB (mO (isIns c x)) fun _ => mB g fun as => mP (.inr x :: as)
theorem sim_recvO {c : Nat} {ta : TE} {t : TA} {f : M D} {g : M (List Arg)} (hs : ct.b.slt c = false) (hf : SimF K ct ms vp W ta f) (hg : SimB K ct ms vp W t g) : SimB K ct ms vp W (tRecvO (ct.b.adr c) ta t) (bRecvO c f g) := fun H0 ρ σ R H ok Q q =>
  hf H0 ρ σ R H ok _ (Po.mono (Po.bind q) fun d ρ1 q v R1 H1 g1 ok1 r1 => by
    obtain ⟨u, e, q⟩ := Po.opt (Po.bind q)
    obtain ⟨ns, ds, rfl⟩ : ∃ ns ds, d = .ins c ns ds := by
      cases d <;> simp only [isIns] at e <;> try (cases e; done)
      split at e
      · rename_i hk
        exact ⟨_, _, by rw [hk]⟩
      · cases e
    obtain ⟨a, dx, vs, rfl, h1, h2, h3⟩ := r1.ins_inv hs
    exact ⟨a, rfl, hg H0 ρ1 σ R1 H1 ok1 _ (Po.gr g1 (Po.bind q) fun as ρ2 q ws R2 H2 g2 ok2 r2 => ⟨⟨dx, _, ok2.same _ _ (g2.1 _ _ h1)⟩, q _ R2 H2 (g1.trans g2) ok2 (.cons (r1.mono g2.1) r2)⟩)⟩)
theorem sim_callOD {ms' : List Nat} {m : List D → Ans} {c : Nat} {f : M D} {g : M (List Arg)} {ta : TE} {t : TA} (hs : ct.b.slt c = false) (hf : SimF K ct ms vp W ta f) (hg : SimB K ct ms vp W t g) : SimE K ct ms vp W (tCallOD (ct.b.adr c) (SpM K ct.b ms' m) (WE W) ta t) (mCall ms' m (bRecvO c f g)) :=
  call_core (sim_recvO hs hf hg) fun σ vs H Q h => h
theorem sim_callOD0 {ms' : List Nat} {m : List D → Ans} {c : Nat} {f : M D} {g : M (List Arg)} {ta : TE} {t : TA} {E : L2.St → XK} (hs : ct.b.slt c = false) (hf : SimF K ct ms vp W ta f) (hg : SimB K ct ms vp W t g) : SimE K ct ms vp W (tCallOD (ct.b.adr c) (SpM K ct.b ms' m) E ta t) (mCall ms' (noX m) (bRecvO c f g)) :=
  call_core (S := fun σ vs H Q => SpM K ct.b ms' m vs H Q (E σ)) (sim_recvO hs hf hg) fun σ vs H Q h => h.noX (E σ)
/-! making -/
def kK : Ans → Env → Res D
  | .ok .non [d], ρ => .ok d ρ
  | .ex k x [_], ρ => .ex k x ρ
  | _, _ => .st
def mkK (c : Nat) (m : List D → Ans) (ds : List D) : M D := fun ρ => kK (m (.oin c [] [] :: ds)) ρ
def mMake (c : Nat) (m : List D → Ans) (f : M (List Arg)) : M D := mB f fun as => mB (mGet fun ρ => if brw 1 as = [] then argsD ρ as else none) fun ds => mkK c m ds
theorem brw_nil_inr : ∀ {as : List Arg} {n : Nat}, brw n as = [] → ∀ a ∈ as, ∃ d, a = .inr d
  | .inl j :: as, n, h, a, ha => by rw [brw] at h; cases h
  | .inr d :: as, n, h, a, ha => by
    rw [brw] at h
    rcases List.mem_cons.mp ha with rfl | ha
    · exact ⟨d, rfl⟩
    · exact brw_nil_inr h a ha
theorem argsD_any {ρ ρ' : Env} : ∀ {as : List Arg}, (∀ a ∈ as, ∃ d, a = Sum.inr d) → argsD ρ as = argsD ρ' as
  | [], _ => rfl
  | a :: as, h => by
    obtain ⟨d, rfl⟩ := h a List.mem_cons_self
    rw [argsD, argsD, argsD_any (ρ := ρ) (ρ' := ρ') fun b hb => h b (List.mem_cons_of_mem _ hb)]
    rfl
theorem make_core {c : Nat} {m : List D → Ans} {f : M (List Arg)} {ta : TA} {S : L2.St → List V → Hp → VK → Prop} (hs : ct.b.slt c = false) (hf : SimB K ct ms vp W ta f) (hu : ∀ σ vs H Q, SpM K ct.b [0] m vs H Q (WE W σ) → S σ vs H Q) :
    SimE K ct ms vp W (fun σ H Q => ta σ H fun vs H1 => ∀ x dx, H1 x = none → H1 dx = none → dx ≠ x → S σ (.ref x :: vs) (upd (upd H1 dx (.own x)) x (.ins (ct.b.adr c) dx [])) (fun v H2 => v = .non ∧ Q (.ref x) H2)) (mMake c m f) := fun H0 ρ σ R H ok Q q => by
  refine hf H0 ρ σ R H ok _ (Po.mono (Po.bind q) fun as ρ1 q vs R1 H1 g1 ok1 r1 x dx hx hdx ne => ?_)
  obtain ⟨ds, e, q⟩ := Po.get (Po.bind q)
  split at e
  · rename_i hb
    have inr := brw_nil_inr hb
    have sm : Same H1 (upd (upd H1 dx (.own x)) x (.ins (ct.b.adr c) dx [])) := fun b o h => by
      rw [upd_ne (ne_of_none h hx), upd_ne (ne_of_none h hdx)]
      exact h
    have ex : Ext R1 H1 R1 (upd (upd H1 dx (.own x)) x (.ins (ct.b.adr c) dx [])) := ⟨Same.refl _, ok1.same.trans sm, sm, fun _ h => .inl h⟩
    have ok2 := ok1.add ex (v := .ref x) (d := .oin c [] []) (G := fun b => b = x) (.oin (vs := []) hs upd_same rfl rfl .nil) fun b hb => by
      rw [hb]
      exact ⟨hx, ok1.same.free hx, by rw [upd_same]; exact Option.some_ne_none _⟩
    have len : ρ1.length = σ.length := ok1.len.symm
    have ra : ArgsOk K ct (σ ++ [some (.ref x)]) R1 (.ref x :: vs) (.inl ρ1.length :: as) := by
      refine .cons (by show (σ ++ [some (V.ref x)])[ρ1.length]? = _; rw [len]; simp) ⟨r1.1, fun k v a h1 h2 => ?_⟩
      obtain ⟨d, rfl⟩ := inr a (List.mem_of_getElem? h2)
      exact r1.2 k v _ h1 h2
    have ea : argsD (ρ1 ++ [some (.oin c [] [])]) (.inl ρ1.length :: as) = some (.oin c [] [] :: ds) := by
      rw [argsD, argsD_any (ρ' := ρ1) inr, e]
      simp [argD]
    obtain ⟨HX, okX, back⟩ := ok2.back (ms' := [0]) (I := [ρ1.length]) ra ea (by rw [brw, hb]; rfl) (by rw [brw, hb]; rfl) (by simp)
    refine hu _ _ _ _ ⟨HX, R1, _, okX.cast rfl trivial, ?_⟩
    unfold mkK at q
    have pw : ∀ d1 : D, putW [ρ1.length] [d1] (ρ1 ++ [some (D.oin c [] [])]) = ρ1 ++ [some d1] := fun d1 => by
      show (ρ1 ++ [some (D.oin c [] [])]).set ρ1.length (some d1) = _
      simp [List.set_append]
    cases em : m (D.oin c [] [] :: ds) with
    | st => rw [em] at q; exact q.elim
    | ok d w =>
      rw [em] at q
      intro v R2 H2 g2 lw okr
      match w, lw with
      | [d1], _ =>
        obtain ⟨g3, b1, b2⟩ := back [d1] R2 H2 g2 rfl
        have okf := b1 _ _ (okr.cast rfl (ct.mono _ _ g2.1 okX.inv))
        rw [pw] at okf
        have ev : d = .non → v = .non := fun e => by
          subst e
          obtain ⟨F, f1, _⟩ := okf.own
          obtain ⟨u, h1, h2⟩ := f1 (ρ1.length + 1) .non (by simp)
          have h3 : (σ ++ [some (V.ref x)] ++ [some v])[ρ1.length + 1]? = some (some v) := by rw [len]; simp
          rw [h3] at h1
          cases h1
          exact (h2.rep rfl).non_inv
        cases d with
        | non =>
          refine ⟨ev rfl, q (.ref x) R2 H2 (g1.trans g3) (okf.pop (by simp [len]) ?_) len⟩
          intro i hi
          have := ok1.mslt i hi
          simp
          omega
        | _ => exact q.elim
    | ex k y w =>
      rw [em] at q
      intro od R2 H2 g2 lw okr xo
      match w, lw with
      | [d1], _ =>
        obtain ⟨g3, b1, b2⟩ := back [d1] R2 H2 g2 rfl
        have okf := b2 (okr.cast rfl (ct.mono _ _ g2.1 okX.inv))
        rw [pw] at okf
        exact q od R2 H2 (g1.trans g3) (okf.pop len fun i hi => ok1.mslt i hi) xo
  · cases e
theorem makeDS_core {c : Nat} {m m' : List D → Ans} {f : M (List Arg)} {ta : TA} {dvs : List V} {dds : List D} {E : L2.St → XK} (hs : ct.b.slt c = false) (hf : SimB K ct ms vp W ta f) (hd : ∀ R, Reps K ct.b R dvs dds) (hu : ∀ σ vs H Q, SpM K ct.b [0] m vs H Q (WE W σ) → SpM K ct.b [0] m' vs H Q (E σ)) :
    SimE K ct ms vp W (tMakeDS (ct.b.adr c) (SpM K ct.b [0] m') dvs E ta) (mMake c m (bApp f dds)) := by
  have h : SimB K ct ms vp W (fun σ H Q => ta σ H fun vs H1 => Q (vs ++ dvs) H1) (bApp f dds) := fun H0 ρ σ R H ok Q q =>
    hf H0 ρ σ R H ok _ (Po.mono (Po.bind q) fun as ρ1 q vs R1 H1 g1 ok1 r1 => q (vs ++ dvs) R1 H1 g1 ok1 (r1.app (.of (hd R1))))
  exact make_core (S := fun σ vs H Q => SpM K ct.b [0] m' vs H Q (E σ)) (ta := fun σ H Q => ta σ H fun vs H1 => Q (vs ++ dvs) H1) hs h hu
theorem sim_makeDS {c : Nat} {m : List D → Ans} {f : M (List Arg)} {ta : TA} {dvs : List V} {dds : List D} (hs : ct.b.slt c = false) (hf : SimB K ct ms vp W ta f) (hd : ∀ R, Reps K ct.b R dvs dds) : SimE K ct ms vp W (tMakeDS (ct.b.adr c) (SpM K ct.b [0] m) dvs (WE W) ta) (mMake c m (bApp f dds)) :=
  makeDS_core hs hf hd fun _ _ _ _ h => h
theorem sim_makeDS0 {c : Nat} {m : List D → Ans} {f : M (List Arg)} {ta : TA} {dvs : List V} {dds : List D} {E : L2.St → XK} (hs : ct.b.slt c = false) (hf : SimB K ct ms vp W ta f) (hd : ∀ R, Reps K ct.b R dvs dds) : SimE K ct ms vp W (tMakeDS (ct.b.adr c) (SpM K ct.b [0] m) dvs E ta) (mMake c (noX m) (bApp f dds)) :=
  makeDS_core hs hf hd fun σ _ _ _ h => h.noX (E σ)
theorem makeKS_core {c n j : Nat} {m m' : List D → Ans} {f : M (List Arg)} {g : M (List D)} {ta tk : TA} {gV : List V → List V → List V} {k : List Arg → List Arg → List Arg} {E : L2.St → XK} (hs : ct.b.slt c = false) (hf : SimB K ct ms vp W ta f) (hg : SimA K ct ms vp W tk g)
    (hk : ∀ σ R vs zs as bs, ArgsOk K ct σ R vs as → ArgsOk K ct σ R zs bs → ArgsOk K ct σ R (gV vs zs) (k as bs)) (hx : ∀ x vs zs, gV (x :: vs) zs = x :: gV vs zs) (hu : ∀ σ vs H Q, SpM K ct.b [0] m vs H Q (WE W σ) → SpM K ct.b [0] m' vs H Q (E σ)) : SimE K ct ms vp W (tMakeKS (ct.b.adr c) n j (SpM K ct.b [0] m') gV E ta tk) (mMake c m (bKw n j f g k)) := by
  have h : SimB K ct ms vp W (fun σ H Q => ta σ H fun vs H1 => tk σ H1 fun zs H2 => vs.length = n ∧ zs.length = j ∧ Q (gV vs zs) H2) (bKw n j f g k) := fun H0 ρ σ R H ok Q q =>
    hf H0 ρ σ R H ok _ (Po.mono (Po.bind q) fun as ρ1 q vs R1 H1 g1 ok1 r1 =>
      hg H0 ρ1 σ R1 H1 ok1 _ (Po.gr g1 (Po.bind q) fun zs ρ2 q ws R2 H2 g2 ok2 r2 => by
        split at q
        · rename_i hl
          exact ⟨r1.1.trans hl.1, r2.1.trans hl.2, q (gV vs ws) R2 H2 (g1.trans g2) ok2 (hk σ R2 vs ws as _ (r1.mono g2.1) (.of r2))⟩
        · exact q.elim))
  have core := make_core (m := m) (S := fun σ vs H Q => SpM K ct.b [0] m' vs H Q (E σ)) (ta := fun σ H Q => ta σ H fun vs H1 => tk σ H1 fun zs H2 => vs.length = n ∧ zs.length = j ∧ Q (gV vs zs) H2) hs h hu
  have e : tMakeKS (ct.b.adr c) n j (SpM K ct.b [0] m') gV E ta tk = fun σ H Q => (fun σ H Q => ta σ H fun vs H1 => tk σ H1 fun zs H2 => vs.length = n ∧ zs.length = j ∧ Q (gV vs zs) H2) σ H fun vs H1 => ∀ x dx, H1 x = none → H1 dx = none → dx ≠ x →
      SpM K ct.b [0] m' (.ref x :: vs) (upd (upd H1 dx (.own x)) x (.ins (ct.b.adr c) dx [])) (fun v H2 => v = .non ∧ Q (.ref x) H2) (E σ) := by
    funext σ H Q
    simp only [tMakeKS, hx]
  rw [e]
  exact core
theorem sim_makeKS {c n j : Nat} {m : List D → Ans} {f : M (List Arg)} {g : M (List D)} {ta tk : TA} {gV : List V → List V → List V} {k : List Arg → List Arg → List Arg} (hs : ct.b.slt c = false) (hf : SimB K ct ms vp W ta f) (hg : SimA K ct ms vp W tk g)
    (hk : ∀ σ R vs zs as bs, ArgsOk K ct σ R vs as → ArgsOk K ct σ R zs bs → ArgsOk K ct σ R (gV vs zs) (k as bs)) (hx : ∀ x vs zs, gV (x :: vs) zs = x :: gV vs zs) : SimE K ct ms vp W (tMakeKS (ct.b.adr c) n j (SpM K ct.b [0] m) gV (WE W) ta tk) (mMake c m (bKw n j f g k)) :=
  makeKS_core hs hf hg hk hx fun _ _ _ _ h => h
theorem sim_makeKS0 {c n j : Nat} {m : List D → Ans} {f : M (List Arg)} {g : M (List D)} {ta tk : TA} {gV : List V → List V → List V} {k : List Arg → List Arg → List Arg} {E : L2.St → XK} (hs : ct.b.slt c = false) (hf : SimB K ct ms vp W ta f) (hg : SimA K ct ms vp W tk g)
    (hk : ∀ σ R vs zs as bs, ArgsOk K ct σ R vs as → ArgsOk K ct σ R zs bs → ArgsOk K ct σ R (gV vs zs) (k as bs)) (hx : ∀ x vs zs, gV (x :: vs) zs = x :: gV vs zs) : SimE K ct ms vp W (tMakeKS (ct.b.adr c) n j (SpM K ct.b [0] m) gV E ta tk) (mMake c (noX m) (bKw n j f g k)) :=
  makeKS_core hs hf hg hk hx fun σ _ _ _ h => h.noX (E σ)
/-! isinstance of the error that is looked at, of two classes -/
theorem sim_isX2 {i c cX : Nat} {r : Bool} {x : Option D} {a : Addr} {od : Option Addr} {C Y1 Y2 : Addr} {vp' : Nat → V} {ms' : List Nat} (hC : C = ct.b.err cX) (hi : i ∈ ms') (hv : vp' i = .ref a) (hk : PySem.W.kitAny K (.ref C) [.ref Y1, .ref Y2] = some r) :
    SimF K (ct.with K c x od) ms' vp' W (tCB (rIsX2 K C a (.ref (ct.b.err c)) od) (tCons (tVar i) (tCons (tTup (tCons (tC (.ref Y1)) (tCons (tC (.ref Y2)) tNil))) tNil))) (mIsX cX r c x) := fun H0 ρ σ R H ok Q q => by
  unfold mIsX at q
  split at q
  · rename_i hc
    obtain ⟨rfl, hx⟩ := hc
    refine ⟨.ref a, by rw [ok.pins i hi, hv], ?_⟩
    refine ⟨show 2 ≤ sizeLine by decide, fun p hp => ?_⟩
    have iv := ok.inv.2
    cases x with
    | none => cases hx
    | some d =>
      obtain ⟨dd, v, e1, e2, r1⟩ := iv
      have xx := Ext.heap (o := .tup [.ref Y1, .ref Y2]) ok.same hp
      have e3 := ok.same _ _ e2
      exact ⟨p, Y1, Y2, r, dd, _, rfl, by rw [hC], e1, by rw [upd_ne (ne_of_none e3 hp)]; exact e3, upd_same, hk, q (.bl r) R _ (ok.gr xx) (ok.ext xx) (.bl r)⟩
  · exact q.elim
/-! ### all -/
def asBl : D → Option Bool
  | .bl i => some i
  | _ => none
theorem bls_of : ∀ {ds : List D} {bs : List Bool}, ds.mapM asBl = some bs → ds = bs.map D.bl
  | [], bs, h => by
    cases h
    rfl
  | d :: ds, bs, h => by
    rw [List.mapM_cons] at h
    obtain ⟨i, h1, h2⟩ := Option.bind_eq_some_iff.mp h
    obtain ⟨is, h3, h4⟩ := Option.bind_eq_some_iff.mp h2
    cases h4
    cases d <;> simp only [asBl] at h1 <;> cases h1
    rw [List.map_cons, ← bls_of h3]
theorem asB_map : ∀ bs : List Bool, (bs.map D.bl).mapM asBl = some bs
  | [] => rfl
  | x :: bs => by
    rw [List.map_cons, List.mapM_cons, asB_map bs]
    rfl
theorem Reps.bls_inv : ∀ {bs : List Bool} {vs : List V}, Reps K ct.b R vs (bs.map D.bl) → vs = bs.map V.bl
  | [], vs, r => r.nil_inv
  | n :: ns, vs, r => by
    obtain ⟨v, ws, rfl, r1, r2⟩ := r.cons_inv
    cases r1.bl_inv
    rw [List.map_cons, ← Reps.bls_inv r2]
def oAll : List D → Option D
  | [.lst ds] => (ds.mapM asBl).map fun bs => .bl (bs.all id)
  | _ => none
theorem oAll_map {bs : List Bool} : oAll [.lst (bs.map D.bl)] = some (.bl (bs.all id)) := by
  rw [oAll, asB_map]
  rfl
theorem so_all : CbF K ct.b (rAll K) oAll := fun R H vs ds s r Q q => by
  match ds, q, r with
  | [.lst es], q, r =>
    obtain ⟨v, rfl, r1⟩ := one r
    obtain ⟨a, us, rfl, h, t⟩ := r1.lst_inv
    simp only [oAll] at q
    cases e : es.mapM asBl with
    | none => rw [e] at q; exact q.elim
    | some bs =>
      rw [e] at q
      have e2 := bls_of e
      subst e2
      cases Reps.bls_inv t
      exact ⟨a, bs, rfl, sql0 (s _ _ h), q _ R H (Ext.refl s) (.bl _)⟩
end
section
variable {ρ : Env}
@[simp] theorem isTp_tup {ds : List D} : isTp (.tup ds) = true := (rfl)
@[simp] theorem isTp_lst {ds : List D} : isTp (.lst ds) = false := (rfl)
@[simp] theorem a_mZip {g : M (List D)} : mZip g ρ = bK (g ρ) fun ds => mO (zipD ds) := a_mB
@[simp] theorem oinOf_oin {c : Nat} {ns : List Str} {ds : List D} : oinOf c (some (some (.oin c ns ds))) = some (ns, ds) := if_pos rfl
@[simp] theorem insOf_oin {c : Nat} {ns : List Str} {ds : List D} : insOf c (some (some (.oin c ns ds))) = some (ns, ds) := if_pos rfl
@[simp] theorem insOf_ins {c : Nat} {ns : List Str} {ds : List D} : insOf c (some (some (.ins c ns ds))) = some (ns, ds) := if_pos rfl
@[simp] theorem isO_ins {c : Nat} {ns : List Str} {ds : List D} : D.isO (.ins c ns ds) = false := (rfl)
@[simp] theorem isO_oin {c : Nat} {ns : List Str} {ds : List D} : D.isO (.oin c ns ds) = true := (rfl)
@[simp] theorem fz_ins {c : Nat} {ns : List Str} {ds : List D} : D.fz (.ins c ns ds) = .ins c ns ds := by simp [D.fz]
@[simp] theorem fz_oin {c : Nat} {ns : List Str} {ds : List D} : D.fz (.oin c ns ds) = .ins c ns (fzs ds) := by simp [D.fz]
@[simp] theorem a_mSetFld {i c : Nat} {f : Str} {g : M D} : mSetFld i c f g ρ = tK (g ρ) fun x => mThen (mGet fun ρ => oinOf c ρ[i]?) fun z => mThen (mO (if f ∈ z.1 ∨ 900 < z.1.length then none else some ())) fun _ ρ => .nx (ρ.set i (some (.oin c (z.1 ++ [f]) (z.2 ++ [x])))) := a_mThen
@[simp] theorem a_mFldV {i c : Nat} {f : Str} : mFldV i c f ρ = bK (oK (insOf c ρ[i]?) ρ) fun z => mO (fldV z f) := by rw [mFldV, a_mB, a_mGet]
@[simp] theorem recvD_ins {c : Nat} {m : Str} {ns : List Str} {ds : List D} : recvD c m (.ins c ns ds) = if m ∉ ns then some () else none := by simp [recvD]
@[simp] theorem isIns_ins {c : Nat} {ns : List Str} {ds : List D} : isIns c (.ins c ns ds) = some () := if_pos rfl
@[simp] theorem a_bRecv {c : Nat} {m : Str} {f : M D} {g : M (List Arg)} : bRecv c m f g ρ = bK (f ρ) fun x => mB (mO (recvD c m x)) fun _ => mB g fun as => mP (.inr x :: as) := a_mB
@[simp] theorem a_bRecvO {c : Nat} {f : M D} {g : M (List Arg)} : bRecvO c f g ρ = bK (f ρ) fun x => mB (mO (isIns c x)) fun _ => mB g fun as => mP (.inr x :: as) := a_mB
@[simp] theorem kK_ok {d : D} : kK (.ok .non [d]) ρ = .ok d ρ := (rfl)
@[simp] theorem kK_ex {k : Nat} {x : Option D} {d : D} : kK (.ex k x [d]) ρ = .ex k x ρ := (rfl)
@[simp] theorem a_mkK {c : Nat} {m : List D → Ans} {ds : List D} : mkK c m ds ρ = kK (m (.oin c [] [] :: ds)) ρ := (rfl)
@[simp] theorem a_mMake {c : Nat} {m : List D → Ans} {f : M (List Arg)} : mMake c m f ρ = bK (f ρ) fun as => mB (mGet fun ρ => if brw 1 as = [] then argsD ρ as else none) fun ds => mkK c m ds := a_mB
end
end Y

namespace Y
open PySem PySem.Spec PyProof.Rows L2
section
variable {K : PySem.W.Frag} {ct : CT} {ms : List Nat} {W : WX} {H0 R R' H H' : Hp} {vp : Nat → V} {ρ : Env} {σ : L2.St}
/-! ### a call that only looks: what it is handed stays one's own, for its answer is no reference and all that stands is kept -/
def scalD : D → Bool
  | .int _ => true
  | .bl _ => true
  | .str _ => true
  | .non => true
  | _ => false
theorem scalD_isO {d : D} (h : scalD d = true) : d.isO = false := by cases d <;> first | rfl | cases h
theorem Rep.scalD_any {b : CTB} {R R' : Hp} {v : V} {d : D} (r : Rep K b R v d) (h : scalD d = true) : Rep K b R' v d := by
  cases d <;> simp only [scalD] at h <;> try (cases h; done)
  · cases r.non_inv; exact .non
  · cases r.bl_inv; exact .bl _
  · cases r.int_inv; exact .int _
  · cases r.str_inv; exact .str _
theorem Ok.later (ok : Ok K ct H0 ms vp ρ σ R H) (e : Same H H') : Ok K ct H0 ms vp ρ σ R H' :=
  ok.ext ⟨Same.refl _, ok.same.trans e, e, fun _ h => .inl h⟩
/-- the whole heap as what is never written again -/
theorem Ok.look {as : List Arg} {vs : List V} {ds : List D} (ok : Ok K ct H0 ms vp ρ σ R H) (ha : ArgsOk K ct σ R vs as) (hd : argsD ρ as = some ds) : Ok K ct.b.triv H [] (fun _ => .non) ((ds.map D.fz).map some) (vs.map some) H H := by
  obtain ⟨l, f⟩ := argsD_at hd
  obtain ⟨s, _, _, _, _, F, f1, _, _⟩ := id ok
  refine ⟨Same.refl _, Same.refl _, trivial, by simp [ha.1, l], (fun i hi => nomatch hi), fun _ _ => False, fun i d h => ?_, fun _ _ _ _ h => h.elim, fun _ _ h => h.elim⟩
  rw [List.getElem?_map, List.getElem?_map] at h
  obtain ⟨d1, h1, h2⟩ := Option.map_eq_some_iff.mp h
  obtain ⟨d0, h3, h4⟩ := Option.map_eq_some_iff.mp h1
  cases h2
  subst h4
  obtain ⟨a, q1, q2⟩ := f i d0 h3
  have il := (List.getElem?_eq_some_iff.mp h3).1
  obtain ⟨v, hv⟩ : ∃ v, vs[i]? = some v := ⟨_, List.getElem?_eq_getElem (by rw [ha.1, ← l]; exact il)⟩
  refine ⟨v, by rw [List.getElem?_map, hv]; rfl, .fz ?_⟩
  have ak := ha.2 i v a hv q1
  cases a with
  | inl j =>
    have q3 : (ρ[j]?).join = some d0 := q2
    have q4 : ρ[j]? = some (some d0) := by
      cases e : ρ[j]? with
      | none => rw [e] at q3; cases q3
      | some x => rw [e] at q3; cases x with
        | none => cases q3
        | some y => cases q3; rfl
    obtain ⟨u, h5, h6⟩ := f1 j d0 q4
    have h7 : σ[j]? = some (some v) := ak
    cases h5.symm.trans h7
    exact h6.froze s fun _ _ => rfl
  | inr d =>
    cases q2
    have r : Rep K ct.b R v _ := ak
    rw [r.fz]
    exact r.mono s
def mPeek (m : List D → Ans) (f : M (List Arg)) : M D := mB f fun as => mB (mGet fun ρ => argsD ρ as) fun ds ρ => match m (ds.map D.fz) with
  | .ok d [] => if scalD d = true then .ok d ρ else .st
  | _ => .st
theorem peek_core {m : List D → Ans} {f : M (List Arg)} {ta : TA} {S : L2.St → List V → Hp → VK → Prop} (hf : SimB K ct ms vp W ta f)
    (hu : ∀ σ vs H Q, (∀ E, SpM K ct.b [] m vs H Q E) → S σ vs H Q) : SimF K ct ms vp W (fun σ H Q => ta σ H fun vs H1 => S σ vs H1 Q) (mPeek m f) := fun H0 ρ σ R H ok Q q => by
  refine hf H0 ρ σ R H ok _ (Po.mono (Po.bind q) fun as ρ1 q vs R1 H1 g1 ok1 r1 => hu σ vs H1 Q fun E => ?_)
  obtain ⟨ds, e, q⟩ := Po.get (Po.bind q)
  refine ⟨H1, H1, ds.map D.fz, ok1.look r1 e, ?_⟩
  cases em : m (ds.map D.fz) with
  | st => rw [em] at q; exact q.elim
  | ex c x w => rw [em] at q; exact q.elim
  | ok d w =>
    rw [em] at q
    cases w with
    | cons a b => exact q.elim
    | nil =>
      dsimp only at q
      by_cases hs : scalD d = true
      · rw [if_pos hs] at q
        intro v R2 H2 g2 _ ok2
        obtain ⟨F, f1, _⟩ := ok2.own
        obtain ⟨u, h1, h2⟩ := f1 0 d rfl
        have h3 : some (some v) = some (some u) := h1
        cases h3
        exact q v R1 H2 g1 (ok1.later ok2.keep) ((h2.rep (scalD_isO hs)).scalD_any hs)
      · rw [if_neg hs] at q
        exact q.elim
theorem sim_peek {m : List D → Ans} {f : M (List Arg)} {ta : TA} {E : XK} (hf : SimB K ct ms vp W ta f) : SimF K ct ms vp W (tCall (SpM K ct.b [] m) [] E ta) (mPeek m f) :=
  peek_core hf fun σ vs H Q h => by
    show SpM K ct.b [] m (vs ++ []) H Q E
    rw [List.append_nil]
    exact h E
end
@[simp] theorem scalD_int {i : Int} : scalD (.int i) = true := (rfl)
@[simp] theorem scalD_bl {i : Bool} : scalD (.bl i) = true := (rfl)
@[simp] theorem scalD_str {i : Str} : scalD (.str i) = true := (rfl)
@[simp] theorem scalD_non : scalD .non = true := (rfl)
def pkK (m : List D → Ans) (ds : List D) : M D := fun ρ => match m (ds.map D.fz) with
  | .ok d [] => if scalD d = true then .ok d ρ else .st
  | _ => .st
@[simp] theorem a_mPeek {m : List D → Ans} {f : M (List Arg)} {ρ : Env} : mPeek m f ρ = bK (f ρ) fun as => mB (mGet fun ρ => argsD ρ as) fun ds => pkK m ds := a_mB
theorem pkK_ok {m : List D → Ans} {ds : List D} {d : D} {ρ : Env} (h : m (ds.map D.fz) = .ok d []) (hs : scalD d = true) : pkK m ds ρ = .ok d ρ := by
  unfold pkK
  rw [h]
  exact if_pos hs
end Y

namespace Y
open PySem PySem.Spec PyProof.Rows L2
section
variable {K : PySem.W.Frag} {ct : CT} {ms : List Nat} {W : WX} {H0 R R' H H' : Hp} {vp : Nat → V} {ρ : Env} {σ : L2.St}
/-! ### lists of one's own within a list of one's own -/
/-- [e], e of one's own too -/
theorem Ok.wrap {v : V} {d : D} {p : Addr} (ok : Ok K ct H0 ms vp (ρ ++ [some d]) (σ ++ [some v]) R H) (l : ρ.length = σ.length) (hm : ∀ i ∈ ms, i < σ.length) (hp : H p = none) : Ok K ct H0 ms vp (ρ ++ [some (.ols [d])]) (σ ++ [some (.ref p)]) R (upd H p (.lst [v])) := by
  obtain ⟨s, k, iv, l2, pi, F, f1, f2, f3⟩ := ok
  have h0 : H0 p = none := k.free hp
  have fr : R p = none := s.free hp
  have np : ∀ i b, F i b → b ≠ p := fun i b g z => (f3 i b g).2.1 (z ▸ hp)
  have ex := Ext.heap (o := .lst [v]) s hp
  refine ⟨ex.s, k.trans ex.h, iv, by simpa using l2, fun i hi => ?_, fun i b => F i b ∨ (i = ρ.length ∧ b = p), fun i e h => ?_, fun i j b ne x y => ?_, fun i b h => ?_⟩
  · have q := pi i hi
    rw [List.getElem?_append_left (hm i hi)] at q ⊢
    exact q
  · by_cases e1 : i < ρ.length
    · rw [List.getElem?_append_left e1] at h
      obtain ⟨u, a, w⟩ := f1 i e (by rw [List.getElem?_append_left e1]; exact h)
      rw [List.getElem?_append_left (by omega)] at a
      exact ⟨u, by rw [List.getElem?_append_left (by omega)]; exact a, (w.monoH fun b o g q => by rw [upd_ne (np i b g)]; exact q).monoF fun b g => .inl g⟩
    · have e2 := (List.getElem?_eq_some_iff.mp h).1
      have e3 : i = ρ.length := by simp at e2; omega
      subst e3
      simp at h
      subst h
      obtain ⟨u, a, w⟩ := f1 ρ.length d (by simp)
      have eu : u = v := by rw [l] at a; simpa using a.symm
      subst eu
      refine ⟨.ref p, by rw [l]; simp, .ols (fun n b => n = 0 ∧ F ρ.length b) upd_same (.inr ⟨rfl, rfl⟩) rfl (fun n x y q1 q2 => ?_) (fun n b ⟨_, g⟩ => ⟨.inl g, np _ b g⟩) (fun n m b ne ⟨a, _⟩ ⟨c, _⟩ => ne (a.trans c.symm))⟩
      cases n with
      | zero =>
        cases (show u = x by simpa using q1)
        cases (show d = y by simpa using q2)
        exact (w.monoH fun b o g q => by rw [upd_ne (np _ b g)]; exact q).monoF fun b g => ⟨rfl, g⟩
      | succ n => simp at q1
  · rcases x with x | ⟨x1, x2⟩ <;> rcases y with y | ⟨y1, y2⟩
    · exact f2 i j b ne x y
    · exact np i b x y2
    · exact np j b y x2
    · exact ne (x1.trans y1.symm)
  · rcases h with h | ⟨_, h⟩
    · obtain ⟨a, b', c⟩ := f3 i b h
      exact ⟨a, by rw [upd_ne (np i b h)]; exact b', c⟩
    · subst h
      exact ⟨fr, by rw [upd_same]; exact Option.some_ne_none _, h0⟩
def mLst1 (f : M D) : M D := mB f fun d => mP (.ols [d])
theorem sim_lst1 {te : TE} {f : M D} (hf : SimE K ct ms vp W te f) : SimE K ct ms vp W (tLst (tCons te tNil)) (mLst1 f) := fun H0 ρ σ R H ok Q q =>
  hf H0 ρ σ R H ok _ (Po.mono (Po.bind q) fun d ρ1 q v R1 H1 g1 ok1 l =>
    ⟨show 1 ≤ sizeLine by decide, fun p hp => q (.ref p) R1 _ g1 (ok1.wrap l ok.mslt hp) l⟩)
/-- a slot's content goes out of the def -/
theorem Ok.move (ok : Ok K ct H0 ms vp ρ σ R H) {i : Nat} {d : D} (h : ρ[i]? = some (some d)) : ∃ v, σ[i]? = some (some v) ∧ Ok K ct H0 ms vp (ρ.set i none ++ [some d]) (σ ++ [some v]) R H := by
  obtain ⟨s, k, iv, l, pi, F, f1, f2, f3⟩ := ok
  obtain ⟨v, a, w⟩ := f1 i d h
  have hi := (List.getElem?_eq_some_iff.mp h).1
  refine ⟨v, a, s, k, iv, by simp [l], fun j hj => ?_, fun j b => (j = ρ.length ∧ F i b) ∨ (j ≠ i ∧ j < ρ.length ∧ F j b), fun j e q => ?_, fun j j' b ne x y => ?_, fun j b q => ?_⟩
  · have q := pi j hj
    rw [List.getElem?_append_left (List.getElem?_eq_some_iff.mp q).1]
    exact q
  · by_cases e1 : j < ρ.length
    · rw [List.getElem?_append_left (by simpa using e1)] at q
      by_cases e2 : j = i
      · subst e2
        rw [List.getElem?_set_self hi] at q
        cases q
      · rw [List.getElem?_set_ne (Ne.symm e2)] at q
        obtain ⟨u, x, y⟩ := f1 j e q
        exact ⟨u, by rw [List.getElem?_append_left (by omega)]; exact x, y.monoF fun b g => .inr ⟨e2, e1, g⟩⟩
    · have e2 := (List.getElem?_eq_some_iff.mp q).1
      have e3 : j = ρ.length := by simp at e2; omega
      subst e3
      rw [List.getElem?_append_right (by simp)] at q
      simp at q
      subst q
      exact ⟨v, by rw [List.getElem?_append_right (by omega), l]; simp, w.monoF fun b g => .inl ⟨rfl, g⟩⟩
  · rcases x with ⟨x1, x2⟩ | ⟨x1, x2, x3⟩ <;> rcases y with ⟨y1, y2⟩ | ⟨y1, y2, y3⟩
    · exact ne (x1.trans y1.symm)
    · exact f2 i j' b (Ne.symm y1) x2 y3
    · exact f2 i j b (Ne.symm x1) y2 x3
    · exact f2 j j' b ne x3 y3
  · rcases q with ⟨_, q⟩ | ⟨_, _, q⟩ <;> exact f3 _ b q
def mMove (i : Nat) : M D := fun ρ => match ρ[i]? with
  | some (some d) => .ok d (ρ.set i none)
  | _ => .st
theorem sim_move {i : Nat} : SimE K ct ms vp W (tVar i) (mMove i) := fun H0 ρ σ R H ok Q q => by
  unfold mMove at q
  split at q
  · rename_i d hd
    obtain ⟨v, a, ok'⟩ := ok.move hd
    exact ⟨v, a, q v R H (Gr.refl _ _) ok' (by simpa using ok.len.symm)⟩
  · exact q.elim
/-- a list of one's own within one -/
theorem Ok.inner (ok : Ok K ct H0 ms vp ρ σ R H) {i n : Nat} {ds es : List D} (h : ρ[i]? = some (some (.ols ds))) (hn : ds[n]? = some (.ols es)) :
    ∃ a vs c ws, σ[i]? = some (some (.ref a)) ∧ H a = some (.lst vs) ∧ vs.length = ds.length ∧ vs[n]? = some (.ref c) ∧ H c = some (.lst ws) ∧ ws.length = es.length ∧
      ∀ (w : V) (e : D), Rep K ct.b R w e → Ok K ct H0 ms vp (ρ.set i (some (.ols (ds.set n (.ols (es ++ [e])))))) σ R (upd H c (.lst (ws ++ [w]))) := by
  obtain ⟨s, k, iv, l, p, F, f1, f2, f3⟩ := ok
  obtain ⟨v, hv, w0⟩ := f1 i _ h
  cases w0 with
  | fz w0 => cases w0
  | @ols _ a vs _ G ha hF hl hc hG hd =>
    have nl : n < ds.length := (List.getElem?_eq_some_iff.mp hn).1
    obtain ⟨u, hu⟩ : ∃ u, vs[n]? = some u := ⟨_, List.getElem?_eq_getElem (by omega)⟩
    have w1 := hc n u _ hu hn
    cases w1 with
    | fz w1 => cases w1
    | @ols _ c ws _ G2 hc1 hF2 hl2 hc2 hG2 hd2 =>
      have ca : c ≠ a := (hG n c hF2).2
      have hFc : F i c := (hG n c hF2).1
      obtain ⟨rc, _, h0c⟩ := f3 i c hFc
      refine ⟨a, vs, c, ws, hv, ha, hl, hu, hc1, hl2, fun w e r => ⟨fun b o q => ?_, fun b o q => ?_, iv, by simpa using l, p, F, fun j d q => ?_, f2, fun j b q => ?_⟩⟩
      · rw [upd_ne (ne_of_none q rc)]; exact s b o q
      · rw [upd_ne (ne_of_none q h0c)]; exact k b o q
      · by_cases z : j = i
        · subst z
          have hj : j < ρ.length := (List.getElem?_eq_some_iff.mp h).1
          rw [List.getElem?_set_self hj] at q
          cases q
          refine ⟨.ref a, hv, .ols G (by rw [upd_ne (Ne.symm ca)]; exact ha) hF (by simpa using hl) (fun m x y q1 q2 => ?_) hG hd⟩
          by_cases z : m = n
          · subst z
            rw [hu] at q1
            cases q1
            rw [List.getElem?_set_self nl] at q2
            cases q2
            refine .ols (fun t b => t < ws.length ∧ G2 t b) upd_same hF2 (by simp [hl2]) (fun t x y q1 q2 => ?_) (fun t b g => hG2 t b g.2) (fun t t' b ne x y => hd2 t t' b ne x.2 y.2)
            by_cases z : t < ws.length
            · rw [List.getElem?_append_left z] at q1
              rw [List.getElem?_append_left (by omega)] at q2
              exact ((hc2 t x y q1 q2).monoH fun b o g q => by rw [upd_ne (hG2 t b g).2]; exact q).monoF fun b g => ⟨z, g⟩
            · have z2 := (List.getElem?_eq_some_iff.mp q1).1
              have z3 : t = ws.length := by simp at z2; omega
              subst z3
              rw [List.getElem?_append_right (Nat.le_refl _)] at q1
              rw [List.getElem?_append_right (by omega)] at q2
              simp at q1
              rw [hl2] at q2
              simp at q2
              subst q1 q2
              exact .fz r
          · rw [List.getElem?_set_ne (Ne.symm z)] at q2
            refine (hc m x y q1 q2).monoH fun b o g q => ?_
            rw [upd_ne fun e => hd m n c z (by rw [← e]; exact g) hF2]
            exact q
        · rw [List.getElem?_set_ne (Ne.symm z)] at q
          obtain ⟨u, x, y⟩ := f1 j d q
          refine ⟨u, x, y.monoH fun b o g q' => ?_⟩
          rw [upd_ne fun e => f2 j i c z (by rw [← e]; exact g) hFc]
          exact q'
      · obtain ⟨x, y, z⟩ := f3 j b q
        refine ⟨x, ?_, z⟩
        by_cases e2 : b = c
        · rw [e2, upd_same]; exact Option.some_ne_none _
        · rw [upd_ne e2]; exact y
def innerOf (n : Nat) (x : Option (Option D)) : Option (List D × List D) := match olsOf x with
  | some ds => match ds[n]? with
    | some (.ols es) => some (ds, es)
    | _ => none
  | none => none
theorem innerOf_some {n : Nat} {x : Option (Option D)} {z : List D × List D} (h : innerOf n x = some z) : x = some (some (.ols z.1)) ∧ z.1[n]? = some (.ols z.2) := by
  unfold innerOf at h
  split at h
  · rename_i ds e
    split at h
    · rename_i es e2
      cases h
      exact ⟨olsOf_some e, e2⟩
    · cases h
  · cases h
/-- name[n].append(constant) -/
def mAppIx (i n : Nat) (e : D) : M D := mB (mGet fun ρ => innerOf n ρ[i]?) fun z => mB (mO (szok z.2.length)) fun _ => mB (mPut i (.ols (z.1.set n (.ols (z.2 ++ [e]))))) fun _ => mP .non
theorem sim_appIx {i n : Nat} {w : V} {e : D} (hr : ∀ R, Rep K ct.b R w e) : SimF K ct ms vp W (tBM K "list" rAppend (tOp (rIxA K) (tVar i) (tC (.int (n : Int)))) (tCons (tC w) tNil)) (mAppIx i n e) := fun H0 ρ σ R H ok Q q => by
  obtain ⟨⟨ds, es⟩, hz, q⟩ := Po.get (Po.bind q)
  obtain ⟨h1, h2⟩ := innerOf_some hz
  obtain ⟨a, vs, c, ws, x1, x2, x3, x4, x5, x6, put⟩ := ok.inner h1 h2
  obtain ⟨u, z, q⟩ := Po.opt (Po.bind q)
  have q := Po.put q
  have at_ : atI vs (n : Int) = some (.ref c) := by
    unfold atI ixN
    have := (List.getElem?_eq_some_iff.mp x4).1
    rw [if_pos (by omega), if_pos (by omega)]
    simpa using x4
  refine ⟨.ref a, x1, .inl ⟨a, vs, (n : Int), .ref c, rfl, rfl, sql0 x2, at_, .inl ⟨rfl, _, .inl (.inl x5)⟩, ?_⟩⟩
  exact ⟨c, ws, w, rfl, rfl, x5, by rw [x6]; exact szok_lt z, q .non R _ (Gr.refl _ _) (put w e (hr R)) .non⟩
end
end Y

namespace Y
open PySem PySem.Spec PyProof.Rows L2
def g_is_between : Stm :=
      (mSeq (mIfS (mOr (mTest (mIsi .bool (mVar 0))) (mNot (mTest (mIsi .int (mVar 0)))))
      (mRet (mP (.bl false)))
      mNext)
      (mRet (mChain oLe oLe (mVar 1) (mVar 0) (mVar 2))))
def m_is_between : List D → Ans := mkFn 3 3 [] g_is_between
def g_is_node : Stm :=
      (mSeq (mIfS (mOr (mNot (mTest (mIsi .tuple (mVar 0)))) (mOr (mTest (mOp oEqA (mLenV 0) (mP (.int 0)))) (mNot (mTest (mIsi .str (mIxAV 0 (mP (.int 0))))))))
      (mRet (mP (.bl false)))
      mNext)
      (mSeq (mSet 2 (mIxAV 0 (mP (.int 0))))
      (mSeq (mIfS (mTest (mOp (oIn false) (mVar 2) (mP (.tup [.str "<", .str "<=", .str "=", .str "!=", .str ">=", .str ">"]))))
      (mRet (mAndV (mOp oEqA (mLenV 0) (mP (.int 3))) (mAndV (frz (mCall [] (noX m_is_between) (bCons (mIxAV 0 (mP (.int 1))) (bCons (mP (.int 0)) (bCons (mOp oSub (mVar 1) (mP (.int 1))) bNil))))) (frz (mCall [] (noX m_is_between) (bCons (mIxAV 0 (mP (.int 2))) (bCons (mOp oSub (mP (.int 1)) (mP (.int (1000000000000000000)))) (bCons (mOp oSub (mP (.int (1000000000000000000))) (mP (.int 1))) bNil))))))))
      mNext)
      (mSeq (mIfS (mTest (mOp oEqA (mVar 2) (mP (.str "missing"))))
      (mRet (mAndV (mOp oEqA (mLenV 0) (mP (.int 2))) (frz (mCall [] (noX m_is_between) (bCons (mIxAV 0 (mP (.int 1))) (bCons (mP (.int 0)) (bCons (mOp oSub (mVar 1) (mP (.int 1))) bNil)))))))
      mNext)
      (mSeq (mIfS (mOr (mTest (mOp oEqA (mVar 2) (mP (.str "negation")))) (mTest (mOp oEqA (mVar 2) (mP (.str "untrue")))))
      (mRet (mOp oEqA (mLenV 0) (mP (.int 2))))
      mNext)
      (mRet (mOrV (mOp oEqA (mVar 2) (mP (.str "both"))) (mOp oEqA (mVar 2) (mP (.str "either"))))))))))
def m_is_node : List D → Ans := mkFn 2 3 [] g_is_node
def g_parts_of : Stm :=
      (mSeq (mIfS (mOr (mTest (mOp (oIn false) (mIxAV 0 (mP (.int 0))) (mP (.tup [.str "<", .str "<=", .str "=", .str "!=", .str ">=", .str ">"])))) (mTest (mOp oEqA (mIxAV 0 (mP (.int 0))) (mP (.str "missing")))))
      (mRet (mTup mNil))
      mNext)
      (mRet (mSlA (mVar 0) (mPSome (mP (.int 1))) mPNo)))
def m_parts_of : List D → Ans := mkFn 1 1 [] g_parts_of
def g_check_predicate_1 : Stm :=
      (mSeq (mSet 4 (mPop 3))
      (mSeq (mAug 2 (fun i j => i + j) (mP (.int 1)))
      (mSeq (mIfS (mOr (mTest (mOp oGt (mVar 2) (mP (.int (16))))) (mNot (mTru (frz (mCall [] (noX m_is_node) (bCons (mVar 4) (bCons (mVar 1) bNil)))))))
      (mRaise1 1 (mCons (mVar 0) mNil))
      mNext)
      (mDrop (mExtend 3 (mCbL oList (mCons (frz (mCall [] (noX m_parts_of) (bCons (mVar 4) bNil))) mNil)))))))
def g_check_predicate : Stm :=
      (mSeq (mSet 2 (mP (.int 0)))
      (mSeq (mSet 3 (mLst (mCons (mVar 0) mNil)))
      (mWhile (mTruV 3)
      g_check_predicate_1 100000)))
def m_check_predicate : List D → Ans := mkFn 2 5 [] g_check_predicate
def m_comparisons_of : Nat → List D → Ans
  | 0 => fun _ => .st
  | fu + 1 => mkFn 1 3 []
      (mSeq (mIfS (mTest (mOp (oIn false) (mIxAV 0 (mP (.int 0))) (mP (.tup [.str "<", .str "<=", .str "=", .str "!=", .str ">=", .str ">"]))))
      (mRet (mLst (mCons (mVar 0) mNil)))
      mNext)
      (mRet (mLc2 (mItA (frz (mCall [] (noX m_parts_of) (bCons (mVar 0) bNil)))) (kName 1) (mP true) (mItA (frz (mCall [] (noX (m_comparisons_of fu)) (bCons (mVar 1) bNil)))) (kName 2) (mP true) (mVar 2) [1, 2] [2])))
def g_compares : Stm :=
      (mSeq (mIfS (mTest (mOp oEqA (mVar 1) (mP (.str "<"))))
      (mRet (mOp oLt (mVar 0) (mVar 2)))
      mNext)
      (mSeq (mIfS (mTest (mOp oEqA (mVar 1) (mP (.str "<="))))
      (mRet (mOp oLe (mVar 0) (mVar 2)))
      mNext)
      (mSeq (mIfS (mTest (mOp oEqA (mVar 1) (mP (.str "="))))
      (mRet (mOp oEqA (mVar 0) (mVar 2)))
      mNext)
      (mSeq (mIfS (mTest (mOp oEqA (mVar 1) (mP (.str "!="))))
      (mRet (mOp oNeA (mVar 0) (mVar 2)))
      mNext)
      (mSeq (mIfS (mTest (mOp oEqA (mVar 1) (mP (.str ">="))))
      (mRet (mOp oGe (mVar 0) (mVar 2)))
      mNext)
      (mRet (mOp oGt (mVar 0) (mVar 2))))))))
def m_compares : List D → Ans := mkFn 3 3 [] g_compares
def g_comparison_truth : Stm :=
      (mSeq (mIfS (mTest (mOp oIsA (mVar 0) (mP .non)))
      (mRet (mP .non))
      mNext)
      (mRet (mCall [] (noX m_compares) (bCons (mVar 0) (bCons (mVar 1) (bCons (mVar 2) bNil))))))
def m_comparison_truth : List D → Ans := mkFn 3 3 [] g_comparison_truth
def g_both_truth : Stm :=
      (mSeq (mIfS (mTest (mOp (oIn false) (mP (.bl false)) (mVar 0)))
      (mRet (mP (.bl false)))
      mNext)
      (mRet (mIf (mTest (mOp (oIn false) (mP .non) (mVar 0))) (mP .non) (mP (.bl true)))))
def m_both_truth : List D → Ans := mkFn 1 1 [] g_both_truth
def g_either_truth : Stm :=
      (mSeq (mIfS (mTest (mOp (oIn false) (mP (.bl true)) (mVar 0)))
      (mRet (mP (.bl true)))
      mNext)
      (mRet (mIf (mTest (mOp (oIn false) (mP .non) (mVar 0))) (mP .non) (mP (.bl false)))))
def m_either_truth : List D → Ans := mkFn 1 1 [] g_either_truth
def g_negation_truth : Stm :=
      (mRet (mIf (mTest (mOp oIsA (mVar 0) (mP .non))) (mP .non) (mNotV (mVar 0))))
def m_negation_truth : List D → Ans := mkFn 1 1 [] g_negation_truth
def m_truth : Nat → List D → Ans
  | 0 => fun _ => .st
  | fu + 1 => mkFn 2 5 []
      (mSeq (mSet 2 (mIxAV 0 (mP (.int 0))))
      (mSeq (mIfS (mTest (mOp (oIn false) (mVar 2) (mP (.tup [.str "<", .str "<=", .str "=", .str "!=", .str ">=", .str ">"]))))
      (mRet (mCall [] (noX m_comparison_truth) (bCons (mIxAV 1 (mIxAV 0 (mP (.int 1)))) (bCons (mVar 2) (bCons (mIxAV 0 (mP (.int 2))) bNil)))))
      mNext)
      (mSeq (mIfS (mTest (mOp oEqA (mVar 2) (mP (.str "missing"))))
      (mRet (mOp oIsA (mIxAV 1 (mIxAV 0 (mP (.int 1)))) (mP .non)))
      mNext)
      (mSeq (mSet 3 (mLc (mItA (frz (mCall [] (noX m_parts_of) (bCons (mVar 0) bNil)))) (kName 4) (mP true) (frz (mCall [] (noX (m_truth fu)) (bCons (mVar 4) (bCons (mVar 1) bNil)))) [4]))
      (mSeq (mIfS (mTest (mOp oEqA (mVar 2) (mP (.str "both"))))
      (mRet (mCall [] (noX m_both_truth) (bCons (mVar 3) bNil)))
      mNext)
      (mSeq (mIfS (mTest (mOp oEqA (mVar 2) (mP (.str "either"))))
      (mRet (mCall [] (noX m_either_truth) (bCons (mVar 3) bNil)))
      mNext)
      (mSeq (mIfS (mTest (mOp oEqA (mVar 2) (mP (.str "negation"))))
      (mRet (mCall [] (noX m_negation_truth) (bCons (mIxAV 3 (mP (.int 0))) bNil)))
      mNext)
      (mRet (mOp oNotA (mIxAV 3 (mP (.int 0))) (mP (.bl true)))))))))))
def g_holds : Stm :=
      (mRet (mOp oIsA (frz (mCall [] (noX (m_truth 20)) (bCons (mVar 0) (bCons (mVar 1) bNil)))) (mP (.bl true))))
def m_holds : List D → Ans := mkFn 2 2 [] g_holds
def g_numbers_of : Stm :=
      (mSeq (mSet 2 (mLc2 (mItA (mVar 0)) (kName 3) (mP true) (mItA (frz (mCall [] (noX (m_comparisons_of 20)) (bCons (mVar 3) bNil)))) (kName 4) (mP true) (mVar 4) [3, 4] [4]))
      (mRet (mSortC (mItA (mVar 2)) (kName 4) (mTest (mOp oEqA (mIxAV 4 (mP (.int 1))) (mVar 1))) (mIxAV 4 (mP (.int 2))) [4])))
def m_numbers_of : List D → Ans := mkFn 2 5 [] g_numbers_of
def g_class_starts : Stm :=
      (mRet (mSortS (frz (mOp oAddA (frz (mCbL oList (mCons (mVar 0) mNil))) (frz (mLc (mItA (mVar 0)) (kName 1) (mP true) (frz (mOp oAddA (mVar 1) (mP (.int 1)))) [1]))))))
def m_class_starts : List D → Ans := mkFn 1 2 [] g_class_starts
def g_stand_ins : Stm :=
      (mSeq (mIfS (mNot (mTru (mVar 0)))
      (mRet (mLst (mCons (mP .non) (mCons (mP (.int 0)) mNil))))
      mNext)
      (mRet (mOp oAddA (frz (mLst (mCons (mP .non) (mCons (mOp oSub (mIxAV 0 (mP (.int 0))) (mP (.int 1))) mNil)))) (frz (mCall [] (noX m_class_starts) (bCons (mVar 0) bNil))))))
def m_stand_ins : List D → Ans := mkFn 1 1 [] g_stand_ins
def g_combine_1 : Stm :=
      (mSet 3 (mLc2 (mItA (mVar 3)) (kName 4) (mP true) (mItA (mVar 2)) (kName 5) (mP true) (mTup (mStar (mVar 4) (mCons (mVar 5) mNil))) [4, 5] [5]))
def g_combine_2 : Stm :=
      (mSet 1 (mOp oMulA (mVar 1) (mLenV 2)))
def g_combine : Stm :=
      (mSeq (mSet 1 (mP (.int 1)))
      (mSeq (mFor (mItA (mVar 0)) (kName 2)
      g_combine_2)
      (mSeq (mIfS (mTest (mOp oGt (mVar 1) (mP (.int (256)))))
      (mRaise1 2 (mCons (mVar 1) mNil))
      mNext)
      (mSeq (mIfS (mTest (mOp oEqA (mVar 1) (mP (.int 0))))
      (mRet (mLst mNil))
      mNext)
      (mSeq (mSet 3 (mLst (mCons (mTup mNil) mNil)))
      (mSeq (mFor (mItA (mVar 0)) (kName 2)
      g_combine_1)
      (mRet (mVar 3))))))))
def m_combine : List D → Ans := mkFn 1 6 [] g_combine
def g_boxes_1 : Stm :=
      (mDrop (frz (mCall [] m_check_predicate (bKw 1 1 (bCons (mVar 2) bNil) (mCons (mVar 1) mNil) (fun as zs => as ++ (zs ++ ([] : List D).map Sum.inr))))))
def g_boxes : Stm :=
      (mSeq (mFor (mItA (mVar 0)) (kName 2)
      g_boxes_1)
      (mRet (mCall [] m_combine (bCons (frz (mLc (mRg1 (mCons (mVar 1) mNil)) (kName 3) (mP true) (frz (mCall [] (noX m_stand_ins) (bCons (frz (mCall [] (noX m_numbers_of) (bCons (mVar 0) (bCons (mVar 3) bNil)))) bNil))) [3])) bNil))))
def m_boxes : List D → Ans := mkFn 2 4 [] g_boxes
def g_worlds_1 : Stm :=
      (mSeq (mSet 4 (mCb oTuple (mCons (frz (mLc (mItA (mVar 0)) (kName 5) (mP true) (frz (mCall [] (noX m_holds) (bCons (mVar 5) (bCons (mVar 3) bNil)))) [5])) mNil)))
      (mIfS (mTest (mInD true (mVar 4) 2))
      (mSetD 2 (mVar 3) (mVar 4))
      mNext))
def g_worlds : Stm :=
      (mSeq (mSet 2 mNewD)
      (mSeq (mFor (mItA (frz (mCall [] m_boxes (bKw 1 1 (bCons (mVar 0) bNil) (mCons (mVar 1) mNil) (fun as zs => as ++ (zs ++ ([] : List D).map Sum.inr)))))) (kName 3)
      g_worlds_1)
      (mRet (mItems 2))))
def m_worlds : List D → Ans := mkFn 2 6 [] g_worlds
def g_stream : Stm :=
      (mRet (mLst (mCons (frz (mCbL oList (mCons (mVar 0) mNil))) (mCons (mP (.int 0)) (mCons (mP (.int 0)) (mCons (mP (.int 0)) mNil))))))
def m_stream : List D → Ans := mkFn 1 1 [] g_stream
def g_draw_1 : Stm :=
      (mSeq (mSet 4 (mOp oMod (mCb oInt (mCons (frz (mOp oAddA (frz (mOp oMulA (mVar 4) (mP (.int 48271)))) (frz (mOp oMulA (frz (mOp oAddA (frz (mOp oMulA (mVar 2) (mVar 2))) (mP (.int 5)))) (mP (.int 69621)))))) mNil)) (mP (.int 2147483647))))
      (mSet 4 (mOp oMod (mCb oInt (mCons (frz (mOp oAddA (frz (mOp oAddA (frz (mOp oMulA (frz (mOp oMulA (mVar 4) (mVar 4))) (mP (.int 40692)))) (frz (mOp oMulA (mVar 4) (mP (.int 1000000000039)))))) (mP (.int 7)))) mNil)) (mP (.int 2305843009213693951)))))
def g_draw_2 : Stm :=
      (mSeq (mSet 2 (mIxAV 0 (mP (.int 1))))
      (mSeq (mSet 3 (mOp oIxA (mIxAV 0 (mP (.int 0))) (mVar 2)))
      (mSeq (mSet 4 (mOp oAddA (frz (mOp oMulA (mP (.int 2)) (mCb oAbs (mCons (mVar 3) mNil)))) (mCb oInt (mCons (mOp oLt (mVar 3) (mP (.int 0))) mNil))))
      (mSeq (mIfS (mTest (mOp oLt (mVar 4) (frz (mOp oMulA (mP (.int 2)) (mOp oPow (mP (.int 10)) (mP (.int 18)))))))
      g_draw_1
      mNext)
      (mSeq (mSetIx 0 (frz (mOp oAddA (mVar 2) (mP (.int 1)))) (mP (.int 1)))
      (mSeq (mSetIx 0 (mVar 4) (mP (.int 2)))
      (mSetIx 0 (mP (.int 60)) (mP (.int 3)))))))))
def g_draw : Stm :=
      (mSeq (mIfS (mAnd (mOr (mTest (mOp oEqA (mIxAV 0 (mP (.int 2))) (mP (.int 0)))) (mTest (mOp oEqA (mIxAV 0 (mP (.int 3))) (mP (.int 0))))) (mTest (mOp oLt (mIxAV 0 (mP (.int 1))) (mCb oLen (mCons (mIxAV 0 (mP (.int 0))) mNil)))))
      g_draw_2
      mNext)
      (mSeq (mIfS (mTest (mOp oEqA (mIxAV 0 (mP (.int 3))) (mP (.int 0))))
      (mRet (mP (.int 0)))
      mNext)
      (mSeq (mSet 4 (mIxAV 0 (mP (.int 2))))
      (mSeq (mSetIx 0 (mOp oDiv (mVar 4) (mVar 1)) (mP (.int 2)))
      (mSeq (mSetIx 0 (mOp oSub (mIxAV 0 (mP (.int 3))) (mP (.int 1))) (mP (.int 3)))
      (mRet (mOp oMod (mCb oInt (mCons (mVar 4) mNil)) (mVar 1))))))))
def m_draw : List D → Ans := mkFn 2 5 [0] g_draw
def g_number : Stm :=
      (mSeq (mSet 2 (mCall [0] (noX m_draw) (bSlot 0 (bCons (mP (.int 4)) bNil))))
      (mSeq (mIfS (mTest (mOp oEqA (mVar 2) (mP (.int 3))))
      (mRet (mOp oSub (frz (mCall [0] (noX m_draw) (bSlot 0 (bCons (frz (mOp oAddA (frz (mOp oMulA (mP (.int 2)) (mVar 1))) (mP (.int 1)))) bNil)))) (mVar 1)))
      mNext)
      (mSeq (mIfS (mTest (mOp oEqA (mVar 2) (mP (.int 2))))
      (mRet (mOp oMulA (mOp oSub (mVar 1) (frz (mCall [0] (noX m_draw) (bSlot 0 (bCons (mP (.int 4)) bNil))))) (mOp oSub (mP (.int 1)) (frz (mOp oMulA (mP (.int 2)) (frz (mCall [0] (noX m_draw) (bSlot 0 (bCons (mP (.int 2)) bNil)))))))))
      mNext)
      (mRet (mOp oSub (frz (mCall [0] (noX m_draw) (bSlot 0 (bCons (mP (.int 13)) bNil)))) (mP (.int 6)))))))
def m_number : List D → Ans := mkFn 2 3 [0] g_number
def g_pool_1 : Stm :=
      (mIfS (mAnd (mTest (mOp oLt (mIxAV 4 (mVar 5)) (mOp oSub (mOp oPow (mP (.int 10)) (mP (.int 18))) (mP (.int 3))))) (mTest (mOp oEqA (frz (mCall [0] (noX m_draw) (bSlot 0 (bCons (mP (.int 2)) bNil)))) (mP (.int 0)))))
      (mDrop (mAppend 4 (mCons (frz (mOp oAddA (mIxAV 4 (mVar 5)) (frz (mCall [0] (noX m_draw) (bSlot 0 (bCons (mP (.int 3)) bNil)))))) mNil)))
      (mDrop (mAppend 4 (mCons (frz (mCall [0] (noX m_number) (bSlot 0 (bCons (mOp oSub (mOp oPow (mP (.int 10)) (mP (.int 18))) (mP (.int 1))) bNil)))) mNil))))
def g_pool_2 : Stm :=
      (mSeq (mSet 4 (mLst (mCons (frz (mCall [0] (noX m_number) (bSlot 0 (bCons (mOp oSub (mOp oPow (mP (.int 10)) (mP (.int 18))) (mP (.int 1))) bNil)))) mNil)))
      (mSeq (mFor (mRg1 (mCons (frz (mCall [0] (noX m_draw) (bSlot 0 (bCons (mOp oIxA (frz (mLst (mCons (mP (.int 8)) (mCons (mP (.int 7)) (mCons (mP (.int 2)) mNil))))) (mOp oSub (mVar 1) (mP (.int 1)))) bNil)))) mNil)) (kName 5)
      g_pool_1)
      (mDrop (mAppend 2 (mCons (mVar 4) mNil)))))
def g_pool : Stm :=
      (mSeq (mSet 2 (mLst mNil))
      (mSeq (mFor (mRg1 (mCons (mVar 1) mNil)) (kName 3)
      g_pool_2)
      (mRet (mVar 2))))
def m_pool : List D → Ans := mkFn 2 6 [0] g_pool
def g_leaf : Stm :=
      (mSeq (mSet 2 (mCall [0] (noX m_draw) (bSlot 0 (bCons (mP (.int 9)) bNil))))
      (mSeq (mIfS (mTest (mOp oEqA (mVar 2) (mP (.int 8))))
      (mRet (mTup (mCons (mOp oIxA (frz (mLst (mCons (mP (.str "both")) (mCons (mP (.str "either")) mNil)))) (frz (mCall [0] (noX m_draw) (bSlot 0 (bCons (mP (.int 2)) bNil))))) (mCons (mP (.int 0)) mNil))))
      mNext)
      (mSeq (mSet 3 (mCall [0] (noX m_draw) (bSlot 0 (bCons (mLenV 1) bNil))))
      (mSeq (mIfS (mTest (mOp oEqA (mVar 2) (mP (.int 7))))
      (mRet (mTup (mCons (mP (.str "missing")) (mCons (mVar 3) mNil))))
      mNext)
      (mSeq (mSet 4 (mOp oIxA (frz (mLst (mCons (mP (.str "<")) (mCons (mP (.str "<=")) (mCons (mP (.str "=")) (mCons (mP (.str "!=")) (mCons (mP (.str ">=")) (mCons (mP (.str ">")) mNil)))))))) (frz (mCall [0] (noX m_draw) (bSlot 0 (bCons (mP (.int 6)) bNil))))))
      (mRet (mTup (mCons (mVar 4) (mCons (mVar 3) (mCons (mOp oIxA (mIxAV 1 (mVar 3)) (frz (mCall [0] (noX m_draw) (bSlot 0 (bCons (mCb oLen (mCons (mIxAV 1 (mVar 3)) mNil)) bNil))))) mNil))))))))))
def m_leaf : List D → Ans := mkFn 2 5 [0] g_leaf
def g_recipe_1 : Stm :=
      (mSeq (mDrop (mAppend 3 (mCons (frz (mCall [0] (noX m_leaf) (bSlot 0 (bCons (mVar 1) bNil)))) mNil)))
      (mSet 4 (mOp oAddA (mVar 4) (mP (.int 1)))))
def g_recipe_2 : Stm :=
      (mSeq (mDrop (mAppend 3 (mCons (mTup (mCons (mOp oIxA (frz (mLst (mCons (mP (.str "both")) (mCons (mP (.str "either")) mNil)))) (mOp oMod (mCb oInt (mCons (mVar 7) mNil)) (mP (.int 2)))) (mCons (mVar 8) mNil))) mNil)))
      (mSet 4 (mOp oSub (frz (mOp oAddA (mVar 4) (mP (.int 1)))) (mVar 8))))
def g_recipe_3 : Stm :=
      (mSeq (mSet 7 (mCall [0] (noX m_draw) (bSlot 0 (bCons (mP (.int 8)) bNil))))
      (mSeq (mSet 8 (mVar 4))
      (mSeq (mIfS (mTest (mOp oLt (frz (mOp oAddA (mVar 6) (mP (.int 1)))) (mVar 5)))
      (mSet 8 (mCall [0] (noX m_draw) (bSlot 0 (bCons (frz (mOp oAddA (mVar 4) (mP (.int 1)))) bNil))))
      mNext)
      (mIfS (mOr (mTest (mOp oEqA (mVar 4) (mP (.int 0)))) (mAnd (mTest (mOp oLt (mVar 7) (mP (.int 4)))) (mTest (mOp oLt (frz (mOp oAddA (mVar 6) (mP (.int 1)))) (mVar 5)))))
      g_recipe_1
      (mIfS (mAnd (mTest (mOp oLt (mVar 7) (mP (.int 6)))) (mOr (mTest (mOp oLt (frz (mOp oAddA (mVar 6) (mP (.int 1)))) (mVar 5))) (mTest (mOp oEqA (mVar 4) (mP (.int 1))))))
      (mDrop (mAppend 3 (mCons (mTup (mCons (mOp oIxA (frz (mLst (mCons (mP (.str "negation")) (mCons (mP (.str "untrue")) mNil)))) (mOp oMod (mCb oInt (mCons (mVar 7) mNil)) (mP (.int 2)))) mNil)) mNil)))
      g_recipe_2)))))
def g_recipe : Stm :=
      (mSeq (mSet 3 (mLst mNil))
      (mSeq (mSet 4 (mP (.int 0)))
      (mSeq (mSet 5 (mOp oAddA (mP (.int 1)) (frz (mCall [0] (noX m_draw) (bSlot 0 (bCons (mVar 2) bNil))))))
      (mSeq (mFor (mRg1 (mCons (mVar 5) mNil)) (kName 6)
      g_recipe_3)
      (mRet (mVar 3))))))
def m_recipe : List D → Ans := mkFn 3 9 [0] g_recipe
def g_built_1 : Stm :=
      (mSeq (mSet 3 (mPop 1))
      (mDrop (mAppend 1 (mCons (mTup (mCons (mIxAV 2 (mP (.int 0))) (mCons (mVar 3) mNil))) mNil))))
def g_built_2 : Stm :=
      (mSeq (mSet 4 (mOp oSub (mLenV 1) (mIxAV 2 (mP (.int 1)))))
      (mSet 1 (mOp oAddA (frz (mSlA (mVar 1) mPNo (mPSome (mVar 4)))) (frz (mLst (mCons (frz (mOp oAddA (mTup (mCons (mIxAV 2 (mP (.int 0))) mNil)) (mCb oTuple (mCons (frz (mSlA (mVar 1) (mPSome (mVar 4)) mPNo)) mNil)))) mNil))))))
def g_built_3 : Stm :=
      (mIfS (mOr (mTest (mOp oEqA (mIxAV 2 (mP (.int 0))) (mP (.str "negation")))) (mTest (mOp oEqA (mIxAV 2 (mP (.int 0))) (mP (.str "untrue")))))
      g_built_1
      (mIfS (mOr (mTest (mOp oEqA (mIxAV 2 (mP (.int 0))) (mP (.str "both")))) (mTest (mOp oEqA (mIxAV 2 (mP (.int 0))) (mP (.str "either")))))
      g_built_2
      (mDrop (mAppend 1 (mCons (mVar 2) mNil)))))
def g_built : Stm :=
      (mSeq (mSet 1 (mLst mNil))
      (mSeq (mFor (mItA (mVar 0)) (kName 2)
      g_built_3)
      (mRet (mIxAV 1 (mP (.int 0))))))
def m_built : List D → Ans := mkFn 1 5 [] g_built
def g_compared : Stm :=
      (mSeq (mIfS (mTest (mOp oIsA (mVar 1) (mP .non)))
      (mRet (mP .non))
      mNext)
      (mSeq (mIfS (mTest (mOp oEqA (mVar 0) (mP (.str "<"))))
      (mRet (mOp oLt (mVar 1) (mVar 2)))
      mNext)
      (mSeq (mIfS (mTest (mOp oEqA (mVar 0) (mP (.str "<="))))
      (mRet (mOp oLe (mVar 1) (mVar 2)))
      mNext)
      (mSeq (mIfS (mTest (mOp oEqA (mVar 0) (mP (.str "="))))
      (mRet (mOp oEqA (mVar 1) (mVar 2)))
      mNext)
      (mSeq (mIfS (mTest (mOp oEqA (mVar 0) (mP (.str "!="))))
      (mRet (mOp oNeA (mVar 1) (mVar 2)))
      mNext)
      (mSeq (mIfS (mTest (mOp oEqA (mVar 0) (mP (.str ">="))))
      (mRet (mOp oGe (mVar 1) (mVar 2)))
      mNext)
      (mRet (mOp oGt (mVar 1) (mVar 2)))))))))
def m_compared : List D → Ans := mkFn 3 3 [] g_compared
def g_joined : Stm :=
      (mSeq (mSet 2 (mOp oEqA (mVar 0) (mP (.str "either"))))
      (mSeq (mIfS (mTest (mOp (oIn false) (mVar 2) (mVar 1)))
      (mRet (mVar 2))
      mNext)
      (mSeq (mIfS (mTest (mOp (oIn false) (mP .non) (mVar 1)))
      (mRet (mP .non))
      mNext)
      (mRet (mNotV (mVar 2))))))
def m_joined : List D → Ans := mkFn 2 3 [] g_joined
def g_judged_1 : Stm :=
      (mSeq (mSet 4 (mPop 2))
      (mDrop (mAppend 2 (mCons (mOp oNotA (mVar 4) (mP (.bl true))) mNil))))
def g_judged_2 : Stm :=
      (mSeq (mSet 4 (mPop 2))
      (mSeq (mIfS (mTest (mOp oNotA (mVar 4) (mP .non)))
      (mSet 4 (mNotV (mVar 4)))
      mNext)
      (mDrop (mAppend 2 (mCons (mVar 4) mNil)))))
def g_judged_3 : Stm :=
      (mSeq (mSet 5 (mOp oSub (mLenV 2) (mIxAV 3 (mP (.int 1)))))
      (mSet 2 (mOp oAddA (frz (mSlA (mVar 2) mPNo (mPSome (mVar 5)))) (frz (mLst (mCons (frz (mCall [] (noX m_joined) (bCons (mIxAV 3 (mP (.int 0))) (bCons (frz (mSlA (mVar 2) (mPSome (mVar 5)) mPNo)) bNil)))) mNil))))))
def g_judged_4 : Stm :=
      (mIfS (mTest (mOp oEqA (mIxAV 3 (mP (.int 0))) (mP (.str "missing"))))
      (mDrop (mAppend 2 (mCons (mOp oIsA (mIxAV 1 (mIxAV 3 (mP (.int 1)))) (mP .non)) mNil)))
      (mIfS (mTest (mOp oEqA (mIxAV 3 (mP (.int 0))) (mP (.str "untrue"))))
      g_judged_1
      (mIfS (mTest (mOp oEqA (mIxAV 3 (mP (.int 0))) (mP (.str "negation"))))
      g_judged_2
      (mIfS (mOr (mTest (mOp oEqA (mIxAV 3 (mP (.int 0))) (mP (.str "both")))) (mTest (mOp oEqA (mIxAV 3 (mP (.int 0))) (mP (.str "either")))))
      g_judged_3
      (mDrop (mAppend 2 (mCons (frz (mCall [] (noX m_compared) (bCons (mIxAV 3 (mP (.int 0))) (bCons (mIxAV 1 (mIxAV 3 (mP (.int 1)))) (bCons (mIxAV 3 (mP (.int 2))) bNil))))) mNil)))))))
def g_judged : Stm :=
      (mSeq (mSet 2 (mLst mNil))
      (mSeq (mFor (mItA (mVar 0)) (kName 3)
      g_judged_4)
      (mRet (mIxAV 2 (mP (.int 0))))))
def m_judged : List D → Ans := mkFn 2 6 [] g_judged
def g_alike_1 : Stm :=
      (mDrop (mAppend 2 (mCons (frz (mLst (mCons (mIxAV 5 (mVar 7)) (mCons (mIxAV 6 (mVar 7)) mNil)))) mNil)))
def g_alike_2 : Stm :=
      (mSeq (mIfS (mOr (mNot (mTest (mIsi2 (mVar 5)))) (mTest (mOp oNeA (mIsi .list (mVar 5)) (mIsi .list (mVar 6)))))
      (mRet (mP (.bl false)))
      mNext)
      (mSeq (mIfS (mTest (mOp oNeA (mLenV 5) (mLenV 6)))
      (mRet (mP (.bl false)))
      mNext)
      (mFor (mRg1 (mCons (mLenV 6) mNil)) (kName 7)
      g_alike_1)))
def g_alike_3 : Stm :=
      (mSeq (mIfS (mTest (mOp oEqA (mLenV 2) (mP (.int 0))))
      (mRet (mP (.bl true)))
      mNext)
      (mSeq (mSet 4 (mPop 2))
      (mSeq (mSet 5 (mIxAV 4 (mP (.int 0))))
      (mSeq (mSet 6 (mIxAV 4 (mP (.int 1))))
      (mIfS (mTest (mIsi2 (mVar 6)))
      g_alike_2
      (mIfS (mTest (mOp oIsA (mVar 6) (mP .non)))
      (mIfS (mTest (mOp oNotA (mVar 5) (mP .non)))
      (mRet (mP (.bl false)))
      mNext)
      (mIfS (mTest (mIsi .bool (mVar 6)))
      (mIfS (mOr (mNot (mTest (mIsi .bool (mVar 5)))) (mTest (mOp oNeA (mVar 5) (mVar 6))))
      (mRet (mP (.bl false)))
      mNext)
      (mIfS (mTest (mIsi .int (mVar 6)))
      (mIfS (mOr (mNot (mTest (mIsi .int (mVar 5)))) (mOr (mTest (mIsi .bool (mVar 5))) (mTest (mOp oNeA (mVar 5) (mVar 6)))))
      (mRet (mP (.bl false)))
      mNext)
      (mIfS (mOr (mNot (mTest (mIsi .str (mVar 5)))) (mTest (mOp oNeA (mVar 5) (mVar 6))))
      (mRet (mP (.bl false)))
      mNext)))))))))
def g_alike : Stm :=
      (mSeq (mSet 2 (mLst (mCons (frz (mLst (mCons (mVar 0) (mCons (mVar 1) mNil)))) mNil)))
      (mSeq (mFor (mRg1 (mCons (mP (.int 6000)) mNil)) (kName 3)
      g_alike_3)
      (mRet (mP (.bl false)))))
def m_alike : List D → Ans := mkFn 2 8 [] g_alike
def g_compared_with_1 : Stm :=
      (mIfS (mAnd (mTest (mOp oEqA (mLenV 4) (mP (.int 3)))) (mAnd (mTest (mOp oEqA (mIxAV 4 (mP (.int 1))) (mVar 1))) (mTest (mInV true (mIxAV 4 (mP (.int 2))) 2))))
      (mDrop (mAppend 2 (mCons (mIxAV 4 (mP (.int 2))) mNil)))
      mNext)
def g_compared_with_2 : Stm :=
      (mFor (mItA (mVar 3)) (kName 4)
      g_compared_with_1)
def g_compared_with : Stm :=
      (mSeq (mSet 2 (mLst mNil))
      (mSeq (mFor (mItA (mVar 0)) (kName 3)
      g_compared_with_2)
      (mRet (mCbL oAsc (mCons (mVar 2) mNil)))))
def m_compared_with : List D → Ans := mkFn 2 5 [] g_compared_with
def g_standing_list_1 : Stm :=
      (mSeq (mDrop (mAppend 1 (mCons (mIxAV 0 (mVar 2)) mNil)))
      (mIfS (mOr (mTest (mOp oEqA (frz (mOp oAddA (mVar 2) (mP (.int 1)))) (mLenV 0))) (mTest (mOp oGe (mOp oSub (mIxAV 0 (frz (mOp oAddA (mVar 2) (mP (.int 1))))) (mIxAV 0 (mVar 2))) (mP (.int 2)))))
      (mDrop (mAppend 1 (mCons (frz (mOp oAddA (mIxAV 0 (mVar 2)) (mP (.int 1)))) mNil)))
      mNext))
def g_standing_list : Stm :=
      (mSeq (mIfS (mTest (mOp oEqA (mLenV 0) (mP (.int 0))))
      (mRet (mLst (mCons (mP .non) (mCons (mP (.int 0)) mNil))))
      mNext)
      (mSeq (mSet 1 (mLst (mCons (mP .non) (mCons (mOp oSub (mIxAV 0 (mP (.int 0))) (mP (.int 1))) mNil))))
      (mSeq (mFor (mRg1 (mCons (mLenV 0) mNil)) (kName 2)
      g_standing_list_1)
      (mRet (mVar 1)))))
def m_standing_list : List D → Ans := mkFn 1 3 [] g_standing_list
def g_boxes_of_1 : Stm :=
      (mDrop (mAppend 4 (mCons (frz (mOp oAddA (mIxAV 2 (mVar 5)) (mTup (mCons (mVar 6) mNil)))) mNil)))
def g_boxes_of_2 : Stm :=
      (mFor (mItA (frz (mCall [] (noX m_standing_list) (bCons (frz (mCall [] (noX m_compared_with) (bCons (mVar 0) (bCons (mVar 3) bNil)))) bNil)))) (kName 6)
      g_boxes_of_1)
def g_boxes_of_3 : Stm :=
      (mSeq (mSet 4 (mLst mNil))
      (mSeq (mFor (mRg1 (mCons (mLenV 2) mNil)) (kName 5)
      g_boxes_of_2)
      (mSet 2 (mCbL oList (mCons (mVar 4) mNil)))))
def g_boxes_of : Stm :=
      (mSeq (mSet 2 (mLst (mCons (mTup mNil) mNil)))
      (mSeq (mFor (mRg1 (mCons (mVar 1) mNil)) (kName 3)
      g_boxes_of_3)
      (mRet (mVar 2))))
def m_boxes_of : List D → Ans := mkFn 2 7 [] g_boxes_of
def g_worlds_told : Stm :=
      (mSeq (mSet 2 (mLst mNil))
      (mSeq (mTryN (mIfS (mTest (mOp oEqA (mVar 1) (mP (.int 0))))
      (mSet 2 (mLst1 (mCall [] m_worlds (bApp (bCons (mVar 0) bNil) [.int (2)]))))
      (mSet 2 (mLst1 (mCall [] m_worlds (bKw 1 1 (bCons (mVar 0) bNil) (mCons (mVar 1) mNil) (fun as zs => as ++ (zs ++ ([] : List D).map Sum.inr)))))))
      [(3, fitsD [1] 3, fun c x => (mSet 2 (mLst (mCons (mP (.str "BadPredicate")) (mCons (mXf [1] c x) (mCons (mIsX 1 true c x) (mCons (mIsX 1 false c x) mNil))))))), (4, fitsD [2] 3, fun c x => (mSet 2 (mLst (mCons (mP (.str "TooWide")) (mCons (mXf [2] c x) (mCons (mIsX 2 true c x) (mCons (mP (.bl false)) mNil)))))))])
      (mRet (mMove 2))))
def m_worlds_told : List D → Ans := noX (mkFn 2 5 [] g_worlds_told)
def g_too_wide_1 : Stm :=
      (mDrop (mAppend 2 (mCons (frz (mLst (mCons (mTup (mCons (mP (.str ">")) (mCons (mVar 3) (mCons (frz (mOp oAddA (mVar 4) (frz (mOp oMulA (mP (.int 2)) (mVar 5))))) mNil)))) mNil))) mNil)))
def g_too_wide_2 : Stm :=
      (mSeq (mSet 4 (mCall [0] (noX m_number) (bSlot 0 (bCons (mOp oPow (mP (.int 10)) (mP (.int 17))) bNil))))
      (mFor (mRg1 (mCons (mOp oIxA (mOp oIxA (frz (mLst (mCons (frz (mLst (mCons (mP (.int 128)) mNil))) (mCons (frz (mLst (mCons (mP (.int 8)) (mCons (mP (.int 7)) mNil)))) (mCons (frz (mLst (mCons (mP (.int 3)) (mCons (mP (.int 3)) (mCons (mP (.int 2)) mNil))))) mNil))))) (mOp oSub (mVar 1) (mP (.int 1)))) (mVar 3)) mNil)) (kName 5)
      g_too_wide_1))
def g_too_wide : Stm :=
      (mSeq (mSet 2 (mLst mNil))
      (mSeq (mFor (mRg1 (mCons (mVar 1) mNil)) (kName 3)
      g_too_wide_2)
      (mRet (mVar 2))))
def m_too_wide : List D → Ans := mkFn 2 6 [0] g_too_wide
def g_law_1 : Stm :=
      (mSeq (mSet 16 (mCall [] (noX m_worlds_told) (bCons (mVar 12) (bCons (mVar 15) bNil))))
      (mSeq (mIfS (mNot (mTru (mPeek m_alike (bSlot 16 (bSlot 7 bNil)))))
      (mRet (mP (.bl false)))
      mNext)
      (mIfS (mTest (mOp oEqA (mLenV 16) (mP (.int 1))))
      (mDrop (mAppIx 16 0 .non))
      mNext)))
def g_law_2 : Stm :=
      (mSeq (mSet 13 (mCall [0] (noX m_draw) (bSlot 1 (bCons (frz (mOp oAddA (mLenV 12) (mP (.int 1)))) bNil))))
      (mSeq (mSet 14 (mOp oIxA (frz (mLst (mCons (mP (.str "both")) (mCons (mP .non) (mCons (frz (mLst (mCons (mP (.str "<")) (mCons (mP (.int 0)) (mCons (mP (.int 5)) mNil))))) (mCons (mTup (mCons (mP (.str "missing")) (mCons (mVar 2) mNil))) (mCons (mTup (mCons (mP (.str "both")) (mCons (mTup (mCons (mP (.str "<")) (mCons (mP (.int 0)) mNil))) mNil))) mNil))))))) (frz (mCall [0] (noX m_draw) (bSlot 1 (bCons (mP (.int 5)) bNil))))))
      (mSeq (mSet 12 (mOp oAddA (frz (mOp oAddA (frz (mOp oAddA (frz (mSlA (mVar 12) mPNo (mPSome (mVar 13)))) (frz (mLst (mCons (mVar 14) mNil))))) (frz (mSlA (mVar 12) (mPSome (mVar 13)) mPNo)))) (frz (mOp oMulA (frz (mLst (mCons (mTup mNil) mNil))) (frz (mCall [0] (noX m_draw) (bSlot 1 (bCons (mP (.int 2)) bNil))))))))
      (mSet 7 (mLst (mCons (mP (.str "BadPredicate")) (mCons (mVar 14) (mCons (mP (.bl true)) (mCons (mP (.bl false)) mNil)))))))))
def g_law_3 : Stm :=
      (mSeq (mSet 4 (mCall [0] (noX m_too_wide) (bSlot 1 (bCons (mVar 2) bNil))))
      (mSet 7 (mLst (mCons (mP (.str "TooWide")) (mCons (mOp oIxA (frz (mLst (mCons (mP (.int 258)) (mCons (mP (.int 288)) (mCons (mP (.int 384)) mNil))))) (mOp oSub (mVar 2) (mP (.int 1)))) (mCons (mP (.bl true)) (mCons (mP (.bl false)) mNil)))))))
def g_law_4 : Stm :=
      (mSeq (mDrop (mAppend 9 (mCons (mVar 11) mNil)))
      (mDrop (mAppend 8 (mCons (mTup (mCons (mVar 11) (mCons (mVar 10) mNil))) mNil))))
def g_law_5 : Stm :=
      (mSeq (mSet 11 (mCb oTuple (mCons (frz (mLc (mItA (mVar 4)) (kName 17) (mP true) (mOp oIsA (frz (mCall [] (noX m_judged) (bCons (mVar 17) (bCons (mVar 10) bNil)))) (mP (.bl true))) [17])) mNil)))
      (mIfS (mTest (mInP true (mVar 11) 9))
      g_law_4
      mNext))
def g_law_6 : Stm :=
      (mSeq (mSet 8 (mLst mNil))
      (mSeq (mSet 9 (mLst mNil))
      (mSeq (mFor (mItA (frz (mCall [] (noX m_boxes_of) (bCons (mVar 4) (bCons (mVar 2) bNil))))) (kName 10)
      g_law_5)
      (mSet 7 (mLst (mCons (mVar 8) mNil))))))
def g_law_7 : Stm :=
      (mDrop (mAppend 4 (mCons (frz (mCall [0] (noX m_recipe) (bSlot 1 (bCons (mVar 3) (bCons (mP (.int 5)) bNil))))) mNil)))
def g_law : Stm :=
      (mSeq (mSet 1 (mCall [] (noX m_stream) (bCons (mVar 0) bNil)))
      (mSeq (mSet 2 (mOp oAddA (mP (.int 1)) (frz (mCall [0] (noX m_draw) (bSlot 1 (bCons (mP (.int 3)) bNil))))))
      (mSeq (mSet 3 (mCall [0] (noX m_pool) (bSlot 1 (bCons (mVar 2) bNil))))
      (mSeq (mSet 4 (mLst mNil))
      (mSeq (mFor (mRg1 (mCons (frz (mCall [0] (noX m_draw) (bSlot 1 (bCons (mP (.int 5)) bNil)))) mNil)) (kName 5)
      g_law_7)
      (mSeq (mSet 6 (mCall [0] (noX m_draw) (bSlot 1 (bCons (mP (.int 8)) bNil))))
      (mSeq (mIfS (mTest (mOp oEqA (mVar 6) (mP (.int 7))))
      g_law_3
      g_law_6)
      (mSeq (mSet 12 (mLc (mItA (mVar 4)) (kName 17) (mP true) (frz (mCall [] (noX m_built) (bCons (mVar 17) bNil))) [17]))
      (mSeq (mIfS (mTest (mOp oEqA (mVar 6) (mP (.int 6))))
      g_law_2
      mNext)
      (mSeq (mSet 15 (mVar 2))
      (mSeq (mIfS (mAnd (mTest (mOp oEqA (mVar 2) (mP (.int 2)))) (mTest (mOp oEqA (frz (mCall [0] (noX m_draw) (bSlot 1 (bCons (mP (.int 2)) bNil)))) (mP (.int 1)))))
      (mSet 15 (mP (.int 0)))
      mNext)
      (mSeq (mFor (mRg1 (mCons (mP (.int 2)) mNil)) (kName 5)
      g_law_1)
      (mRet (mP (.bl true)))))))))))))))
def m_law : List D → Ans := mkFn 1 18 [] g_law
/-! ## the law's stream -/
/-- where a stream stands -/
structure Strm' where
  ns : List Int
  p : Nat
  n : Int
  c : Int
def stD (s : Strm') : D := .ols [.lst (s.ns.map D.int), .int s.p, .int s.n, .int s.c]
def Strm'.Ok (s : Strm') : Prop := s.ns.length ≤ 63 ∧ s.p ≤ s.ns.length
def cellN (a : Int) (p : Nat) : Int :=
  let x := 2 * (if a < 0 then -a else a) + (if a < 0 then 1 else 0)
  if x < 2 * 10 ^ 18 then
    let y := (x * 48271 + ((p : Int) * p + 5) * 69621) % 2147483647
    (y * y * 40692 + y * 1000000000039 + 7) % 2305843009213693951
  else x
/-- a cell is read, if it is due -/
def fillS (s : Strm') : Strm' := if (s.n = 0 ∨ s.c = 0) ∧ s.p < s.ns.length then ⟨s.ns, s.p + 1, cellN (s.ns.getD s.p 0) s.p, 60⟩ else s
def drawV (s : Strm') (m : Int) : Int := if (fillS s).c = 0 then 0 else (fillS s).n % m
def drawS (s : Strm') (m : Int) : Strm' := if (fillS s).c = 0 then fillS s else ⟨s.ns, (fillS s).p, (fillS s).n / m, (fillS s).c - 1⟩
theorem fillS_ns (s : Strm') : (fillS s).ns = s.ns := by unfold fillS; split <;> rfl
theorem fillS_ok {s : Strm'} (h : s.Ok) : (fillS s).Ok := by
  unfold fillS
  split
  · rename_i q
    exact ⟨h.1, q.2⟩
  · exact h
@[simp] theorem drawS_ok {s : Strm'} (h : s.Ok) (m : Int) : (drawS s m).Ok := by
  have := fillS_ok h
  unfold drawS
  split
  · exact this
  · exact ⟨h.1, by have := this.2; rw [fillS_ns] at this; exact this⟩
theorem drawV_nn (s : Strm') {m : Int} (h : 0 < m) : 0 ≤ drawV s m := by
  unfold drawV
  split
  · exact Int.le_refl 0
  · exact Int.emod_nonneg _ (by omega)
theorem drawV_lt (s : Strm') {m : Int} (h : 0 < m) : drawV s m < m := by
  unfold drawV
  split
  · exact h
  · exact Int.emod_lt_of_pos _ h
def mixN (x : Int) (p : Nat) : Int := (((x * 48271 + ((p : Int) * p + 5) * 69621) % 2147483647) * ((x * 48271 + ((p : Int) * p + 5) * 69621) % 2147483647) * 40692 + ((x * 48271 + ((p : Int) * p + 5) * 69621) % 2147483647) * 1000000000039 + 7) % 2305843009213693951
theorem draw_mix {e0 e1 e3 : Option D} {x : Int} {p : Nat} (hp : p ≤ 63) : g_draw_1 [e0, e1, some (.int p), e3, some (.int x)] = .nx [e0, e1, some (.int p), e3, some (.int (mixN x p))] := by
  have sk1 : sml 48271 = true := sml_of (by omega)
  have sk2 : sml 69621 = true := sml_of (by omega)
  have sk3 : sml 40692 = true := sml_of (by omega)
  have sk4 : sml 1000000000039 = true := sml_of (by omega)
  have spp : sml (p : Int) = true := sml_of (by omega)
  have sy : sml ((x * 48271 + ((p : Int) * p + 5) * 69621) % 2147483647) = true := sml_of (by
    have := Int.emod_nonneg (x * 48271 + ((p : Int) * p + 5) * 69621) (show (2147483647 : Int) ≠ 0 by decide)
    have := Int.emod_lt_of_pos (x * 48271 + ((p : Int) * p + 5) * 69621) (show (0 : Int) < 2147483647 by decide)
    omega)
  unfold g_draw_1 mixN
  have o1 : (0 : Int) < 2147483647 := by decide
  have o2 : (0 : Int) < 2305843009213693951 := by decide
  generalize (2147483647 : Int) = M1 at o1 sy ⊢
  generalize (2305843009213693951 : Int) = M2 at o2 ⊢
  simp [sk1, sk2, sk3, sk4, spp, sy, o1, o2]
theorem draw_fill {e1 e2 e3 e4 : Option D} {ns : List Int} {p : Nat} {n c : Int} (hp : p ≤ 63) (hl : p < ns.length) :
    ∃ f2 f3 f4, g_draw_2 [some (stD ⟨ns, p, n, c⟩), e1, e2, e3, e4] = .nx [some (stD ⟨ns, p + 1, cellN (ns.getD p 0) p, 60⟩), e1, f2, f3, f4] := by
  have e0 : (ns.map D.int)[p]? = some (.int (ns.getD p 0)) := by simp [List.getElem?_map, List.getD, hl]
  generalize ns.getD p 0 = a at e0
  have s2 : sml 2 = true := sml_of (by omega)
  have s10 : oPow (.int 10) (.int 18) = some (.int (10 ^ 18)) := by simp [oPow]
  generalize ex : 2 * (if a < 0 then -a else a) + (if a < 0 then (1 : Int) else 0) = x
  have hx : cellN a p = if x < 2 * 10 ^ 18 then mixN x p else x := by rw [← ex]; rfl
  by_cases hb2 : x < 2000000000000000000
  · rw [if_pos (show x < 2 * 10 ^ 18 from hb2)] at hx
    simp [g_draw_2, stD, e0, s2, s10, ex, hb2, draw_mix hp, hx]
  · rw [if_neg (show ¬ x < 2 * 10 ^ 18 from hb2)] at hx
    simp [g_draw_2, stD, e0, s2, s10, ex, hb2, hx]
theorem lg_ok {m : Int} (h0 : 0 < m) (h : m ≤ 10000000000000000000) : m.natAbs.log2 < 9000 := by
  have h1 : m.natAbs ≠ 0 := by omega
  refine Nat.lt_trans ((Nat.log2_lt h1).mpr (show m.natAbs < 2 ^ 64 by have : (2 : Nat) ^ 64 = 18446744073709551616 := by decide
                                                                       omega)) (by decide)
@[simp] theorem draw_ok {s : Strm'} {m : Int} (hs : s.Ok) (hm : 0 < m) (hb' : m ≤ 10000000000000000000) : m_draw [stD s, .int m] = .ok (.int (drawV s m)) [stD (drawS s m)] := by
  have hb := lg_ok hm hb'
  obtain ⟨ns, p, n, c⟩ := s
  have hp : p ≤ 63 := Nat.le_trans hs.2 hs.1
  by_cases h1 : (n = 0 ∨ c = 0) ∧ p < ns.length
  · obtain ⟨h1, hl⟩ := h1
    have h2 : fillS ⟨ns, p, n, c⟩ = ⟨ns, p + 1, cellN (ns.getD p 0) p, 60⟩ := if_pos ⟨h1, hl⟩
    have v1 : drawV ⟨ns, p, n, c⟩ m = cellN (ns.getD p 0) p % m := by unfold drawV; rw [h2]; exact if_neg (show ¬ (60 : Int) = 0 by decide)
    have v2 : drawS ⟨ns, p, n, c⟩ m = ⟨ns, p + 1, cellN (ns.getD p 0) p / m, 59⟩ := by unfold drawS; rw [h2]; exact if_neg (show ¬ (60 : Int) = 0 by decide)
    rw [v1, v2]
    obtain ⟨f2, f3, f4, e⟩ := draw_fill (e1 := some (.int m)) (e2 := none) (e3 := none) (e4 := none) (n := n) (c := c) hp hl
    have l1 : (p : Int) < ns.length := by omega
    by_cases hn : n = 0
    · simp [m_draw, g_draw, stD] at e ⊢
      simp [hn, l1] at e ⊢
      simp [e, hm, hb]
    · have hc : c = 0 := h1.resolve_left hn
      simp [m_draw, g_draw, stD] at e ⊢
      simp [hn, hc, l1] at e ⊢
      simp [e, hm, hb]
  · have h2 : fillS ⟨ns, p, n, c⟩ = ⟨ns, p, n, c⟩ := if_neg h1
    by_cases hc : c = 0
    · subst hc
      have h3 : ¬ p < ns.length := fun z => h1 ⟨.inr rfl, z⟩
      by_cases hn : n = 0
      · subst hn
        simp [m_draw, g_draw, stD, drawV, drawS, h2, h3]
      · simp [m_draw, g_draw, stD, drawV, drawS, h2, h3, hn]
    · by_cases hn : n = 0
      · subst hn
        have h3 : ¬ p < ns.length := fun z => h1 ⟨.inl rfl, z⟩
        simp [m_draw, g_draw, stD, drawV, drawS, h2, h3, hc, hm, hb]
      · simp [m_draw, g_draw, stD, drawV, drawS, h2, hn, hc, hm, hb]
@[simp] theorem stream_ok (ns : List Int) (h : ns.length ≤ 63) : m_stream [.scr ns] = .ok (stD ⟨ns, 0, 0, 0⟩) [] := by
  simp [m_stream, g_stream, stD]
theorem stream_Ok {ns : List Int} (h : ns.length ≤ 63) : Strm'.Ok ⟨ns, 0, 0, 0⟩ := ⟨h, Nat.zero_le _⟩
@[simp] theorem isO_stD (s : Strm') : (stD s).isO = true := rfl

/-! ## the law's comparison: a plain value is alike to itself -/
mutual
def D.pln : D → Bool
  | .non => true | .bl _ => true | .int _ => true | .str _ => true
  | .lst ds => plns ds | .tup ds => plns ds
  | .ols _ => false | .ins _ _ _ => false | .scr _ => false | .dct _ _ _ => false | .odc _ _ _ => false | .oin _ _ _ => false
def plns : List D → Bool
  | [] => true
  | d :: ds => d.pln && plns ds
end
mutual
def D.sz : D → Nat
  | .lst ds => 1 + szs ds | .tup ds => 1 + szs ds
  | .non => 1 | .bl _ => 1 | .int _ => 1 | .str _ => 1 | .ols _ => 1 | .ins _ _ _ => 1 | .scr _ => 1 | .dct _ _ _ => 1 | .odc _ _ _ => 1 | .oin _ _ _ => 1
def szs : List D → Nat
  | [] => 0
  | d :: ds => d.sz + szs ds
end
theorem sz_pos (d : D) : 1 ≤ d.sz := by cases d <;> simp [D.sz] <;> omega
@[simp] theorem szs_nil : szs [] = 0 := by simp [szs]
@[simp] theorem szs_cons {d : D} {ds : List D} : szs (d :: ds) = d.sz + szs ds := by simp [szs]
@[simp] theorem szs_app {ds es : List D} : szs (ds ++ es) = szs ds + szs es := by
  induction ds with
  | nil => simp
  | cons d ds ih => simp [ih]; omega
theorem szs_len (ds : List D) : ds.length ≤ szs ds := by
  induction ds with
  | nil => simp
  | cons d ds ih => simp; have := sz_pos d; omega
theorem plns_all {ds : List D} : plns ds = true ↔ ∀ d ∈ ds, d.pln = true := by
  induction ds with
  | nil => simp [plns]
  | cons d ds ih => simp [plns, ih]
theorem pln_isO {d : D} (h : d.pln = true) : d.isO = false := by cases d <;> first | rfl | simp [D.pln] at h
theorem pln_fz {d : D} (h : d.pln = true) : d.fz = d := by cases d <;> first | (simp [D.fz]; done) | simp [D.pln] at h
def prD (x : D) : D := .lst [x, x]
theorem alike_push {told due kk e4 x : Option D} {ys ds : List D} {d : D} (hd : d = .lst ds ∨ d = .tup ds) (hp : plns ds = true) (hl : ys.length + ds.length ≤ 6000) :
    ∃ e7, mFor (mRg1 (mCons (mLenV 6) mNil)) (kName 7) g_alike_1 [told, due, some (.ols (ys.map prD)), kk, e4, some d, some d, x] = .nx [told, due, some (.ols ((ys ++ ds).map prD)), kk, e4, some d, some d, e7] := by
  have key := loop_nx (tg := kName 7) (body := g_alike_1) (I := fun i ρ => ∃ e7, ρ = [told, due, some (.ols ((ys ++ ds.take i).map prD)), kk, e4, some d, some d, e7])
    (ds := upto ds.length) (ρ := [told, due, some (.ols (ys.map prD)), kk, e4, some d, some d, x]) (k := 0) ⟨x, by simp⟩ (fun i c ρ hi ⟨e7, hρ⟩ => by
      subst hρ
      obtain ⟨hlt, h3⟩ := upto_at hi
      subst h3
      have e : ds[i]? = some ds[i] := List.getElem?_eq_getElem hlt
      have eo : ds[i].isO = false := pln_isO (plns_all.mp hp _ (List.getElem_mem hlt))
      have ef : ds[i].fz = ds[i] := pln_fz (plns_all.mp hp _ (List.getElem_mem hlt))
      have lz : ((ys ++ ds.take (0 + i)).map prD).length ≤ 100000 := by simp; omega
      have sz : szok ((ys ++ ds.take (0 + i)).map prD).length = some () := szok_of lz
      have tk : ds.take (0 + i + 1) = ds.take (0 + i) ++ [ds[i]] := by
        rw [Nat.zero_add, List.take_add_one, e]
        rfl
      refine ⟨[told, due, some (.ols ((ys ++ ds.take (0 + i)).map prD)), kk, e4, some d, some d, some (.int (i : Int))], _, rfl, .inl ?_, ⟨some (.int (i : Int)), rfl⟩⟩
      rw [tk, ← List.append_assoc, List.map_append (l₂ := [ds[i]])]
      generalize (ys ++ ds.take (0 + i)).map prD = zs at sz ⊢
      rcases hd with rfl | rfl <;> simp [g_alike_1, e, eo, ef, sz, prD])
  obtain ⟨ρ', e1, e7, h⟩ := key
  refine ⟨e7, ?_⟩
  have r : rg1 [.int (ds.length : Int)] = some (upto ds.length) := rg1_n (by omega)
  have e2 : ρ' = [told, due, some (.ols ((ys ++ ds).map prD)), kk, e4, some d, some d, e7] := by
    rw [h]
    simp
  rw [← e2, ← e1]
  rcases hd with rfl | rfl <;> simp [-rg1_int, r]
theorem alike_turn {told due kk e4 e5 e6 e7 : Option D} {ys : List D} {x : D} (hx : x.pln = true) (hl : ys.length + x.sz ≤ 6000) :
    ∃ zs f7, szs zs + 1 = x.sz ∧ plns zs = true ∧ g_alike_3 [told, due, some (.ols ((ys ++ [x]).map prD)), kk, e4, e5, e6, e7] = .nx [told, due, some (.ols ((ys ++ zs).map prD)), kk, some (prD x), some x, some x, f7] := by
  have ho := pln_isO hx
  have pl : popL ((ys ++ [x]).map prD) = some (prD x, ys.map prD) := by
    rw [List.map_append]
    exact popL_snoc rfl
  have hn : ¬ ((((ys ++ [x]).map prD).length : Nat) : Int) = 0 := by simp; omega
  generalize hz : (ys ++ [x]).map prD = z0 at pl hn
  have hn' : ¬ z0 = [] := by
    intro e
    rw [e] at hn
    exact hn rfl
  have seq : ∀ (ds : List D) (d : D), (d = .lst ds ∨ d = .tup ds) → x = d → x.sz = 1 + szs ds → plns ds = true → ∃ zs f7, szs zs + 1 = x.sz ∧ plns zs = true ∧ g_alike_3 [told, due, some (.ols z0), kk, e4, e5, e6, e7] = .nx [told, due, some (.ols ((ys ++ zs).map prD)), kk, some (prD x), some x, some x, f7] := by
    intro ds d hd ex es hp
    have hlen := szs_len ds
    obtain ⟨f7, e⟩ := alike_push (told := told) (due := due) (kk := kk) (e4 := some (prD x)) (x := e7) (ys := ys) (ds := ds) (d := d) hd hp (by omega)
    refine ⟨ds, f7, by omega, hp, ?_⟩
    subst ex
    rw [← e]
    rcases hd with rfl | rfl
    · simp [-a_mFor, g_alike_3, g_alike_2, hn, hn', pl, prD]
    · simp [-a_mFor, g_alike_3, g_alike_2, hn, hn', pl, prD]
  cases x with
  | non =>
    refine ⟨[], e7, by simp [D.sz], rfl, ?_⟩
    simp [g_alike_3, hn, hn', pl, prD]
  | bl b =>
    refine ⟨[], e7, by simp [D.sz], rfl, ?_⟩
    simp [g_alike_3, hn, hn', pl, prD]
  | int b =>
    refine ⟨[], e7, by simp [D.sz], rfl, ?_⟩
    simp [g_alike_3, hn, hn', pl, prD]
  | str b =>
    refine ⟨[], e7, by simp [D.sz], rfl, ?_⟩
    simp [g_alike_3, hn, hn', pl, prD]
  | lst ds => exact seq ds _ (.inl rfl) rfl (by simp [D.sz]) (by simpa [D.pln] using hx)
  | tup ds => exact seq ds _ (.inr rfl) rfl (by simp [D.sz]) (by simpa [D.pln] using hx)
  | ols ds => simp [D.pln] at hx
  | ins c n ds => simp [D.pln] at hx
  | scr ds => simp [D.pln] at hx
  | dct k n ds => simp [D.pln] at hx
  | odc k n ds => simp [D.pln] at hx
  | oin c n ds => simp [D.pln] at hx
/-- a plain value, not too large, is alike to itself -/
theorem alike_self {d : D} (hd : d.pln = true) (hs : d.sz ≤ 5999) : m_alike [d, d] = .ok (.bl true) [] := by
  have ho := pln_isO hd
  have hf := pln_fz hd
  have key := loop_or (tg := kName 3) (body := g_alike_3) (I := fun i ρ => ∃ xs e3 e4 e5 e6 e7, ρ = [some d, some d, some (.ols (xs.map prD)), e3, e4, e5, e6, e7] ∧ plns xs = true ∧ szs xs + i ≤ 5999) (L := fun o => ∃ ρ, o = .rt (.bl true) ρ)
    (ds := upto 6000) (ρ := [some d, some d, some (.ols [prD d]), none, none, none, none, none]) (k := 0)
    ⟨[d], none, none, none, none, none, rfl, by simp [plns, hd], by simpa using hs⟩ (fun i c ρ hi ⟨xs, e3, e4, e5, e6, e7, hρ, hp, hsz⟩ => by
      subst hρ
      refine ⟨_, rfl, ?_⟩
      rcases List.eq_nil_or_concat xs with e | ⟨ys, x, e⟩
      · subst e
        exact .inr (.inr ⟨.bl true, [some d, some d, some (.ols []), some c, e4, e5, e6, e7], by simp [g_alike_3], _, rfl⟩)
      · rw [List.concat_eq_append] at e
        subst e
        have hxp : x.pln = true := plns_all.mp hp x (by simp)
        have hyp : plns ys = true := plns_all.mpr fun z hz => plns_all.mp hp z (by simp [hz])
        have h1 : szs ys + x.sz + (0 + i) ≤ 5999 := by simpa using hsz
        have h2 := szs_len ys
        obtain ⟨zs, f7, z1, z2, z3⟩ := alike_turn (told := some d) (due := some d) (kk := some c) (e4 := e4) (e5 := e5) (e6 := e6) (e7 := e7) (ys := ys) hxp (by omega)
        refine .inl ⟨_, .inl z3, ys ++ zs, _, _, _, _, _, rfl, plns_all.mpr fun z hz => ?_, by rw [szs_app]; omega⟩
        rcases List.mem_append.mp hz with h | h
        · exact plns_all.mp hyp z h
        · exact plns_all.mp z2 z h)
  rcases key with ⟨ρ', _, xs, e3, e4, e5, e6, e7, _, _, hsz⟩ | ⟨ρ', h⟩
  · rw [upto_len] at hsz
    omega
  · have r : rg1 [.int 6000] = some (upto 6000) := rg1_n (n := 6000) (by omega)
    simp only [prD] at h
    simp [-rg1_int, m_alike, g_alike, ho, hf, r, h]

/-! ## the law's numbers and pools -/
theorem number_ok {s : Strm'} (hs : s.Ok) {m : Int} (h6 : 6 ≤ m) (hm : m ≤ 1000000000000000000) :
    ∃ v s', m_number [stD s, .int m] = .ok (.int v) [stD s'] ∧ s'.Ok ∧ -m ≤ v ∧ v ≤ m := by
  have s2 : sml 2 = true := sml_of (by omega)
  have b1 := drawV_nn s (m := 4) (by decide)
  have b2 := drawV_lt s (m := 4) (by decide)
  by_cases h3 : drawV s 4 = 3
  · have o1 : 0 < 2 * m + 1 := by omega
    have o2 : 2 * m + 1 ≤ 10000000000000000000 := by omega
    have c1 := drawV_nn (drawS s 4) (m := 2 * m + 1) o1
    have c2 := drawV_lt (drawS s 4) (m := 2 * m + 1) o1
    refine ⟨drawV (drawS s 4) (2 * m + 1) - m, drawS (drawS s 4) (2 * m + 1), ?_, drawS_ok (drawS_ok hs _) _, by omega, by omega⟩
    simp [m_number, g_number, hs, h3, s2, o1, o2]
  · by_cases h2 : drawV s 4 = 2
    · have c1 := drawV_nn (drawS s 4) (m := 4) (by decide)
      have c2 := drawV_lt (drawS s 4) (m := 4) (by decide)
      have d1 := drawV_nn (drawS (drawS s 4) 4) (m := 2) (by decide)
      have d2 := drawV_lt (drawS (drawS s 4) 4) (m := 2) (by decide)
      have e1 : sml (1 - 2 * drawV (drawS (drawS s 4) 4) 2) = true := sml_of (by omega)
      have e2 : (m - drawV (drawS s 4) 4) * (1 - 2 * drawV (drawS (drawS s 4) 4) 2) = m - drawV (drawS s 4) 4 ∨ (m - drawV (drawS s 4) 4) * (1 - 2 * drawV (drawS (drawS s 4) 4) 2) = -(m - drawV (drawS s 4) 4) := by
        have : drawV (drawS (drawS s 4) 4) 2 = 0 ∨ drawV (drawS (drawS s 4) 4) 2 = 1 := by omega
        rcases this with h | h <;> rw [h]
        · left; omega
        · right; omega
      refine ⟨(m - drawV (drawS s 4) 4) * (1 - 2 * drawV (drawS (drawS s 4) 4) 2), drawS (drawS (drawS s 4) 4) 2, ?_, drawS_ok (drawS_ok (drawS_ok hs _) _) _, by omega, by omega⟩
      simp (maxDischargeDepth := 20) [m_number, g_number, hs, h2, s2, e1]
    · have c1 := drawV_nn (drawS s 4) (m := 13) (by decide)
      have c2 := drawV_lt (drawS s 4) (m := 13) (by decide)
      refine ⟨drawV (drawS s 4) 13 - 6, drawS (drawS s 4) 13, ?_, drawS_ok (drawS_ok hs _) _, by omega, by omega⟩
      simp [m_number, g_number, hs, h2, h3, s2]
/-- a pool: for each column some numbers -/
def plD (p : List (List Int)) : List D := p.map fun ns => .lst (ns.map D.int)
def PoolOk (p : List (List Int)) : Prop := ∀ ns ∈ p, 1 ≤ ns.length ∧ ns.length ≤ 8 ∧ ∀ n ∈ ns, -1000000000000000000 < n ∧ n < 1000000000000000000
theorem PoolOk.snoc {p : List (List Int)} {ns : List Int} (h : PoolOk p) (h1 : 1 ≤ ns.length) (h2 : ns.length ≤ 8) (h3 : ∀ n ∈ ns, -1000000000000000000 < n ∧ n < 1000000000000000000) : PoolOk (p ++ [ns]) := fun x hx => by
  rcases List.mem_append.mp hx with hx | hx
  · exact h x hx
  · rw [List.mem_singleton] at hx
    subst hx
    exact ⟨h1, h2, h3⟩
theorem pool_turn {s : Strm'} (hs : s.Ok) {w : Int} {e2 e3 : Option D} {ns : List Int} {k : Nat} (hk : k + 1 = ns.length) (hl : ns.length ≤ 7) (hn : ∀ n ∈ ns, -1000000000000000000 < n ∧ n < 1000000000000000000) :
    ∃ n s', s'.Ok ∧ (-1000000000000000000 < n ∧ n < 1000000000000000000) ∧ g_pool_1 [some (stD s), some (.int w), e2, e3, some (.ols (ns.map D.int)), some (.int (k : Int))] = .nx [some (stD s'), some (.int w), e2, e3, some (.ols ((ns ++ [n]).map D.int)), some (.int (k : Int))] := by
  have s10 : oPow (.int 10) (.int 18) = some (.int 1000000000000000000) := by simp [oPow]
  have hx : ns[k]? = some ns[k] := List.getElem?_eq_getElem (by omega)
  have hb := hn ns[k] (List.getElem_mem (by omega))
  generalize ns[k] = x at hx hb
  have e0 : (ns.map D.int)[k]? = some (.int x) := by rw [List.getElem?_map, hx]; rfl
  have hz : szok (ns.map D.int).length = some () := szok_of (by simp; omega)
  have hz' : szok ns.length = some () := szok_of (by omega)
  have num : ∀ {s : Strm'}, s.Ok → ∃ v s', m_number [stD s, .int 999999999999999999] = .ok (.int v) [stD s'] ∧ s'.Ok ∧ -999999999999999999 ≤ v ∧ v ≤ 999999999999999999 := fun hs => number_ok hs (by omega) (by omega)
  by_cases h1 : x < 999999999999999997
  · by_cases h2 : drawV s 2 = 0
    · have c1 := drawV_nn (drawS s 2) (m := 3) (by decide)
      have c2 := drawV_lt (drawS s 2) (m := 3) (by decide)
      refine ⟨x + drawV (drawS s 2) 3, drawS (drawS s 2) 3, drawS_ok (drawS_ok hs _) _, ⟨by omega, by omega⟩, ?_⟩
      simp (maxDischargeDepth := 20) [g_pool_1, s10, e0, hs, h1, h2, hz']
    · obtain ⟨v, s', e, o, b1, b2⟩ := num (drawS_ok hs 2)
      refine ⟨v, s', o, ⟨by omega, by omega⟩, ?_⟩
      simp (maxDischargeDepth := 20) [g_pool_1, s10, e0, hs, h1, h2, hz', e]
  · obtain ⟨v, s', e, o, b1, b2⟩ := num hs
    refine ⟨v, s', o, ⟨by omega, by omega⟩, ?_⟩
    simp (maxDischargeDepth := 20) [g_pool_1, s10, e0, hs, h1, hz', e]
/-- the most numbers of a column -/
def wq (w : Nat) : Nat := if w = 1 then 8 else if w = 2 then 7 else 2
theorem pool_col {s : Strm'} (hs : s.Ok) {w : Nat} (h1 : 1 ≤ w) (h3 : w ≤ 3) {e3 e4 e5 : Option D} {p : List (List Int)} (hp : PoolOk p) (hl : p.length ≤ 3) :
    ∃ ns s' f4 f5, s'.Ok ∧ PoolOk (p ++ [ns]) ∧ ns.length ≤ wq w ∧ g_pool_2 [some (stD s), some (.int (w : Int)), some (.ols (plD p)), e3, e4, e5] = .nx [some (stD s'), some (.int (w : Int)), some (.ols (plD (p ++ [ns]))), e3, f4, f5] := by
  have s10 : oPow (.int 10) (.int 18) = some (.int 1000000000000000000) := by simp [oPow]
  obtain ⟨v, s1, e, o1, b1, b2⟩ := number_ok hs (m := 999999999999999999) (by omega) (by omega)
  obtain ⟨q, hq, hq1, hq2, hqw⟩ : ∃ q : Int, atI ([D.int 8, .int 7, .int 2] : List D) ((w : Int) - 1) = some (.int q) ∧ 0 < q ∧ q ≤ 8 ∧ q = (wq w : Int) := by
    have : w = 1 ∨ w = 2 ∨ w = 3 := by omega
    rcases this with rfl | rfl | rfl
    · exact ⟨8, rfl, by decide, by decide, rfl⟩
    · exact ⟨7, rfl, by decide, by decide, rfl⟩
    · exact ⟨2, rfl, by decide, by decide, rfl⟩
  have d1 := drawV_nn s1 (m := q) hq1
  have d2 := drawV_lt s1 (m := q) hq1
  have hd : drawV s1 q = ((drawV s1 q).toNat : Int) := by omega
  have key := loop_nx (tg := kName 5) (body := g_pool_1) (I := fun i ρ => ∃ s2 ns f5, ρ = [some (stD s2), some (.int (w : Int)), some (.ols (plD p)), e3, some (.ols (ns.map D.int)), f5] ∧ s2.Ok ∧ ns.length = i + 1 ∧ ∀ n ∈ ns, -1000000000000000000 < n ∧ n < 1000000000000000000)
    (ds := upto (drawV s1 q).toNat) (ρ := [some (stD (drawS s1 q)), some (.int (w : Int)), some (.ols (plD p)), e3, some (.ols [.int v]), e5]) (k := 0) ⟨drawS s1 q, [v], e5, rfl, drawS_ok o1 _, rfl, fun n hn => by
      rw [List.mem_singleton] at hn
      subst hn
      omega⟩ (fun i c ρ hi ⟨s2, ns, f5, hρ, o2, hlen, hn⟩ => by
      obtain ⟨h4, h5⟩ := upto_at hi
      subst hρ
      subst h5
      obtain ⟨n, s3, o3, hb, e3'⟩ := pool_turn o2 (w := w) (e2 := some (.ols (plD p))) (e3 := e3) (ns := ns) (k := i) (by omega) (by omega) hn
      exact ⟨_, _, rfl, .inl e3', s3, ns ++ [n], _, rfl, o3, by simp [hlen], fun x hx => by
        rcases List.mem_append.mp hx with hx | hx
        · exact hn x hx
        · rw [List.mem_singleton] at hx
          subst hx
          exact hb⟩)
  obtain ⟨ρ', e2, s2, ns, f5, hρ, o2, hlen, hn⟩ := key
  subst hρ
  rw [upto_len] at hlen
  refine ⟨ns, s2, some (.lst (ns.map D.int)), f5, o2, hp.snoc (by omega) (by omega) hn, by omega, ?_⟩
  have r : rg1 [.int (drawV s1 q)] = some (upto (drawV s1 q).toNat) := by
    rw [hd]
    exact rg1_n (by omega)
  have hz : szok (plD p).length = some () := szok_of (by simp [plD]; omega)
  have q8 : q ≤ 10000000000000000000 := by omega
  simp (maxDischargeDepth := 20) [-rg1_int, g_pool_2, s10, e, hq, hq1, q8, o1, r, e2, hz]
  simp [plD]
theorem pool_okW {s : Strm'} (hs : s.Ok) {w : Nat} (h1 : 1 ≤ w) (h3 : w ≤ 3) :
    ∃ p s', m_pool [stD s, .int (w : Int)] = .ok (.lst (plD p)) [stD s'] ∧ s'.Ok ∧ PoolOk p ∧ p.length = w ∧ ∀ ns ∈ p, ns.length ≤ wq w := by
  have key := loop_nx (tg := kName 3) (body := g_pool_2) (I := fun i ρ => ∃ s2 p f3 f4 f5, ρ = [some (stD s2), some (.int (w : Int)), some (.ols (plD p)), f3, f4, f5] ∧ s2.Ok ∧ p.length = i ∧ PoolOk p ∧ ∀ ns ∈ p, ns.length ≤ wq w)
    (ds := upto w) (ρ := [some (stD s), some (.int (w : Int)), some (.ols []), none, none, none]) (k := 0) ⟨s, [], none, none, none, rfl, hs, rfl, (fun x hx => nomatch hx), (fun x hx => nomatch hx)⟩ (fun i c ρ hi ⟨s2, p, f3, f4, f5, hρ, o2, hlen, hp, hq⟩ => by
      obtain ⟨h4, h5⟩ := upto_at hi
      subst hρ
      subst h5
      obtain ⟨ns, s3, g4, g5, o3, hp', hq', e⟩ := pool_col o2 h1 h3 (e3 := some (.int (i : Int))) (e4 := f4) (e5 := f5) hp (by omega)
      exact ⟨_, _, rfl, .inl e, s3, p ++ [ns], _, _, _, rfl, o3, by simp [hlen], hp', fun x hx => by
        rcases List.mem_append.mp hx with hx | hx
        · exact hq x hx
        · rw [List.mem_singleton] at hx
          subst hx
          exact hq'⟩)
  obtain ⟨ρ', e2, s2, p, f3, f4, f5, hρ, o2, hlen, hp, hq⟩ := key
  subst hρ
  rw [upto_len] at hlen
  have r : rg1 [.int (w : Int)] = some (upto w) := rg1_n (by omega)
  have fp : fzs (plD p) = plD p := by simp [plD, fzs_eq, Function.comp_def]
  exact ⟨p, s2, by simp [-rg1_int, m_pool, g_pool, r, e2, fp], o2, hp, by omega, hq⟩
theorem pool_ok {s : Strm'} (hs : s.Ok) {w : Nat} (h1 : 1 ≤ w) (h3 : w ≤ 3) :
    ∃ p s', m_pool [stD s, .int (w : Int)] = .ok (.lst (plD p)) [stD s'] ∧ s'.Ok ∧ PoolOk p ∧ p.length = w := by
  obtain ⟨p, s', a, b, c, d, _⟩ := pool_okW hs h1 h3
  exact ⟨p, s', a, b, c, d⟩

/-! ## predicates as trees, and the law's steps that build them -/
def signs : List Str := ["<", "<=", "=", "!=", ">=", ">"]
inductive Tr where
  | cmp (s : Str) (c : Nat) (n : Int)
  | mis (c : Nat)
  | neg (t : Tr)
  | unt (t : Tr)
  | jn (e : Bool) (ts : List Tr)
inductive Stp where
  | cmp (s : Str) (c : Nat) (n : Int)
  | mis (c : Nat)
  | neg
  | unt
  | jn (e : Bool) (k : Nat)
def jw (e : Bool) : Str := if e then "either" else "both"
def Stp.d : Stp → D
  | .cmp s c n => .tup [.str s, .int (c : Int), .int n]
  | .mis c => .tup [.str "missing", .int (c : Int)]
  | .neg => .tup [.str "negation"]
  | .unt => .tup [.str "untrue"]
  | .jn e k => .tup [.str (jw e), .int (k : Int)]
def Stp.need : Stp → Nat
  | .neg => 1
  | .unt => 1
  | .jn _ k => k
  | _ => 0
/-- of a pool -/
def Stp.ok (p : List (List Int)) : Stp → Prop
  | .cmp s c n => s ∈ signs ∧ ∃ ns, p[c]? = some ns ∧ n ∈ ns
  | .mis c => c < p.length
  | _ => True
mutual
def Tr.d : Tr → D
  | .cmp s c n => .tup [.str s, .int (c : Int), .int n]
  | .mis c => .tup [.str "missing", .int (c : Int)]
  | .neg t => .tup [.str "negation", t.d]
  | .unt t => .tup [.str "untrue", t.d]
  | .jn e ts => .tup (.str (jw e) :: trD ts)
def trD : List Tr → List D
  | [] => []
  | t :: ts => t.d :: trD ts
end
theorem trD_map : ∀ ts : List Tr, trD ts = ts.map Tr.d
  | [] => by simp [trD]
  | t :: ts => by simp [trD, trD_map ts]
def ex1 (ts : List Tr) : Stp → List Tr
  | .cmp s c n => ts ++ [.cmp s c n]
  | .mis c => ts ++ [.mis c]
  | .neg => ts.dropLast ++ [.neg (ts.getLastD (.mis 0))]
  | .unt => ts.dropLast ++ [.unt (ts.getLastD (.mis 0))]
  | .jn e k => ts.take (ts.length - k) ++ [.jn e (ts.drop (ts.length - k))]
def exs (ss : List Stp) : List Tr := ss.foldl ex1 []
theorem exs_snoc (ss : List Stp) (s : Stp) : exs (ss ++ [s]) = ex1 (exs ss) s := by
  unfold exs
  rw [List.foldl_append]
  rfl
theorem exs_take {ss : List Stp} {i : Nat} {s : Stp} (h : ss[i]? = some s) : exs (ss.take (i + 1)) = ex1 (exs (ss.take i)) s := by
  rw [List.take_add_one, h]
  exact exs_snoc _ _
theorem ex1_neg (us : List Tr) (t : Tr) : ex1 (us ++ [t]) .neg = us ++ [.neg t] := by simp [ex1]
theorem ex1_unt (us : List Tr) (t : Tr) : ex1 (us ++ [t]) .unt = us ++ [.unt t] := by simp [ex1]
theorem ex1_jn (us ws : List Tr) (e : Bool) : ex1 (us ++ ws) (.jn e ws.length) = us ++ [.jn e ws] := by simp [ex1]
theorem snocT {ts : List Tr} (h : 1 ≤ ts.length) : ∃ us t, ts = us ++ [t] := by
  rcases List.eq_nil_or_concat ts with e | ⟨r, v, e⟩
  · subst e
    simp at h
  · exact ⟨r, v, by simpa using e⟩
theorem splitT {ts : List Tr} {k : Nat} (h : k ≤ ts.length) : ∃ us ws, ts = us ++ ws ∧ ws.length = k :=
  ⟨ts.take (ts.length - k), ts.drop (ts.length - k), (List.take_append_drop _ _).symm, by rw [List.length_drop]; omega⟩
/-- every step finds enough on the stack -/
def Valid (ss : List Stp) : Prop := ∀ (i : Nat) (s : Stp), ss[i]? = some s → s.need ≤ (exs (ss.take i)).length
theorem Valid.nil : Valid [] := fun i s h => by simp at h
theorem Valid.snoc {ss : List Stp} {s : Stp} (v : Valid ss) (h : s.need ≤ (exs ss).length) : Valid (ss ++ [s]) := fun i x hx => by
  by_cases hi : i < ss.length
  · rw [List.getElem?_append_left hi] at hx
    rw [List.take_append_of_le_length (Nat.le_of_lt hi)]
    exact v i x hx
  · have hi2 : i = ss.length := by
      have := (List.getElem?_eq_some_iff.mp hx).1
      simp at this
      omega
    subst hi2
    rw [List.getElem?_append_right (Nat.le_refl _), Nat.sub_self] at hx
    simp at hx
    subst hx
    rw [List.take_append_of_le_length (Nat.le_refl _), List.take_length]
    exact h
theorem ex1_len {ts : List Tr} {s : Stp} (h : s.need ≤ ts.length) : (ex1 ts s).length = ts.length + 1 - s.need := by
  cases s <;> simp [ex1, Stp.need] at h ⊢ <;> omega
/-! ### leaves -/
theorem words6 {k : Int} (h0 : 0 ≤ k) (h1 : k < 6) : ∃ g : Str, g ∈ signs ∧ atI ([.str "<", .str "<=", .str "=", .str "!=", .str ">=", .str ">"] : List D) k = some (.str g) := by
  have : k = 0 ∨ k = 1 ∨ k = 2 ∨ k = 3 ∨ k = 4 ∨ k = 5 := by omega
  rcases this with rfl | rfl | rfl | rfl | rfl | rfl
  · exact ⟨"<", by simp [signs], rfl⟩
  · exact ⟨"<=", by simp [signs], rfl⟩
  · exact ⟨"=", by simp [signs], rfl⟩
  · exact ⟨"!=", by simp [signs], rfl⟩
  · exact ⟨">=", by simp [signs], rfl⟩
  · exact ⟨">", by simp [signs], rfl⟩
theorem words2 {k : Int} (h0 : 0 ≤ k) (h1 : k < 2) : ∃ e : Bool, atI ([.str "both", .str "either"] : List D) k = some (.str (jw e)) := by
  have : k = 0 ∨ k = 1 := by omega
  rcases this with rfl | rfl
  · exact ⟨false, rfl⟩
  · exact ⟨true, rfl⟩
theorem wordsU {k : Int} (h0 : 0 ≤ k) (h1 : k < 2) : ∃ s : Stp, (s = .neg ∨ s = .unt) ∧ (atI ([.str "negation", .str "untrue"] : List D) k).map (fun d => D.tup [d]) = some s.d := by
  have : k = 0 ∨ k = 1 := by omega
  rcases this with rfl | rfl
  · exact ⟨.neg, .inl rfl, rfl⟩
  · exact ⟨.unt, .inr rfl, rfl⟩
theorem leaf_ok {s : Strm'} (hs : s.Ok) {p : List (List Int)} (hp : PoolOk p) (h1 : 1 ≤ p.length) (h3 : p.length ≤ 3) :
    ∃ l s', m_leaf [stD s, .lst (plD p)] = .ok l.d [stD s'] ∧ s'.Ok ∧ Stp.ok p l ∧ Stp.need l = 0 := by
  have lp : (plD p).length = p.length := by simp [plD]
  have b1 := drawV_nn s (m := 9) (by decide)
  have b2 := drawV_lt s (m := 9) (by decide)
  by_cases h8 : drawV s 9 = 8
  · obtain ⟨e, he⟩ := words2 (drawV_nn (drawS s 9) (m := 2) (by decide)) (drawV_lt (drawS s 9) (m := 2) (by decide))
    refine ⟨.jn e 0, drawS (drawS s 9) 2, ?_, drawS_ok (drawS_ok hs _) _, trivial, rfl⟩
    simp (maxDischargeDepth := 20) [m_leaf, g_leaf, hs, h8, he, Stp.d]
  · have w0 : (0 : Int) < p.length := by omega
    have w1 : (p.length : Int) ≤ 10000000000000000000 := by omega
    have dp := draw_ok (drawS_ok hs 9) w0 w1
    have c1 := drawV_nn (drawS s 9) (m := p.length) w0
    have c2 := drawV_lt (drawS s 9) (m := p.length) w0
    obtain ⟨c, hc⟩ : ∃ c : Nat, drawV (drawS s 9) p.length = (c : Int) := ⟨_, (Int.toNat_of_nonneg c1).symm⟩
    have hcl : c < p.length := by omega
    by_cases h7 : drawV s 9 = 7
    · refine ⟨.mis c, drawS (drawS s 9) p.length, ?_, drawS_ok (drawS_ok hs _) _, hcl, rfl⟩
      simp (maxDischargeDepth := 20) [m_leaf, g_leaf, hs, h8, h7, lp, dp, hc, Stp.d]
    · obtain ⟨g, hg, he⟩ := words6 (drawV_nn (drawS (drawS s 9) p.length) (m := 6) (by decide)) (drawV_lt (drawS (drawS s 9) p.length) (m := 6) (by decide))
      have hx : p[c]? = some p[c] := List.getElem?_eq_getElem hcl
      obtain ⟨q1, q2, q3⟩ := hp p[c] (List.getElem_mem hcl)
      generalize p[c] = ns at hx q1 q2 q3
      have e0 : (plD p)[c]? = some (.lst (ns.map D.int)) := by simp [plD, hx]
      have l0 : (0 : Int) < ns.length := by omega
      have l1 : (ns.length : Int) ≤ 10000000000000000000 := by omega
      have dn := draw_ok (drawS_ok (drawS_ok (drawS_ok hs 9) p.length) 6) l0 l1
      have d1 := drawV_nn (drawS (drawS (drawS s 9) p.length) 6) (m := ns.length) l0
      have d2 := drawV_lt (drawS (drawS (drawS s 9) p.length) 6) (m := ns.length) l0
      obtain ⟨k, hk⟩ : ∃ k : Nat, drawV (drawS (drawS (drawS s 9) p.length) 6) ns.length = (k : Int) := ⟨_, (Int.toNat_of_nonneg d1).symm⟩
      have hkl : k < ns.length := by omega
      have hy : ns[k]? = some ns[k] := List.getElem?_eq_getElem hkl
      have hm := List.getElem_mem hkl
      generalize ns[k] = n at hy hm
      refine ⟨.cmp g c n, drawS (drawS (drawS (drawS s 9) p.length) 6) ns.length, ?_, drawS_ok (drawS_ok (drawS_ok (drawS_ok hs _) _) _) _, ⟨hg, ns, hx, hm⟩, rfl⟩
      simp (maxDischargeDepth := 20) [m_leaf, g_leaf, hs, h8, h7, lp, dp, hc, he, e0, dn, hk, hy, Stp.d]

/-! ### recipes -/
structure RcOk (p : List (List Int)) (ss : List Stp) : Prop where
  valid : Valid ss
  ok : ∀ x ∈ ss, x.ok p
theorem RcOk.snoc {p : List (List Int)} {ss : List Stp} {x : Stp} (h : RcOk p ss) (n : x.need ≤ (exs ss).length) (o : x.ok p) : RcOk p (ss ++ [x]) := ⟨h.valid.snoc n, fun y hy => by
  rcases List.mem_append.mp hy with hy | hy
  · exact h.ok y hy
  · rw [List.mem_singleton] at hy
    subst hy
    exact o⟩
theorem exs_len_snoc {ss : List Stp} {x : Stp} (n : x.need ≤ (exs ss).length) : (exs (ss ++ [x])).length = (exs ss).length + 1 - x.need := by
  rw [exs_snoc, ex1_len n]
theorem recipe_turn {s : Strm'} (hs : s.Ok) {p : List (List Int)} (hp : PoolOk p) (h1 : 1 ≤ p.length) (h3 : p.length ≤ 3) {most e7 e8 : Option D} {ss : List Stp} {N : Nat} (hr : RcOk p ss) (hN : N ≤ 1000) (hl : ss.length < N) (hdl : (exs ss).length ≤ ss.length) :
    ∃ x s' f7 f8, s'.Ok ∧ RcOk p (ss ++ [x]) ∧ x.need ≤ (exs ss).length ∧ (ss.length + 1 = N → (exs (ss ++ [x])).length = 1) ∧
      g_recipe_3 [some (stD s), some (.lst (plD p)), most, some (.ols (ss.map Stp.d)), some (.int ((exs ss).length : Int)), some (.int (N : Int)), some (.int (ss.length : Int)), e7, e8] =
        .nx [some (stD s'), some (.lst (plD p)), most, some (.ols ((ss ++ [x]).map Stp.d)), some (.int ((exs (ss ++ [x])).length : Int)), some (.int (N : Int)), some (.int (ss.length : Int)), f7, f8] := by
  generalize hdp : (exs ss).length = dp at hdl ⊢
  have k1 := drawV_nn s (m := 8) (by decide)
  have k2 := drawV_lt s (m := 8) (by decide)
  generalize hk : drawV s 8 = kd at k1 k2
  have o1 : (drawS s 8).Ok := drawS_ok hs 8
  have hz : szok (ss.map Stp.d).length = some () := szok_of (by simp; omega)
  have hz' : szok ss.length = some () := szok_of (by omega)
  have m1 := Int.emod_nonneg kd (show (2 : Int) ≠ 0 by decide)
  have m2 := Int.emod_lt_of_pos kd (show (0 : Int) < 2 by decide)
  obtain ⟨ue, hu, hue⟩ := wordsU m1 m2
  obtain ⟨je, hje⟩ := words2 m1 m2
  obtain ⟨uw, huw, hud⟩ : ∃ w, atI ([.str "negation", .str "untrue"] : List D) (kd % 2) = some (.str w) ∧ ue.d = .tup [.str w] := by
    have : kd % 2 = 0 ∨ kd % 2 = 1 := by omega
    rcases this with h | h
    · rw [h] at hue
      exact ⟨"negation", by rw [h]; rfl, by have := Option.some.inj hue; rw [← this]⟩
    · rw [h] at hue
      exact ⟨"untrue", by rw [h]; rfl, by have := Option.some.inj hue; rw [← this]⟩
  have un : ue.need = 1 := by rcases hu with rfl | rfl <;> rfl
  have uo : ue.ok p := by rcases hu with rfl | rfl <;> trivial
  by_cases hlast : ss.length + 1 < N
  · -- more are to come: how many parts a join takes is drawn
    have hlt : (ss.length : Int) + 1 < (N : Int) := by omega
    have w0 : (0 : Int) < (dp : Int) + 1 := by omega
    have w1 : (dp : Int) + 1 ≤ 10000000000000000000 := by omega
    have dm := draw_ok o1 w0 w1
    have q1 := drawV_nn (drawS s 8) (m := (dp : Int) + 1) w0
    have q2 := drawV_lt (drawS s 8) (m := (dp : Int) + 1) w0
    obtain ⟨mn, hmn⟩ : ∃ mn : Nat, drawV (drawS s 8) ((dp : Int) + 1) = (mn : Int) := ⟨_, (Int.toNat_of_nonneg q1).symm⟩
    have o2 : (drawS (drawS s 8) ((dp : Int) + 1)).Ok := drawS_ok o1 _
    generalize drawS (drawS s 8) ((dp : Int) + 1) = s2 at dm o2
    rw [hmn] at dm q2
    by_cases hd0 : dp = 0 ∨ kd < 4
    · obtain ⟨l, s3, e3, o3, lo, ln⟩ := leaf_ok o2 hp h1 h3
      have hnd : l.need ≤ (exs ss).length := by omega
      refine ⟨l, s3, some (.int kd), some (.int (mn : Int)), o3, hr.snoc hnd lo, by omega, fun e => by omega, ?_⟩
      have hx : ((exs (ss ++ [l])).length : Int) = (dp : Int) + 1 := by rw [exs_len_snoc hnd, hdp, ln]; omega
      rw [hx]
      have hno : l.d.isO = false := by cases l <;> rfl
      have hnf : l.d.fz = l.d := by cases l <;> simp [Stp.d]
      rcases hd0 with hd0 | hd0
      · have dm0 : m_draw [stD (drawS s 8), .int 1] = .ok (.int (mn : Int)) [stD s2] := by
          rw [hd0] at dm
          exact dm
        simp [-draw_ok, draw_ok hs (show (0 : Int) < 8 by decide) (by decide), g_recipe_3, g_recipe_1, hk, hlt, dm0, hd0, e3, hz', hno, hnf]
      · by_cases hd1 : dp = 0
        · have dm0 : m_draw [stD (drawS s 8), .int 1] = .ok (.int (mn : Int)) [stD s2] := by
            rw [hd1] at dm
            exact dm
          simp [-draw_ok, draw_ok hs (show (0 : Int) < 8 by decide) (by decide), g_recipe_3, g_recipe_1, hk, hlt, dm0, hd1, e3, hz', hno, hnf]
        · simp [g_recipe_3, g_recipe_1, hs, hk, hlt, dm, hd0, hd1, e3, hz', hno, hnf]
    · have hd1 : ¬ dp = 0 := fun e => hd0 (.inl e)
      have hd2 : ¬ kd < 4 := fun e => hd0 (.inr e)
      by_cases h6 : kd < 6
      · have hnd : ue.need ≤ (exs ss).length := by omega
        refine ⟨ue, s2, some (.int kd), some (.int (mn : Int)), o2, hr.snoc hnd uo, by omega, fun e => by omega, ?_⟩
        have hx : ((exs (ss ++ [ue])).length : Int) = (dp : Int) := by rw [exs_len_snoc hnd, hdp, un]; omega
        rw [hx]
        simp [g_recipe_3, hs, hk, hlt, dm, hd1, hd2, h6, huw, hud, hz']
      · have hnd : Stp.need (.jn je mn) ≤ (exs ss).length := by simp only [Stp.need]; omega
        refine ⟨.jn je mn, s2, some (.int kd), some (.int (mn : Int)), o2, hr.snoc hnd trivial, by simp only [Stp.need]; omega, fun e => by omega, ?_⟩
        have hx : ((exs (ss ++ [Stp.jn je mn])).length : Int) = (dp : Int) + 1 - (mn : Int) := by rw [exs_len_snoc hnd, hdp]; simp only [Stp.need]; omega
        rw [hx]
        simp [g_recipe_3, g_recipe_2, hs, hk, hlt, dm, hd1, hd2, h6, hje, hz', Stp.d]
  · have hlt : ¬ (ss.length : Int) + 1 < (N : Int) := by omega
    by_cases hd1 : dp = 0
    · obtain ⟨l, s3, e3, o3, lo, ln⟩ := leaf_ok o1 hp h1 h3
      have hnd : l.need ≤ (exs ss).length := by omega
      have hx : (exs (ss ++ [l])).length = 1 := by rw [exs_len_snoc hnd, hdp, ln]; omega
      refine ⟨l, s3, some (.int kd), some (.int (dp : Int)), o3, hr.snoc hnd lo, by omega, fun e => hx, ?_⟩
      rw [hx]
      have hno : l.d.isO = false := by cases l <;> rfl
      have hnf : l.d.fz = l.d := by cases l <;> simp [Stp.d]
      simp [g_recipe_3, g_recipe_1, hs, hk, hlt, hd1, e3, hz', hno, hnf]
    · by_cases h6 : kd < 6 ∧ dp = 1
      · have hnd : ue.need ≤ (exs ss).length := by omega
        have hx : (exs (ss ++ [ue])).length = 1 := by rw [exs_len_snoc hnd, hdp, un]; omega
        refine ⟨ue, drawS s 8, some (.int kd), some (.int (dp : Int)), o1, hr.snoc hnd uo, by omega, fun e => hx, ?_⟩
        rw [hx]
        have hd1' := h6.2
        subst hd1'
        by_cases h4 : kd < 4 <;> simp [g_recipe_3, hs, hk, hlt, h4, h6.1, huw, hud, hz']
      · have hnd : Stp.need (.jn je dp) ≤ (exs ss).length := by simp only [Stp.need]; omega
        have hx : (exs (ss ++ [Stp.jn je dp])).length = 1 := by rw [exs_len_snoc hnd, hdp]; simp only [Stp.need]; omega
        refine ⟨.jn je dp, drawS s 8, some (.int kd), some (.int (dp : Int)), o1, hr.snoc hnd trivial, by simp only [Stp.need]; omega, fun e => hx, ?_⟩
        rw [hx]
        by_cases h66 : kd < 6
        · have h7 : ¬ dp = 1 := fun e => h6 ⟨h66, e⟩
          have h7' : ¬ (dp : Int) = 1 := by omega
          by_cases h4 : kd < 4 <;> simp [g_recipe_3, g_recipe_2, hs, hk, hlt, hd1, h4, h66, h7, h7', hje, hz', Stp.d] <;> omega
        · have h4 : ¬ kd < 4 := by omega
          simp [g_recipe_3, g_recipe_2, hs, hk, hlt, hd1, h4, h66, hje, hz', Stp.d] <;> omega
theorem recipe_ok {s : Strm'} (hs : s.Ok) {p : List (List Int)} (hp : PoolOk p) (h1 : 1 ≤ p.length) (h3 : p.length ≤ 3) {most : Int} (m1 : 1 ≤ most) (m2 : most ≤ 900) :
    ∃ ss s', m_recipe [stD s, .lst (plD p), .int most] = .ok (.lst (ss.map Stp.d)) [stD s'] ∧ s'.Ok ∧ RcOk p ss ∧ (exs ss).length = 1 ∧ 1 ≤ ss.length ∧ (ss.length : Int) ≤ most := by
  have w0 : 0 < most := by omega
  have w1 : most ≤ 10000000000000000000 := by omega
  have dm := draw_ok hs w0 w1
  have q1 := drawV_nn s w0
  have q2 := drawV_lt s w0
  obtain ⟨c, hc⟩ : ∃ c : Nat, drawV s most = (c : Int) := ⟨_, (Int.toNat_of_nonneg q1).symm⟩
  rw [hc] at dm q2
  have key := loop_nx (tg := kName 6) (body := g_recipe_3) (I := fun i ρ => ∃ s2 ss f6 f7 f8, ρ = [some (stD s2), some (.lst (plD p)), some (.int most), some (.ols (ss.map Stp.d)), some (.int ((exs ss).length : Int)), some (.int ((c + 1 : Nat) : Int)), f6, f7, f8] ∧ s2.Ok ∧ RcOk p ss ∧ ss.length = i ∧ (exs ss).length ≤ i ∧ (i = c + 1 → (exs ss).length = 1))
    (ds := upto (c + 1)) (ρ := [some (stD (drawS s most)), some (.lst (plD p)), some (.int most), some (.ols []), some (.int 0), some (.int ((c + 1 : Nat) : Int)), none, none, none]) (k := 0)
    ⟨drawS s most, [], none, none, none, rfl, drawS_ok hs _, ⟨Valid.nil, fun x hx => nomatch hx⟩, rfl, by simp [exs], fun e => by omega⟩ (fun i d ρ hi ⟨s2, ss, f6, f7, f8, hρ, o2, hr, hlen, hd, _⟩ => by
      obtain ⟨h4, h5⟩ := upto_at hi
      subst hρ
      subst h5
      obtain ⟨x, s3, g7, g8, o3, hr', hnd, hfin, e⟩ := recipe_turn o2 hp h1 h3 (most := some (.int most)) (e7 := f7) (e8 := f8) (ss := ss) (N := c + 1) hr (by omega) (by omega) (by omega)
      have hi' : ss.length = i := by omega
      rw [hi'] at e
      refine ⟨_, _, rfl, .inl e, s3, ss ++ [x], _, _, _, rfl, o3, hr', by simp; omega, ?_, fun e => hfin (by omega)⟩
      rw [exs_len_snoc hnd]
      omega)
  obtain ⟨ρ', e2, s2, ss, f6, f7, f8, hρ, o2, hr, hlen, _, hd⟩ := key
  subst hρ
  rw [upto_len] at hlen hd
  have r : rg1 [.int ((c : Int) + 1)] = some (upto (c + 1)) := by
    have := rg1_n (n := c + 1) (by omega)
    simpa using this
  have hsf : fzs (ss.map Stp.d) = ss.map Stp.d := by
    rw [fzs_eq, List.map_map]
    refine List.map_congr_left fun x _ => ?_
    cases x <;> simp [Stp.d]
  refine ⟨ss, s2, ?_, o2, hr, hd (by omega), by omega, by omega⟩
  have e3 : (1 : Int) + (c : Int) = (c : Int) + 1 := by omega
  have e4 : ((c + 1 : Nat) : Int) = (c : Int) + 1 := by omega
  rw [e4] at e2
  simp [-rg1_int, m_recipe, g_recipe, dm, e3, r, e2, hsf]

/-! ### what the steps build -/
theorem cut_take {xs : List D} {r : Nat} (h : r ≤ xs.length) : cutD xs none (some (r : Int)) = xs.take r := by
  unfold cutD
  rw [HT.sIx_none, HT.sIx_nat, Nat.min_eq_left h]
  simp
theorem cut_drop {xs : List D} {r : Nat} (h : r ≤ xs.length) : cutD xs (some (r : Int)) none = xs.drop r := by
  unfold cutD
  rw [HT.sIx_none, HT.sIx_nat, Nat.min_eq_left h]
  exact List.take_of_length_le (by simp)
theorem tr_isO (t : Tr) : t.d.isO = false := by cases t <;> simp [Tr.d]
theorem tr_fz (t : Tr) : t.d.fz = t.d := by cases t <;> simp [Tr.d]
theorem trs_fz (ts : List Tr) : fzs (ts.map Tr.d) = ts.map Tr.d := by
  rw [fzs_eq, List.map_map]
  exact List.map_congr_left fun x _ => tr_fz x
theorem stp_fz (s : Stp) : s.d.fz = s.d := by cases s <;> simp [Stp.d]
theorem stp_isO (s : Stp) : s.d.isO = false := by cases s <;> rfl
theorem stps_fz (ss : List Stp) : fzs (ss.map Stp.d) = ss.map Stp.d := by
  rw [fzs_eq, List.map_map]
  exact List.map_congr_left fun x _ => stp_fz x
theorem sign_ne {s x : Str} (h : s ∈ signs) (hx : x ∉ signs) : ¬ s = x := fun e => hx (e ▸ h)
/-- a step's word is none of the others -/
def Stp.fit : Stp → Prop
  | .cmp s _ _ => s ∈ signs
  | _ => True
theorem Stp.ok.fit {p : List (List Int)} {s : Stp} (h : s.ok p) : s.fit := by
  cases s <;> first | exact h.1 | trivial
theorem built_turn {e0 e3 e4 : Option D} {ts : List Tr} {s : Stp} (hf : s.fit) (hn : s.need ≤ ts.length) (hl : ts.length ≤ 1000) :
    ∃ f3 f4, g_built_3 [e0, some (.ols (ts.map Tr.d)), some s.d, e3, e4] = .nx [e0, some (.ols ((ex1 ts s).map Tr.d)), some s.d, f3, f4] := by
  have hz : szok ts.length = some () := szok_of (by omega)
  cases s with
  | cmp g c n =>
    have hg : g ∈ signs := hf
    have n1 : ¬ g = "negation" := sign_ne hg (by simp [signs])
    have n2 : ¬ g = "untrue" := sign_ne hg (by simp [signs])
    have n3 : ¬ g = "both" := sign_ne hg (by simp [signs])
    have n4 : ¬ g = "either" := sign_ne hg (by simp [signs])
    refine ⟨e3, e4, ?_⟩
    simp [g_built_3, Stp.d, n1, n2, n3, n4, hz, ex1, Tr.d]
  | mis c =>
    refine ⟨e3, e4, ?_⟩
    simp [g_built_3, Stp.d, hz, ex1, Tr.d]
  | neg =>
    obtain ⟨us, t, rfl⟩ := snocT hn
    rw [ex1_neg]
    have pl : popL ((us ++ [t]).map Tr.d) = some (t.d, us.map Tr.d) := by
      rw [List.map_append]
      exact popL_snoc (tr_isO t)
    have hz : szok us.length = some () := szok_of (by simp at hl; omega)
    refine ⟨some t.d, e4, ?_⟩
    simp [g_built_3, g_built_1, Stp.d, -List.map_append, pl, tr_isO, tr_fz, hz]
    simp [Tr.d]
  | unt =>
    obtain ⟨us, t, rfl⟩ := snocT hn
    rw [ex1_unt]
    have pl : popL ((us ++ [t]).map Tr.d) = some (t.d, us.map Tr.d) := by
      rw [List.map_append]
      exact popL_snoc (tr_isO t)
    have hz : szok us.length = some () := szok_of (by simp at hl; omega)
    refine ⟨some t.d, e4, ?_⟩
    simp [g_built_3, g_built_1, Stp.d, -List.map_append, pl, tr_isO, tr_fz, hz]
    simp [Tr.d]
  | jn e k =>
    have hk : k ≤ ts.length := hn
    obtain ⟨r, hr⟩ : ∃ r, r = ts.length - k := ⟨_, rfl⟩
    have hi : (ts.length : Int) - (k : Int) = (r : Int) := by omega
    have hrl : r ≤ (ts.map Tr.d).length := by simp; omega
    have c1 := cut_take hrl
    have c2 := cut_drop hrl
    have w1 : (jw e = "both" ∨ jw e = "either") := by cases e <;> simp [jw]
    have w2 : ¬ jw e = "negation" := by cases e <;> simp [jw]
    have w3 : ¬ jw e = "untrue" := by cases e <;> simp [jw]
    have l1 : 1 + (ts.length - r) ≤ 100000 := by omega
    have l2 : min r ts.length + 1 ≤ 100000 := by omega
    have f1 : fzs (List.take r (ts.map Tr.d)) = List.take r (ts.map Tr.d) := by rw [← List.map_take, trs_fz]
    have f2 : fzs (List.drop r (ts.map Tr.d)) = List.drop r (ts.map Tr.d) := by rw [← List.map_drop, trs_fz]
    refine ⟨e3, some (.int (r : Int)), ?_⟩
    rcases w1 with w1 | w1
    · have w4 : ¬ (("both" : Str) = "either") := by simp
      simp [g_built_3, g_built_2, Stp.d, w1, hi, slA, trs_fz, c1, c2, f1, f2, l1, l2]
      try simp [ex1, Tr.d, trD_map, ← hr, w1]
      try omega
    · simp [g_built_3, g_built_2, Stp.d, w1, hi, slA, trs_fz, c1, c2, f1, f2, l1, l2]
      try simp [ex1, Tr.d, trD_map, ← hr, w1]
      try omega
theorem built_ok {p : List (List Int)} {ss : List Stp} {t : Tr} (hr : RcOk p ss) (hl : ss.length ≤ 900) (ht : exs ss = [t]) : m_built [.lst (ss.map Stp.d)] = .ok t.d [] := by
  have key := loop_nx (tg := kName 2) (body := g_built_3) (I := fun i ρ => ∃ e2 e3 e4, ρ = [some (.lst (ss.map Stp.d)), some (.ols ((exs (ss.take i)).map Tr.d)), e2, e3, e4] ∧ (exs (ss.take i)).length ≤ i)
    (ds := ss.map Stp.d) (ρ := [some (.lst (ss.map Stp.d)), some (.ols []), none, none, none]) (k := 0)
    ⟨none, none, none, rfl, by simp [exs]⟩ (fun i d ρ hi ⟨e2, e3, e4, hρ, hd⟩ => by
      subst hρ
      rw [List.getElem?_map] at hi
      obtain ⟨x, h1, h2⟩ := Option.map_eq_some_iff.mp hi
      subst h2
      have hx : x ∈ ss := List.mem_of_getElem? h1
      have hil := (List.getElem?_eq_some_iff.mp h1).1
      rw [Nat.zero_add] at hd
      have hn := hr.valid i x h1
      obtain ⟨f3, f4, e⟩ := built_turn (e0 := some (.lst (ss.map Stp.d))) (e3 := e3) (e4 := e4) (hr.ok x hx).fit hn (by omega)
      rw [Nat.zero_add]
      refine ⟨_, _, rfl, .inl e, some x.d, f3, f4, by rw [exs_take h1], ?_⟩
      rw [exs_take h1, ex1_len hn]
      omega)
  obtain ⟨ρ', e1, e2, e3, e4, hρ, hd⟩ := key
  subst hρ
  rw [List.length_map, Nat.zero_add, List.take_length, ht] at e1
  simp [m_built, g_built, e1, tr_isO]

/-! ## the check of a predicate -/
def bkD (lo hi : Int) : D → Bool
  | .int i => decide (lo ≤ i) && decide (i ≤ hi)
  | _ => false
theorem between_ok {v : D} (hv : v.pln = true) (lo hi : Int) : m_is_between [v, .int lo, .int hi] = .ok (.bl (bkD lo hi v)) [] := by
  cases v with
  | int i =>
    by_cases h : lo ≤ i
    · simp [m_is_between, g_is_between, bkD, h]
    · simp [m_is_between, g_is_between, bkD, h]
  | non => simp [m_is_between, g_is_between, bkD]
  | bl b => simp [m_is_between, g_is_between, bkD]
  | str x => simp [m_is_between, g_is_between, bkD]
  | lst ds => simp [m_is_between, g_is_between, bkD]
  | tup ds => simp [m_is_between, g_is_between, bkD]
  | ols ds => simp [D.pln] at hv
  | ins c n ds => simp [D.pln] at hv
  | scr ds => simp [D.pln] at hv
  | dct k n ds => simp [D.pln] at hv
  | odc k n ds => simp [D.pln] at hv
  | oin c n ds => simp [D.pln] at hv
/-- a node, its parts aside -/
def nodeOk (c : Int) : D → Bool
  | .tup (.str w :: r) =>
    if w ∈ signs then (match r with | [x, y] => bkD 0 (c - 1) x && bkD (1 - 1000000000000000000) (1000000000000000000 - 1) y | _ => false)
    else if w = "missing" then (match r with | [x] => bkD 0 (c - 1) x | _ => false)
    else if w = "negation" ∨ w = "untrue" then decide (r.length = 1)
    else decide (w = "both") || decide (w = "either")
  | _ => false
def kdsD : D → List D
  | .tup (.str w :: r) => if w ∈ signs ∨ w = "missing" then [] else r
  | _ => []
theorem in_signs (w : Str) : inD (.str w) [.str "<", .str "<=", .str "=", .str "!=", .str ">=", .str ">"] = decide (w ∈ signs) := by
  simp [inD, eqF, signs, Bool.beq_eq_decide_eq, eq_comm]
theorem node_ok {g : D} (hg : g.pln = true) (c : Int) : m_is_node [g, .int c] = .ok (.bl (nodeOk c g)) [] := by
  cases g with
  | non => simp [m_is_node, g_is_node, nodeOk]
  | bl b => simp [m_is_node, g_is_node, nodeOk]
  | int x => simp [m_is_node, g_is_node, nodeOk]
  | str x => simp [m_is_node, g_is_node, nodeOk]
  | lst ds => simp [m_is_node, g_is_node, nodeOk]
  | ols ds => simp [D.pln] at hg
  | ins c n ds => simp [D.pln] at hg
  | scr ds => simp [D.pln] at hg
  | dct k n ds => simp [D.pln] at hg
  | odc k n ds => simp [D.pln] at hg
  | oin c n ds => simp [D.pln] at hg
  | tup ds =>
    cases ds with
    | nil => simp [m_is_node, g_is_node, nodeOk]
    | cons d0 r =>
      have hp : d0.pln = true ∧ plns r = true := by simpa [D.pln, plns] using hg
      have n0 : ¬ ((r.length : Int) + 1 = 0) := by omega
      have o0 := pln_isO hp.1
      have st : (∃ w, d0 = .str w) ∨ (isTy .str d0 = some false ∧ nodeOk c (.tup (d0 :: r)) = false) := by
        cases d0 <;> first | exact .inl ⟨_, rfl⟩ | exact .inr ⟨rfl, rfl⟩ | simp [D.pln] at hp
      rcases st with ⟨w, rfl⟩ | ⟨t0, e0⟩
      · by_cases h1 : w ∈ signs
        · -- a comparison
          have ws := in_signs w
          rw [decide_eq_true h1] at ws
          match r, hp with
          | [], _ => simp [m_is_node, g_is_node, nodeOk, ws, h1]
          | [x], _ => simp [m_is_node, g_is_node, nodeOk, ws, h1]
          | [x, y], hp =>
            have hx : x.pln = true ∧ y.pln = true := by simpa [plns] using hp.2
            have ex := between_ok hx.1 0 (c - 1)
            have ey := between_ok hx.2 (-999999999999999999) 999999999999999999
            have ox := pln_isO hx.1
            have oy := pln_isO hx.2
            cases hb : bkD 0 (c - 1) x
            · simp [m_is_node, g_is_node, nodeOk, ws, h1, ox, ex, hb]
            · simp [m_is_node, g_is_node, nodeOk, ws, h1, ox, oy, ex, ey, hb]
          | x :: y :: z :: r', _ =>
            have n3 : ¬ ((r'.length : Int) + 1 + 1 + 1 + 1 = 3) := by omega
            have n4 : ¬ ((r'.length : Int) + 1 + 1 + 1 + 1 = 0) := by omega
            simp [m_is_node, g_is_node, nodeOk, ws, h1, n3, n4]
        · have ws := in_signs w
          rw [decide_eq_false h1] at ws
          by_cases h2 : w = "missing"
          · subst h2
            match r, hp with
            | [], _ => simp [m_is_node, g_is_node, nodeOk, ws, h1]
            | [x], hp =>
              have hx : x.pln = true := by simpa [plns] using hp.2
              have ex := between_ok hx 0 (c - 1)
              have ox := pln_isO hx
              simp [m_is_node, g_is_node, nodeOk, ws, h1, ox, ex]
            | x :: y :: r', _ =>
              have n3 : ¬ ((r'.length : Int) + 1 + 1 + 1 = 2) := by omega
              have n4 : ¬ ((r'.length : Int) + 1 + 1 + 1 = 0) := by omega
              simp [m_is_node, g_is_node, nodeOk, ws, h1, n3, n4]
          · by_cases h3 : w = "negation"
            · subst h3
              have n0 : ¬ ((r.length : Int) + 1 = 0) := by omega
              have n3 : decide ((r.length : Int) + 1 = 2) = decide (r.length = 1) := by
                by_cases h : r.length = 1
                · rw [decide_eq_true h, decide_eq_true (by omega)]
                · rw [decide_eq_false h, decide_eq_false (by omega)]
              simp [m_is_node, g_is_node, nodeOk, ws, h1, n0, n3]
            · by_cases h4 : w = "untrue"
              · subst h4
                have n3 : decide ((r.length : Int) + 1 = 2) = decide (r.length = 1) := by
                  by_cases h : r.length = 1
                  · rw [decide_eq_true h, decide_eq_true (by omega)]
                  · rw [decide_eq_false h, decide_eq_false (by omega)]
                simp [m_is_node, g_is_node, nodeOk, ws, h1, n0, n3]
              · by_cases h5 : w = "both"
                · subst h5
                  simp [m_is_node, g_is_node, nodeOk, ws, h1, n0]
                · simp [m_is_node, g_is_node, nodeOk, ws, h1, h2, h3, h4, h5, n0]
      · simp [m_is_node, g_is_node, e0, t0, n0, o0]
theorem tup_of_node {c : Int} {g : D} (h : nodeOk c g = true) : ∃ w r, g = .tup (.str w :: r) := by
  unfold nodeOk at h
  split at h
  · exact ⟨_, _, rfl⟩
  · cases h
theorem parts_ok {c : Int} {g : D} (hg : g.pln = true) (h : nodeOk c g = true) : m_parts_of [g] = .ok (.tup (kdsD g)) [] := by
  obtain ⟨w, r, rfl⟩ := tup_of_node h
  have na : notAll (r.length + 1) (some 1) none = some () := by
    unfold notAll
    rw [if_neg]
    rintro ⟨h1, _⟩
    have := HT.sIx_nat (r.length + 1) 0 1
    rw [show ((1 : Nat) : Int) = 1 from rfl] at this
    rw [this] at h1
    omega
  have cd : cutD (.str w :: r) (some 1) none = r := cut_drop (xs := .str w :: r) (r := 1) (by simp)
  have ws := in_signs w
  by_cases h1 : w ∈ signs
  · rw [decide_eq_true h1] at ws
    simp [m_parts_of, g_parts_of, ws, kdsD, h1]
  · rw [decide_eq_false h1] at ws
    by_cases h2 : w = "missing"
    · subst h2
      simp [m_parts_of, g_parts_of, ws, kdsD]
    · simp [m_parts_of, g_parts_of, ws, kdsD, h1, h2, slA, na, cd]
theorem kds_pln {g : D} (hg : g.pln = true) : plns (kdsD g) = true := by
  unfold kdsD
  split
  · split
    · rfl
    · rw [D.pln, plns, Bool.and_eq_true] at hg
      exact hg.2
  · rfl
theorem kds_sz (g : D) : szs (kdsD g) + 1 ≤ g.sz := by
  unfold kdsD
  split
  · split
    · have := sz_pos (.tup (.str ‹_› :: ‹_›)); simp; omega
    · simp [D.sz]; omega
  · have := sz_pos g; simp; omega
/-- so many nodes are left, these wait (the last one is next) -/
def chk (c : Int) : Nat → List D → Bool
  | 0, st => st.isEmpty
  | k + 1, st => match st.getLast? with
    | none => true
    | some g => nodeOk c g && chk c k (st.dropLast ++ kdsD g)
theorem chk_nil {c : Int} : ∀ k, chk c k [] = true
  | 0 => rfl
  | _ + 1 => rfl
theorem chk_snoc {c : Int} {k : Nat} {us : List D} {g : D} : chk c (k + 1) (us ++ [g]) = (nodeOk c g && chk c k (us ++ kdsD g)) := by
  rw [chk, List.getLast?_concat, List.dropLast_concat]
theorem check_turn {g : D} {c : Int} {n : Int} {us : List D} {x : D} {e4 : Option D} (hg : g.isO = false) (hx : x.pln = true) (hs : szs us + x.sz ≤ 90000) :
    g_check_predicate_1 [some g, some (.int c), some (.int n), some (.ols (us ++ [x])), e4] =
      if n + 1 ≤ 16 ∧ nodeOk c x = true then .nx [some g, some (.int c), some (.int (n + 1)), some (.ols (us ++ kdsD x)), some x]
      else .ex 1 (some g) [some g, some (.int c), some (.int (n + 1)), some (.ols us), some x] := by
  have pl := popL_snoc (ds := us) (pln_isO hx)
  have xo := pln_isO hx
  have nd := node_ok hx c
  by_cases h1 : n + 1 ≤ 16
  · have h1' : ¬ 16 < n + 1 := by omega
    cases h2 : nodeOk c x
    · simp [g_check_predicate_1, pl, h1', xo, nd, h2, mRaise1, hg]
    · have pa := parts_ok hx h2
      have k1 := kds_sz x
      have k2 := szs_len us
      have k3 := szs_len (kdsD x)
      have kp := plns_all.mp (kds_pln hx)
      have an : (kdsD x).any D.isO = false := by
        rw [List.any_eq_false]
        intro y hy
        rw [pln_isO (kp y hy)]
        exact Bool.false_ne_true
      have sk : szok (us.length + (kdsD x).length) = some () := szok_of (by omega)
      have f1 : flatO (.ols (kdsD x)) = some (kdsD x) := by rw [flatO_ols, an]; rfl
      simp [g_check_predicate_1, pl, h1, h1', xo, nd, h2, pa, -flatO_ols, f1, sk]
  · have h1' : 16 < n + 1 := by omega
    simp [g_check_predicate_1, pl, h1, h1', xo, mRaise1, hg]
theorem while_t {c : M Bool} {body : Stm} {n : Nat} {ρ ρ1 ρ2 : Env} (h : c ρ = .ok true ρ1) (hb : body ρ1 = .nx ρ2) : mWhile c body (n + 1) ρ = mWhile c body n ρ2 := by
  rw [mWhile]
  unfold mThen
  rw [h]
  dsimp only
  rw [if_pos rfl, hb]
theorem while_x {c : M Bool} {body : Stm} {n : Nat} {ρ ρ1 ρ2 : Env} {k : Nat} {x : Option D} (h : c ρ = .ok true ρ1) (hb : body ρ1 = .ex k x ρ2) : mWhile c body (n + 1) ρ = .ex k x ρ2 := by
  rw [mWhile]
  unfold mThen
  rw [h]
  dsimp only
  rw [if_pos rfl, hb]
theorem while_f {c : M Bool} {body : Stm} {n : Nat} {ρ ρ1 : Env} (h : c ρ = .ok false ρ1) : mWhile c body (n + 1) ρ = .nx ρ1 := by
  rw [mWhile]
  unfold mThen
  rw [h]
  rfl
theorem check_loop {g : D} {c : Int} (hg : g.isO = false) : ∀ (k F : Nat) (st : List D) (e4 : Option D), plns st = true → szs st ≤ 90000 → k ≤ 16 → k + 2 ≤ F →
    ∃ ρ', mWhile (mTruV 3) g_check_predicate_1 F [some g, some (.int c), some (.int (16 - (k : Int))), some (.ols st), e4] = if chk c k st = true then .nx ρ' else .ex 1 (some g) ρ' := by
  intro k
  induction k with
  | zero =>
    intro F st e4 hp hs hk hF
    obtain ⟨F, rfl⟩ : ∃ f, F = f + 1 := ⟨F - 1, by omega⟩
    rcases List.eq_nil_or_concat st with e | ⟨us, x, e⟩
    · subst e
      have hc : (mTruV 3) [some g, some (.int c), some (.int (16 - ((0 : Nat) : Int))), some (.ols []), e4] = .ok false [some g, some (.int c), some (.int (16 - ((0 : Nat) : Int))), some (.ols []), e4] := by simp
      exact ⟨_, while_f hc⟩
    · rw [List.concat_eq_append] at e
      subst e
      have hx : x.pln = true := plns_all.mp hp x (by simp)
      have t := check_turn (c := c) (n := 16 - ((0 : Nat) : Int)) (us := us) (x := x) (e4 := e4) hg hx (by simpa using hs)
      rw [if_neg (by rintro ⟨a, _⟩; omega)] at t
      have hc : (mTruV 3) [some g, some (.int c), some (.int (16 - ((0 : Nat) : Int))), some (.ols (us ++ [x])), e4] = .ok true [some g, some (.int c), some (.int (16 - ((0 : Nat) : Int))), some (.ols (us ++ [x])), e4] := by simp
      have h0 : ¬ chk c 0 (us ++ [x]) = true := by simp [chk]
      exact ⟨_, (while_x hc t).trans (by rw [if_neg h0])⟩
  | succ k ih =>
    intro F st e4 hp hs hk hF
    obtain ⟨F, rfl⟩ : ∃ f, F = f + 1 := ⟨F - 1, by omega⟩
    rcases List.eq_nil_or_concat st with e | ⟨us, x, e⟩
    · subst e
      have hc : (mTruV 3) [some g, some (.int c), some (.int (16 - ((k + 1 : Nat) : Int))), some (.ols []), e4] = .ok false [some g, some (.int c), some (.int (16 - ((k + 1 : Nat) : Int))), some (.ols []), e4] := by simp
      exact ⟨_, (while_f hc).trans (by rw [chk_nil]; rfl)⟩
    · rw [List.concat_eq_append] at e
      subst e
      have hx : x.pln = true := plns_all.mp hp x (by simp)
      have hu : plns us = true := plns_all.mpr fun z hz => plns_all.mp hp z (by simp [hz])
      have hs' : szs us + x.sz ≤ 90000 := by simpa using hs
      have t := check_turn (c := c) (n := 16 - ((k + 1 : Nat) : Int)) (us := us) (x := x) (e4 := e4) hg hx hs'
      have hc : (mTruV 3) [some g, some (.int c), some (.int (16 - ((k + 1 : Nat) : Int))), some (.ols (us ++ [x])), e4] = .ok true [some g, some (.int c), some (.int (16 - ((k + 1 : Nat) : Int))), some (.ols (us ++ [x])), e4] := by simp
      rw [chk_snoc]
      cases h2 : nodeOk c x
      · rw [h2, if_neg (by rintro ⟨_, a⟩; cases a)] at t
        exact ⟨_, (while_x hc t).trans (by rw [Bool.false_and, if_neg Bool.false_ne_true])⟩
      · rw [h2, if_pos ⟨by omega, rfl⟩] at t
        have k1 := kds_sz x
        obtain ⟨ρ', e⟩ := ih F (us ++ kdsD x) (some x) (plns_all.mpr fun z hz => by
          rcases List.mem_append.mp hz with h | h
          · exact plns_all.mp hu z h
          · exact plns_all.mp (kds_pln hx) z h) (by rw [szs_app]; omega) (by omega) (by omega)
        have e16 : (16 : Int) - ((k + 1 : Nat) : Int) + 1 = 16 - (k : Int) := by omega
        rw [e16] at t
        refine ⟨ρ', (while_t hc t).trans ?_⟩
        rw [e, Bool.true_and]
theorem check_ok {g : D} (hg : g.pln = true) (hs : g.sz ≤ 90000) (c : Int) : m_check_predicate [g, .int c] = if chk c 16 [g] = true then .ok .non [] else .ex 1 (some g) [] := by
  have go := pln_isO hg
  obtain ⟨ρ', e⟩ := check_loop (c := c) go 16 100000 [g] none (by simp [plns, hg]) (by simpa using hs) (by omega) (by omega)
  have e0 : (16 : Int) - ((16 : Nat) : Int) = 0 := by omega
  rw [e0] at e
  by_cases h : chk c 16 [g] = true
  · rw [if_pos h] at e ⊢
    simp [m_check_predicate, g_check_predicate, go, e]
  · rw [if_neg h] at e ⊢
    simp [m_check_predicate, g_check_predicate, go, e]

/-! ## values that are predicates -/
mutual
inductive OkN (c : Int) : D → Nat → Prop where
  | mk {g : D} {n : Nat} (h : nodeOk c g = true) (k : OkNs c (kdsD g) n) : OkN c g (n + 1)
inductive OkNs (c : Int) : List D → Nat → Prop where
  | nil : OkNs c [] 0
  | cons {g : D} {gs : List D} {n m : Nat} (h : OkN c g n) (k : OkNs c gs m) : OkNs c (g :: gs) (n + m)
end
theorem OkNs.app {c : Int} : ∀ {as bs : List D} {n m : Nat}, OkNs c as n → OkNs c bs m → OkNs c (as ++ bs) (n + m)
  | [], _, _, _, .nil, h => by simpa using h
  | _ :: as, bs, _, _, .cons h k, g => by
    rw [List.cons_append, Nat.add_assoc]
    exact .cons h (OkNs.app k g)
theorem OkNs.split {c : Int} : ∀ {as bs : List D} {n : Nat}, OkNs c (as ++ bs) n → ∃ i j, n = i + j ∧ OkNs c as i ∧ OkNs c bs j
  | [], _, n, h => ⟨0, n, (Nat.zero_add n).symm, .nil, h⟩
  | _ :: as, bs, _, .cons h k => by
    obtain ⟨i, j, e, a, b⟩ := OkNs.split (as := as) k
    exact ⟨_ + i, j, by rw [e, Nat.add_assoc], .cons h a, b⟩
theorem OkNs.one {c : Int} {g : D} {n : Nat} (h : OkN c g n) : OkNs c [g] n := .cons h .nil
theorem OkNs.sing {c : Int} {g : D} {n : Nat} (h : OkNs c [g] n) : OkN c g n := by
  cases h with
  | cons a b =>
    cases b
    exact a
mutual
theorem OkN.fn {c : Int} : ∀ {g : D} {n m : Nat}, OkN c g n → OkN c g m → n = m
  | _, _, _, .mk _ a, .mk _ b => by rw [OkNs.fn a b]
theorem OkNs.fn {c : Int} : ∀ {gs : List D} {n m : Nat}, OkNs c gs n → OkNs c gs m → n = m
  | _, _, _, .nil, .nil => rfl
  | _, _, _, .cons a b, .cons d e => by rw [OkN.fn a d, OkNs.fn b e]
end
theorem chk_iff {c : Int} : ∀ (k : Nat) (st : List D), chk c k st = true ↔ ∃ n, n ≤ k ∧ OkNs c st n
  | 0, st => by
    constructor
    · intro h
      cases st with
      | nil => exact ⟨0, Nat.le_refl _, .nil⟩
      | cons g gs => cases h
    · rintro ⟨n, hn, h⟩
      cases h with
      | nil => rfl
      | cons a b =>
        cases a with
        | mk a1 a2 => omega
  | k + 1, st => by
    rcases List.eq_nil_or_concat st with rfl | ⟨us, g, e⟩
    · exact ⟨fun _ => ⟨0, Nat.zero_le _, .nil⟩, fun _ => chk_nil _⟩
    · have e : st = us ++ [g] := by simpa using e
      rw [e, chk_snoc, Bool.and_eq_true, chk_iff k]
      constructor
      · rintro ⟨hg, n, hn, h⟩
        obtain ⟨i, j, rfl, a, b⟩ := h.split
        exact ⟨i + (j + 1), by omega, a.app (.one (.mk hg b))⟩
      · rintro ⟨n, hn, h⟩
        obtain ⟨i, j, rfl, a, b⟩ := h.split
        have b := b.sing
        cases b with
        | mk hg q => exact ⟨hg, _, by omega, a.app q⟩
theorem chk_ok {c : Int} {g : D} {n : Nat} (h : OkN c g n) : chk c 16 [g] = decide (n ≤ 16) := by
  by_cases e : n ≤ 16
  · rw [decide_eq_true e]
    exact (chk_iff _ _).mpr ⟨n, e, .one h⟩
  · rw [decide_eq_false e]
    refine Bool.eq_false_iff.mpr fun z => ?_
    obtain ⟨m, hm, k⟩ := (chk_iff _ _).mp z
    exact e (by rw [h.fn k.sing]; exact hm)
theorem chk_no {c : Int} {g : D} (h : ∀ n, ¬ OkN c g n) : chk c 16 [g] = false := by
  refine Bool.eq_false_iff.mpr fun z => ?_
  obtain ⟨m, hm, k⟩ := (chk_iff _ _).mp z
  exact h m k.sing
mutual
def Tr.tn : Tr → Nat
  | .neg t => t.tn + 1
  | .unt t => t.tn + 1
  | .jn _ ts => tns ts + 1
  | .cmp _ _ _ => 1
  | .mis _ => 1
def tns : List Tr → Nat
  | [] => 0
  | t :: ts => t.tn + tns ts
end
mutual
/-- all leaves are so -/
def Tr.al (P : Stp → Prop) : Tr → Prop
  | .cmp s k n => P (.cmp s k n)
  | .mis k => P (.mis k)
  | .neg t => t.al P
  | .unt t => t.al P
  | .jn _ ts => als P ts
def als (P : Stp → Prop) : List Tr → Prop
  | [] => True
  | t :: ts => t.al P ∧ als P ts
end
theorem tns_app : ∀ a b : List Tr, tns (a ++ b) = tns a + tns b
  | [], b => (Nat.zero_add _).symm
  | t :: r, b => by
    rw [List.cons_append, tns, tns, tns_app r b]
    omega
theorem als_app (P : Stp → Prop) : ∀ a b : List Tr, als P (a ++ b) ↔ als P a ∧ als P b
  | [], b => by simp [als]
  | t :: r, b => by
    rw [List.cons_append, als, als, als_app P r b]
    exact and_assoc.symm
def Stp.al (P : Stp → Prop) : Stp → Prop
  | .cmp s k n => P (.cmp s k n)
  | .mis k => P (.mis k)
  | _ => True
def Stp.cb (c : Nat) : Stp → Prop
  | .cmp _ k _ => k < c
  | .mis k => k < c
  | _ => True
def Stp.num : Stp → Prop
  | .cmp s _ n => s ∈ signs ∧ -1000000000000000000 < n ∧ n < 1000000000000000000
  | _ => True
theorem ex1_tn {ts : List Tr} {s : Stp} (h : s.need ≤ ts.length) : tns (ex1 ts s) = tns ts + 1 := by
  cases s with
  | cmp s c n => simp [ex1, tns_app, tns, Tr.tn]
  | mis c => simp [ex1, tns_app, tns, Tr.tn]
  | neg =>
    obtain ⟨us, t, rfl⟩ := snocT h
    rw [ex1_neg]
    simp [tns_app, tns, Tr.tn]
    omega
  | unt =>
    obtain ⟨us, t, rfl⟩ := snocT h
    rw [ex1_unt]
    simp [tns_app, tns, Tr.tn]
    omega
  | jn e k =>
    obtain ⟨us, ws, rfl, rfl⟩ := splitT h
    rw [ex1_jn]
    simp [tns_app, tns, Tr.tn]
    omega
theorem ex1_al {P : Stp → Prop} {ts : List Tr} {s : Stp} (h : s.need ≤ ts.length) : als P (ex1 ts s) ↔ als P ts ∧ s.al P := by
  cases s with
  | cmp s k n => simp [ex1, als_app, als, Tr.al, Stp.al]
  | mis k => simp [ex1, als_app, als, Tr.al, Stp.al]
  | neg =>
    obtain ⟨us, t, rfl⟩ := snocT h
    rw [ex1_neg]
    simp [als_app, als, Tr.al, Stp.al]
  | unt =>
    obtain ⟨us, t, rfl⟩ := snocT h
    rw [ex1_unt]
    simp [als_app, als, Tr.al, Stp.al]
  | jn e k =>
    obtain ⟨us, ws, rfl, rfl⟩ := splitT h
    rw [ex1_jn]
    simp [als_app, als, Tr.al, Stp.al]
theorem exs_tn {ss : List Stp} (v : Valid ss) : ∀ i, i ≤ ss.length → tns (exs (ss.take i)) = i
  | 0, _ => rfl
  | i + 1, h => by
    have hs : ss[i]? = some ss[i] := List.getElem?_eq_getElem (by omega)
    rw [exs_take hs, ex1_tn (v i _ hs), exs_tn v i (by omega)]
theorem exs_al {P : Stp → Prop} {ss : List Stp} (v : Valid ss) : ∀ i, i ≤ ss.length → (als P (exs (ss.take i)) ↔ ∀ s ∈ ss.take i, s.al P)
  | 0, _ => by simp [exs, als]
  | i + 1, h => by
    have hs : ss[i]? = some ss[i] := List.getElem?_eq_getElem (by omega)
    rw [exs_take hs, ex1_al (v i _ hs), exs_al v i (by omega), List.take_add_one, hs]
    simp only [Option.toList_some, List.mem_append, List.mem_singleton]
    exact ⟨fun ⟨a, b⟩ s hs => hs.elim (a s) (fun e => e ▸ b), fun a => ⟨fun s hs => a s (.inl hs), a _ (.inr rfl)⟩⟩
theorem nk_sign {c : Int} {w : Str} {r : List D} (h : w ∈ signs) : nodeOk c (.tup (.str w :: r)) = (match r with | [x, y] => bkD 0 (c - 1) x && bkD (1 - 1000000000000000000) (1000000000000000000 - 1) y | _ => false) := by
  unfold nodeOk
  dsimp only
  rw [if_pos h]
  try rfl
theorem nk_mis {c : Int} {r : List D} : nodeOk c (.tup (.str "missing" :: r)) = (match r with | [x] => bkD 0 (c - 1) x | _ => false) := by
  unfold nodeOk
  dsimp only
  rw [if_neg (by simp [signs]), if_pos rfl]
  try rfl
theorem nk_neg {c : Int} {r : List D} : nodeOk c (.tup (.str "negation" :: r)) = decide (r.length = 1) := by
  unfold nodeOk
  dsimp only
  rw [if_neg (by simp [signs]), if_neg (by simp), if_pos (.inl rfl)]
theorem nk_unt {c : Int} {r : List D} : nodeOk c (.tup (.str "untrue" :: r)) = decide (r.length = 1) := by
  unfold nodeOk
  dsimp only
  rw [if_neg (by simp [signs]), if_neg (by simp), if_pos (.inr rfl)]
theorem nk_jn {c : Int} {e : Bool} {r : List D} : nodeOk c (.tup (.str (jw e) :: r)) = true := by
  cases e <;> simp [nodeOk, jw, signs]
theorem kd_leaf {w : Str} {r : List D} (h : w ∈ signs ∨ w = "missing") : kdsD (.tup (.str w :: r)) = [] := by
  rw [kdsD, if_pos h]
theorem kd_in {w : Str} {r : List D} (h : ¬ (w ∈ signs ∨ w = "missing")) : kdsD (.tup (.str w :: r)) = r := by
  rw [kdsD, if_neg h]
theorem kd_neg {r : List D} : kdsD (.tup (.str "negation" :: r)) = r := kd_in (by simp [signs])
theorem kd_unt {r : List D} : kdsD (.tup (.str "untrue" :: r)) = r := kd_in (by simp [signs])
theorem kd_jn {e : Bool} {r : List D} : kdsD (.tup (.str (jw e) :: r)) = r := by
  refine kd_in ?_
  cases e <;> simp [jw, signs]
theorem OkN.node {c : Int} {g : D} {n : Nat} (h : OkN c g n) : nodeOk c g = true := by
  cases h with
  | mk h k => exact h
theorem OkN.kids {c : Int} {g : D} {n : Nat} (h : OkN c g n) : ∃ m, n = m + 1 ∧ OkNs c (kdsD g) m := by
  cases h with
  | mk h k => exact ⟨_, rfl, k⟩
theorem OkNs.mem {c : Int} {g : D} : ∀ {gs : List D} {n : Nat}, OkNs c gs n → g ∈ gs → ∃ m, OkN c g m
  | _, _, .nil, h => nomatch h
  | _, _, .cons a b, h => by
    rcases List.mem_cons.mp h with rfl | h
    · exact ⟨_, a⟩
    · exact OkNs.mem b h
mutual
theorem Tr.okn (c : Nat) : ∀ t : Tr, t.al Stp.num → (t.al (Stp.cb c) → OkN c t.d t.tn) ∧ (∀ n, OkN c t.d n → t.al (Stp.cb c))
  | .cmp s k n, hw => by
    rw [Tr.al, Stp.num] at hw
    rw [Tr.al, Stp.cb, Tr.tn, Tr.d]
    refine ⟨fun hc => .mk (n := 0) ?_ ?_, fun m h => ?_⟩
    · rw [nk_sign hw.1]
      simp [bkD]
      omega
    · rw [kd_leaf (.inl hw.1)]
      exact .nil
    · have h := h.node
      rw [nk_sign hw.1] at h
      simp [bkD] at h
      omega
  | .mis k, hw => by
    rw [Tr.al, Stp.cb, Tr.tn, Tr.d]
    refine ⟨fun hc => .mk (n := 0) ?_ ?_, fun m h => ?_⟩
    · rw [nk_mis]
      simp [bkD]
      omega
    · rw [kd_leaf (.inr rfl)]
      exact .nil
    · have h := h.node
      rw [nk_mis] at h
      simp [bkD] at h
      omega
  | .neg t, hw => by
    rw [Tr.al] at hw
    have ih := Tr.okn c t hw
    rw [Tr.al, Tr.tn, Tr.d]
    refine ⟨fun hc => .mk ?_ ?_, fun m h => ?_⟩
    · rw [nk_neg]
      rfl
    · rw [kd_neg]
      exact .one (ih.1 hc)
    · obtain ⟨m, rfl, k⟩ := h.kids
      rw [kd_neg] at k
      exact ih.2 _ k.sing
  | .unt t, hw => by
    rw [Tr.al] at hw
    have ih := Tr.okn c t hw
    rw [Tr.al, Tr.tn, Tr.d]
    refine ⟨fun hc => .mk ?_ ?_, fun m h => ?_⟩
    · rw [nk_unt]
      rfl
    · rw [kd_unt]
      exact .one (ih.1 hc)
    · obtain ⟨m, rfl, k⟩ := h.kids
      rw [kd_unt] at k
      exact ih.2 _ k.sing
  | .jn e ts, hw => by
    rw [Tr.al] at hw
    have ih := trs_okn c ts hw
    rw [Tr.al, Tr.tn, Tr.d]
    refine ⟨fun hc => .mk ?_ ?_, fun m h => ?_⟩
    · rw [nk_jn]
    · rw [kd_jn]
      exact ih.1 hc
    · obtain ⟨m, rfl, k⟩ := h.kids
      rw [kd_jn] at k
      exact ih.2 _ k
theorem trs_okn (c : Nat) : ∀ ts : List Tr, als Stp.num ts → (als (Stp.cb c) ts → OkNs c (trD ts) (tns ts)) ∧ (∀ n, OkNs c (trD ts) n → als (Stp.cb c) ts)
  | [], _ => ⟨fun _ => by rw [trD, tns]; exact .nil, fun _ _ => by rw [als]; trivial⟩
  | t :: ts, hw => by
    rw [als] at hw
    have a := Tr.okn c t hw.1
    have b := trs_okn c ts hw.2
    rw [als, trD, tns]
    refine ⟨fun ⟨h1, h2⟩ => .cons (a.1 h1) (b.1 h2), fun n h => ?_⟩
    cases h with
    | cons h1 h2 => exact ⟨a.2 _ h1, b.2 _ h2⟩
end
/-- no predicate -/
def Bad (c : Int) (g : D) : Prop := ∀ n, ¬ OkN c g n
theorem bad_node {c : Int} {g : D} (h : nodeOk c g = false) : Bad c g := fun n k => by
  rw [k.node] at h
  cases h
theorem bad_kid {c : Int} {g k : D} (hk : k ∈ kdsD g) (h : Bad c k) : Bad c g := fun n z => by
  obtain ⟨m, _, q⟩ := z.kids
  obtain ⟨i, hi⟩ := q.mem hk
  exact h i hi
mutual
theorem Tr.pln : ∀ t : Tr, t.d.pln = true
  | .cmp s k n => by simp [Tr.d, D.pln, plns]
  | .mis k => by simp [Tr.d, D.pln, plns]
  | .neg t => by simp [Tr.d, D.pln, plns, Tr.pln t]
  | .unt t => by simp [Tr.d, D.pln, plns, Tr.pln t]
  | .jn e ts => by simp [Tr.d, D.pln, plns, trs_pln ts]
theorem trs_pln : ∀ ts : List Tr, plns (trD ts) = true
  | [] => by simp [trD, plns]
  | t :: ts => by simp [trD, plns, Tr.pln t, trs_pln ts]
end
mutual
theorem Tr.sz : ∀ t : Tr, t.d.sz ≤ 4 * t.tn
  | .cmp s k n => by simp [Tr.d, D.sz, Tr.tn]
  | .mis k => by simp [Tr.d, D.sz, Tr.tn]
  | .neg t => by have := Tr.sz t; simp [Tr.d, D.sz, Tr.tn]; omega
  | .unt t => by have := Tr.sz t; simp [Tr.d, D.sz, Tr.tn]; omega
  | .jn e ts => by have := trs_sz ts; simp [Tr.d, D.sz, Tr.tn]; omega
theorem trs_sz : ∀ ts : List Tr, szs (trD ts) ≤ 4 * tns ts
  | [] => by simp [trD]
  | t :: ts => by have := Tr.sz t; have := trs_sz ts; simp [trD, tns]; omega
end

/-! ## truths of trees -/
def cellD : Option Int → D
  | none => .non
  | some n => .int n
def tD : Option Bool → D
  | none => .non
  | some b => .bl b
def rowD (r : List (Option Int)) : D := .tup (r.map cellD)
def cmpB (s : Str) (v n : Int) : Bool := if s = "<" then decide (v < n) else if s = "<=" then decide (v ≤ n) else if s = "=" then decide (v = n) else if s = "!=" then !decide (v = n) else if s = ">=" then decide (v ≥ n) else decide (v > n)
theorem compares_ok {v n : Int} {s : Str} : m_compares [.int v, .str s, .int n] = .ok (.bl (cmpB s v n)) [] := by
  by_cases h1 : s = "<"
  · subst h1
    simp [m_compares, g_compares, cmpB]
  · by_cases h2 : s = "<="
    · subst h2
      simp [m_compares, g_compares, cmpB]
    · by_cases h3 : s = "="
      · subst h3
        simp [m_compares, g_compares, cmpB]
      · by_cases h4 : s = "!="
        · subst h4
          simp [m_compares, g_compares, cmpB]
        · by_cases h5 : s = ">="
          · subst h5
            simp [m_compares, g_compares, cmpB]
          · simp [m_compares, g_compares, cmpB, h1, h2, h3, h4, h5]
@[simp] theorem tD_n : tD none = .non := (rfl)
@[simp] theorem tD_s {b : Bool} : tD (some b) = .bl b := (rfl)
@[simp] theorem cellD_isO {c : Option Int} : (cellD c).isO = false := by cases c <;> rfl
@[simp] theorem tD_isO {c : Option Bool} : (tD c).isO = false := by cases c <;> rfl
@[simp] theorem tD_fz {c : Option Bool} : (tD c).fz = tD c := by cases c <;> simp [tD]
@[simp] theorem tD_flD {c : Option Bool} : flD (tD c) = true := by cases c <;> rfl
@[simp] theorem rowD_isO {r : List (Option Int)} : (rowD r).isO = false := rfl
theorem ctruth_ok {v : Option Int} {n : Int} {s : Str} : m_comparison_truth [cellD v, .str s, .int n] = .ok (tD (v.map fun v => cmpB s v n)) [] := by
  cases v with
  | none => simp [m_comparison_truth, g_comparison_truth, cellD, tD]
  | some v => simp [m_comparison_truth, g_comparison_truth, cellD, tD, compares_ok]
def joinB (e : Bool) (l : List (Option Bool)) : Option Bool := if some e ∈ l then some e else if none ∈ l then none else some (!e)
theorem inD_tD {x : Option Bool} : ∀ {l : List (Option Bool)}, inD (tD x) (l.map tD) = decide (x ∈ l)
  | [] => by simp [inD]
  | y :: l => by
    have ih := inD_tD (x := x) (l := l)
    unfold inD at ih
    rw [List.map_cons, inD, List.any_cons, ih]
    have : eqF (tD y) (tD x) = decide (x = y) := by
      cases x <;> cases y <;> simp [eqF, tD]
      rename_i a b
      cases a <;> cases b <;> rfl
    rw [this]
    by_cases h : x = y <;> simp [h]
theorem flat_tD (l : List (Option Bool)) : (l.map tD).all flD = true := by simp
theorem both_ok {l : List (Option Bool)} : m_both_truth [.lst (l.map tD)] = .ok (tD (joinB false l)) [] := by
  have h1 := inD_tD (x := some false) (l := l)
  have h2 := inD_tD (x := none) (l := l)
  simp only [tD_n, tD_s] at h1 h2
  by_cases a : some false ∈ l
  · simp [m_both_truth, g_both_truth, joinB, h1, a]
  · by_cases b : none ∈ l
    · simp [m_both_truth, g_both_truth, joinB, h1, h2, a, b]
    · simp [m_both_truth, g_both_truth, joinB, h1, h2, a, b]
theorem either_ok {l : List (Option Bool)} : m_either_truth [.lst (l.map tD)] = .ok (tD (joinB true l)) [] := by
  have h1 := inD_tD (x := some true) (l := l)
  have h2 := inD_tD (x := none) (l := l)
  simp only [tD_n, tD_s] at h1 h2
  by_cases a : some true ∈ l
  · simp [m_either_truth, g_either_truth, joinB, h1, a]
  · by_cases b : none ∈ l
    · simp [m_either_truth, g_either_truth, joinB, h1, h2, a, b]
    · simp [m_either_truth, g_either_truth, joinB, h1, h2, a, b]
theorem neg_ok {x : Option Bool} : m_negation_truth [tD x] = .ok (tD (x.map (!·))) [] := by
  cases x <;> simp [m_negation_truth, g_negation_truth]
mutual
def Tr.ev (r : List (Option Int)) : Tr → Option Bool
  | .cmp s c n => (r[c]?.join).map fun v => cmpB s v n
  | .mis c => some (r[c]?.join.isNone)
  | .neg t => (t.ev r).map (!·)
  | .unt t => some (decide (t.ev r ≠ some true))
  | .jn e ts => joinB e (evs r ts)
def evs (r : List (Option Int)) : List Tr → List (Option Bool)
  | [] => []
  | t :: ts => t.ev r :: evs r ts
end
theorem evs_map (r : List (Option Int)) : ∀ ts : List Tr, evs r ts = ts.map (Tr.ev r)
  | [] => by simp [evs]
  | t :: ts => by simp [evs, evs_map r ts]
theorem truth_kids {fu : Nat} {g : D} {r : List (Option Int)} {e2 e3 : Option D} : ∀ {ts : List Tr} {acc : List D}, (∀ t ∈ ts, m_truth fu [t.d, rowD r] = .ok (tD (t.ev r)) []) → acc.length + ts.length ≤ 100000 →
    lcGo (lcStep (kName 4) (mP true) (frz (mCall [] (noX (m_truth fu)) (bCons (mVar 4) (bCons (mVar 1) bNil)))) [4]) [4] (ts.map Tr.d) acc [some g, some (rowD r), e2, e3, none] = some (acc ++ (evs r ts).map tD, [some g, some (rowD r), e2, e3, none])
  | [], acc, _, _ => by simp [lcGo, evs]
  | t :: ts, acc, h, hl => by
    have e := h t (by simp)
    have st : lcStep (kName 4) (mP true) (frz (mCall [] (noX (m_truth fu)) (bCons (mVar 4) (bCons (mVar 1) bNil)))) [4] t.d [some g, some (rowD r), e2, e3, none] = some (some (tD (t.ev r)), [some g, some (rowD r), e2, e3, some t.d]) := by
      have o := tr_isO t
      simp [lcStep, o, e]
    rw [List.map_cons, lcGo, st]
    dsimp only
    have hl2 : acc.length + (ts.length + 1) ≤ 100000 := by simpa using hl
    rw [if_pos (by omega)]
    have := truth_kids (g := g) (e2 := e2) (e3 := e3) (ts := ts) (acc := acc ++ [tD (t.ev r)]) (fun x hx => h x (by simp [hx])) (by simp; omega)
    simpa [evs] using this
theorem row_at {r : List (Option Int)} {c : Nat} (h : c < r.length) : (r.map cellD)[c]? = some (cellD (r[c]?.join)) := by
  rw [List.getElem?_map, List.getElem?_eq_getElem h]
  rfl
theorem tns_len : ∀ ts : List Tr, ts.length ≤ tns ts
  | [] => Nat.le_refl _
  | t :: ts => by
    have := tns_len ts
    have : 1 ≤ t.tn := by cases t <;> simp [Tr.tn]
    rw [tns, List.length_cons]
    omega
theorem tn_mem {t : Tr} : ∀ {ts : List Tr}, t ∈ ts → t.tn ≤ tns ts
  | x :: ts, h => by
    rw [tns]
    rcases List.mem_cons.mp h with rfl | h
    · omega
    · have := tn_mem h
      omega
theorem als_mem {P : Stp → Prop} {t : Tr} : ∀ {ts : List Tr}, als P ts → t ∈ ts → t.al P
  | x :: ts, h, hm => by
    rw [als] at h
    rcases List.mem_cons.mp hm with rfl | hm
    · exact h.1
    · exact als_mem h.2 hm
theorem truth_ok {r : List (Option Int)} : ∀ (fu : Nat) (t : Tr), t.tn ≤ fu → t.tn ≤ 1000 → t.al Stp.num → t.al (Stp.cb r.length) → m_truth fu [t.d, rowD r] = .ok (tD (t.ev r)) [] := by
  intro fu
  induction fu with
  | zero =>
    intro t h
    have : 1 ≤ t.tn := by cases t <;> simp [Tr.tn]
    omega
  | succ fu ih =>
    intro t h hb num cb
    have node := ((Tr.okn r.length t num).1 cb).node
    have pa := parts_ok (Tr.pln t) node
    cases t with
    | cmp s c n =>
      rw [Tr.al] at num cb
      have ws := in_signs s
      rw [decide_eq_true num.1] at ws
      have e := row_at (r := r) (c := c) cb
      have e1 := ctruth_ok (v := r[c]?.join) (n := n) (s := s)
      have rd : rowD r = .tup (r.map cellD) := rfl
      simp only [Tr.d, rd, Tr.ev] at e1 ⊢
      generalize r.map cellD = xs at e
      simp [m_truth, ws, e, e1]
    | mis c =>
      rw [Tr.al] at cb
      have e := row_at (r := r) (c := c) cb
      have rd : rowD r = .tup (r.map cellD) := rfl
      have ws := in_signs "missing"
      rw [decide_eq_false (by simp [signs])] at ws
      simp only [Tr.d, rd, Tr.ev]
      generalize r.map cellD = xs at e
      cases hv : r[c]?.join with
      | none =>
        rw [hv] at e
        simp [m_truth, ws, e, cellD]
      | some v =>
        rw [hv] at e
        simp [m_truth, ws, e, cellD]
    | neg t =>
      rw [Tr.al] at num cb
      rw [Tr.tn] at h hb
      have k := truth_kids (fu := fu) (g := (Tr.neg t).d) (r := r) (e2 := some (.str "negation")) (e3 := none) (ts := [t]) (acc := []) (fun x hx => by
        rw [List.mem_singleton] at hx
        subst hx
        exact ih x (by omega) (by omega) num cb) (by simp)
      have ws := in_signs "negation"
      rw [decide_eq_false (by simp [signs])] at ws
      have e1 := neg_ok (x := t.ev r)
      have kd : kdsD (Tr.neg t).d = [t.d] := by rw [Tr.d, kd_neg]
      rw [kd] at pa
      simp only [Tr.d, List.map_cons, List.map_nil, evs, List.nil_append] at pa k ⊢
      simp [m_truth, ws, pa, k, e1, Tr.ev]
    | unt t =>
      rw [Tr.al] at num cb
      rw [Tr.tn] at h hb
      have k := truth_kids (fu := fu) (g := (Tr.unt t).d) (r := r) (e2 := some (.str "untrue")) (e3 := none) (ts := [t]) (acc := []) (fun x hx => by
        rw [List.mem_singleton] at hx
        subst hx
        exact ih x (by omega) (by omega) num cb) (by simp)
      have ws := in_signs "untrue"
      rw [decide_eq_false (by simp [signs])] at ws
      have kd : kdsD (Tr.unt t).d = [t.d] := by rw [Tr.d, kd_unt]
      rw [kd] at pa
      simp only [Tr.d, List.map_cons, List.map_nil, evs, List.nil_append] at pa k ⊢
      cases hv : t.ev r with
      | none =>
        rw [hv] at k
        simp [m_truth, ws, pa, k, Tr.ev, hv]
      | some b =>
        rw [hv] at k
        cases b <;> simp [m_truth, ws, pa, k, Tr.ev, hv]
    | jn e ts =>
      rw [Tr.al] at num cb
      rw [Tr.tn] at h hb
      have hl := tns_len ts
      have k := truth_kids (fu := fu) (g := (Tr.jn e ts).d) (r := r) (e2 := some (.str (jw e))) (e3 := none) (ts := ts) (acc := []) (fun x hx => by
        have := tn_mem hx
        exact ih x (by omega) (by omega) (als_mem num hx) (als_mem cb hx)) (by simp; omega)
      have kd : kdsD (Tr.jn e ts).d = ts.map Tr.d := by rw [Tr.d, kd_jn, trD_map]
      rw [kd] at pa
      have fz : fzs ((evs r ts).map tD) = (evs r ts).map tD := by
        rw [fzs_eq, List.map_map]
        exact List.map_congr_left fun x _ => tD_fz
      cases e with
      | false =>
        have ws := in_signs "both"
        rw [decide_eq_false (by simp [signs])] at ws
        have e1 := both_ok (l := evs r ts)
        simp only [Tr.d, show jw false = "both" from rfl, List.nil_append] at pa k ⊢
        simp [m_truth, ws, pa, k, e1, fz, Tr.ev]
      | true =>
        have ws := in_signs "either"
        rw [decide_eq_false (by simp [signs])] at ws
        have e1 := either_ok (l := evs r ts)
        simp only [Tr.d, show jw true = "either" from rfl, List.nil_append] at pa k ⊢
        simp [m_truth, ws, pa, k, e1, fz, Tr.ev]

/-! ## the law's own judging of steps -/
theorem compared_ok {v : Option Int} {n : Int} {s : Str} : m_compared [.str s, cellD v, .int n] = .ok (tD (v.map fun v => cmpB s v n)) [] := by
  cases v with
  | none => simp [m_compared, g_compared, cellD]
  | some v =>
    by_cases h1 : s = "<"
    · subst h1
      simp [m_compared, g_compared, cellD, cmpB]
    · by_cases h2 : s = "<="
      · subst h2
        simp [m_compared, g_compared, cellD, cmpB]
      · by_cases h3 : s = "="
        · subst h3
          simp [m_compared, g_compared, cellD, cmpB]
        · by_cases h4 : s = "!="
          · subst h4
            simp [m_compared, g_compared, cellD, cmpB]
          · by_cases h5 : s = ">="
            · subst h5
              simp [m_compared, g_compared, cellD, cmpB]
            · simp [m_compared, g_compared, cellD, cmpB, h1, h2, h3, h4, h5]
theorem joined_ok {e : Bool} {l : List (Option Bool)} : m_joined [.str (jw e), .lst (l.map tD)] = .ok (tD (joinB e l)) [] := by
  have h1 := inD_tD (x := some e) (l := l)
  have h2 := inD_tD (x := none) (l := l)
  simp only [tD_n, tD_s] at h1 h2
  cases e
  · by_cases a : some false ∈ l
    · simp [m_joined, g_joined, joinB, jw, h1, a]
    · by_cases b : none ∈ l
      · simp [m_joined, g_joined, joinB, jw, h1, h2, a, b]
      · simp [m_joined, g_joined, joinB, jw, h1, h2, a, b]
  · by_cases a : some true ∈ l
    · simp [m_joined, g_joined, joinB, jw, h1, a]
    · by_cases b : none ∈ l
      · simp [m_joined, g_joined, joinB, jw, h1, h2, a, b]
      · simp [m_joined, g_joined, joinB, jw, h1, h2, a, b]
def evD (r : List (Option Int)) (t : Tr) : D := tD (t.ev r)
@[simp] theorem evD_isO {r : List (Option Int)} {t : Tr} : (evD r t).isO = false := tD_isO
theorem evD_fz {r : List (Option Int)} (ts : List Tr) : fzs (ts.map (evD r)) = ts.map (evD r) := by
  rw [fzs_eq, List.map_map]
  exact List.map_congr_left fun x _ => tD_fz
theorem judged_turn {e0 e4 e5 : Option D} {r : List (Option Int)} {ts : List Tr} {s : Stp} (hf : s.fit) (hc : s.cb r.length) (hn : s.need ≤ ts.length) (hl : ts.length ≤ 1000) :
    ∃ f4 f5, g_judged_4 [e0, some (rowD r), some (.ols (ts.map (evD r))), some s.d, e4, e5] = .nx [e0, some (rowD r), some (.ols ((ex1 ts s).map (evD r))), some s.d, f4, f5] := by
  have hz : szok ts.length = some () := szok_of (by omega)
  have rd : rowD r = .tup (r.map cellD) := rfl
  cases s with
  | cmp g c n =>
    have hg : g ∈ signs := hf
    have n0 : ¬ g = "missing" := sign_ne hg (by simp [signs])
    have n1 : ¬ g = "negation" := sign_ne hg (by simp [signs])
    have n2 : ¬ g = "untrue" := sign_ne hg (by simp [signs])
    have n3 : ¬ g = "both" := sign_ne hg (by simp [signs])
    have n4 : ¬ g = "either" := sign_ne hg (by simp [signs])
    have e := row_at (r := r) (c := c) hc
    have e1 := compared_ok (v := r[c]?.join) (n := n) (s := g)
    refine ⟨e4, e5, ?_⟩
    have ex : (ex1 ts (.cmp g c n)).map (evD r) = ts.map (evD r) ++ [tD (r[c]?.join.map fun v => cmpB g v n)] := by
      simp [ex1, evD, Tr.ev]
    rw [rd, ex]
    generalize r.map cellD = xs at e
    have hz2 : szok (ts.map (evD r)).length = some () := by rw [List.length_map]; exact hz
    generalize ts.map (evD r) = ys at hz2
    generalize r[c]?.join = v at e e1
    simp [g_judged_4, Stp.d, n0, n1, n2, n3, n4, e, e1, hz2]
  | mis c =>
    have e := row_at (r := r) (c := c) hc
    refine ⟨e4, e5, ?_⟩
    have ex : (ex1 ts (.mis c)).map (evD r) = ts.map (evD r) ++ [.bl (r[c]?.join.isNone)] := by
      simp [ex1, evD, Tr.ev]
    rw [rd, ex]
    generalize r.map cellD = xs at e
    have hz2 : szok (ts.map (evD r)).length = some () := by rw [List.length_map]; exact hz
    generalize ts.map (evD r) = ys at hz2
    generalize r[c]?.join = v at e
    cases v with
    | none => simp [g_judged_4, Stp.d, e, hz2, cellD]
    | some v => simp [g_judged_4, Stp.d, e, hz2, cellD]
  | neg =>
    obtain ⟨us, t, rfl⟩ := snocT hn
    rw [ex1_neg, List.map_append, List.map_append]
    have hz2 : szok (us.map (evD r)).length = some () := by rw [List.length_map]; exact szok_of (by simp at hl; omega)
    have pl : popL (us.map (evD r) ++ [t].map (evD r)) = some (evD r t, us.map (evD r)) := popL_snoc evD_isO
    generalize us.map (evD r) = ys at hz2 pl
    have en : [Tr.neg t].map (evD r) = [tD ((t.ev r).map (!·))] := by simp [evD, Tr.ev]
    rw [en]
    generalize [t].map (evD r) = y1 at pl
    unfold evD at pl
    generalize t.ev r = v at pl
    cases v with
    | none => exact ⟨some .non, e5, by simp [g_judged_4, g_judged_2, Stp.d, pl, hz2]⟩
    | some b => exact ⟨some (.bl (!b)), e5, by simp [g_judged_4, g_judged_2, Stp.d, pl, hz2]⟩
  | unt =>
    obtain ⟨us, t, rfl⟩ := snocT hn
    rw [ex1_unt, List.map_append, List.map_append]
    have hz2 : szok (us.map (evD r)).length = some () := by rw [List.length_map]; exact szok_of (by simp at hl; omega)
    have pl : popL (us.map (evD r) ++ [t].map (evD r)) = some (evD r t, us.map (evD r)) := popL_snoc evD_isO
    generalize us.map (evD r) = ys at hz2 pl
    have en : [Tr.unt t].map (evD r) = [.bl (decide (t.ev r ≠ some true))] := by simp [evD, Tr.ev]
    rw [en]
    generalize [t].map (evD r) = y1 at pl
    unfold evD at pl
    generalize t.ev r = v at pl
    refine ⟨some (tD v), e5, ?_⟩
    cases v with
    | none => simp [g_judged_4, g_judged_1, Stp.d, pl, hz2]
    | some b => cases b <;> simp [g_judged_4, g_judged_1, Stp.d, pl, hz2]
  | jn e k =>
    have hk : k ≤ ts.length := hn
    obtain ⟨q, hq⟩ : ∃ q, q = ts.length - k := ⟨_, rfl⟩
    have hi : (ts.length : Int) - (k : Int) = (q : Int) := by omega
    have hql : q ≤ (ts.map (evD r)).length := by simp; omega
    have c1 := cut_take hql
    have c2 := cut_drop hql
    have fz := evD_fz (r := r) ts
    have f1 : fzs (List.take q (ts.map (evD r))) = List.take q (ts.map (evD r)) := by rw [← List.map_take, evD_fz]
    have f2 : fzs (List.drop q (ts.map (evD r))) = List.drop q (ts.map (evD r)) := by rw [← List.map_drop, evD_fz]
    have ej : m_joined [.str (jw e), .lst (List.drop q (ts.map (evD r)))] = .ok (tD (joinB e (evs r (ts.drop q)))) [] := by
      have := joined_ok (e := e) (l := evs r (ts.drop q))
      rw [evs_map, List.map_map] at this
      rw [evs_map, ← List.map_drop]
      exact this
    have ex : (ex1 ts (.jn e k)).map (evD r) = List.take q (ts.map (evD r)) ++ [tD (joinB e (evs r (ts.drop q)))] := by
      simp [ex1, evD, Tr.ev, ← hq, List.map_take]
    have len : (ts.map (evD r)).length = ts.length := List.length_map _
    rw [ex]
    have w1 : (jw e = "both" ∨ jw e = "either") := by cases e <;> simp [jw]
    have zf : (tD (joinB e (evs r (ts.drop q)))).fz = tD (joinB e (evs r (ts.drop q))) := tD_fz
    generalize tD (joinB e (evs r (ts.drop q))) = z at ej zf
    generalize ts.map (evD r) = ys at hql c1 c2 fz f1 f2 ej len
    rw [← len] at hi
    have l2 : min q ys.length = q := Nat.min_eq_left hql
    have l3 : q ≤ 99999 := by omega
    refine ⟨e4, some (.int (q : Int)), ?_⟩
    rcases w1 with w1 | w1
    · rw [w1] at ej
      simp [g_judged_4, g_judged_3, Stp.d, w1, hi, slA, fz, c1, c2, f1, f2, ej, zf, l2, l3]
      try omega
    · rw [w1] at ej
      simp [g_judged_4, g_judged_3, Stp.d, w1, hi, slA, fz, c1, c2, f1, f2, ej, zf, l2, l3]
      try omega
theorem judged_ok {p : List (List Int)} {ss : List Stp} {t : Tr} {r : List (Option Int)} (hr : RcOk p ss) (hl : ss.length ≤ 900) (ht : exs ss = [t]) (hc : ∀ s ∈ ss, s.cb r.length) : m_judged [.lst (ss.map Stp.d), rowD r] = .ok (tD (t.ev r)) [] := by
  have key := loop_nx (tg := kName 3) (body := g_judged_4) (I := fun i ρ => ∃ e3 e4 e5, ρ = [some (.lst (ss.map Stp.d)), some (rowD r), some (.ols ((exs (ss.take i)).map (evD r))), e3, e4, e5] ∧ (exs (ss.take i)).length ≤ i)
    (ds := ss.map Stp.d) (ρ := [some (.lst (ss.map Stp.d)), some (rowD r), some (.ols []), none, none, none]) (k := 0)
    ⟨none, none, none, rfl, by simp [exs]⟩ (fun i d ρ hi ⟨e3, e4, e5, hρ, hd⟩ => by
      subst hρ
      rw [List.getElem?_map] at hi
      obtain ⟨x, h1, h2⟩ := Option.map_eq_some_iff.mp hi
      subst h2
      have hx : x ∈ ss := List.mem_of_getElem? h1
      have hil := (List.getElem?_eq_some_iff.mp h1).1
      rw [Nat.zero_add] at hd
      have hn := hr.valid i x h1
      obtain ⟨f4, f5, e⟩ := judged_turn (e0 := some (.lst (ss.map Stp.d))) (e4 := e4) (e5 := e5) (r := r) (hr.ok x hx).fit (hc x hx) hn (by omega)
      rw [Nat.zero_add]
      refine ⟨_, _, rfl, .inl e, some x.d, f4, f5, by rw [exs_take h1], ?_⟩
      rw [exs_take h1, ex1_len hn]
      omega)
  obtain ⟨ρ', e1, e3, e4, e5, hρ, hd⟩ := key
  subst hρ
  rw [List.length_map, Nat.zero_add, List.take_length, ht] at e1
  have eo : (evD r t).isO = false := evD_isO
  have em : [t].map (evD r) = [evD r t] := rfl
  rw [em] at e1
  have ev : evD r t = tD (t.ev r) := rfl
  rw [← ev]
  generalize evD r t = z at e1 eo
  simp [m_judged, g_judged, e1, eo]

/-! ## class_starts and stand_ins -/
theorem lc_map {step : D → Env → Option (Option D × Env)} {vs : List Nat} {ρ : Env} (f : D → D) : ∀ {ds acc : List D}, (∀ d ∈ ds, ∃ ρ1, step d ρ = some (some (f d), ρ1) ∧ wipeE ρ1 vs = ρ) → acc.length + ds.length ≤ 100000 → lcGo step vs ds acc ρ = some (acc ++ ds.map f, ρ)
  | [], acc, _, _ => by simp [lcGo]
  | d :: ds, acc, h, hl => by
    obtain ⟨ρ1, e, w⟩ := h d (by simp)
    have hl2 : acc.length + (ds.length + 1) ≤ 100000 := by simpa using hl
    rw [lcGo, e]
    dsimp only
    rw [if_pos (by omega), w, lc_map f (fun x hx => h x (by simp [hx])) (by simp; omega)]
    simp
theorem asI_ints : ∀ ns : List Int, (ns.map D.int).mapM asI = some ns
  | [] => rfl
  | n :: ns => by
    rw [List.map_cons, List.mapM_cons, asI_ints ns]
    rfl
def sucD : D → D
  | .int n => .int (n + 1)
  | d => d
theorem suc_map (ms : List Int) : (ms.map D.int).map sucD = (ms.map (· + 1)).map D.int := by simp [sucD]
theorem starts_ok {ms : List Int} (hl : ms.length ≤ 400) : m_class_starts [.lst (ms.map D.int)] = .ok (.ols ((sortU (ms ++ ms.map (· + 1))).map D.int)) [] := by
  have k := lc_map (step := lcStep (kName 1) (mP true) (frz (mOp oAddA (mVar 1) (mP (.int 1)))) [1]) (vs := [1]) (ρ := [some (.lst (ms.map D.int)), none]) sucD (ds := ms.map D.int) (acc := []) (fun d hd => by
    obtain ⟨n, hn, rfl⟩ := List.mem_map.mp hd
    exact ⟨[some (.lst (ms.map D.int)), some (.int n)], by simp [lcStep, sucD], by simp⟩) (by simp; omega)
  rw [suc_map, List.nil_append] at k
  have f1 := fzs_ints (ns := ms.map (· + 1))
  have f0 := fzs_ints (ns := ms)
  have f2 : fzs (ms.map D.int ++ (ms.map (· + 1)).map D.int) = (ms ++ ms.map (· + 1)).map D.int := by rw [fzs_app, f0, f1, List.map_append]
  have l1 : (ms.map D.int).length + ((ms.map (· + 1)).map D.int).length ≤ 100000 := by simp; omega
  have e := asI_ints (ms ++ ms.map (· + 1))
  have l2 : (ms ++ ms.map (· + 1)).length < 1000 := by simp; omega
  generalize ms ++ ms.map (· + 1) = zs at f2 e l2
  generalize (ms.map (· + 1)).map D.int = ys at k f1 f2 l1
  generalize ms.map D.int = xs at k f0 f2 l1
  simp [m_class_starts, g_class_starts, f0, k, f1, f2, l1, e, l2]
def stdI (ms : List Int) : List D := if ms = [] then [.non, .int 0] else .non :: .int (ms.headD 0 - 1) :: (sortU (ms ++ ms.map (· + 1))).map D.int
theorem sortU_len : ∀ xs : List Int, (sortU xs).length ≤ xs.length
  | [] => Nat.le_refl _
  | x :: xs => by
    have h := sortU_len xs
    have il : ∀ ys : List Int, (insU x ys).length ≤ ys.length + 1 := fun ys => by
      induction ys with
      | nil => simp [insU]
      | cons y ys ih =>
        unfold insU
        split
        · simp
        · split
          · simp
          · simp
            omega
    have := il (sortU xs)
    rw [sortU, List.length_cons]
    omega
theorem stdins_ok {ms : List Int} (hl : ms.length ≤ 400) : m_stand_ins [.lst (ms.map D.int)] = .ok (.ols (stdI ms)) [] := by
  match ms, hl with
  | [], _ => simp [m_stand_ins, g_stand_ins, stdI]
  | m :: ms, hl =>
    have e := starts_ok hl
    have z := sortU_len ((m :: ms) ++ (m :: ms).map (· + 1))
    have f0 := fzs_ints (ns := sortU ((m :: ms) ++ (m :: ms).map (· + 1)))
    have l1 : ((sortU ((m :: ms) ++ (m :: ms).map (· + 1))).map D.int).length + 2 ≤ 100000 := by simp at z hl ⊢; omega
    have es : stdI (m :: ms) = .non :: .int (m - 1) :: (sortU ((m :: ms) ++ (m :: ms).map (· + 1))).map D.int := by simp [stdI]
    rw [es]
    generalize (sortU ((m :: ms) ++ (m :: ms).map (· + 1))).map D.int = ys at e f0 l1
    simp only [List.map_cons] at e ⊢
    have l2 : 2 + ys.length ≤ 100000 := by omega
    simp [m_stand_ins, g_stand_ins, e, f0, l2]

/-! ## comparisons_of and numbers_of -/
abbrev Cmp := Str × Nat × Int
def cmD (x : Cmp) : D := .tup [.str x.1, .int (x.2.1 : Int), .int x.2.2]
mutual
def Tr.cms : Tr → List Cmp
  | .cmp s c n => [(s, c, n)]
  | .mis _ => []
  | .neg t => t.cms
  | .unt t => t.cms
  | .jn _ ts => cmss ts
def cmss : List Tr → List Cmp
  | [] => []
  | t :: ts => t.cms ++ cmss ts
end
mutual
theorem cms_tn : ∀ t : Tr, t.cms.length ≤ t.tn
  | .cmp s c n => by simp [Tr.cms, Tr.tn]
  | .mis c => by simp [Tr.cms, Tr.tn]
  | .neg t => by have := cms_tn t; simp only [Tr.cms, Tr.tn]; omega
  | .unt t => by have := cms_tn t; simp only [Tr.cms, Tr.tn]; omega
  | .jn e ts => by have := cmss_tn ts; simp only [Tr.cms, Tr.tn]; omega
theorem cmss_tn : ∀ ts : List Tr, (cmss ts).length ≤ tns ts
  | [] => by simp [cmss, tns]
  | t :: ts => by have := cms_tn t; have := cmss_tn ts; simp only [cmss, tns, List.length_append]; omega
end
theorem cm_inner {a b : Option D} (xs : List Cmp) (acc : List D) (hl : acc.length + xs.length ≤ 100000) : lcGo (lcStep (kName 2) (mP true) (mVar 2) [2]) [2] (xs.map cmD) acc [a, b, none] = some (acc ++ xs.map cmD, [a, b, none]) := by
  have := lc_map (step := lcStep (kName 2) (mP true) (mVar 2) [2]) (vs := [2]) (ρ := [a, b, none]) id (ds := xs.map cmD) (acc := acc) (fun d hd => by
    obtain ⟨x, hx, rfl⟩ := List.mem_map.mp hd
    exact ⟨[a, b, some (cmD x)], by simp [lcStep, cmD], by simp⟩) (by simpa using hl)
  rwa [List.map_id] at this
theorem cm_fz (xs : List Cmp) : fzs (xs.map cmD) = xs.map cmD := by
  rw [fzs_eq, List.map_map]
  exact List.map_congr_left fun x _ => by simp [cmD]
theorem cm_kids {fu : Nat} {g : D} : ∀ {ts : List Tr} {acc : List D}, (∀ t ∈ ts, m_comparisons_of fu [t.d] = .ok (.ols (t.cms.map cmD)) []) → acc.length + (cmss ts).length ≤ 100000 →
    lc2Go (lc2Step (kName 1) (mP true) (mItA (frz (mCall [] (noX (m_comparisons_of fu)) (bCons (mVar 1) bNil)))) (lcStep (kName 2) (mP true) (mVar 2) [2]) [1, 2] [2]) [1, 2] (ts.map Tr.d) acc [some g, none, none] = some (acc ++ (cmss ts).map cmD, [some g, none, none])
  | [], acc, _, _ => by simp [lc2Go, cmss]
  | t :: ts, acc, h, hl => by
    have e := h t (by simp)
    have hl2 : acc.length + (t.cms.length + (cmss ts).length) ≤ 100000 := by simpa [cmss] using hl
    have k := cm_inner (a := some g) (b := some t.d) t.cms acc (by omega)
    have o := tr_isO t
    have f := cm_fz t.cms
    have st : lc2Step (kName 1) (mP true) (mItA (frz (mCall [] (noX (m_comparisons_of fu)) (bCons (mVar 1) bNil)))) (lcStep (kName 2) (mP true) (mVar 2) [2]) [1, 2] [2] t.d acc [some g, none, none] = some (acc ++ t.cms.map cmD, [some g, some t.d, none]) := by
      generalize t.cms.map cmD = ys at e k f
      simp [lc2Step, o, e, f, k]
    rw [List.map_cons, lc2Go, st]
    dsimp only
    have := cm_kids (g := g) (ts := ts) (acc := acc ++ t.cms.map cmD) (fun x hx => h x (by simp [hx])) (by simp; omega)
    simpa [cmss] using this
theorem cms_ok : ∀ (fu : Nat) (t : Tr), t.tn ≤ fu → t.tn ≤ 1000 → t.al Stp.num → m_comparisons_of fu [t.d] = .ok (.ols (t.cms.map cmD)) [] := by
  intro fu
  induction fu with
  | zero =>
    intro t h
    have : 1 ≤ t.tn := by cases t <;> simp [Tr.tn]
    omega
  | succ fu ih =>
    intro t h hb num
    cases t with
    | cmp s c n =>
      rw [Tr.al] at num
      have ws := in_signs s
      rw [decide_eq_true num.1] at ws
      simp [m_comparisons_of, Tr.d, ws, Tr.cms, cmD]
    | mis c =>
      have ws := in_signs "missing"
      rw [decide_eq_false (by simp [signs])] at ws
      have pa := parts_ok (c := (c : Int) + 1) (Tr.pln (.mis c)) (by rw [Tr.d, nk_mis]; simp [bkD])
      have kd : kdsD (Tr.mis c).d = [] := by rw [Tr.d, kd_leaf (.inr rfl)]
      rw [kd] at pa
      simp only [Tr.d] at pa ⊢
      simp [m_comparisons_of, ws, pa, Tr.cms, lc2Go]
    | neg t =>
      rw [Tr.al] at num
      rw [Tr.tn] at h hb
      have k := cm_kids (fu := fu) (g := (Tr.neg t).d) (ts := [t]) (acc := []) (fun x hx => by
        rw [List.mem_singleton] at hx
        subst hx
        exact ih x (by omega) (by omega) num) (by have := cms_tn t; simp [cmss]; omega)
      have ws := in_signs "negation"
      rw [decide_eq_false (by simp [signs])] at ws
      have pa := parts_ok (c := 0) (Tr.pln (.neg t)) (by rw [Tr.d, nk_neg]; rfl)
      have kd : kdsD (Tr.neg t).d = [t.d] := by rw [Tr.d, kd_neg]
      rw [kd] at pa
      simp only [Tr.d, List.map_cons, List.map_nil, cmss, List.nil_append, List.append_nil] at pa k ⊢
      simp [m_comparisons_of, ws, pa, k, Tr.cms]
    | unt t =>
      rw [Tr.al] at num
      rw [Tr.tn] at h hb
      have k := cm_kids (fu := fu) (g := (Tr.unt t).d) (ts := [t]) (acc := []) (fun x hx => by
        rw [List.mem_singleton] at hx
        subst hx
        exact ih x (by omega) (by omega) num) (by have := cms_tn t; simp [cmss]; omega)
      have ws := in_signs "untrue"
      rw [decide_eq_false (by simp [signs])] at ws
      have pa := parts_ok (c := 0) (Tr.pln (.unt t)) (by rw [Tr.d, nk_unt]; rfl)
      have kd : kdsD (Tr.unt t).d = [t.d] := by rw [Tr.d, kd_unt]
      rw [kd] at pa
      simp only [Tr.d, List.map_cons, List.map_nil, cmss, List.nil_append, List.append_nil] at pa k ⊢
      simp [m_comparisons_of, ws, pa, k, Tr.cms]
    | jn e ts =>
      rw [Tr.al] at num
      rw [Tr.tn] at h hb
      have hl := cmss_tn ts
      have k := cm_kids (fu := fu) (g := (Tr.jn e ts).d) (ts := ts) (acc := []) (fun x hx => by
        have := tn_mem hx
        exact ih x (by omega) (by omega) (als_mem num hx)) (by simp; omega)
      have pa := parts_ok (c := 0) (Tr.pln (.jn e ts)) (by rw [Tr.d, nk_jn])
      have kd : kdsD (Tr.jn e ts).d = ts.map Tr.d := by rw [Tr.d, kd_jn, trD_map]
      rw [kd] at pa
      have ws := in_signs (jw e)
      rw [decide_eq_false (by cases e <;> simp [signs, jw])] at ws
      simp only [Tr.d, List.nil_append] at pa k ⊢
      generalize jw e = wd at pa k ws
      simp [m_comparisons_of, ws, pa, k, Tr.cms]

/-! ## numbers_of -/
def numsOf (c : Nat) (xs : List Cmp) : List Int := (xs.filter fun x => decide (x.2.1 = c)).map fun x => x.2.2
theorem numsOf_len (c : Nat) (xs : List Cmp) : (numsOf c xs).length ≤ xs.length := by
  rw [numsOf, List.length_map]
  exact List.length_filter_le _ _
theorem nf_inner {e0 e1 e2 b : Option D} (xs : List Cmp) (acc : List D) (hl : acc.length + xs.length ≤ 100000) : lcGo (lcStep (kName 4) (mP true) (mVar 4) [4]) [4] (xs.map cmD) acc [e0, e1, e2, b, none] = some (acc ++ xs.map cmD, [e0, e1, e2, b, none]) := by
  have := lc_map (step := lcStep (kName 4) (mP true) (mVar 4) [4]) (vs := [4]) (ρ := [e0, e1, e2, b, none]) id (ds := xs.map cmD) (acc := acc) (fun d hd => by
    obtain ⟨x, hx, rfl⟩ := List.mem_map.mp hd
    exact ⟨[e0, e1, e2, b, some (cmD x)], by simp [lcStep, cmD], by simp⟩) (by simpa using hl)
  rwa [List.map_id] at this
theorem nf_kids {e0 e1 e2 : Option D} : ∀ {ts : List Tr} {acc : List D}, (∀ t ∈ ts, t.tn ≤ 20 ∧ t.al Stp.num) → acc.length + (cmss ts).length ≤ 100000 →
    lc2Go (lc2Step (kName 3) (mP true) (mItA (frz (mCall [] (noX (m_comparisons_of 20)) (bCons (mVar 3) bNil)))) (lcStep (kName 4) (mP true) (mVar 4) [4]) [3, 4] [4]) [3, 4] (ts.map Tr.d) acc [e0, e1, e2, none, none] = some (acc ++ (cmss ts).map cmD, [e0, e1, e2, none, none])
  | [], acc, _, _ => by simp [lc2Go, cmss]
  | t :: ts, acc, h, hl => by
    have e := cms_ok 20 t (h t (by simp)).1 (by have := (h t (by simp)).1; omega) (h t (by simp)).2
    have hl2 : acc.length + (t.cms.length + (cmss ts).length) ≤ 100000 := by simpa [cmss] using hl
    have k := nf_inner (e0 := e0) (e1 := e1) (e2 := e2) (b := some t.d) t.cms acc (by omega)
    have o := tr_isO t
    have f := cm_fz t.cms
    have st : lc2Step (kName 3) (mP true) (mItA (frz (mCall [] (noX (m_comparisons_of 20)) (bCons (mVar 3) bNil)))) (lcStep (kName 4) (mP true) (mVar 4) [4]) [3, 4] [4] t.d acc [e0, e1, e2, none, none] = some (acc ++ t.cms.map cmD, [e0, e1, e2, some t.d, none]) := by
      generalize t.cms.map cmD = ys at e k f
      simp [lc2Step, o, e, f, k]
    rw [List.map_cons, lc2Go, st]
    dsimp only
    have := nf_kids (e0 := e0) (e1 := e1) (e2 := e2) (ts := ts) (acc := acc ++ t.cms.map cmD) (fun x hx => h x (by simp [hx])) (by simp; omega)
    simpa [cmss] using this
theorem nf_sort {c : Nat} {e0 e2 e3 : Option D} : ∀ {xs : List Cmp} {acc : List Int}, acc.length + xs.length ≤ 900 →
    scGo (lcStep (kName 4) (mTest (mOp oEqA (mIxAV 4 (mP (.int 1))) (mVar 1))) (mIxAV 4 (mP (.int 2))) [4]) [4] (xs.map cmD) acc [e0, some (.int (c : Int)), e2, e3, none] = some (acc ++ numsOf c xs, [e0, some (.int (c : Int)), e2, e3, none])
  | [], acc, _ => by simp [scGo, numsOf]
  | x :: xs, acc, hl => by
    have hl2 : acc.length + (xs.length + 1) ≤ 900 := by simpa using hl
    by_cases hc : x.2.1 = c
    · have st : lcStep (kName 4) (mTest (mOp oEqA (mIxAV 4 (mP (.int 1))) (mVar 1))) (mIxAV 4 (mP (.int 2))) [4] (cmD x) [e0, some (.int (c : Int)), e2, e3, none] = some (some (.int x.2.2), [e0, some (.int (c : Int)), e2, e3, some (cmD x)]) := by
        have hc' : (x.2.1 : Int) = (c : Int) := by omega
        simp [lcStep, cmD, hc']
      rw [List.map_cons, scGo, st]
      dsimp only
      have z := sortU_len (acc ++ [x.2.2])
      rw [if_pos (by simp at z; omega)]
      have := nf_sort (c := c) (e0 := e0) (e2 := e2) (e3 := e3) (xs := xs) (acc := acc ++ [x.2.2]) (by simp; omega)
      simpa [numsOf, hc] using this
    · have st : lcStep (kName 4) (mTest (mOp oEqA (mIxAV 4 (mP (.int 1))) (mVar 1))) (mIxAV 4 (mP (.int 2))) [4] (cmD x) [e0, some (.int (c : Int)), e2, e3, none] = some (none, [e0, some (.int (c : Int)), e2, e3, some (cmD x)]) := by
        have hc' : ¬ (x.2.1 : Int) = (c : Int) := by omega
        simp [lcStep, cmD, hc']
      rw [List.map_cons, scGo, st]
      dsimp only
      have := nf_sort (c := c) (e0 := e0) (e2 := e2) (e3 := e3) (xs := xs) (acc := acc) (by omega)
      simpa [numsOf, hc] using this
theorem numbers_of_ok {ts : List Tr} {c : Nat} (h : ∀ t ∈ ts, t.tn ≤ 20 ∧ t.al Stp.num) (hl : (cmss ts).length ≤ 900) : m_numbers_of [.lst (ts.map Tr.d), .int (c : Int)] = .ok (.ols ((sortU (numsOf c (cmss ts))).map D.int)) [] := by
  have k := nf_kids (e0 := some (.lst (ts.map Tr.d))) (e1 := some (.int (c : Int))) (e2 := none) h (acc := []) (by simp; omega)
  have q := nf_sort (c := c) (e0 := some (.lst (ts.map Tr.d))) (e2 := some (.lst ((cmss ts).map cmD))) (e3 := none) (xs := cmss ts) (acc := []) (by simpa using hl)
  have f := cm_fz (cmss ts)
  rw [List.nil_append] at k q
  generalize (cmss ts).map cmD = ys at k q f
  generalize ts.map Tr.d = xs at k q
  simp [m_numbers_of, g_numbers_of, k, f, q]

/-! ## combine -/
def extR (rows : List (List D)) (ch : List D) : List (List D) := rows.flatMap fun row => ch.map fun x => row ++ [x]
def prodR (chs : List (List D)) : List (List D) := chs.foldl extR [[]]
def Simple (ds : List D) : Prop := ∀ d ∈ ds, d.isO = false ∧ d.fz = d
theorem cb_inner {e0 e1 e3 : Option D} {ch : List D} {row : List D} {acc : List D} (hs : Simple ch) (hr : row.length ≤ 1000) (hl : acc.length + ch.length ≤ 100000) :
    lcGo (lcStep (kName 5) (mP true) (mTup (mStar (mVar 4) (mCons (mVar 5) mNil))) [5]) [5] ch acc [e0, e1, some (.lst ch), e3, some (.tup row), none] = some (acc ++ ch.map (fun x => D.tup (row ++ [x])), [e0, e1, some (.lst ch), e3, some (.tup row), none]) := by
  refine lc_map (step := lcStep (kName 5) (mP true) (mTup (mStar (mVar 4) (mCons (mVar 5) mNil))) [5]) (vs := [5]) (ρ := [e0, e1, some (.lst ch), e3, some (.tup row), none]) (fun x => D.tup (row ++ [x])) (ds := ch) (acc := acc) (fun d hd => ?_) hl
  have o := (hs d hd).1
  have l1 : row.length + 1 ≤ 100000 := by omega
  exact ⟨[e0, e1, some (.lst ch), e3, some (.tup row), some d], by simp [lcStep, o, l1], by simp⟩
theorem cb_outer {e0 e1 : Option D} {e3 : Option D} {ch : List D} (hs : Simple ch) : ∀ {rows : List (List D)} {acc : List D}, (∀ row ∈ rows, row.length ≤ 1000) → acc.length + rows.length * ch.length ≤ 100000 →
    lc2Go (lc2Step (kName 4) (mP true) (mItA (mVar 2)) (lcStep (kName 5) (mP true) (mTup (mStar (mVar 4) (mCons (mVar 5) mNil))) [5]) [4, 5] [5]) [4, 5] (rows.map D.tup) acc [e0, e1, some (.lst ch), e3, none, none] = some (acc ++ (extR rows ch).map D.tup, [e0, e1, some (.lst ch), e3, none, none])
  | [], acc, _, _ => by simp [lc2Go, extR]
  | row :: rows, acc, h, hl => by
    have hl2 : acc.length + (rows.length * ch.length + ch.length) ≤ 100000 := by
      rw [List.length_cons, Nat.succ_mul] at hl
      exact hl
    have k := cb_inner (e0 := e0) (e1 := e1) (e3 := e3) (row := row) (acc := acc) hs (h row (by simp)) (by omega)
    have st : lc2Step (kName 4) (mP true) (mItA (mVar 2)) (lcStep (kName 5) (mP true) (mTup (mStar (mVar 4) (mCons (mVar 5) mNil))) [5]) [4, 5] [5] (.tup row) acc [e0, e1, some (.lst ch), e3, none, none] = some (acc ++ ch.map (fun x => D.tup (row ++ [x])), [e0, e1, some (.lst ch), e3, some (.tup row), none]) := by
      generalize ch.map (fun x => D.tup (row ++ [x])) = ys at k
      simp [lc2Step, k]
    rw [List.map_cons, lc2Go, st]
    dsimp only
    have := cb_outer (e0 := e0) (e1 := e1) (e3 := e3) hs (rows := rows) (acc := acc ++ ch.map (fun x => D.tup (row ++ [x]))) (fun x hx => h x (by simp [hx])) (by simp; omega)
    simpa [extR, Function.comp_def] using this
theorem extR_len (rows : List (List D)) (ch : List D) : (extR rows ch).length = rows.length * ch.length := by
  induction rows with
  | nil => simp [extR]
  | cons r rs ih =>
    have e : extR (r :: rs) ch = ch.map (fun x => r ++ [x]) ++ extR rs ch := by simp [extR]
    rw [e, List.length_append, ih, List.length_map, List.length_cons, Nat.succ_mul]
    omega
theorem tup_fzs (rows : List (List D)) : fzs (rows.map D.tup) = rows.map D.tup := by
  rw [fzs_eq, List.map_map]
  exact List.map_congr_left fun x _ => by simp
theorem cb_turn {e0 e1 : Option D} {rows : List (List D)} {ch : List D} (hs : Simple ch) (h : ∀ row ∈ rows, row.length ≤ 1000) (hl : rows.length * ch.length ≤ 100000) :
    g_combine_1 [e0, e1, some (.lst ch), some (.ols (rows.map D.tup)), none, none] = .nx [e0, e1, some (.lst ch), some (.ols ((extR rows ch).map D.tup)), none, none] := by
  have k := cb_outer (e0 := e0) (e1 := e1) (e3 := some (.lst (rows.map D.tup))) hs (rows := rows) (acc := []) h (by simpa using hl)
  have f := tup_fzs rows
  rw [List.nil_append] at k
  generalize (extR rows ch).map D.tup = zs at k
  generalize rows.map D.tup = ys at k f
  simp [g_combine_1, f, k]

def mulL (chs : List (List D)) : Nat := chs.foldl (fun m ch => m * ch.length) 1
theorem mulL_snoc (cs : List (List D)) (ch : List D) : mulL (cs ++ [ch]) = mulL cs * ch.length := by
  unfold mulL
  rw [List.foldl_append]
  rfl
theorem prodR_snoc (cs : List (List D)) (ch : List D) : prodR (cs ++ [ch]) = extR (prodR cs) ch := by
  unfold prodR
  rw [List.foldl_append]
  rfl
theorem take_snoc {α : Type} {xs : List α} {i : Nat} {x : α} (h : xs[i]? = some x) : xs.take (i + 1) = xs.take i ++ [x] := by
  rw [List.take_add_one, h]
  rfl
theorem fold_mono (bs : List (List D)) : ∀ (m : Nat), (∀ ch ∈ bs, 1 ≤ ch.length) → m ≤ bs.foldl (fun m ch => m * ch.length) m := by
  induction bs with
  | nil => exact fun m _ => Nat.le_refl _
  | cons b bs ih =>
    intro m h
    have h1 : 1 ≤ b.length := h b (by simp)
    exact Nat.le_trans (Nat.le_mul_of_pos_right m h1) (ih _ fun c hc => h c (by simp [hc]))
theorem mulL_pre {chs : List (List D)} (h : ∀ ch ∈ chs, 1 ≤ ch.length) (i : Nat) : mulL (chs.take i) ≤ mulL chs := by
  have e : mulL chs = (chs.drop i).foldl (fun m ch => m * ch.length) (mulL (chs.take i)) := by
    unfold mulL
    rw [← List.foldl_append, List.take_append_drop]
  rw [e]
  exact fold_mono _ _ fun ch hc => h ch (List.mem_of_mem_drop hc)
theorem prodR_facts (chs : List (List D)) : ∀ i, i ≤ chs.length → (prodR (chs.take i)).length = mulL (chs.take i) ∧ ∀ row ∈ prodR (chs.take i), row.length = i
  | 0, _ => by simp [prodR, mulL]
  | i + 1, h => by
    obtain ⟨a, b⟩ := prodR_facts chs i (by omega)
    have e : chs[i]? = some chs[i] := List.getElem?_eq_getElem (by omega)
    rw [take_snoc e, prodR_snoc, mulL_snoc, extR_len, a]
    refine ⟨rfl, fun row hr => ?_⟩
    obtain ⟨r0, h0, h1⟩ := List.mem_flatMap.mp hr
    obtain ⟨x, _, rfl⟩ := List.mem_map.mp h1
    simp [b r0 h0]
theorem combine_ok {chs : List (List D)} (hs : ∀ ch ∈ chs, Simple ch ∧ 1 ≤ ch.length ∧ ch.length ≤ 1000) (hn : chs.length ≤ 10) :
    m_combine [.lst (chs.map D.lst)] = if mulL chs ≤ 256 then .ok (.lst ((prodR chs).map D.tup)) [] else .ex 2 (some (.int (mulL chs : Nat))) [] := by
  have key := loop_nx (tg := kName 2) (body := g_combine_2) (I := fun i ρ => ∃ e2, ρ = [some (.lst (chs.map D.lst)), some (.int (mulL (chs.take i) : Nat)), e2, none, none, none])
    (ds := chs.map D.lst) (ρ := [some (.lst (chs.map D.lst)), some (.int 1), none, none, none, none]) (k := 0)
    ⟨none, rfl⟩ (fun i d ρ hi ⟨e2, hρ⟩ => by
      subst hρ
      rw [List.getElem?_map] at hi
      obtain ⟨x, h1, h2⟩ := Option.map_eq_some_iff.mp hi
      subst h2
      have hx := hs x (List.mem_of_getElem? h1)
      have sx : sml (x.length : Int) = true := sml_of (by omega)
      rw [Nat.zero_add]
      refine ⟨_, [some (.lst (chs.map D.lst)), some (.int (mulL (chs.take (i + 1)) : Nat)), some (.lst x), none, none, none], rfl, .inl ?_, _, rfl⟩
      rw [take_snoc h1, mulL_snoc]
      simp [g_combine_2, sx])
  obtain ⟨ρ', e1, e2, hρ⟩ := key
  subst hρ
  rw [List.length_map, Nat.zero_add, List.take_length] at e1
  by_cases hN : mulL chs ≤ 256
  · have hN' : ¬ (256 : Int) < (mulL chs : Int) := by omega
    have pos : 1 ≤ mulL chs := fold_mono chs 1 fun ch hc => (hs ch hc).2.1
    have p0 : ¬ mulL chs = 0 := by omega
    have p1 : ¬ (mulL chs : Int) = 0 := by omega
    have key2 := loop_nx (tg := kName 2) (body := g_combine_1) (I := fun i ρ => ∃ e2, ρ = [some (.lst (chs.map D.lst)), some (.int (mulL chs : Nat)), e2, some (.ols ((prodR (chs.take i)).map D.tup)), none, none])
      (ds := chs.map D.lst) (ρ := [some (.lst (chs.map D.lst)), some (.int (mulL chs : Nat)), e2, some (.ols [.tup []]), none, none]) (k := 0)
      ⟨e2, by simp [prodR]⟩ (fun i d ρ hi ⟨e3, hρ⟩ => by
        subst hρ
        rw [List.getElem?_map] at hi
        obtain ⟨x, h1, h2⟩ := Option.map_eq_some_iff.mp hi
        subst h2
        have hx := hs x (List.mem_of_getElem? h1)
        have hil := (List.getElem?_eq_some_iff.mp h1).1
        obtain ⟨f1, f2⟩ := prodR_facts chs i (by omega)
        have f3 := mulL_pre (fun ch hc => (hs ch hc).2.1) (chs := chs) (i + 1)
        rw [take_snoc h1, mulL_snoc] at f3
        have t := cb_turn (e0 := some (.lst (chs.map D.lst))) (e1 := some (.int (mulL chs : Nat))) (rows := prodR (chs.take i)) hx.1 (fun row hr => by rw [f2 row hr]; omega) (by rw [f1]; omega)
        rw [Nat.zero_add]
        refine ⟨_, _, rfl, .inl t, some (.lst x), ?_⟩
        rw [take_snoc h1, prodR_snoc])
    obtain ⟨ρ2, k1, e3, hρ2⟩ := key2
    subst hρ2
    rw [List.length_map, Nat.zero_add, List.take_length] at k1
    have f := tup_fzs (prodR chs)
    rw [if_pos hN]
    generalize (prodR chs).map D.tup = zs at k1 f
    generalize chs.map D.lst = cs at e1 k1
    generalize mulL chs = N at *
    simp [m_combine, g_combine, e1, hN', p0, p1, k1, f]
  · have hN' : (256 : Int) < (mulL chs : Int) := by omega
    rw [if_neg hN]
    generalize chs.map D.lst = cs at e1
    generalize mulL chs = N at *
    simp [m_combine, g_combine, e1, hN', mRaise1]

/-! ## boxes -/
def chsOf (w : Nat) (ts : List Tr) : List (List D) := (List.range w).map fun c => stdI (sortU (numsOf c (cmss ts)))
theorem std_simple (ms : List Int) : Simple (stdI ms) := by
  intro d hd
  unfold stdI at hd
  split at hd
  · simp at hd
    rcases hd with rfl | rfl <;> simp
  · simp at hd
    rcases hd with rfl | rfl | ⟨n, _, rfl⟩ <;> simp
theorem std_len (ms : List Int) : 1 ≤ (stdI ms).length ∧ (stdI ms).length ≤ 2 + 2 * ms.length := by
  unfold stdI
  split
  · simp
  · have := sortU_len (ms ++ ms.map (· + 1))
    simp at this ⊢
    omega
def choD (ts : List Tr) : D → D
  | .int c => .lst (stdI (sortU (numsOf c.toNat (cmss ts))))
  | d => d
theorem std_fz (ms : List Int) : fzs (stdI ms) = stdI ms := by
  rw [fzs_eq]
  conv => rhs; rw [← List.map_id (stdI ms)]
  exact List.map_congr_left fun x hx => (std_simple ms x hx).2
theorem boxes_ok {ts : List Tr} {w : Nat} (h1 : 1 ≤ w) (h3 : w ≤ 3) (h : ∀ t ∈ ts, t.tn ≤ 16 ∧ t.al Stp.num ∧ t.al (Stp.cb w)) (hl : (cmss ts).length ≤ 400) :
    m_boxes [.lst (ts.map Tr.d), .int (w : Int)] = if mulL (chsOf w ts) ≤ 256 then .ok (.lst ((prodR (chsOf w ts)).map D.tup)) [] else .ex 2 (some (.int (mulL (chsOf w ts) : Nat))) [] := by
  have key := loop_nx (tg := kName 2) (body := g_boxes_1) (I := fun i ρ => ∃ e2, ρ = [some (.lst (ts.map Tr.d)), some (.int (w : Int)), e2, none])
    (ds := ts.map Tr.d) (ρ := [some (.lst (ts.map Tr.d)), some (.int (w : Int)), none, none]) (k := 0)
    ⟨none, rfl⟩ (fun i d ρ hi ⟨e2, hρ⟩ => by
      subst hρ
      rw [List.getElem?_map] at hi
      obtain ⟨t, q1, q2⟩ := Option.map_eq_some_iff.mp hi
      subst q2
      obtain ⟨a, b, c⟩ := h t (List.mem_of_getElem? q1)
      have sz := Tr.sz t
      have e := check_ok (Tr.pln t) (by omega) (w : Int)
      have ok := (Tr.okn w t b).1 c
      rw [chk_ok ok, decide_eq_true a, if_pos rfl] at e
      have o := tr_isO t
      exact ⟨_, [some (.lst (ts.map Tr.d)), some (.int (w : Int)), some t.d, none], rfl, .inl (by simp [g_boxes_1, o, e]), some t.d, rfl⟩)
  obtain ⟨ρ', e1, e2, hρ⟩ := key
  subst hρ
  have r : rg1 [.int (w : Int)] = some (upto w) := rg1_n (by omega)
  have k := lc_map (step := lcStep (kName 3) (mP true) (frz (mCall [] (noX m_stand_ins) (bCons (frz (mCall [] (noX m_numbers_of) (bCons (mVar 0) (bCons (mVar 3) bNil)))) bNil))) [3]) (vs := [3]) (ρ := [some (.lst (ts.map Tr.d)), some (.int (w : Int)), e2, none]) (choD ts) (ds := upto w) (acc := []) (fun d hd => by
    obtain ⟨c, hc, rfl⟩ := List.mem_map.mp hd
    have n := numbers_of_ok (ts := ts) (c := c) (fun t ht => ⟨by have := (h t ht).1; omega, (h t ht).2.1⟩) (by omega)
    have z1 := sortU_len (numsOf c (cmss ts))
    have z2 := numsOf_len c (cmss ts)
    have sd := stdins_ok (ms := sortU (numsOf c (cmss ts))) (by omega)
    have f0 := fzs_ints (ns := sortU (numsOf c (cmss ts)))
    have f1 := std_fz (sortU (numsOf c (cmss ts)))
    refine ⟨[some (.lst (ts.map Tr.d)), some (.int (w : Int)), e2, some (.int (c : Int))], ?_, by simp⟩
    have cd : choD ts (.int (c : Int)) = .lst (stdI (sortU (numsOf c (cmss ts)))) := by simp [choD]
    rw [cd]
    generalize stdI (sortU (numsOf c (cmss ts))) = ys at sd f1
    generalize (sortU (numsOf c (cmss ts))).map D.int = zs at n sd f0
    simp [lcStep, n, f0, sd, f1]) (by simp; omega)
  have ec : (upto w).map (choD ts) = (chsOf w ts).map D.lst := by
    simp [upto, chsOf, choD]
  rw [ec, List.nil_append] at k
  have hs : ∀ ch ∈ chsOf w ts, Simple ch ∧ 1 ≤ ch.length ∧ ch.length ≤ 1000 := fun ch hch => by
    obtain ⟨c, _, rfl⟩ := List.mem_map.mp hch
    have z1 := sortU_len (numsOf c (cmss ts))
    have z2 := numsOf_len c (cmss ts)
    have z3 := std_len (sortU (numsOf c (cmss ts)))
    exact ⟨std_simple _, z3.1, by omega⟩
  have cb := combine_ok hs (by simp [chsOf]; omega)
  have f := fun (xs : List (List D)) => show fzs (xs.map D.lst) = xs.map D.lst by
    rw [fzs_eq, List.map_map]
    exact List.map_congr_left fun x _ => by simp
  have f1 := f (chsOf w ts)
  generalize (chsOf w ts).map D.lst = cs at k cb f1
  generalize chsOf w ts = chs at cb
  generalize ts.map Tr.d = xs at e1 k
  by_cases hN : mulL chs ≤ 256
  · rw [if_pos hN] at cb ⊢
    simp [-rg1_int, m_boxes, g_boxes, e1, r, k, f1, cb]
  · rw [if_neg hN] at cb ⊢
    simp [-rg1_int, m_boxes, g_boxes, e1, r, k, f1, cb]

/-! ### the stand-ins of ascending numbers -/
def Asc (ms : List Int) : Prop := ms.Pairwise (· < ·)
theorem asc_ext : ∀ {xs ys : List Int}, Asc xs → Asc ys → (∀ z, z ∈ xs ↔ z ∈ ys) → xs = ys
  | [], [], _, _, _ => rfl
  | [], y :: ys, _, _, h => absurd ((h y).mpr List.mem_cons_self) (by simp)
  | x :: xs, [], _, _, h => absurd ((h x).mp List.mem_cons_self) (by simp)
  | x :: xs, y :: ys, hx, hy, h => by
    obtain ⟨h1, h2⟩ := List.pairwise_cons.mp hx
    obtain ⟨h3, h4⟩ := List.pairwise_cons.mp hy
    have e : x = y := by
      rcases List.mem_cons.mp ((h x).mp List.mem_cons_self) with a | a
      · exact a
      · rcases List.mem_cons.mp ((h y).mpr List.mem_cons_self) with b | b
        · exact b.symm
        · have := h1 y b
          have := h3 x a
          omega
    subst e
    have t := asc_ext h2 h4 fun z => by
      constructor
      · intro hz
        rcases List.mem_cons.mp ((h z).mp (List.mem_cons_of_mem _ hz)) with a | a
        · have := h1 z hz
          omega
        · exact a
      · intro hz
        rcases List.mem_cons.mp ((h z).mpr (List.mem_cons_of_mem _ hz)) with a | a
        · have := h3 z hz
          omega
        · exact a
    rw [t]
def nth0 (ms : List Int) (i : Nat) : Int := ms.getD i 0
theorem nth0_eq {ms : List Int} {i : Nat} (h : i < ms.length) : nth0 ms i = ms[i] := by
  unfold nth0
  rw [List.getD_eq_getElem?_getD, List.getElem?_eq_getElem h]
  rfl
theorem nth0_at {ms : List Int} {i : Nat} (h : i < ms.length) : (ms.map V.int)[i]? = some (.int (nth0 ms i)) := by
  rw [nth0_eq h, List.getElem?_map, List.getElem?_eq_getElem h]
  rfl
theorem nth0_lt {ms : List Int} (a : Asc ms) {i j : Nat} (h : i < j) (hj : j < ms.length) : nth0 ms i < nth0 ms j := by
  rw [nth0_eq (by omega), nth0_eq hj]
  exact List.pairwise_iff_getElem.mp a i j (by omega) hj h
theorem nth0_mem {ms : List Int} {z : Int} : z ∈ ms ↔ ∃ i, i < ms.length ∧ nth0 ms i = z := by
  constructor
  · intro h
    obtain ⟨i, hi, e⟩ := List.getElem_of_mem h
    exact ⟨i, hi, by rw [nth0_eq hi, e]⟩
  · rintro ⟨i, hi, e⟩
    rw [nth0_eq hi] at e
    rw [← e]
    exact List.getElem_mem hi
def gap (ms : List Int) (i : Nat) : Prop := i + 1 = ms.length ∨ 2 ≤ nth0 ms (i + 1) - nth0 ms i
instance (ms : List Int) (i : Nat) : Decidable (gap ms i) := by
  unfold gap
  infer_instance
def piece (ms : List Int) (i : Nat) : List Int := if gap ms i then [nth0 ms i, nth0 ms i + 1] else [nth0 ms i]
def stl (ms : List Int) : Nat → List Int
  | 0 => []
  | k + 1 => stl ms k ++ piece ms k
theorem stl_lt {ms : List Int} (a : Asc ms) : ∀ {k : Nat}, k < ms.length → ∀ z ∈ stl ms k, z < nth0 ms k
  | 0, _, z, hz => nomatch hz
  | k + 1, hk, z, hz => by
    have m := nth0_lt a (show k < k + 1 by omega) hk
    rcases List.mem_append.mp hz with hz | hz
    · have := stl_lt a (by omega) z hz
      omega
    · unfold piece at hz
      split at hz
      · rename_i g
        rcases g with g | g
        · omega
        · simp at hz
          omega
      · simp at hz
        omega
theorem stl_asc {ms : List Int} (a : Asc ms) : ∀ {k : Nat}, k ≤ ms.length → Asc (stl ms k)
  | 0, _ => List.Pairwise.nil
  | k + 1, hk => by
    refine List.pairwise_append.mpr ⟨stl_asc a (by omega), ?_, fun x hx y hy => ?_⟩
    · unfold piece
      split
      · simp
        omega
      · simp
    · have := stl_lt a hk x hx
      unfold piece at hy
      split at hy
      · simp at hy
        omega
      · simp at hy
        omega
theorem stl_mem {ms : List Int} {z : Int} : ∀ {k : Nat}, z ∈ stl ms k ↔ ∃ i, i < k ∧ (z = nth0 ms i ∨ (gap ms i ∧ z = nth0 ms i + 1))
  | 0 => by simp [stl]
  | k + 1 => by
    rw [stl, List.mem_append, stl_mem (k := k)]
    constructor
    · rintro (⟨i, hi, h⟩ | h)
      · exact ⟨i, by omega, h⟩
      · refine ⟨k, by omega, ?_⟩
        unfold piece at h
        split at h
        · rename_i g
          simp at h
          rcases h with h | h
          · exact .inl h
          · exact .inr ⟨g, h⟩
        · simp at h
          exact .inl h
    · rintro ⟨i, hi, h⟩
      by_cases e : i = k
      · subst e
        refine .inr ?_
        unfold piece
        rcases h with h | ⟨g, h⟩
        · split <;> simp [h]
        · rw [if_pos g]
          simp [h]
      · exact .inl ⟨i, by omega, h⟩
theorem stl_all {ms : List Int} (a : Asc ms) (z : Int) : z ∈ stl ms ms.length ↔ z ∈ ms ∨ z - 1 ∈ ms := by
  rw [stl_mem, nth0_mem, nth0_mem]
  constructor
  · rintro ⟨i, hi, h | ⟨_, h⟩⟩
    · exact .inl ⟨i, hi, h.symm⟩
    · exact .inr ⟨i, hi, by omega⟩
  · rintro (⟨i, hi, h⟩ | ⟨i, hi, h⟩)
    · exact ⟨i, hi, .inl h.symm⟩
    · by_cases g : gap ms i
      · exact ⟨i, hi, .inr ⟨g, by omega⟩⟩
      · unfold gap at g
        have m := nth0_lt a (show i < i + 1 by omega) (by omega)
        exact ⟨i + 1, by omega, .inl (by omega)⟩
theorem stl_len (ms : List Int) : ∀ k, (stl ms k).length ≤ 2 * k
  | 0 => Nat.le_refl _
  | k + 1 => by
    have := stl_len ms k
    rw [stl, List.length_append]
    unfold piece
    split <;> simp <;> omega
def sti (ms : List Int) : List V := if ms.length = 0 then [.non, .int 0] else .non :: .int (nth0 ms 0 - 1) :: (stl ms ms.length).map V.int
def spStarts (K : PySem.W.Frag) : Sp := fun vs H Q _ => ∃ (a : Addr) (ms : List Int), vs = [.ref a] ∧ SqL K H a (ms.map V.int) ∧ ms.length ≤ 25 ∧ Asc ms ∧ ∀ p H', H p = none → Same H H' → H' p = some (.lst ((stl ms ms.length).map V.int)) → Q (.ref p) H'
def spStandIns (K : PySem.W.Frag) : Sp := fun vs H Q _ => ∃ (a : Addr) (ms : List Int), vs = [.ref a] ∧ SqL K H a (ms.map V.int) ∧ ms.length ≤ 25 ∧ Asc ms ∧ ∀ p H', H p = none → Same H H' → H' p = some (.lst (sti ms)) → Q (.ref p) H'

/-! ## holds -/
theorem holds_ok {t : Tr} {r : List (Option Int)} (h : t.tn ≤ 20) (num : t.al Stp.num) (cb : t.al (Stp.cb r.length)) : m_holds [t.d, rowD r] = .ok (.bl (decide (t.ev r = some true))) [] := by
  have e := truth_ok (r := r) 20 t h (by omega) num cb
  have o := tr_isO t
  cases hv : t.ev r with
  | none =>
    rw [hv] at e
    simp [m_holds, g_holds, o, e]
  | some b =>
    rw [hv] at e
    cases b <;> simp [m_holds, g_holds, o, e]

/-! ## the boxes as rows -/
def stdO (ms : List Int) : List (Option Int) := if ms = [] then [none, some 0] else none :: some (ms.headD 0 - 1) :: (sortU (ms ++ ms.map (· + 1))).map some
theorem stdO_D (ms : List Int) : stdI ms = (stdO ms).map cellD := by
  unfold stdI stdO
  split
  · simp [cellD]
  · simp [cellD]
def extO (rows : List (List (Option Int))) (ch : List (Option Int)) : List (List (Option Int)) := rows.flatMap fun row => ch.map fun x => row ++ [x]
def prodO (chs : List (List (Option Int))) : List (List (Option Int)) := chs.foldl extO [[]]
theorem extO_D (rows : List (List (Option Int))) (ch : List (Option Int)) : extR (rows.map (List.map cellD)) (ch.map cellD) = (extO rows ch).map (List.map cellD) := by
  simp [extR, extO, List.flatMap_map, List.map_flatMap, Function.comp_def]
theorem foldO_D : ∀ (chs : List (List (Option Int))) (rows : List (List (Option Int))), (chs.map (List.map cellD)).foldl extR (rows.map (List.map cellD)) = (chs.foldl extO rows).map (List.map cellD)
  | [], rows => rfl
  | ch :: chs, rows => by
    rw [List.map_cons, List.foldl_cons, extO_D, foldO_D chs, List.foldl_cons]
theorem prodO_D (chs : List (List (Option Int))) : prodR (chs.map (List.map cellD)) = (prodO chs).map (List.map cellD) := foldO_D chs [[]]
def chsO (w : Nat) (ts : List Tr) : List (List (Option Int)) := (List.range w).map fun c => stdO (sortU (numsOf c (cmss ts)))
theorem chsO_D (w : Nat) (ts : List Tr) : chsOf w ts = (chsO w ts).map (List.map cellD) := by
  simp [chsOf, chsO, stdO_D, Function.comp_def]
def rowsO (w : Nat) (ts : List Tr) : List (List (Option Int)) := prodO (chsO w ts)
theorem rowsO_D (w : Nat) (ts : List Tr) : (prodR (chsOf w ts)).map D.tup = (rowsO w ts).map rowD := by
  rw [chsO_D, prodO_D, List.map_map]
  rfl
theorem rowsO_len {w : Nat} {ts : List Tr} : ∀ r ∈ rowsO w ts, r.length = w := by
  intro r hr
  have f := (prodR_facts (chsOf w ts) (chsOf w ts).length (Nat.le_refl _)).2
  rw [List.take_length] at f
  have h2 : r.map cellD ∈ prodR (chsOf w ts) := by
    rw [chsO_D, prodO_D]
    exact List.mem_map_of_mem hr
  have := f _ h2
  simpa [chsOf] using this
/-- the stand-ins of a column -/
def msOf (c : Nat) (ts : List Tr) : List Int := sortU (numsOf c (cmss ts))
theorem msOf_len (c : Nat) (ts : List Tr) : (msOf c ts).length ≤ (cmss ts).length := Nat.le_trans (sortU_len _) (numsOf_len _ _)

/-! ## the law's rows -/
def InLim (v : Option Int) : Prop := ∀ n, v = some n → -1000000000000000000 ≤ n ∧ n ≤ 1000000000000000000
def rD (r : List (Option Int)) : List D := r.map cellD
theorem rD_fz (r : List (Option Int)) : fzs (rD r) = rD r := by
  unfold rD
  rw [fzs_eq, List.map_map]
  refine List.map_congr_left fun x _ => ?_
  cases x <;> simp [cellD]

/-! ### the stand-in of a value, and its class -/
theorem eqV_int (a b : Int) : eqV (.int a) (.int b) = (a == b) := rfl
theorem in_int (z : Int) : ∀ ms : List Int, inV (.int z) (ms.map V.int) = decide (z ∈ ms)
  | [] => rfl
  | x :: r => by
    have ih := in_int z r
    unfold inV at ih ⊢
    rw [List.map_cons, List.any_cons, ih, eqV_int]
    by_cases e : x = z
    · subst e
      simp
    · have e' : ¬ z = x := fun q => e q.symm
      simp [e, e']
theorem flat_int : ∀ ms : List Int, (ms.map V.int).all flatV = true
  | [] => rfl
  | x :: r => by
    rw [List.map_cons, List.all_cons, flat_int r]
    rfl
theorem in_mem {z : Int} {xs : List V} (h : V.int z ∈ xs) : inV (.int z) xs = true := by
  unfold inV
  rw [List.any_eq_true]
  exact ⟨_, h, by rw [eqV_int]; simp⟩
def oi : Option Int → V
  | none => .non
  | some z => .int z
def below (ms : List Int) (z : Int) : List Int := ms.filter fun n => decide (n < z)
def lst (ls : List Int) : Int := nth0 ls (ls.length - 1)
def cls (ms : List Int) (z : Int) : Int := 2 * ((below ms z).length : Int) + if z ∈ ms then 1 else 0
def clsO (ms : List Int) : Option Int → Int
  | none => -1
  | some z => cls ms z
def stn (ms : List Int) (z : Int) : Int := if z ∈ ms then z else if ms = [] then 0 else if below ms z = [] then nth0 ms 0 - 1 else lst (below ms z) + 1
def stnO (ms : List Int) (v : Option Int) : Option Int := v.map (stn ms)
theorem mem_below {ms : List Int} {z n : Int} : n ∈ below ms z ↔ n ∈ ms ∧ n < z := by simp [below]
theorem asc_below {ms : List Int} (a : Asc ms) (z : Int) : Asc (below ms z) := List.Pairwise.filter _ a
theorem nth0_le {ms : List Int} (a : Asc ms) {i j : Nat} (h : i ≤ j) (hj : j < ms.length) : nth0 ms i ≤ nth0 ms j := by
  rcases Nat.lt_or_ge i j with q | q
  · exact Int.le_of_lt (nth0_lt a q hj)
  · have : i = j := by omega
    subst this
    exact Int.le_refl _
theorem lst_mem {ls : List Int} (h : ls ≠ []) : lst ls ∈ ls := by
  have : 0 < ls.length := List.length_pos_iff.mpr h
  exact nth0_mem.mpr ⟨ls.length - 1, by omega, rfl⟩
theorem lst_max {ls : List Int} (a : Asc ls) {n : Int} (h : n ∈ ls) : n ≤ lst ls := by
  obtain ⟨i, hi, e⟩ := nth0_mem.mp h
  rw [← e]
  exact nth0_le a (by omega) (by omega)
theorem hd_min {ls : List Int} (a : Asc ls) {n : Int} (h : n ∈ ls) : nth0 ls 0 ≤ n := by
  obtain ⟨i, hi, e⟩ := nth0_mem.mp h
  rw [← e]
  exact nth0_le a (by omega) hi
theorem lst_at {ls : List Int} (h : ls ≠ []) : atI (ls.map V.int) (-1) = some (.int (lst ls)) := by
  have l : 0 < ls.length := List.length_pos_iff.mpr h
  unfold atI ixN
  rw [if_neg (by omega), if_pos (by rw [List.length_map]; omega), List.length_map]
  show (ls.map V.int)[((-1 : Int) + ls.length).toNat]? = _
  rw [show ((-1 : Int) + ls.length).toNat = ls.length - 1 by omega]
  exact nth0_at (by omega)
theorem lst_atL {ls : List Int} (h : ls ≠ []) : atI (ls.map V.int) ((ls.length : Int) - 1) = some (.int (lst ls)) := by
  have l : 0 < ls.length := List.length_pos_iff.mpr h
  rw [show ((ls.length : Int) - 1) = ((ls.length - 1 : Nat) : Int) by omega]
  exact atI_nat (nth0_at (by omega))
theorem stn_alike {ms : List Int} (a : Asc ms) {n z : Int} (h : n ∈ ms) : (z < n ↔ stn ms z < n) ∧ (z = n ↔ stn ms z = n) := by
  unfold stn
  by_cases hz : z ∈ ms
  · rw [if_pos hz]
    exact ⟨.rfl, .rfl⟩
  · have hne : z ≠ n := fun e => hz (e ▸ h)
    rw [if_neg hz, if_neg (List.ne_nil_of_mem h)]
    by_cases hb : below ms z = []
    · rw [if_pos hb]
      have q : ¬ n < z := fun q => by
        have := mem_below.mpr ⟨h, q⟩
        rw [hb] at this
        cases this
      have := hd_min a h
      constructor <;> constructor <;> intro _ <;> omega
    · rw [if_neg hb]
      have l := mem_below.mp (lst_mem hb)
      by_cases q : n < z
      · have := lst_max (asc_below a z) (mem_below.mpr ⟨h, q⟩)
        constructor <;> constructor <;> intro _ <;> omega
      · constructor <;> constructor <;> intro _ <;> omega
theorem below_congr {ms : List Int} {z y : Int} (h : ∀ n ∈ ms, n < z ↔ n < y) : below ms z = below ms y := List.filter_congr fun n hn => by simp [h n hn]
theorem cls_of {ms : List Int} {z y : Int} (h : ∀ n ∈ ms, n < z ↔ n < y) (m : z ∈ ms ↔ y ∈ ms) : cls ms z = cls ms y := by
  unfold cls
  rw [below_congr h]
  simp [m]
theorem cls_stn {ms : List Int} (a : Asc ms) (z : Int) : cls ms (stn ms z) = cls ms z := by
  refine cls_of (fun n hn => ?_) ⟨fun h => ?_, fun h => ?_⟩
  · have := stn_alike a hn (z := z)
    constructor <;> intro _ <;> omega
  · have := (stn_alike a h (z := z)).2.mpr rfl
    rw [this]
    exact h
  · have := (stn_alike a h (z := z)).2.mp rfl
    rw [this]
    exact h
theorem below_mono {ms : List Int} {z y : Int} (h : z ≤ y) : below ms z = (below ms y).filter fun n => decide (n < z) := by
  unfold below
  rw [List.filter_filter]
  refine List.filter_congr fun n _ => ?_
  by_cases q : n < z
  · simp [q]
    omega
  · simp [q]
theorem below_eq {ms : List Int} {z y : Int} (h : (below ms z).length = (below ms y).length) : below ms z = below ms y := by
  rcases Int.le_total z y with q | q
  · have e := below_mono (ms := ms) q
    have s : (below ms z).Sublist (below ms y) := by
      rw [e]
      exact List.filter_sublist
    exact s.eq_of_length h
  · have e := below_mono (ms := ms) q
    have s : (below ms y).Sublist (below ms z) := by
      rw [e]
      exact List.filter_sublist
    exact (s.eq_of_length h.symm).symm
theorem cls_parts {ms : List Int} {z y : Int} (h : cls ms z = cls ms y) : below ms z = below ms y ∧ (z ∈ ms ↔ y ∈ ms) := by
  unfold cls at h
  by_cases hz : z ∈ ms <;> by_cases hy : y ∈ ms
  · rw [if_pos hz, if_pos hy] at h
    exact ⟨below_eq (by omega), by simp [hz, hy]⟩
  · rw [if_pos hz, if_neg hy] at h
    omega
  · rw [if_neg hz, if_pos hy] at h
    omega
  · rw [if_neg hz, if_neg hy] at h
    exact ⟨below_eq (by omega), by simp [hz, hy]⟩
theorem cls_mem {ms : List Int} {z y : Int} (h : cls ms z = cls ms y) (hz : z ∈ ms) : z = y := by
  obtain ⟨e, m⟩ := cls_parts h
  have hy := m.mp hz
  rcases Int.lt_trichotomy z y with q | q | q
  · have := mem_below.mpr ⟨hz, q⟩
    rw [← e] at this
    have := (mem_below.mp this).2
    omega
  · exact q
  · have := mem_below.mpr ⟨hy, q⟩
    rw [e] at this
    have := (mem_below.mp this).2
    omega
theorem stn_cls {ms : List Int} {z y : Int} (h : cls ms z = cls ms y) : stn ms z = stn ms y := by
  by_cases hz : z ∈ ms
  · rw [cls_mem h hz]
  · obtain ⟨e, m⟩ := cls_parts h
    unfold stn
    rw [if_neg hz, if_neg (fun q => hz (m.mpr q)), e]
theorem stn_iff {ms : List Int} (a : Asc ms) {z y : Int} : stn ms z = stn ms y ↔ cls ms z = cls ms y :=
  ⟨fun h => by rw [← cls_stn a z, ← cls_stn a y, h], stn_cls⟩
theorem stn_stn {ms : List Int} (a : Asc ms) (z : Int) : stn ms (stn ms z) = stn ms z := stn_cls (cls_stn a z)
theorem cls_pos (ms : List Int) (z : Int) : 0 ≤ cls ms z := by
  unfold cls
  split <;> omega
theorem stnO_iff {ms : List Int} (a : Asc ms) : ∀ {v u : Option Int}, stnO ms v = stnO ms u ↔ clsO ms v = clsO ms u
  | none, none => by simp
  | none, some u => by
    have := cls_pos ms u
    simp [stnO, clsO]
    omega
  | some v, none => by
    have := cls_pos ms v
    simp [stnO, clsO]
    omega
  | some v, some u => by
    simp only [stnO, clsO, Option.map_some, Option.some.injEq]
    exact stn_iff a
theorem sti_mem {ms : List Int} (a : Asc ms) : ∀ v : Option Int, inV (oi (stnO ms v)) (sti ms) = true
  | none => by
    unfold sti
    split <;> rfl
  | some z => by
    refine in_mem (z := stn ms z) ?_
    unfold sti
    by_cases e : ms.length = 0
    · have e' := List.length_eq_zero_iff.mp e
      subst e'
      simp [stn]
    · rw [if_neg e]
      unfold stn
      have e' : ms ≠ [] := fun q => e (by rw [q]; rfl)
      by_cases hz : z ∈ ms
      · rw [if_pos hz]
        exact List.mem_cons_of_mem _ (List.mem_cons_of_mem _ (List.mem_map.mpr ⟨z, (stl_all a z).mpr (.inl hz), rfl⟩))
      · rw [if_neg hz, if_neg e']
        by_cases hb : below ms z = []
        · rw [if_pos hb]
          exact List.mem_cons_of_mem _ List.mem_cons_self
        · rw [if_neg hb]
          have l := mem_below.mp (lst_mem hb)
          refine List.mem_cons_of_mem _ (List.mem_cons_of_mem _ (List.mem_map.mpr ⟨_, (stl_all a _).mpr (.inr ?_), rfl⟩))
          rw [show lst (below ms z) + 1 - 1 = lst (below ms z) by omega]
          exact l.1
theorem flat_sti (ms : List Int) : (sti ms).all flatV = true := by
  unfold sti
  split
  · rfl
  · show (V.non :: V.int _ :: _).all flatV = true
    rw [List.all_cons, List.all_cons, flat_int]
    rfl
theorem dec_oi {v u : Option Int} : decide (oi v = oi u) = decide (v = u) := by
  cases v <;> cases u <;> simp [oi]
theorem scal_oi : ∀ v u : Option Int, scal (oi v) (oi u) = true
  | none, none => rfl
  | none, some _ => rfl
  | some _, none => rfl
  | some _, some _ => rfl
theorem flat_oi : ∀ v : Option Int, flatV (oi v) = true
  | none => rfl
  | some _ => rfl

/-! ## the comparisons of steps -/
theorem inD_int {n : Int} : ∀ {f : List Int}, inD (.int n) (f.map D.int) = decide (n ∈ f)
  | [] => by simp [inD]
  | y :: l => by
    have ih := inD_int (n := n) (f := l)
    unfold inD at ih
    rw [List.map_cons, inD, List.any_cons, ih]
    by_cases h : n = y
    · subst h
      simp [eqF]
    · have h2 : ¬ y = n := fun e => h e.symm
      simp [eqF, h, h2]
theorem flat_ints (f : List Int) : (f.map D.int).all flD = true := by simp
def rcD (rs : List (List Stp)) : List D := rs.map fun ss => .lst (ss.map Stp.d)
theorem sum_take (xs : List Nat) (i : Nat) : (xs.take i).sum ≤ xs.sum := by
  have h : ((xs.take i) ++ (xs.drop i)).sum = xs.sum := by rw [List.take_append_drop]
  rw [List.sum_append] at h
  omega
def Stp.cm : Stp → List Cmp
  | .cmp s c n => [(s, c, n)]
  | _ => []
theorem cmss_app : ∀ a b : List Tr, cmss (a ++ b) = cmss a ++ cmss b
  | [], b => by simp [cmss]
  | t :: a, b => by rw [List.cons_append, cmss, cmss, cmss_app a b, List.append_assoc]
theorem cmss_ex1 {ts : List Tr} {s : Stp} (h : s.need ≤ ts.length) : cmss (ex1 ts s) = cmss ts ++ s.cm := by
  cases s with
  | cmp s c n => simp [ex1, cmss_app, cmss, Tr.cms, Stp.cm]
  | mis c => simp [ex1, cmss_app, cmss, Tr.cms, Stp.cm]
  | neg =>
    obtain ⟨us, t, rfl⟩ := snocT h
    rw [ex1_neg]
    simp [cmss_app, cmss, Tr.cms, Stp.cm]
  | unt =>
    obtain ⟨us, t, rfl⟩ := snocT h
    rw [ex1_unt]
    simp [cmss_app, cmss, Tr.cms, Stp.cm]
  | jn e k =>
    obtain ⟨us, ws, rfl, rfl⟩ := splitT h
    rw [ex1_jn]
    simp [cmss_app, cmss, Tr.cms, Stp.cm]
theorem exs_cms {ss : List Stp} (v : Valid ss) : ∀ i, i ≤ ss.length → cmss (exs (ss.take i)) = (ss.take i).flatMap Stp.cm
  | 0, _ => by simp [exs, cmss]
  | i + 1, h => by
    have hs : ss[i]? = some ss[i] := List.getElem?_eq_getElem (by omega)
    rw [exs_take hs, cmss_ex1 (v i _ hs), exs_cms v i (by omega), take_snoc hs, List.flatMap_append, List.flatMap_cons, List.flatMap_nil, List.append_nil]
theorem cms_steps {ss : List Stp} (v : Valid ss) {t : Tr} (ht : exs ss = [t]) : t.cms = ss.flatMap Stp.cm := by
  have := exs_cms v ss.length (Nat.le_refl _)
  rw [List.take_length, ht] at this
  simpa [cmss] using this
theorem numsOf_mem {c : Nat} {z : Int} {xs : List Cmp} : z ∈ numsOf c xs ↔ ∃ w, (w, c, z) ∈ xs := by
  simp only [numsOf, List.mem_map, List.mem_filter, decide_eq_true_eq]
  constructor
  · rintro ⟨⟨w, k, n⟩, ⟨h, h2⟩, rfl⟩
    exact ⟨w, by simpa [← h2] using h⟩
  · rintro ⟨w, h⟩
    exact ⟨(w, c, z), ⟨h, rfl⟩, rfl⟩
theorem cm_mem {w : Str} {c : Nat} {z : Int} {ss : List Stp} : (w, c, z) ∈ ss.flatMap Stp.cm ↔ Stp.cmp w c z ∈ ss := by
  rw [List.mem_flatMap]
  constructor
  · rintro ⟨s, h1, h2⟩
    cases s with
    | cmp a b d =>
      simp [Stp.cm] at h2
      obtain ⟨rfl, rfl, rfl⟩ := h2
      exact h1
    | _ => simp [Stp.cm] at h2
  · intro h
    exact ⟨_, h, by simp [Stp.cm]⟩
theorem cmss_mem {x : Cmp} : ∀ {ts : List Tr}, x ∈ cmss ts ↔ ∃ t ∈ ts, x ∈ t.cms
  | [] => by simp [cmss]
  | t :: ts => by
    rw [cmss, List.mem_append, cmss_mem]
    simp

theorem std_turn {ms : List Int} {i : Nat} {ys : List D} (hi : i < ms.length) (hy : ys.length ≤ 1000) (hm : ms.length ≤ 1000) {e2 : Option D} :
    g_standing_list_1 [some (.lst (ms.map D.int)), some (.ols ys), some (.int (i : Int))] = .nx [some (.lst (ms.map D.int)), some (.ols (ys ++ (piece ms i).map D.int)), some (.int (i : Int))] := by
  have at0 : (ms.map D.int)[i]? = some (.int (nth0 ms i)) := by
    rw [nth0_eq hi, List.getElem?_map, List.getElem?_eq_getElem hi]
    rfl
  have hz : szok ys.length = some () := szok_of (by omega)
  have hz1 : szok (ys.length + 1) = some () := szok_of (by omega)
  have hlen : (ms.map D.int).length = ms.length := List.length_map _
  by_cases hl : i + 1 = ms.length
  · have hl' : (i : Int) + 1 = (ms.length : Int) := by omega
    have pc : piece ms i = [nth0 ms i, nth0 ms i + 1] := if_pos (.inl hl)
    rw [pc]
    rw [← hlen] at hl'
    generalize ms.map D.int = xs at at0 hl'
    simp [g_standing_list_1, at0, hz, hz1, hl']
  · have hl' : ¬ (i : Int) + 1 = (ms.length : Int) := by omega
    have h1 : i + 1 < ms.length := by omega
    have at1 : (ms.map D.int)[i + 1]? = some (.int (nth0 ms (i + 1))) := by
      rw [nth0_eq h1, List.getElem?_map, List.getElem?_eq_getElem h1]
      rfl
    have at2 : atI (ms.map D.int) ((i : Int) + 1) = some (.int (nth0 ms (i + 1))) := by
      rw [show (i : Int) + 1 = ((i + 1 : Nat) : Int) by omega, atI_n]
      exact at1
    rw [← hlen] at hl'
    by_cases g : 2 ≤ nth0 ms (i + 1) - nth0 ms i
    · have pc : piece ms i = [nth0 ms i, nth0 ms i + 1] := if_pos (.inr g)
      rw [pc]
      generalize ms.map D.int = xs at at0 at2 hl'
      simp [g_standing_list_1, at0, at2, hz, hz1, hl', g]
    · have pc : piece ms i = [nth0 ms i] := if_neg (fun h => h.elim hl g)
      rw [pc]
      generalize ms.map D.int = xs at at0 at2 hl'
      simp [g_standing_list_1, at0, at2, hz, hl', g]

theorem stl_sortU {ms : List Int} (a : Asc ms) : stl ms ms.length = sortU (ms ++ ms.map (· + 1)) := by
  refine up_ext (stl_asc a (Nat.le_refl _)) sortU_asc fun z => ?_
  rw [stl_all a, sortU_mem, List.mem_append, List.mem_map]
  constructor
  · rintro (h | h)
    · exact .inl h
    · exact .inr ⟨z - 1, h, by omega⟩
  · rintro (h | ⟨y, h, e⟩)
    · exact .inl h
    · refine .inr ?_
      rw [← e]
      simpa using h
theorem standing_ok {ms : List Int} (a : Asc ms) (hm : ms.length ≤ 400) : m_standing_list [.lst (ms.map D.int)] = .ok (if ms = [] then .ols (stdI ms) else .lst (stdI ms)) [] := by
  by_cases h0 : ms = []
  · subst h0
    simp [m_standing_list, g_standing_list, stdI]
  · have l0 : 0 < ms.length := List.length_pos_iff.mpr h0
    have key := loop_nx (tg := kName 2) (body := g_standing_list_1) (I := fun i ρ => ∃ e2, ρ = [some (.lst (ms.map D.int)), some (.ols (.non :: .int (nth0 ms 0 - 1) :: (stl ms i).map D.int)), e2])
      (ds := upto ms.length) (ρ := [some (.lst (ms.map D.int)), some (.ols [.non, .int (nth0 ms 0 - 1)]), none]) (k := 0) ⟨none, rfl⟩ (fun i d ρ hi ⟨e2, hρ⟩ => by
        obtain ⟨hlt, h3⟩ := upto_at hi
        subst hρ
        subst h3
        rw [Nat.zero_add]
        have z := stl_len ms i
        have t := std_turn (ms := ms) (i := i) (ys := .non :: .int (nth0 ms 0 - 1) :: (stl ms i).map D.int) hlt (by simp; omega) (by omega) (e2 := none)
        refine ⟨_, _, rfl, .inl t, some (.int (i : Int)), ?_⟩
        rw [stl, List.map_append]
        rfl)
    obtain ⟨ρ', e1, e2, hρ⟩ := key
    subst hρ
    rw [upto_len, Nat.zero_add, stl_sortU a] at e1
    have es : stdI ms = .non :: .int (nth0 ms 0 - 1) :: (sortU (ms ++ ms.map (· + 1))).map D.int := by
      rw [stdI, if_neg h0]
      match ms, h0 with
      | m :: ms, _ => rfl
    have fz := std_fz ms
    rw [← es] at e1
    rw [if_neg h0]
    generalize stdI ms = zs at e1 fz
    have at0 : (ms.map D.int)[0]? = some (.int (nth0 ms 0)) := by
      rw [nth0_eq l0, List.getElem?_map, List.getElem?_eq_getElem l0]
      rfl
    have r : rg1 [.int (ms.length : Int)] = some (upto ms.length) := rg1_n (by omega)
    have hlen : (ms.map D.int).length = ms.length := List.length_map _
    have n0 : ¬ (ms.length : Int) = 0 := by omega
    rw [← hlen] at r n0 e1
    generalize ms.map D.int = xs at at0 r n0 e1
    have x0 : ¬ xs = [] := fun h => by
      rw [h] at n0
      exact n0 rfl
    simp [-rg1_int, m_standing_list, g_standing_list, at0, r, x0, e1, fz]

/-! ## the numbers that the law finds in the steps -/
def addN (c : Nat) (f : List Int) : Stp → List Int
  | .cmp _ k n => if k = c ∧ n ∉ f then f ++ [n] else f
  | _ => f
theorem cw_turn {e0 e3 : Option D} {c : Nat} {f : List Int} {s : Stp} (hl : f.length ≤ 1000) :
    g_compared_with_1 [e0, some (.int (c : Int)), some (.ols (f.map D.int)), e3, some s.d] = .nx [e0, some (.int (c : Int)), some (.ols ((addN c f s).map D.int)), e3, some s.d] := by
  have hz : szok (f.map D.int).length = some () := szok_of (by simp; omega)
  cases s with
  | cmp g k n =>
    have hin := inD_int (n := n) (f := f)
    have hfl := flat_ints f
    by_cases hk : k = c
    · have hk' : (k : Int) = (c : Int) := by omega
      by_cases hn : n ∈ f
      · rw [decide_eq_true hn] at hin
        have ea : addN c f (.cmp g k n) = f := if_neg (fun h => h.2 hn)
        rw [ea]
        generalize f.map D.int = xs at hin hfl
        simp [-List.all_eq_true, g_compared_with_1, Stp.d, hk', hin, hfl]
      · rw [decide_eq_false hn] at hin
        have ea : addN c f (.cmp g k n) = f ++ [n] := if_pos ⟨hk, hn⟩
        rw [ea, List.map_append]
        generalize f.map D.int = xs at hin hfl hz
        simp [-List.all_eq_true, g_compared_with_1, Stp.d, hk', hin, hfl, hz]
    · have hk' : ¬ (k : Int) = (c : Int) := by omega
      have ea : addN c f (.cmp g k n) = f := if_neg (fun h => hk h.1)
      rw [ea]
      simp [g_compared_with_1, Stp.d, hk']
  | mis k => simp [g_compared_with_1, Stp.d, addN]
  | neg => simp [g_compared_with_1, Stp.d, addN]
  | unt => simp [g_compared_with_1, Stp.d, addN]
  | jn e k => simp [g_compared_with_1, Stp.d, addN]
def addS' (c : Nat) (f : List Int) (ss : List Stp) : List Int := ss.foldl (addN c) f
theorem addN_len (c : Nat) (f : List Int) (s : Stp) : (addN c f s).length ≤ f.length + 1 := by
  cases s <;> simp only [addN] <;> try omega
  split <;> simp
theorem addS'_len (c : Nat) : ∀ (ss : List Stp) (f : List Int), (addS' c f ss).length ≤ f.length + ss.length
  | [], f => Nat.le_refl _
  | s :: ss, f => by
    have := addS'_len c ss (addN c f s)
    have := addN_len c f s
    simp only [addS', List.foldl_cons, List.length_cons] at *
    omega
theorem cw_steps {e0 : Option D} {c : Nat} {f : List Int} {ss : List Stp} (hl : f.length + ss.length ≤ 900) {e4 : Option D} :
    ∃ f4, g_compared_with_2 [e0, some (.int (c : Int)), some (.ols (f.map D.int)), some (.lst (ss.map Stp.d)), e4] = .nx [e0, some (.int (c : Int)), some (.ols ((addS' c f ss).map D.int)), some (.lst (ss.map Stp.d)), f4] := by
  have key := loop_nx (tg := kName 4) (body := g_compared_with_1) (I := fun i ρ => ∃ f4, ρ = [e0, some (.int (c : Int)), some (.ols ((addS' c f (ss.take i)).map D.int)), some (.lst (ss.map Stp.d)), f4])
    (ds := ss.map Stp.d) (ρ := [e0, some (.int (c : Int)), some (.ols (f.map D.int)), some (.lst (ss.map Stp.d)), e4]) (k := 0) ⟨e4, rfl⟩ (fun i d ρ hi ⟨f4, hρ⟩ => by
      subst hρ
      rw [List.getElem?_map] at hi
      obtain ⟨x, h1, h2⟩ := Option.map_eq_some_iff.mp hi
      subst h2
      rw [Nat.zero_add]
      have z := addS'_len c (ss.take i) f
      have hil := (List.getElem?_eq_some_iff.mp h1).1
      have t := cw_turn (e0 := e0) (e3 := some (.lst (ss.map Stp.d))) (c := c) (f := addS' c f (ss.take i)) (s := x) (by rw [List.length_take] at z; omega)
      refine ⟨_, _, rfl, .inl t, some x.d, ?_⟩
      rw [List.take_add_one, h1]
      simp [addS'])
  obtain ⟨ρ', e1, f4, hρ⟩ := key
  subst hρ
  rw [Nat.zero_add, List.length_map, List.take_length] at e1
  refine ⟨f4, ?_⟩
  simp [g_compared_with_2, e1]
def found (c : Nat) (rs : List (List Stp)) : List Int := rs.foldl (addS' c) []
theorem found_len (c : Nat) : ∀ (rs : List (List Stp)) (f : List Int), (rs.foldl (addS' c) f).length ≤ f.length + (rs.map List.length).sum
  | [], f => Nat.le_refl _
  | ss :: rs, f => by
    have := found_len c rs (addS' c f ss)
    have := addS'_len c ss f
    simp only [List.foldl_cons, List.map_cons, List.sum_cons]
    omega
theorem cw_ok {c : Nat} {rs : List (List Stp)} (hl : (rs.map List.length).sum ≤ 900) : m_compared_with [.lst (rcD rs), .int (c : Int)] = .ok (.ols ((ascI (found c rs)).map D.int)) [] := by
  have key := loop_nx (tg := kName 3) (body := g_compared_with_2) (I := fun i ρ => ∃ f3 f4, ρ = [some (.lst (rcD rs)), some (.int (c : Int)), some (.ols ((found c (rs.take i)).map D.int)), f3, f4])
    (ds := rcD rs) (ρ := [some (.lst (rcD rs)), some (.int (c : Int)), some (.ols []), none, none]) (k := 0) ⟨none, none, rfl⟩ (fun i d ρ hi ⟨f3, f4, hρ⟩ => by
      subst hρ
      have hi2 : (rs.map fun ss => D.lst (ss.map Stp.d))[i]? = some d := hi
      rw [List.getElem?_map] at hi2
      obtain ⟨x, h1, h2⟩ := Option.map_eq_some_iff.mp hi2
      subst h2
      rw [Nat.zero_add]
      have z := found_len c (rs.take i) []
      have e : rs.take (i + 1) = rs.take i ++ [x] := take_snoc h1
      have z2 := sum_take (rs.map List.length) (i + 1)
      rw [← List.map_take, e] at z2
      simp at z2 z
      obtain ⟨g4, t⟩ := cw_steps (e0 := some (.lst (rcD rs))) (c := c) (f := found c (rs.take i)) (ss := x) (by unfold found; omega) (e4 := f4)
      refine ⟨_, _, rfl, .inl t, some (.lst (x.map Stp.d)), g4, ?_⟩
      rw [e]
      simp [found])
  obtain ⟨ρ', e1, f3, f4, hρ⟩ := key
  subst hρ
  have lr : (rcD rs).length = rs.length := by simp [rcD]
  rw [Nat.zero_add, lr, List.take_length] at e1
  have f := fzs_ints (ns := found c rs)
  have a := asI_ints (found c rs)
  generalize (found c rs).map D.int = xs at e1 f a
  generalize rcD rs = ys at e1
  simp [m_compared_with, g_compared_with, e1, f, a]
/-! what they are -/
theorem addN_mem {c : Nat} {f : List Int} {s : Stp} {z : Int} : z ∈ addN c f s ↔ z ∈ f ∨ ∃ w, s = .cmp w c z := by
  cases s with
  | cmp w k n =>
    simp only [addN]
    split
    · rename_i h
      obtain ⟨rfl, h2⟩ := h
      simp [eq_comm]
    · rename_i h
      constructor
      · exact .inl
      · rintro (h2 | ⟨w', e⟩)
        · exact h2
        · cases e
          by_cases hz : z ∈ f
          · exact hz
          · exact absurd ⟨rfl, hz⟩ h
  | mis k => simp [addN]
  | neg => simp [addN]
  | unt => simp [addN]
  | jn e k => simp [addN]
theorem addN_nodup {c : Nat} {f : List Int} {s : Stp} (h : f.Nodup) : (addN c f s).Nodup := by
  cases s with
  | cmp w k n =>
    simp only [addN]
    split
    · rename_i g
      rw [List.nodup_append]
      refine ⟨h, by simp, fun a ha b hb => ?_⟩
      rw [List.mem_singleton] at hb
      subst hb
      intro e
      subst e
      exact g.2 ha
    · exact h
  | _ => exact h
theorem addS'_mem {c : Nat} {z : Int} : ∀ {ss : List Stp} {f : List Int}, z ∈ addS' c f ss ↔ z ∈ f ∨ ∃ w, Stp.cmp w c z ∈ ss
  | [], f => by simp [addS']
  | s :: ss, f => by
    have := addS'_mem (c := c) (z := z) (ss := ss) (f := addN c f s)
    simp only [addS', List.foldl_cons, List.mem_cons] at this ⊢
    rw [this, addN_mem]
    constructor
    · rintro ((h | ⟨w, h⟩) | ⟨w, h⟩)
      · exact .inl h
      · exact .inr ⟨w, .inl h.symm⟩
      · exact .inr ⟨w, .inr h⟩
    · rintro (h | ⟨w, h | h⟩)
      · exact .inl (.inl h)
      · exact .inl (.inr ⟨w, h.symm⟩)
      · exact .inr ⟨w, h⟩
theorem addS'_nodup {c : Nat} : ∀ {ss : List Stp} {f : List Int}, f.Nodup → (addS' c f ss).Nodup
  | [], _, h => h
  | s :: ss, f, h => addS'_nodup (ss := ss) (addN_nodup h)
theorem found_mem {c : Nat} {z : Int} : ∀ {rs : List (List Stp)} {f : List Int}, z ∈ rs.foldl (addS' c) f ↔ z ∈ f ∨ ∃ ss ∈ rs, ∃ w, Stp.cmp w c z ∈ ss
  | [], f => by simp
  | ss :: rs, f => by
    rw [List.foldl_cons, found_mem (rs := rs), addS'_mem]
    simp only [List.mem_cons, exists_eq_or_imp]
    exact or_assoc
theorem found_nodup {c : Nat} : ∀ {rs : List (List Stp)} {f : List Int}, f.Nodup → (rs.foldl (addS' c) f).Nodup
  | [], _, h => h
  | ss :: rs, f, h => found_nodup (rs := rs) (addS'_nodup h)
/-- trees, and the steps that build them -/
def Built (rs : List (List Stp)) (ts : List Tr) : Prop := rs.length = ts.length ∧ ∀ (i : Nat) (ss : List Stp) (t : Tr), rs[i]? = some ss → ts[i]? = some t → t.cms = ss.flatMap Stp.cm
theorem found_sort {c : Nat} {rs : List (List Stp)} {ts : List Tr} (h : Built rs ts) : ascI (found c rs) = sortU (numsOf c (cmss ts)) := by
  have nd : (ascI (found c rs)).Nodup := (ascI_perm _).nodup_iff.mpr (found_nodup List.nodup_nil)
  refine up_ext ?_ sortU_asc fun z => ?_
  · have := List.Pairwise.and (ascI_asc (found c rs)) nd
    exact this.imp fun ⟨p, q⟩ => by omega
  · rw [(ascI_perm _).mem_iff, sortU_mem, numsOf_mem]
    unfold found
    rw [found_mem]
    constructor
    · rintro (h0 | ⟨ss, hs, w, hw⟩)
      · simp at h0
      · obtain ⟨i, hi⟩ := List.getElem?_of_mem hs
        have hil := (List.getElem?_eq_some_iff.mp hi).1
        have hil2 : i < ts.length := by rw [← h.1]; exact hil
        have ht : ts[i]? = some ts[i] := List.getElem?_eq_getElem hil2
        refine ⟨w, cmss_mem.mpr ⟨_, List.mem_of_getElem? ht, ?_⟩⟩
        rw [h.2 i ss _ hi ht]
        exact cm_mem.mpr hw
    · rintro ⟨w, hw⟩
      obtain ⟨t, ht, h2⟩ := cmss_mem.mp hw
      obtain ⟨i, hi⟩ := List.getElem?_of_mem ht
      have hil := (List.getElem?_eq_some_iff.mp hi).1
      have hil2 : i < rs.length := by rw [h.1]; exact hil
      have hs : rs[i]? = some rs[i] := List.getElem?_eq_getElem hil2
      rw [h.2 i _ t hs hi] at h2
      exact .inr ⟨_, List.mem_of_getElem? hs, w, cm_mem.mp h2⟩

/-! ## the law's own boxes -/
theorem bo_inner {e0 e1 e3 e6 : Option D} {rows acc : List (List D)} {row ch : List D} {i : Nat} (hr : rows[i]? = some row) (hs : Simple ch) (hl : row.length ≤ 1000) (ha : acc.length + ch.length ≤ 90000) :
    ∃ f6, mLoop (kName 6) g_boxes_of_1 ch [e0, e1, some (.ols (rows.map D.tup)), e3, some (.ols (acc.map D.tup)), some (.int (i : Int)), e6] = .nx [e0, e1, some (.ols (rows.map D.tup)), e3, some (.ols ((acc ++ ch.map fun x => row ++ [x]).map D.tup)), some (.int (i : Int)), f6] := by
  have key := loop_nx (tg := kName 6) (body := g_boxes_of_1) (I := fun k ρ => ∃ f6, ρ = [e0, e1, some (.ols (rows.map D.tup)), e3, some (.ols ((acc ++ (ch.take k).map fun x => row ++ [x]).map D.tup)), some (.int (i : Int)), f6])
    (ds := ch) (ρ := [e0, e1, some (.ols (rows.map D.tup)), e3, some (.ols (acc.map D.tup)), some (.int (i : Int)), e6]) (k := 0) ⟨e6, by simp⟩ (fun k d ρ hi ⟨f6, hρ⟩ => by
      subst hρ
      rw [Nat.zero_add]
      have o := hs d (List.mem_of_getElem? hi)
      have hil := (List.getElem?_eq_some_iff.mp hi).1
      have e0' : (rows.map D.tup)[i]? = some (.tup row) := by rw [List.getElem?_map, hr]; rfl
      have hz : szok ((acc ++ (ch.take k).map fun x => row ++ [x]).map D.tup).length = some () := szok_of (by simp; omega)
      have tk : (acc ++ (ch.take (k + 1)).map fun x => row ++ [x]).map D.tup = (acc ++ (ch.take k).map fun x => row ++ [x]).map D.tup ++ [.tup (row ++ [d])] := by
        rw [take_snoc hi]
        simp
      have l1 : row.length + 1 ≤ 100000 := by omega
      refine ⟨_, _, rfl, .inl ?_, some d, rfl⟩
      rw [tk]
      generalize (acc ++ (ch.take k).map fun x => row ++ [x]).map D.tup = zs at hz
      generalize rows.map D.tup = ys at e0'
      have o1 := o.1
      simp [g_boxes_of_1, e0', o1, hz, l1])
  obtain ⟨ρ', e, f6, hρ⟩ := key
  subst hρ
  rw [Nat.zero_add, List.take_length] at e
  exact ⟨f6, e⟩
theorem extR_take {rows : List (List D)} {ch : List D} {i : Nat} {row : List D} (h : rows[i]? = some row) : extR (rows.take (i + 1)) ch = extR (rows.take i) ch ++ ch.map fun x => row ++ [x] := by
  rw [take_snoc h]
  simp [extR]
theorem bo_rows {e1 : Option D} {rs : List (List Stp)} {ts : List Tr} (hb : Built rs ts) (hl : (rs.map List.length).sum ≤ 900) (hn : (cmss ts).length ≤ 31) {c : Nat} {rows : List (List D)} (hr : ∀ row ∈ rows, row.length ≤ 1000) (hm : rows.length ≤ 1000) {e4 e5 e6 : Option D} :
    ∃ f4 f5 f6, g_boxes_of_3 [some (.lst (rcD rs)), e1, some (.ols (rows.map D.tup)), some (.int (c : Int)), e4, e5, e6] = .nx [some (.lst (rcD rs)), e1, some (.ols ((extR rows (stdI (msOf c ts))).map D.tup)), some (.int (c : Int)), f4, f5, f6] := by
  have cw := cw_ok (c := c) hl
  rw [found_sort hb] at cw
  have ml := msOf_len c ts
  have st := standing_ok (ms := msOf c ts) sortU_asc (by omega)
  have sl := (std_len (msOf c ts)).2
  have ss := std_simple (msOf c ts)
  have sf := std_fz (msOf c ts)
  have key := loop_nx (tg := kName 5) (body := g_boxes_of_2) (I := fun k ρ => ∃ f5 f6, ρ = [some (.lst (rcD rs)), e1, some (.ols (rows.map D.tup)), some (.int (c : Int)), some (.ols ((extR (rows.take k) (stdI (msOf c ts))).map D.tup)), f5, f6])
    (ds := upto rows.length) (ρ := [some (.lst (rcD rs)), e1, some (.ols (rows.map D.tup)), some (.int (c : Int)), some (.ols []), e5, e6]) (k := 0) ⟨e5, e6, by simp [extR]⟩ (fun k d ρ hi ⟨f5, f6, hρ⟩ => by
      obtain ⟨hlt, h3⟩ := upto_at hi
      subst hρ
      subst h3
      rw [Nat.zero_add]
      have hk : rows[k]? = some rows[k] := List.getElem?_eq_getElem hlt
      have xl := extR_len (rows.take k) (stdI (msOf c ts))
      have kl : (rows.take k).length ≤ 1000 := by rw [List.length_take]; omega
      have kl2 : (rows.take k).length * (stdI (msOf c ts)).length ≤ 1000 * 64 := Nat.mul_le_mul kl (by omega)
      obtain ⟨g6, e⟩ := bo_inner (e0 := some (.lst (rcD rs))) (e1 := e1) (e3 := some (.int (c : Int))) (e6 := f6) (acc := extR (rows.take k) (stdI (msOf c ts))) hk ss (hr _ (List.getElem_mem hlt)) (by omega)
      refine ⟨_, _, rfl, .inl ?_, some (.int (k : Int)), g6, rfl⟩
      rw [extR_take hk]
      have f0 := fzs_ints (ns := msOf c ts)
      have cw' : m_compared_with [.lst (rcD rs), .int (c : Int)] = .ok (.ols ((msOf c ts).map D.int)) [] := cw
      by_cases h0 : msOf c ts = []
      · rw [if_pos h0] at st
        generalize stdI (msOf c ts) = zs at st ss sf e
        generalize (msOf c ts).map D.int = xs at cw' f0 st
        generalize rcD rs = ys at cw' e
        simp [g_boxes_of_2, cw', f0, st, sf, e]
      · rw [if_neg h0] at st
        generalize stdI (msOf c ts) = zs at st ss sf e
        generalize (msOf c ts).map D.int = xs at cw' f0 st
        generalize rcD rs = ys at cw' e
        simp [g_boxes_of_2, cw', f0, st, sf, e])
  obtain ⟨ρ', e, f5, f6, hρ⟩ := key
  subst hρ
  rw [Nat.zero_add, upto_len, List.take_length] at e
  have f := tup_fzs (extR rows (stdI (msOf c ts)))
  have r : rg1 [.int ((rows.map D.tup).length : Int)] = some (upto rows.length) := by
    rw [List.length_map]
    exact rg1_n (by omega)
  refine ⟨some (.lst ((extR rows (stdI (msOf c ts))).map D.tup)), f5, f6, ?_⟩
  generalize (extR rows (stdI (msOf c ts))).map D.tup = zs at e f
  generalize rows.map D.tup = ys at e r
  simp [-rg1_int, g_boxes_of_3, r, e, f]
theorem boxes_of_ok {rs : List (List Stp)} {ts : List Tr} (hb : Built rs ts) (hl : (rs.map List.length).sum ≤ 900) (hn : (cmss ts).length ≤ 31) {w : Nat} (hw : w ≤ 10) (h : mulL (chsOf w ts) ≤ 1000) :
    m_boxes_of [.lst (rcD rs), .int (w : Int)] = .ok (.lst ((prodR (chsOf w ts)).map D.tup)) [] := by
  have lw : (chsOf w ts).length = w := by simp [chsOf]
  have one : ∀ ch ∈ chsOf w ts, 1 ≤ ch.length := fun ch hch => by
    obtain ⟨c, _, rfl⟩ := List.mem_map.mp hch
    exact (std_len _).1
  have key := loop_nx (tg := kName 3) (body := g_boxes_of_3) (I := fun k ρ => ∃ f3 f4 f5 f6, ρ = [some (.lst (rcD rs)), some (.int (w : Int)), some (.ols ((prodR ((chsOf w ts).take k)).map D.tup)), f3, f4, f5, f6])
    (ds := upto w) (ρ := [some (.lst (rcD rs)), some (.int (w : Int)), some (.ols [.tup []]), none, none, none, none]) (k := 0) ⟨none, none, none, none, by simp [prodR]⟩ (fun k d ρ hi ⟨f3, f4, f5, f6, hρ⟩ => by
      obtain ⟨hlt, h3⟩ := upto_at hi
      subst hρ
      subst h3
      rw [Nat.zero_add]
      obtain ⟨q1, q2⟩ := prodR_facts (chsOf w ts) k (by omega)
      have q3 := mulL_pre one k
      have hk : (chsOf w ts)[k]? = some (stdI (msOf k ts)) := by
        unfold chsOf
        rw [List.getElem?_map, List.getElem?_range hlt]
        rfl
      obtain ⟨g4, g5, g6, e⟩ := bo_rows (e1 := some (.int (w : Int))) hb hl hn (c := k) (rows := prodR ((chsOf w ts).take k)) (fun row hrow => by rw [q2 row hrow]; omega) (by rw [q1]; omega) (e4 := f4) (e5 := f5) (e6 := f6)
      refine ⟨_, _, rfl, .inl e, some (.int (k : Int)), g4, g5, g6, ?_⟩
      rw [take_snoc hk, prodR_snoc])
  obtain ⟨ρ', e, f3, f4, f5, f6, hρ⟩ := key
  subst hρ
  rw [Nat.zero_add, upto_len] at e
  rw [List.take_of_length_le (by omega)] at e
  have f := tup_fzs (prodR (chsOf w ts))
  have r : rg1 [.int (w : Int)] = some (upto w) := rg1_n (by omega)
  generalize (prodR (chsOf w ts)).map D.tup = zs at e f
  generalize rcD rs = ys at e
  simp [-rg1_int, m_boxes_of, g_boxes_of, r, e, f]

/-! ## every row has its box -/
theorem below_nil {ms : List Int} {z : Int} (h : below ms z = []) {n : Int} (hn : n ∈ ms) : z ≤ n := by
  by_cases q : n < z
  · have := mem_below.mpr ⟨hn, q⟩
    rw [h] at this
    cases this
  · omega
theorem stnO_mem {ms : List Int} (v : Option Int) : stnO ms v ∈ stdO ms := by
  cases v with
  | none =>
    unfold stdO
    split <;> simp [stnO]
  | some z =>
    show some (stn ms z) ∈ stdO ms
    unfold stdO stn
    by_cases h0 : ms = []
    · subst h0
      simp
    · rw [if_neg h0]
      by_cases hz : z ∈ ms
      · rw [if_pos hz]
        refine List.mem_cons_of_mem _ (List.mem_cons_of_mem _ (List.mem_map.mpr ⟨z, ?_, rfl⟩))
        rw [sortU_mem, List.mem_append]
        exact .inl hz
      · rw [if_neg hz, if_neg h0]
        by_cases hb : below ms z = []
        · rw [if_pos hb]
          have e : nth0 ms 0 = ms.headD 0 := by cases ms <;> rfl
          rw [e]
          exact List.mem_cons_of_mem _ List.mem_cons_self
        · rw [if_neg hb]
          refine List.mem_cons_of_mem _ (List.mem_cons_of_mem _ (List.mem_map.mpr ⟨_, ?_, rfl⟩))
          rw [sortU_mem, List.mem_append]
          exact .inr (List.mem_map.mpr ⟨_, (mem_below.mp (lst_mem hb)).1, rfl⟩)
theorem cmpB_stn {ms : List Int} (a : Asc ms) {s : Str} {n z : Int} (h : n ∈ ms) : cmpB s (stn ms z) n = cmpB s z n := by
  obtain ⟨q1, q2⟩ := stn_alike a h (z := z)
  have d1 : decide (stn ms z < n) = decide (z < n) := decide_eq_decide.mpr q1.symm
  have d2 : decide (stn ms z = n) = decide (z = n) := decide_eq_decide.mpr q2.symm
  have d3 : decide (stn ms z ≤ n) = decide (z ≤ n) := decide_eq_decide.mpr (by constructor <;> intro _ <;> omega)
  have d4 : decide (stn ms z ≥ n) = decide (z ≥ n) := decide_eq_decide.mpr (by constructor <;> intro _ <;> omega)
  have d5 : decide (stn ms z > n) = decide (z > n) := decide_eq_decide.mpr (by constructor <;> intro _ <;> omega)
  unfold cmpB
  rw [d1, d2, d3, d4, d5]
mutual
theorem Tr.ev_congr {r r' : List (Option Int)} (hn : ∀ c : Nat, (r[c]?.join).isNone = (r'[c]?.join).isNone) : ∀ t : Tr, (∀ x ∈ t.cms, (r[x.2.1]?.join).map (fun v => cmpB x.1 v x.2.2) = (r'[x.2.1]?.join).map (fun v => cmpB x.1 v x.2.2)) → t.ev r = t.ev r'
  | .cmp s c n, h => by
    rw [Tr.ev, Tr.ev]
    exact h (s, c, n) (by simp [Tr.cms])
  | .mis c, h => by
    rw [Tr.ev, Tr.ev, hn c]
  | .neg t, h => by
    rw [Tr.ev, Tr.ev, Tr.ev_congr hn t (fun x hx => h x (by rw [Tr.cms]; exact hx))]
  | .unt t, h => by
    rw [Tr.ev, Tr.ev, Tr.ev_congr hn t (fun x hx => h x (by rw [Tr.cms]; exact hx))]
  | .jn e ts, h => by
    rw [Tr.ev, Tr.ev, evs_congr hn ts (fun x hx => h x (by rw [Tr.cms]; exact hx))]
theorem evs_congr {r r' : List (Option Int)} (hn : ∀ c : Nat, (r[c]?.join).isNone = (r'[c]?.join).isNone) : ∀ ts : List Tr, (∀ x ∈ cmss ts, (r[x.2.1]?.join).map (fun v => cmpB x.1 v x.2.2) = (r'[x.2.1]?.join).map (fun v => cmpB x.1 v x.2.2)) → evs r ts = evs r' ts
  | [], _ => rfl
  | t :: ts, h => by
    rw [evs, evs, Tr.ev_congr hn t (fun x hx => h x (by rw [cmss]; exact List.mem_append_left _ hx)), evs_congr hn ts (fun x hx => h x (by rw [cmss]; exact List.mem_append_right _ hx))]
end
/-- the box that a row stands in -/
def boxOf (ts : List Tr) (r : List (Option Int)) : List (Option Int) := r.mapIdx fun c v => stnO (msOf c ts) v
theorem boxOf_at (ts : List Tr) (r : List (Option Int)) (c : Nat) : ((boxOf ts r)[c]?).join = stnO (msOf c ts) (r[c]?.join) := by
  unfold boxOf
  rw [List.getElem?_mapIdx]
  cases r[c]? with
  | none => rfl
  | some v => rfl
theorem boxOf_ev {ts : List Tr} {t : Tr} (ht : t ∈ ts) (r : List (Option Int)) : t.ev (boxOf ts r) = t.ev r := by
  refine Tr.ev_congr (fun c => ?_) t fun x hx => ?_
  · rw [boxOf_at]
    cases r[c]?.join <;> rfl
  · rw [boxOf_at]
    cases r[x.2.1]?.join with
    | none => rfl
    | some z =>
      have hm : x.2.2 ∈ msOf x.2.1 ts := by
        unfold msOf
        rw [sortU_mem, numsOf_mem]
        exact ⟨x.1, cmss_mem.mpr ⟨t, ht, hx⟩⟩
      show some (cmpB x.1 (stn (msOf x.2.1 ts) z) x.2.2) = some (cmpB x.1 z x.2.2)
      rw [cmpB_stn (ms := msOf x.2.1 ts) sortU_asc hm]
theorem mem_extO {row : List (Option Int)} {x : Option Int} {rows : List (List (Option Int))} {ch : List (Option Int)} (h1 : row ∈ rows) (h2 : x ∈ ch) : row ++ [x] ∈ extO rows ch := by
  unfold extO
  rw [List.mem_flatMap]
  exact ⟨row, h1, List.mem_map.mpr ⟨x, h2, rfl⟩⟩
theorem mem_prodO : ∀ (n : Nat) {chs : List (List (Option Int))} {r : List (Option Int)}, chs.length = n → r.length = n → (∀ (i : Nat) (v : Option Int) (ch : List (Option Int)), r[i]? = some v → chs[i]? = some ch → v ∈ ch) → r ∈ prodO chs
  | 0, chs, r, hc, hr, _ => by
    rw [List.eq_nil_of_length_eq_zero hc, List.eq_nil_of_length_eq_zero hr]
    simp [prodO]
  | n + 1, chs, r, hc, hr, h => by
    rcases List.eq_nil_or_concat r with e | ⟨us, x, e⟩
    · subst e
      simp at hr
    · rw [List.concat_eq_append] at e
      subst e
      rcases List.eq_nil_or_concat chs with e | ⟨cs, ch, e⟩
      · subst e
        simp at hc
      · rw [List.concat_eq_append] at e
        subst e
        have hl1 : us.length = n := by simpa using hr
        have hl2 : cs.length = n := by simpa using hc
        have e2 : prodO (cs ++ [ch]) = extO (prodO cs) ch := by
          unfold prodO
          rw [List.foldl_append]
          rfl
        rw [e2]
        refine mem_extO (mem_prodO n hl2 hl1 fun i v c a b => h i v c ?_ ?_) (h us.length x ch ?_ ?_)
        · rw [List.getElem?_append_left (List.getElem?_eq_some_iff.mp a).1]
          exact a
        · rw [List.getElem?_append_left (List.getElem?_eq_some_iff.mp b).1]
          exact b
        · simp
        · rw [hl1, ← hl2]
          simp
theorem boxOf_mem {w : Nat} {ts : List Tr} {r : List (Option Int)} (hr : r.length = w) : boxOf ts r ∈ rowsO w ts := by
  refine mem_prodO w (by simp [chsO]) (by simp [boxOf, hr]) fun i v ch a b => ?_
  unfold boxOf at a
  rw [List.getElem?_mapIdx] at a
  obtain ⟨u, a1, a2⟩ := Option.map_eq_some_iff.mp a
  unfold chsO at b
  rw [List.getElem?_map] at b
  obtain ⟨c, b1, b2⟩ := Option.map_eq_some_iff.mp b
  obtain ⟨b3, b4⟩ := List.getElem?_eq_some_iff.mp b1
  rw [List.getElem_range] at b4
  subst b4
  subst b2
  subst a2
  exact stnO_mem u

/-! ### the trees of the steps of a pool -/
theorem rc_tree {p : List (List Int)} (hp : PoolOk p) {ss : List Stp} (hr : RcOk p ss) {t : Tr} (ht : exs ss = [t]) : t.tn = ss.length ∧ t.al Stp.num ∧ t.al (Stp.cb p.length) ∧ (∀ s ∈ ss, s.cb p.length) ∧ ∀ x ∈ t.cms, ∃ ns, p[x.2.1]? = some ns ∧ x.2.2 ∈ ns := by
  have tn := exs_tn hr.valid ss.length (Nat.le_refl _)
  rw [List.take_length, ht] at tn
  have cb : ∀ s ∈ ss, s.cb p.length := fun s hs => by
    have := hr.ok s hs
    cases s with
    | cmp g c n =>
      obtain ⟨_, ns, h, _⟩ := this
      exact (List.getElem?_eq_some_iff.mp h).1
    | mis c => exact this
    | _ => trivial
  have al : ∀ P, (∀ s ∈ ss, s.al P) → t.al P := fun P h => by
    have := (exs_al (P := P) hr.valid ss.length (Nat.le_refl _)).mpr (by rw [List.take_length]; exact h)
    rw [List.take_length, ht] at this
    simpa [als] using this
  refine ⟨by simpa [tns] using tn, al _ fun s hs => ?_, al _ fun s hs => ?_, cb, fun x hx => ?_⟩
  · have := hr.ok s hs
    cases s with
    | cmp g c n =>
      obtain ⟨h1, ns, h2, h3⟩ := this
      exact ⟨h1, (hp ns (List.mem_of_getElem? h2)).2.2 n h3⟩
    | mis c => trivial
    | _ => trivial
  · have := cb s hs
    cases s with
    | cmp g c n => exact this
    | mis c => exact this
    | _ => trivial
  · rw [cms_steps hr.valid ht] at hx
    obtain ⟨w, c, n⟩ := x
    obtain ⟨h1, ns, h2, h3⟩ := hr.ok _ (cm_mem.mp hx)
    exact ⟨ns, h2, h3⟩
theorem sub_len : ∀ {xs ns : List Int}, xs.Nodup → (∀ x ∈ xs, x ∈ ns) → xs.length ≤ ns.length
  | [], ns, _, _ => Nat.zero_le _
  | x :: xs, ns, nd, h => by
    obtain ⟨h1, h2⟩ := List.nodup_cons.mp nd
    have hx := h x List.mem_cons_self
    have := sub_len (xs := xs) (ns := ns.erase x) h2 fun y hy => (List.mem_erase_of_ne (fun e => h1 (by rw [← e]; exact hy))).mpr (h y (List.mem_cons_of_mem _ hy))
    rw [List.length_erase_of_mem hx] at this
    have : 0 < ns.length := List.length_pos_of_mem hx
    rw [List.length_cons]
    omega
theorem asc_nodup {xs : List Int} (h : xs.Pairwise (· < ·)) : xs.Nodup := h.imp fun q => by omega
theorem msOf_pool {p : List (List Int)} {ts : List Tr} {q c : Nat} (hq : ∀ ns ∈ p, ns.length ≤ q) (h : ∀ t ∈ ts, ∀ x ∈ t.cms, ∃ ns, p[x.2.1]? = some ns ∧ x.2.2 ∈ ns) : (msOf c ts).length ≤ q := by
  cases e : p[c]? with
  | none =>
    have : msOf c ts = [] := by
      refine List.eq_nil_iff_forall_not_mem.mpr fun z hz => ?_
      unfold msOf at hz
      rw [sortU_mem, numsOf_mem] at hz
      obtain ⟨w, hw⟩ := hz
      obtain ⟨t, ht, hx⟩ := cmss_mem.mp hw
      obtain ⟨ns, h1, _⟩ := h t ht _ hx
      rw [e] at h1
      cases h1
    rw [this]
    exact Nat.zero_le _
  | some ns =>
    refine Nat.le_trans (sub_len (xs := msOf c ts) (asc_nodup sortU_asc) fun z hz => ?_) (hq ns (List.mem_of_getElem? e))
    unfold msOf at hz
    rw [sortU_mem, numsOf_mem] at hz
    obtain ⟨w, hw⟩ := hz
    obtain ⟨t, ht, hx⟩ := cmss_mem.mp hw
    obtain ⟨ns', h1, h2⟩ := h t ht _ hx
    rw [e] at h1
    cases h1
    exact h2
theorem mulL_range {ts : List Tr} {q : Nat} (h : ∀ c, (msOf c ts).length ≤ q) : ∀ w, mulL (chsOf w ts) ≤ (2 + 2 * q) ^ w
  | 0 => by simp [chsOf, mulL]
  | w + 1 => by
    have e : chsOf (w + 1) ts = chsOf w ts ++ [stdI (msOf w ts)] := by
      unfold chsOf
      rw [List.range_succ, List.map_append]
      rfl
    rw [e, mulL_snoc, Nat.pow_succ]
    have := (std_len (msOf w ts)).2
    have := h w
    exact Nat.mul_le_mul (mulL_range h w) (by omega)
theorem mulL_pool {p : List (List Int)} {ts : List Tr} {w : Nat} (h1 : 1 ≤ w) (h3 : w ≤ 3) (hq : ∀ ns ∈ p, ns.length ≤ wq w) (h : ∀ t ∈ ts, ∀ x ∈ t.cms, ∃ ns, p[x.2.1]? = some ns ∧ x.2.2 ∈ ns) : mulL (chsOf w ts) ≤ 256 := by
  have := mulL_range (ts := ts) (q := wq w) (fun c => msOf_pool hq h) w
  refine Nat.le_trans this ?_
  have : w = 1 ∨ w = 2 ∨ w = 3 := by omega
  rcases this with rfl | rfl | rfl <;> decide

/-- the steps, their tree -/
structure ST (w : Nat) (ss : List Stp) (t : Tr) : Prop where
  rc : ∃ p, RcOk p ss
  len : ss.length ≤ 16
  ex : exs ss = [t]
  cb : ∀ s ∈ ss, s.cb w
  tn : t.tn ≤ 16
  num : t.al Stp.num
  tcb : t.al (Stp.cb w)
theorem ST.jd {w : Nat} {ss : List Stp} {t : Tr} (h : ST w ss t) {r : List (Option Int)} (hr : r.length = w) : m_judged [.lst (ss.map Stp.d), rowD r] = .ok (tD (t.ev r)) [] := by
  obtain ⟨p, hp⟩ := h.rc
  have := h.len
  exact judged_ok hp (by omega) h.ex (by rw [hr]; exact h.cb)
theorem isT_tD (v : Option Bool) : oIsA (tD v) (.bl true) = some (.bl (decide (v = some true))) := by
  cases v with
  | none => rfl
  | some b => cases b <;> rfl
theorem notT_tD (v : Option Bool) : oNotA (tD v) (.bl true) = some (.bl (!decide (v = some true))) := by
  cases v with
  | none => rfl
  | some b => cases b <;> rfl
theorem cell_pln (v : Option Int) : (cellD v).pln = true ∧ (cellD v).sz = 1 := by cases v <;> simp [cellD, D.pln, D.sz]
theorem rD_sz (r : List (Option Int)) : szs (rD r) = r.length := by
  induction r with
  | nil => rfl
  | cons v r ih =>
    have : rD (v :: r) = cellD v :: rD r := rfl
    rw [this, szs_cons, ih, (cell_pln v).2, List.length_cons]
    omega
theorem rD_pln (r : List (Option Int)) : plns (rD r) = true := plns_all.mpr fun d hd => by
  obtain ⟨v, _, rfl⟩ := List.mem_map.mp hd
  exact (cell_pln v).1

/-! ## worlds -/
abbrev Wld := List Bool × List (Option Int)
def trs (ts : List Tr) (r : List (Option Int)) : List Bool := ts.map fun t => decide (t.ev r = some true)
def addW (ts : List Tr) (acc : List Wld) (r : List (Option Int)) : List Wld := if trs ts r ∈ acc.map (·.1) then acc else acc ++ [(trs ts r, r)]
def wrl (w : Nat) (ts : List Tr) : List Wld := (rowsO w ts).foldl (addW ts) []
def kyD (acc : List Wld) : List D := acc.map fun x => D.tup (x.1.map D.bl)
def vlD (acc : List Wld) : List D := acc.map fun x => rowD x.2
def wD (x : Wld) : D := .tup [.tup (x.1.map D.bl), rowD x.2]
theorem hasD_ky {k : List Bool} (acc : List Wld) : hasD k (kyD acc) = decide (k ∈ acc.map (·.1)) := by
  unfold hasD kyD
  induction acc with
  | nil => simp
  | cons e es ih =>
    rw [List.map_cons, List.any_cons, ih, keyD_key]
    by_cases q : e.1 = k
    · simp [q]
    · have q2 : ¬ k = e.1 := fun z => q z.symm
      have q3 : (e.1 == k) = false := beq_eq_false_iff_ne.mpr q
      simp [q2, q3]
theorem pair_ky (acc : List Wld) : pairD (kyD acc) (vlD acc) = acc.map wD := by
  unfold pairD kyD vlD
  induction acc with
  | nil => rfl
  | cons e es ih =>
    rw [List.map_cons, List.map_cons, List.zipWith_cons_cons, ih]
    rfl
theorem addW_len {ts : List Tr} {acc : List Wld} {r : List (Option Int)} : (addW ts acc r).length ≤ acc.length + 1 := by
  unfold addW
  split
  · omega
  · simp
theorem fold_len {ts : List Tr} : ∀ (rows : List (List (Option Int))) (acc : List Wld), (rows.foldl (addW ts) acc).length ≤ acc.length + rows.length
  | [], acc => Nat.le_refl _
  | r :: rows, acc => by
    have := fold_len (ts := ts) rows (addW ts acc r)
    have := addW_len (ts := ts) (acc := acc) (r := r)
    rw [List.foldl_cons, List.length_cons]
    omega
/-- a predicate of so many columns -/
def Fit (w : Nat) (ts : List Tr) : Prop := ∀ t ∈ ts, t.tn ≤ 16 ∧ t.al Stp.num ∧ t.al (Stp.cb w)
theorem trs_lc {ts : List Tr} {w : Nat} (h : Fit w ts) {r : List (Option Int)} (hr : r.length = w) (hl : ts.length ≤ 1000) {e0 e1 e2 e4 : Option D} :
    lcGo (lcStep (kName 5) (mP true) (frz (mCall [] (noX m_holds) (bCons (mVar 5) (bCons (mVar 3) bNil)))) [5]) [5] (ts.map Tr.d) [] [e0, e1, e2, some (rowD r), e4, none] = some ((trs ts r).map D.bl, [e0, e1, e2, some (rowD r), e4, none]) := by
  have key : ∀ (us : List Tr) (acc : List D), (∀ t ∈ us, t ∈ ts) → acc.length + us.length ≤ 1000 → lcGo (lcStep (kName 5) (mP true) (frz (mCall [] (noX m_holds) (bCons (mVar 5) (bCons (mVar 3) bNil)))) [5]) [5] (us.map Tr.d) acc [e0, e1, e2, some (rowD r), e4, none] = some (acc ++ (trs us r).map D.bl, [e0, e1, e2, some (rowD r), e4, none]) := by
    intro us
    induction us with
    | nil => intro acc _ _; simp [lcGo, trs]
    | cons t us ih =>
      intro acc hm hl
      obtain ⟨a, b, c⟩ := h t (hm t (by simp))
      have e := holds_ok (t := t) (r := r) (by omega) b (by rw [hr]; exact c)
      have o := tr_isO t
      have hl2 : acc.length + (us.length + 1) ≤ 1000 := by simpa using hl
      have st : lcStep (kName 5) (mP true) (frz (mCall [] (noX m_holds) (bCons (mVar 5) (bCons (mVar 3) bNil)))) [5] t.d [e0, e1, e2, some (rowD r), e4, none] = some (some (.bl (decide (t.ev r = some true))), [e0, e1, e2, some (rowD r), e4, some t.d]) := by
        generalize decide (t.ev r = some true) = z at e
        simp [lcStep, o, e]
      rw [List.map_cons, lcGo, st]
      dsimp only
      rw [if_pos (by omega)]
      have := ih (acc ++ [.bl (decide (t.ev r = some true))]) (fun x hx => hm x (by simp [hx])) (by simp; omega)
      simpa [trs] using this
  have := key ts [] (fun _ h => h) (by simpa using hl)
  simpa using this
theorem bls_fz (k : List Bool) : fzs (k.map D.bl) = k.map D.bl := by simp [fzs_eq, Function.comp_def]
theorem worlds_turn {ts : List Tr} {w : Nat} (h : Fit w ts) {r : List (Option Int)} (hr : r.length = w) (hl : ts.length ≤ 1000) {acc : List Wld} (ha : acc.length ≤ 1000) {e1 e4 : Option D} :
    g_worlds_1 [some (.lst (ts.map Tr.d)), e1, some (.odc 0 (kyD acc) (vlD acc)), some (rowD r), e4, none] = .nx [some (.lst (ts.map Tr.d)), e1, some (.odc 0 (kyD (addW ts acc r)) (vlD (addW ts acc r))), some (rowD r), some (.tup ((trs ts r).map D.bl)), none] := by
  have lc := fun e0 e2 => trs_lc h hr hl (e0 := e0) (e1 := e1) (e2 := e2) (e4 := e4)
  have f := bls_fz (trs ts r)
  have hh := hasD_ky (k := trs ts r) acc
  have kd := keyD_key (trs ts r)
  have hz : szok (kyD acc).length = some () := szok_of (by simp [kyD]; omega)
  by_cases q : trs ts r ∈ acc.map (·.1)
  · have ea : addW ts acc r = acc := if_pos q
    rw [decide_eq_true q] at hh
    rw [ea]
    generalize trs ts r = k at *
    generalize kyD acc = ks at *
    generalize k.map D.bl = kb at *
    generalize ts.map Tr.d = xs at *
    simp [g_worlds_1, lc, f, kd, hh]
  · have ea : addW ts acc r = acc ++ [(trs ts r, r)] := if_neg q
    have ek : kyD (acc ++ [(trs ts r, r)]) = kyD acc ++ [.tup ((trs ts r).map D.bl)] := by simp [kyD]
    have ev : vlD (acc ++ [(trs ts r, r)]) = vlD acc ++ [rowD r] := by simp [vlD]
    rw [decide_eq_false q] at hh
    rw [ea, ek, ev]
    generalize trs ts r = k at *
    generalize kyD acc = ks at *
    generalize ts.map Tr.d = xs at *
    generalize hkb : k.map D.bl = kb at *
    simp [g_worlds_1, lc, f, kd, hh, hz, hkb]
theorem worlds_ok {ts : List Tr} {w : Nat} (h1 : 1 ≤ w) (h3 : w ≤ 3) (h : Fit w ts) (hl : (cmss ts).length ≤ 400) (hn : ts.length ≤ 1000) :
    m_worlds [.lst (ts.map Tr.d), .int (w : Int)] = if mulL (chsOf w ts) ≤ 256 then .ok (.ols ((wrl w ts).map wD)) [] else .ex 2 (some (.int (mulL (chsOf w ts) : Nat))) [] := by
  have bx := boxes_ok h1 h3 h hl
  by_cases hN : mulL (chsOf w ts) ≤ 256
  · rw [if_pos hN, rowsO_D] at bx
    rw [if_pos hN]
    have rl : (rowsO w ts).length ≤ 256 := by
      have f := (prodR_facts (chsOf w ts) (chsOf w ts).length (Nat.le_refl _)).1
      rw [List.take_length] at f
      have : ((prodR (chsOf w ts)).map D.tup).length = ((rowsO w ts).map rowD).length := by rw [rowsO_D]
      simp at this
      omega
    have key := loop_nx (tg := kName 3) (body := g_worlds_1) (I := fun i ρ => ∃ e3 e4, ρ = [some (.lst (ts.map Tr.d)), some (.int (w : Int)), some (.odc 0 (kyD (((rowsO w ts).take i).foldl (addW ts) [])) (vlD (((rowsO w ts).take i).foldl (addW ts) []))), e3, e4, none])
      (ds := (rowsO w ts).map rowD) (ρ := [some (.lst (ts.map Tr.d)), some (.int (w : Int)), some (.odc 0 [] []), none, none, none]) (k := 0) ⟨none, none, rfl⟩ (fun i d ρ hi ⟨e3, e4, hρ⟩ => by
        subst hρ
        rw [List.getElem?_map] at hi
        obtain ⟨r, q1, q2⟩ := Option.map_eq_some_iff.mp hi
        subst q2
        rw [Nat.zero_add]
        have fl := fold_len (ts := ts) ((rowsO w ts).take i) []
        have hil := (List.getElem?_eq_some_iff.mp q1).1
        have t := worlds_turn h (rowsO_len r (List.mem_of_getElem? q1)) hn (acc := ((rowsO w ts).take i).foldl (addW ts) []) (by rw [List.length_take] at fl; simp at fl; omega) (e1 := some (.int (w : Int))) (e4 := e4)
        refine ⟨_, _, rfl, .inl t, some (rowD r), some (.tup ((trs ts r).map D.bl)), ?_⟩
        rw [take_snoc q1, List.foldl_append]
        rfl)
    obtain ⟨ρ', e, e3, e4, hρ⟩ := key
    subst hρ
    rw [Nat.zero_add, List.length_map, List.take_length] at e
    have pk := pair_ky ((rowsO w ts).foldl (addW ts) [])
    unfold wrl
    generalize (rowsO w ts).foldl (addW ts) [] = acc at *
    generalize (rowsO w ts).map rowD = rows at *
    generalize ts.map Tr.d = xs at *
    simp [m_worlds, g_worlds, bx, e, pk]
  · rw [if_neg hN] at bx ⊢
    generalize ts.map Tr.d = xs at *
    simp [m_worlds, g_worlds, bx, lK]
/-! what they are -/
theorem addW_keys {ts : List Tr} {acc : List Wld} {r : List (Option Int)} {k : List Bool} : k ∈ (addW ts acc r).map (·.1) ↔ k ∈ acc.map (·.1) ∨ k = trs ts r := by
  unfold addW
  split
  · rename_i h
    exact ⟨.inl, fun g => g.elim id fun e => e ▸ h⟩
  · simp
theorem fold_keys {ts : List Tr} {k : List Bool} : ∀ (rows : List (List (Option Int))) (acc : List Wld), k ∈ (rows.foldl (addW ts) acc).map (·.1) ↔ k ∈ acc.map (·.1) ∨ ∃ r ∈ rows, k = trs ts r
  | [], acc => by simp
  | r :: rows, acc => by
    rw [List.foldl_cons, fold_keys rows, addW_keys]
    simp only [List.mem_cons, exists_eq_or_imp]
    exact or_assoc
theorem fold_nodup {ts : List Tr} : ∀ (rows : List (List (Option Int))) (acc : List Wld), (acc.map (·.1)).Nodup → ((rows.foldl (addW ts) acc).map (·.1)).Nodup
  | [], acc, h => h
  | r :: rows, acc, h => by
    rw [List.foldl_cons]
    refine fold_nodup rows _ ?_
    unfold addW
    split
    · exact h
    · rename_i q
      rw [List.map_append, List.nodup_append]
      refine ⟨h, by simp, fun a ha b hb => ?_⟩
      simp at hb
      subst hb
      intro e
      subst e
      exact q ha
theorem fold_rows {ts : List Tr} {x : Wld} : ∀ (rows : List (List (Option Int))) (acc : List Wld), x ∈ rows.foldl (addW ts) acc → x ∈ acc ∨ (x.2 ∈ rows ∧ x.1 = trs ts x.2)
  | [], acc, h => .inl h
  | r :: rows, acc, h => by
    rw [List.foldl_cons] at h
    rcases fold_rows rows _ h with h | h
    · unfold addW at h
      split at h
      · exact .inl h
      · rcases List.mem_append.mp h with h | h
        · exact .inl h
        · rw [List.mem_singleton] at h
          subst h
          exact .inr ⟨List.mem_cons_self, rfl⟩
    · exact .inr ⟨List.mem_cons_of_mem _ h.1, h.2⟩
theorem wrl_nodup (w : Nat) (ts : List Tr) : ((wrl w ts).map (·.1)).Nodup := fold_nodup _ _ List.nodup_nil
theorem wrl_mem {w : Nat} {ts : List Tr} {x : Wld} (h : x ∈ wrl w ts) : x.2 ∈ rowsO w ts ∧ x.1 = trs ts x.2 := by
  rcases fold_rows _ _ h with h | h
  · simp at h
  · exact h
theorem wrl_all {w : Nat} {ts : List Tr} {r : List (Option Int)} (h : r ∈ rowsO w ts) : trs ts r ∈ (wrl w ts).map (·.1) := (fold_keys _ _).mpr (.inr ⟨r, h, rfl⟩)

/-! ## tuples of truth values among others -/
def kbP (k : List Bool) : PyData := .tuple (k.map PyData.bool)
theorem toPys_bls : ∀ k : List Bool, toPys (k.map D.bl) = some (k.map PyData.bool)
  | [] => by simp [toPys]
  | b :: k => by
    rw [List.map_cons, toPys, toPys_bls k, toPy]
    rfl
theorem toPy_key (k : List Bool) : toPy (.tup (k.map D.bl)) = some (kbP k) := by
  rw [toPy, toPys_bls]
  rfl
theorem toPys_keys : ∀ ks : List (List Bool), toPys (ks.map fun k => D.tup (k.map D.bl)) = some (ks.map kbP)
  | [] => by simp [toPys]
  | k :: ks => by
    rw [List.map_cons, toPys, toPys_keys ks, toPy_key]
    rfl
theorem lay_bls : ∀ k : List Bool, PyData.canLayAll0 (k.map PyData.bool) = true ∧ PyData.depthAll (k.map PyData.bool) = 0
  | [] => by simp [PyData.canLayAll0, PyData.depthAll]
  | b :: k => by
    have := lay_bls k
    simp [PyData.canLayAll0, PyData.depthAll, PyData.canLay0, PyData.depth, this.1, this.2]
theorem lay_key (k : List Bool) : (kbP k).canLay0 = true ∧ (kbP k).depth = 1 := by
  have := lay_bls k
  simp [kbP, PyData.canLay0, PyData.depth, this.1, this.2]
theorem lay_keys : ∀ ks : List (List Bool), PyData.canLayAll0 (ks.map kbP) = true ∧ PyData.depthAll (ks.map kbP) ≤ 1
  | [] => by simp [PyData.canLayAll0, PyData.depthAll]
  | k :: ks => by
    have h := lay_keys ks
    have h2 := lay_key k
    refine ⟨by simp [PyData.canLayAll0, h2.1, h.1], ?_⟩
    simp only [List.map_cons, PyData.depthAll]
    omega
theorem shaped_key (k : List Bool) : SeqAt.shaped (kbP k) = true := by
  have h := lay_key k
  show ((kbP k).canLay0 && decide ((kbP k).depth ≤ 64)) = true
  rw [h.1, decide_eq_true (by omega)]
  rfl
theorem shaped_keys (ks : List (List Bool)) : SeqAt.shaped (.list (ks.map kbP)) = true := by
  have h := lay_keys ks
  show (PyData.canLay0 (.list (ks.map kbP)) && decide (PyData.depth (.list (ks.map kbP)) ≤ 64)) = true
  have h2 : PyData.depth (.list (ks.map kbP)) ≤ 64 := by
    simp only [PyData.depth]
    omega
  have h3 : PyData.canLay0 (.list (ks.map kbP)) = true := by simp only [PyData.canLay0]; exact h.1
  rw [h3, decide_eq_true h2]
  rfl
theorem eqv_bls : ∀ k l : List Bool, PyData.eqvAll (k.map PyData.bool) (l.map PyData.bool) = decide (k = l)
  | [], [] => by simp [PyData.eqvAll]
  | [], _ :: _ => by simp [PyData.eqvAll]
  | _ :: _, [] => by simp [PyData.eqvAll]
  | a :: k, b :: l => by
    have := eqv_bls k l
    simp only [List.map_cons, PyData.eqvAll, this, PyData.eqv]
    cases a <;> cases b <;> simp
theorem eqv_key (k l : List Bool) : PyData.eqv (kbP k) (kbP l) = decide (k = l) := by
  have := eqv_bls k l
  simp only [kbP, PyData.eqv]
  exact this
theorem any_keys (k : List Bool) (ks : List (List Bool)) : ((ks.map kbP).any fun z => PyData.eqv z (kbP k)) = decide (k ∈ ks) := by
  induction ks with
  | nil => simp
  | cons l ks ih =>
    rw [List.map_cons, List.any_cons, ih, eqv_key]
    by_cases q : l = k
    · simp [q]
    · have q2 : ¬ k = l := fun z => q z.symm
      simp [q, q2]
theorem inDeep_key (neg : Bool) (k : List Bool) (ks : List (List Bool)) : inDeep neg (.tup (k.map D.bl)) (ks.map fun k => D.tup (k.map D.bl)) = some (.bl (if neg = true then !decide (k ∈ ks) else decide (k ∈ ks))) := by
  unfold inDeep
  rw [toPy_key, toPys_keys]
  dsimp only
  rw [shaped_key, shaped_keys, any_keys]
  rfl
theorem prodO_inv : ∀ (n : Nat) {chs : List (List (Option Int))} {r : List (Option Int)}, chs.length = n → r ∈ prodO chs → ∀ v ∈ r, ∃ ch ∈ chs, v ∈ ch
  | 0, chs, r, hc, h, v, hv => by
    rw [List.eq_nil_of_length_eq_zero hc] at h
    simp [prodO] at h
    subst h
    cases hv
  | n + 1, chs, r, hc, h, v, hv => by
    rcases List.eq_nil_or_concat chs with e | ⟨cs, ch, e⟩
    · subst e
      simp at hc
    · rw [List.concat_eq_append] at e
      subst e
      have e2 : prodO (cs ++ [ch]) = extO (prodO cs) ch := by
        unfold prodO
        rw [List.foldl_append]
        rfl
      rw [e2] at h
      obtain ⟨row, h1, h2⟩ := List.mem_flatMap.mp h
      obtain ⟨x, h3, rfl⟩ := List.mem_map.mp h2
      rcases List.mem_append.mp hv with hv | hv
      · obtain ⟨c, c1, c2⟩ := prodO_inv n (by simpa using hc) h1 v hv
        exact ⟨c, List.mem_append_left _ c1, c2⟩
      · rw [List.mem_singleton] at hv
        subst hv
        exact ⟨ch, by simp, h3⟩
mutual
theorem cms_num : ∀ t : Tr, t.al Stp.num → ∀ x ∈ t.cms, -1000000000000000000 < x.2.2 ∧ x.2.2 < 1000000000000000000
  | .cmp s c n, h, x, hx => by
    rw [Tr.al, Stp.num] at h
    simp [Tr.cms] at hx
    subst hx
    exact h.2
  | .mis c, h, x, hx => by simp [Tr.cms] at hx
  | .neg t, h, x, hx => by
    rw [Tr.al] at h
    rw [Tr.cms] at hx
    exact cms_num t h x hx
  | .unt t, h, x, hx => by
    rw [Tr.al] at h
    rw [Tr.cms] at hx
    exact cms_num t h x hx
  | .jn e ts, h, x, hx => by
    rw [Tr.al] at h
    rw [Tr.cms] at hx
    exact cmss_num ts h x hx
theorem cmss_num : ∀ ts : List Tr, als Stp.num ts → ∀ x ∈ cmss ts, -1000000000000000000 < x.2.2 ∧ x.2.2 < 1000000000000000000
  | [], h, x, hx => by simp [cmss] at hx
  | t :: ts, h, x, hx => by
    rw [als] at h
    rw [cmss] at hx
    rcases List.mem_append.mp hx with hx | hx
    · exact cms_num t h.1 x hx
    · exact cmss_num ts h.2 x hx
end
theorem rowsO_lim {w : Nat} {ts : List Tr} (h : Fit w ts) {r : List (Option Int)} (hr : r ∈ rowsO w ts) : ∀ v ∈ r, InLim v := fun v hv => by
  obtain ⟨ch, h1, h2⟩ := prodO_inv w (by simp [chsO]) hr v hv
  obtain ⟨c, _, rfl⟩ := List.mem_map.mp h1
  have num : ∀ z ∈ sortU (numsOf c (cmss ts)), -1000000000000000000 < z ∧ z < 1000000000000000000 := fun z hz => by
    rw [sortU_mem, numsOf_mem] at hz
    obtain ⟨w', hw⟩ := hz
    obtain ⟨t, ht, hx⟩ := cmss_mem.mp hw
    exact cms_num t (h t ht).2.1 _ hx
  generalize sortU (numsOf c (cmss ts)) = ms at h2 num
  intro n hn
  subst hn
  unfold stdO at h2
  split at h2
  · simp at h2
    omega
  · rename_i h0
    have hd : ms.headD 0 ∈ ms := by
      cases ms with
      | nil => exact absurd rfl h0
      | cons m ms => exact List.mem_cons_self
    simp only [List.mem_cons, List.mem_map, reduceCtorEq, false_or, Option.some.injEq, exists_eq_right] at h2
    rcases h2 with h2 | h2
    · have := num _ hd
      omega
    · rw [sortU_mem, List.mem_append, List.mem_map] at h2
      rcases h2 with h2 | ⟨z, hz, h2⟩
      · have := num _ h2
        omega
      · have := num _ hz
        omega

/-! ## recipes, and their trees -/
/-- steps and tree, of a pool -/
structure STp (p : List (List Int)) (w : Nat) (m : Nat) (ss : List Stp) (t : Tr) : Prop where
  st : ST w ss t
  n : t.tn ≤ m
  po : ∀ x ∈ t.cms, ∃ ns, p[x.2.1]? = some ns ∧ x.2.2 ∈ ns
abbrev SSt := List Stp × Tr
theorem recipe_tree {s : Strm'} (hs : s.Ok) {p : List (List Int)} (hp : PoolOk p) (h1 : 1 ≤ p.length) (h3 : p.length ≤ 3) {most : Nat} (m1 : 1 ≤ most) (m2 : most ≤ 16) :
    ∃ (x : SSt) (s' : Strm'), m_recipe [stD s, .lst (plD p), .int (most : Int)] = .ok (.lst (x.1.map Stp.d)) [stD s'] ∧ s'.Ok ∧ STp p p.length most x.1 x.2 ∧ m_built [.lst (x.1.map Stp.d)] = .ok x.2.d [] := by
  obtain ⟨ss, s', er, o, hr, x1, l1, m1'⟩ := recipe_ok hs hp h1 h3 (most := (most : Int)) (by omega) (by omega)
  obtain ⟨t, ht⟩ : ∃ t, exs ss = [t] := by
    match exs ss, x1 with
    | [t], _ => exact ⟨t, rfl⟩
  have eb := built_ok hr (by omega) ht
  obtain ⟨n1, num1, cb1, sc1, po1⟩ := rc_tree hp hr ht
  have q1 : ss.length ≤ 16 := by omega
  have q2 : t.tn ≤ 16 := by omega
  have q3 : t.tn ≤ most := by omega
  exact ⟨(ss, t), s', er, o, ⟨⟨⟨p, hr⟩, q1, ht, sc1, q2, num1, cb1⟩, q3, po1⟩, eb⟩
theorem fit_of {p : List (List Int)} {w m : Nat} {sts : List SSt} (h : ∀ x ∈ sts, STp p w m x.1 x.2) : Fit w (sts.map (·.2)) := fun t ht => by
  obtain ⟨x, hx, rfl⟩ := List.mem_map.mp ht
  have := (h x hx).st
  exact ⟨this.tn, this.num, this.tcb⟩
theorem pool_of {p : List (List Int)} {w m : Nat} {sts : List SSt} (h : ∀ x ∈ sts, STp p w m x.1 x.2) : ∀ t ∈ sts.map (·.2), ∀ x ∈ t.cms, ∃ ns, p[x.2.1]? = some ns ∧ x.2.2 ∈ ns := fun t ht => by
  obtain ⟨x, hx, rfl⟩ := List.mem_map.mp ht
  exact (h x hx).po
theorem cmss_of {p : List (List Int)} {w m : Nat} : ∀ {sts : List SSt}, (∀ x ∈ sts, STp p w m x.1 x.2) → (cmss (sts.map (·.2))).length ≤ sts.length * m
  | [], _ => by simp [cmss]
  | x :: sts, h => by
    have ih := cmss_of (sts := sts) fun y hy => h y (List.mem_cons_of_mem _ hy)
    have c := cms_tn x.2
    have n := (h x List.mem_cons_self).n
    rw [List.map_cons, cmss, List.length_append, List.length_cons, Nat.succ_mul]
    omega
/-! at most 2 ^ n lists of n truth values -/
def allB : Nat → List (List Bool)
  | 0 => [[]]
  | n + 1 => (allB n).map (true :: ·) ++ (allB n).map (false :: ·)
theorem allB_len : ∀ n, (allB n).length = 2 ^ n
  | 0 => rfl
  | n + 1 => by
    rw [allB, List.length_append, List.length_map, List.length_map, allB_len n, Nat.pow_succ]
    omega
theorem allB_mem : ∀ {n : Nat} {k : List Bool}, k.length = n → k ∈ allB n
  | 0, k, h => by
    rw [List.eq_nil_of_length_eq_zero h]
    simp [allB]
  | n + 1, [], h => by simp at h
  | n + 1, b :: k, h => by
    have := allB_mem (n := n) (k := k) (by simpa using h)
    cases b <;> simp [allB, this]
theorem sub_lenB : ∀ {xs ns : List (List Bool)}, xs.Nodup → (∀ x ∈ xs, x ∈ ns) → xs.length ≤ ns.length
  | [], ns, _, _ => Nat.zero_le _
  | x :: xs, ns, nd, h => by
    obtain ⟨h1, h2⟩ := List.nodup_cons.mp nd
    have hx := h x List.mem_cons_self
    have := sub_lenB (xs := xs) (ns := ns.erase x) h2 fun y hy => (List.mem_erase_of_ne (fun e => h1 (by rw [← e]; exact hy))).mpr (h y (List.mem_cons_of_mem _ hy))
    rw [List.length_erase_of_mem hx] at this
    have : 0 < ns.length := List.length_pos_of_mem hx
    rw [List.length_cons]
    omega
theorem wrl_len (w : Nat) (ts : List Tr) : (wrl w ts).length ≤ 2 ^ ts.length := by
  have := sub_lenB (wrl_nodup w ts) (ns := allB ts.length) fun k hk => by
    obtain ⟨x, hx, rfl⟩ := List.mem_map.mp hk
    rw [(wrl_mem hx).2]
    exact allB_mem (by simp [trs])
  rwa [List.length_map, allB_len] at this
theorem key_pln (k : List Bool) : (D.tup (k.map D.bl)).pln = true ∧ (D.tup (k.map D.bl)).sz = 1 + k.length := by
  constructor
  · rw [D.pln]
    exact plns_all.mpr fun d hd => by
      obtain ⟨b, _, rfl⟩ := List.mem_map.mp hd
      rfl
  · rw [D.sz]
    have : ∀ k : List Bool, szs (k.map D.bl) = k.length := fun k => by
      induction k with
      | nil => rfl
      | cons b k ih =>
        rw [List.map_cons, szs_cons, ih, List.length_cons]
        simp [D.sz]
        omega
    rw [this]
theorem wD_pln (x : Wld) : (wD x).pln = true ∧ (wD x).sz = 3 + x.1.length + x.2.length := by
  have h := key_pln x.1
  have h2 := rD_pln x.2
  have h3 := rD_sz x.2
  constructor
  · rw [wD, D.pln]
    simp only [plns, h.1, Bool.true_and, Bool.and_true]
    exact h2
  · rw [wD, D.sz, szs_cons, szs_cons, h.2]
    show 1 + (1 + x.1.length + ((D.tup (rD x.2)).sz + 0)) = _
    rw [D.sz, h3]
    omega

/-! ## comparisons with evenly spread numbers -/
def evsN (m : Nat) (n : Int) : List Int := (List.range m).map fun (k : Nat) => n + 2 * (k : Int)
def cmpsN (g : Str) (c m : Nat) (n : Int) : List Tr := (evsN m n).map fun z => Tr.cmp g c z
theorem cmss_cmps {g : Str} {c : Nat} : ∀ xs : List Int, cmss (xs.map fun z => Tr.cmp g c z) = xs.map fun z => (g, c, z)
  | [] => by simp [cmss]
  | x :: xs => by simp [cmss, Tr.cms, cmss_cmps xs]
theorem numsOf_cmps {g : Str} {k c : Nat} (xs : List Int) : numsOf c (xs.map fun z => ((g, k, z) : Cmp)) = if k = c then xs else [] := by
  by_cases h : k = c
  · rw [if_pos h]
    induction xs with
    | nil => rfl
    | cons x xs ih =>
      unfold numsOf at ih ⊢
      rw [List.map_cons, List.filter_cons_of_pos (by simpa using h), List.map_cons, ih]
  · rw [if_neg h]
    simp [numsOf, h]
theorem numsOf_app (c : Nat) (a b : List Cmp) : numsOf c (a ++ b) = numsOf c a ++ numsOf c b := by simp [numsOf]
theorem evsN_asc (m : Nat) (n : Int) : (evsN m n).Pairwise (· < ·) := by
  unfold evsN
  rw [List.pairwise_map]
  exact List.pairwise_lt_range.imp fun h => by omega
theorem evsN_sort (m : Nat) (n : Int) : sortU (evsN m n) = evsN m n := up_ext sortU_asc (evsN_asc m n) fun z => sortU_mem
theorem evsN_mem {m : Nat} {n z : Int} : z ∈ evsN m n ↔ ∃ k, k < m ∧ z = n + 2 * (k : Int) := by
  unfold evsN
  rw [List.mem_map]
  simp only [List.mem_range, eq_comm]
theorem sortU_nodup_len {xs : List Int} (h : xs.Nodup) : (sortU xs).length = xs.length :=
  Nat.le_antisymm (sortU_len xs) (sub_len h fun z hz => sortU_mem.mpr hz)
theorem evsN_len (m : Nat) (n : Int) : (evsN m n).length = m := by simp [evsN]
theorem evsN_std {m : Nat} {n : Int} (h : 1 ≤ m) : (stdI (evsN m n)).length = 2 + 2 * m := by
  have h0 : evsN m n ≠ [] := fun e => by
    have := evsN_len m n
    rw [e] at this
    simp at this
    omega
  have nd : (evsN m n ++ (evsN m n).map (· + 1)).Nodup := by
    rw [List.nodup_append]
    refine ⟨asc_nodup (evsN_asc m n), ?_, fun a ha b hb => ?_⟩
    · refine asc_nodup ?_
      rw [List.pairwise_map]
      exact (evsN_asc m n).imp fun h => by omega
    · obtain ⟨i, _, rfl⟩ := evsN_mem.mp ha
      obtain ⟨c, hc, rfl⟩ := List.mem_map.mp hb
      obtain ⟨j, _, rfl⟩ := evsN_mem.mp hc
      omega
  rw [stdI, if_neg h0]
  simp [sortU_nodup_len nd, evsN_len]
  omega
theorem cmpsN_d {g : Str} {c m : Nat} {n : Int} : ((evsN m n).map fun z => D.tup [.str g, .int (c : Int), .int z]) = (cmpsN g c m n).map Tr.d := by
  simp [cmpsN, Tr.d, Function.comp_def]
theorem cmps_fz {g : Str} {c : Int} (xs : List Int) : fzs (xs.map fun z => D.tup [.str g, .int c, .int z]) = xs.map fun z => D.tup [.str g, .int c, .int z] := by
  simp [fzs_eq, Function.comp_def]
theorem tns_cmps {g : Str} {c : Nat} : ∀ xs : List Int, tns (xs.map fun z => Tr.cmp g c z) = xs.length
  | [] => by simp [tns]
  | x :: xs => by simp [tns, Tr.tn, tns_cmps xs]; omega
theorem als_cmps {P : Stp → Prop} {g : Str} {c : Nat} : ∀ {xs : List Int}, (∀ z ∈ xs, P (.cmp g c z)) → als P (xs.map fun z => Tr.cmp g c z)
  | [], _ => by simp [als]
  | x :: xs, h => by
    rw [List.map_cons, als, Tr.al]
    exact ⟨h x (by simp), als_cmps fun z hz => h z (by simp [hz])⟩

/-! ## comprehensions over what is mapped -/
theorem lc_fmap {α : Type} {step : D → Env → Option (Option D × Env)} {vs : List Nat} {ρ : Env} (g : α → D) (f : α → Option D) : ∀ {xs : List α} {acc : List D}, (∀ x ∈ xs, ∃ ρ1, step (g x) ρ = some (f x, ρ1) ∧ wipeE ρ1 vs = ρ) → acc.length + xs.length ≤ 100000 → lcGo step vs (xs.map g) acc ρ = some (acc ++ xs.filterMap f, ρ)
  | [], acc, _, _ => by simp [lcGo]
  | x :: xs, acc, h, hl => by
    obtain ⟨ρ1, e, w⟩ := h x (by simp)
    have hl2 : acc.length + (xs.length + 1) ≤ 100000 := by simpa using hl
    rw [List.map_cons, lcGo, e]
    cases hf : f x with
    | none =>
      dsimp only
      rw [w, lc_fmap g f (fun y hy => h y (by simp [hy])) (by omega)]
      simp [hf]
    | some y =>
      dsimp only
      rw [if_pos (by omega), w, lc_fmap g f (fun y hy => h y (by simp [hy])) (by simp; omega)]
      simp [hf]
theorem fm_filter {α β : Type} (p : α → Bool) (g : α → β) : ∀ xs : List α, xs.filterMap (fun x => if p x = true then some (g x) else none) = (xs.filter p).map g
  | [] => rfl
  | x :: xs => by
    by_cases h : p x = true
    · simp [h, fm_filter p g xs]
    · simp [h, fm_filter p g xs]
theorem fm_map {α β : Type} (g : α → β) : ∀ xs : List α, xs.filterMap (fun x => some (g x)) = xs.map g
  | [] => rfl
  | x :: xs => by simp
theorem wD_fz (x : Wld) : (wD x).fz = wD x := pln_fz (wD_pln x).1
theorem wD_isO (x : Wld) : (wD x).isO = false := (rfl)
theorem wDs_fz (W : List Wld) : fzs (W.map wD) = W.map wD := by
  rw [fzs_eq, List.map_map]
  exact List.map_congr_left fun x _ => wD_fz x

/-! ## worlds, refused -/
theorem boxes_bad_loop {w : Nat} {o : D} (op : o.pln = true) (os : o.sz ≤ 5000) (ob : chk w 16 [o] = false) {rest : List D} {e0 e3 : Option D} : ∀ {ts : List Tr} {e2 : Option D}, Fit w ts →
    mLoop (kName 2) g_boxes_1 (ts.map Tr.d ++ o :: rest) [e0, some (.int (w : Int)), e2, e3] = .ex 1 (some o) [e0, some (.int (w : Int)), some o, e3]
  | [], e2, _ => by
    have e1 := check_ok op (by omega) (w : Int)
    rw [ob, if_neg Bool.false_ne_true] at e1
    have oo := pln_isO op
    have of := pln_fz op
    simp [mLoop, kName, g_boxes_1, oo, of, e1]
  | t :: ts, e2, h => by
    obtain ⟨a, b, c⟩ := h t List.mem_cons_self
    have e1 := check_ok (Tr.pln t) (by have := Tr.sz t; omega) (w : Int)
    rw [chk_ok ((Tr.okn w t b).1 c), decide_eq_true a, if_pos rfl] at e1
    have o1 := tr_isO t
    have f1 := tr_fz t
    have ih := boxes_bad_loop op os ob (rest := rest) (e0 := e0) (e3 := e3) (ts := ts) (e2 := some t.d) fun x hx => h x (List.mem_cons_of_mem _ hx)
    have st : g_boxes_1 [e0, some (.int (w : Int)), some t.d, e3] = .nx [e0, some (.int (w : Int)), some t.d, e3] := by simp [g_boxes_1, o1, f1, e1]
    rw [List.map_cons, List.cons_append]
    have kn : kName 2 t.d [e0, some (.int (w : Int)), e2, e3] = some [e0, some (.int (w : Int)), some t.d, e3] := rfl
    rw [mLoop, kn]
    dsimp only
    rw [st]
    exact ih
theorem worlds_bad {w : Nat} {ts : List Tr} (h : Fit w ts) {o : D} (op : o.pln = true) (os : o.sz ≤ 5000) (ob : chk w 16 [o] = false) {rest : List D} (rf : fzs (ts.map Tr.d ++ o :: rest) = ts.map Tr.d ++ o :: rest) : m_worlds [.lst (ts.map Tr.d ++ o :: rest), .int (w : Int)] = .ex 1 (some o) [] := by
  have lp := fun e0 e2 e3 => boxes_bad_loop op os ob (rest := rest) (e0 := e0) (e3 := e3) (ts := ts) (e2 := e2) h
  have oo := pln_isO op
  have of := pln_fz op
  generalize ts.map Tr.d ++ o :: rest = xs at *
  have bx : m_boxes [.lst xs, .int (w : Int)] = .ex 1 (some o) [] := by simp [m_boxes, g_boxes, lp]
  simp [m_worlds, g_worlds, bx, rf, lK]
def effN (k : Nat) : Nat := if k = 0 then 2 else k
theorem toldW {xs : List D} (k : Nat) {a : Ans} (ha : m_worlds [.lst xs, .int (effN k : Nat)] = a) {rs : List D}
    (hr : (∃ ws, a = .ok (.ols ws) [] ∧ rs = [.ols ws]) ∨ (∃ d, a = .ex 1 (some d) [] ∧ d.pln = true ∧ rs = [.str "BadPredicate", d, .bl true, .bl false]) ∨ ∃ n, a = .ex 2 (some (.int n)) [] ∧ rs = [.str "TooWide", .int n, .bl true, .bl false]) :
    m_worlds_told [.lst xs, .int (k : Int)] = .ok (.ols rs) [] := by
  by_cases hk : k = 0
  · subst hk
    have ha : m_worlds [.lst xs, .int 2] = a := ha
    rcases hr with ⟨ws, rfl, rfl⟩ | ⟨d, rfl, p, rfl⟩ | ⟨n, rfl, rfl⟩
    · simp [m_worlds_told, g_worlds_told, mTryN, ha, mLst1, mMove]
    · have f := pln_fz p
      simp [m_worlds_told, g_worlds_told, mTryN, ha, f, mLst1, mMove, pickH, fitsD, mXf, mIsX, offO]
    · simp [m_worlds_told, g_worlds_told, mTryN, ha, mLst1, mMove, pickH, fitsD, mXf, mIsX, offO]
  · have e : effN k = k := if_neg hk
    rw [e] at ha
    rcases hr with ⟨ws, rfl, rfl⟩ | ⟨d, rfl, p, rfl⟩ | ⟨n, rfl, rfl⟩
    · simp [m_worlds_told, g_worlds_told, mTryN, ha, hk, mLst1, mMove]
    · have f := pln_fz p
      simp [m_worlds_told, g_worlds_told, mTryN, ha, f, hk, mLst1, mMove, pickH, fitsD, mXf, mIsX, offO]
    · simp [m_worlds_told, g_worlds_told, mTryN, ha, hk, mLst1, mMove, pickH, fitsD, mXf, mIsX, offO]

/-! ## the law of worlds listed -/
/-- what is told of xs, and what is due -/
def TW (w : Nat) (xs : List D) (due : D) : Prop := ∃ rs : List D, (∀ k : Nat, effN k = w → m_worlds_told [.lst xs, .int (k : Int)] = .ok (.ols rs) []) ∧ due.fz = .lst (fzs rs) ∧ m_alike [.lst (fzs rs), .lst (fzs rs)] = .ok (.bl true) [] ∧ (rs.length = 1 → ∃ ws : List D, rs = [.ols ws] ∧ ws.length ≤ 1000)
theorem tw_told {w : Nat} {xs : List D} {a : Ans} (ha : m_worlds [.lst xs, .int (w : Int)] = a) {rs : List D} {due : D} (hr : (∃ ws, a = .ok (.ols ws) [] ∧ rs = [.ols ws] ∧ ws.length ≤ 1000) ∨ (∃ d, a = .ex 1 (some d) [] ∧ d.pln = true ∧ rs = [.str "BadPredicate", d, .bl true, .bl false]) ∨ ∃ n, a = .ex 2 (some (.int n)) [] ∧ rs = [.str "TooWide", .int n, .bl true, .bl false])
    (hd : due.fz = .lst (fzs rs)) (hp : (D.lst (fzs rs)).pln = true) (hs : (D.lst (fzs rs)).sz ≤ 5999) : TW w xs due := by
  refine ⟨rs, fun k hk => toldW k (a := a) (by rw [hk]; exact ha) ?_, hd, alike_self hp hs, fun h1 => ?_⟩
  · rcases hr with ⟨ws, h1, h2, _⟩ | h | h
    · exact .inl ⟨ws, h1, h2⟩
    · exact .inr (.inl h)
    · exact .inr (.inr h)
  · rcases hr with ⟨ws, _, h2, h3⟩ | ⟨d, _, _, h2⟩ | ⟨n, _, h2⟩
    · exact ⟨ws, h2, h3⟩
    · rw [h2] at h1; simp at h1
    · rw [h2] at h1; simp at h1
def XSlot (xs : List D) (e : Option D) : Prop := e = some (.lst xs) ∨ e = some (.ols xs)
theorem law1_turn {w k : Nat} (hk : effN k = w) {xs : List D} {due : D} (h : TW w xs due) (xf : fzs xs = xs) {e0 e1 e2 e3 e4 e5 e6 e8 e9 e10 e11 e12 e13 e14 e16 : Option D} {rest : Env} (h12 : XSlot xs e12) :
    ∃ f16, g_law_1 (e0 :: e1 :: e2 :: e3 :: e4 :: e5 :: e6 :: some due :: e8 :: e9 :: e10 :: e11 :: e12 :: e13 :: e14 :: some (.int (k : Int)) :: e16 :: rest) = .nx (e0 :: e1 :: e2 :: e3 :: e4 :: e5 :: e6 :: some due :: e8 :: e9 :: e10 :: e11 :: some (.lst xs) :: e13 :: e14 :: some (.int (k : Int)) :: f16 :: rest) := by
  obtain ⟨rs, td, hd, al, one⟩ := h
  have td := td k hk
  have pk : ∀ ρ, pkK m_alike [.ols rs, due] ρ = .ok (.bl true) ρ := fun ρ => pkK_ok (by
    have : ([D.ols rs, due].map D.fz) = [.lst (fzs rs), .lst (fzs rs)] := by simp [D.fz, hd]
    rw [this]
    exact al) rfl
  by_cases q : rs.length = 1
  · obtain ⟨ws, e, wl⟩ := one q
    subst e
    have hz : szok ws.length = some () := szok_of (by omega)
    refine ⟨some (.ols [.ols (ws ++ [.non])]), ?_⟩
    unfold XSlot at h12
    rcases h12 with rfl | rfl <;> simp [g_law_1, xf, td, pk, mAppIx, innerOf, hz]
  · have q2 : ¬ ((rs.length : Nat) : Int) = 1 := by omega
    refine ⟨some (.ols rs), ?_⟩
    unfold XSlot at h12
    rcases h12 with rfl | rfl <;> simp [g_law_1, xf, td, pk, q2]
theorem bad5 {w : Nat} {k : Int} (h0 : 0 ≤ k) (h1 : k < 5) : ∃ d, atI [D.str "both", .non, .lst [.str "<", .int 0, .int 5], .tup [.str "missing", .int (w : Int)], .tup [.str "both", .tup [.str "<", .int 0]]] k = some d ∧ d.pln = true ∧ d.sz ≤ 20 ∧ Bad w d := by
  have : k = 0 ∨ k = 1 ∨ k = 2 ∨ k = 3 ∨ k = 4 := by omega
  rcases this with rfl | rfl | rfl | rfl | rfl
  · exact ⟨_, rfl, by simp [D.pln], by simp [D.sz], bad_node rfl⟩
  · exact ⟨_, rfl, by simp [D.pln], by simp [D.sz], bad_node rfl⟩
  · exact ⟨_, rfl, by simp [D.pln, plns], by simp [D.sz, szs], bad_node rfl⟩
  · exact ⟨_, rfl, by simp [D.pln, plns], by simp [D.sz, szs], bad_node (by simp [nodeOk, bkD, signs]; omega)⟩
  · exact ⟨_, rfl, by simp [D.pln, plns], by simp [D.sz, szs], bad_kid (k := .tup [.str "<", .int 0]) (by simp [kdsD, signs]) (bad_node (by simp [nodeOk, signs]))⟩
/-! ### too wide -/
def sdD (c : Nat) (z : Int) : D := .lst [.tup [.str ">", .int (c : Int), .int z]]
theorem evsN_snoc (m : Nat) (n : Int) : evsN (m + 1) n = evsN m n ++ [n + 2 * (m : Int)] := by simp [evsN, List.range_succ]
theorem tw_inner {c : Nat} {n : Int} (m : Nat) (hm : m ≤ 200) {acc : List D} (ha : acc.length ≤ 1000) {e0 e1 e5 : Option D} :
    ∃ f5, mLoop (kName 5) g_too_wide_1 (upto m) [e0, e1, some (.ols acc), some (.int (c : Int)), some (.int n), e5] = .nx [e0, e1, some (.ols (acc ++ (evsN m n).map (sdD c))), some (.int (c : Int)), some (.int n), f5] := by
  obtain ⟨ρ', e, f5, hρ⟩ := loop_nx (tg := kName 5) (body := g_too_wide_1) (I := fun i ρ => ∃ f5, ρ = [e0, e1, some (.ols (acc ++ (evsN i n).map (sdD c))), some (.int (c : Int)), some (.int n), f5])
    (ds := upto m) (ρ := [e0, e1, some (.ols acc), some (.int (c : Int)), some (.int n), e5]) (k := 0) ⟨e5, by simp [evsN]⟩ (fun i d ρ hi ⟨f5, hρ⟩ => by
      subst hρ
      obtain ⟨hlt, h4⟩ := upto_at hi
      subst h4
      rw [Nat.zero_add]
      have hz : szok (acc ++ (evsN i n).map (sdD c)).length = some () := szok_of (by simp [evsN_len]; omega)
      have s2 : sml 2 = true := sml_of (by omega)
      have ap : acc ++ (evsN (i + 1) n).map (sdD c) = (acc ++ (evsN i n).map (sdD c)) ++ [.lst [.tup [.str ">", .int (c : Int), .int (n + 2 * (i : Int))]]] := by rw [evsN_snoc, List.map_append, List.append_assoc]; rfl
      refine ⟨_, _, rfl, .inl ?_, some (.int (i : Int)), rfl⟩
      rw [ap]
      generalize acc ++ (evsN i n).map (sdD c) = xs at *
      simp [g_too_wide_1, s2, hz])
  subst hρ
  rw [Nat.zero_add, upto_len] at e
  exact ⟨f5, e⟩
abbrev swp (c m : Nat) (n : Int) : List SSt := (evsN m n).map fun z => ([Stp.cmp ">" c z], Tr.cmp ">" c z)
theorem swp_d {c m : Nat} {n : Int} : (evsN m n).map (sdD c) = rcD ((swp c m n).map (·.1)) := by simp [swp, rcD, sdD, Stp.d, Function.comp_def]
theorem swp_t {c m : Nat} {n : Int} : (swp c m n).map (·.2) = cmpsN ">" c m n := by simp [swp, cmpsN, Function.comp_def]
theorem swp_built {c m : Nat} {n : Int} : ∀ x ∈ swp c m n, m_built [.lst (x.1.map Stp.d)] = .ok x.2.d [] := fun x hx => by
  obtain ⟨z, _, rfl⟩ := List.mem_map.mp hx
  simp [m_built, g_built, g_built_3, Stp.d, Tr.d, mLoop, kName]
theorem cmps_fit {w c m : Nat} (hc : c < w) {n : Int} (h1 : -100000000000000000 ≤ n) (h2 : n ≤ 100000000000000000) (hm : m ≤ 200) : Fit w (cmpsN ">" c m n) := fun t ht => by
  obtain ⟨z, hz, rfl⟩ := List.mem_map.mp ht
  obtain ⟨k, hk, rfl⟩ := evsN_mem.mp hz
  refine ⟨by simp [Tr.tn], ?_, ?_⟩
  · rw [Tr.al]; exact ⟨by simp [signs], by omega, by omega⟩
  · rw [Tr.al]; exact hc
theorem Fit.app {w : Nat} {a b : List Tr} (h : Fit w a) (g : Fit w b) : Fit w (a ++ b) := fun t ht => (List.mem_append.mp ht).elim (h t) (g t)
def dueN (w : Nat) : Nat := if w = 1 then 258 else if w = 2 then 288 else 384
theorem too_wide_ok {s : Strm'} (hs : s.Ok) {w : Nat} (h1 : 1 ≤ w) (h3 : w ≤ 3) :
    ∃ (sts : List SSt) (s' : Strm'), m_too_wide [stD s, .int (w : Int)] = .ok (.lst (rcD (sts.map (·.1)))) [stD s'] ∧ s'.Ok ∧ sts.length ≤ 200 ∧ (∀ x ∈ sts, m_built [.lst (x.1.map Stp.d)] = .ok x.2.d []) ∧ Fit w (sts.map (·.2)) ∧ (cmss (sts.map (·.2))).length ≤ 400 ∧ mulL (chsOf w (sts.map (·.2))) = dueN w := by
  have s10 : oPow (.int 10) (.int 17) = some (.int 100000000000000000) := by simp [oPow]
  have cm : ∀ {c m : Nat} {n : Int}, cmss (cmpsN ">" c m n) = (evsN m n).map fun z => ((">" : Str), c, z) := fun {c m n} => cmss_cmps _
  have rcf : ∀ sts : List SSt, fzs (rcD (sts.map (·.1))) = rcD (sts.map (·.1)) := fun sts => by simp [rcD, fzs_eq, Function.comp_def]
  have sml1 : ∀ {c m : Nat} {n : Int}, (swp c m n).length = m := fun {c m n} => by simp [swp, evsN_len]
  obtain ⟨n0, s1, e0, o1, l0, u0⟩ := number_ok hs (m := 100000000000000000) (by omega) (by omega)
  obtain ⟨n1, s2, e1, o2, l1, u1⟩ := number_ok o1 (m := 100000000000000000) (by omega) (by omega)
  obtain ⟨n2, s3, e2, o3, l2, u2⟩ := number_ok o2 (m := 100000000000000000) (by omega) (by omega)
  have hw : w = 1 ∨ w = 2 ∨ w = 3 := by omega
  rcases hw with rfl | rfl | rfl
  · obtain ⟨f5, a⟩ := tw_inner (c := 0) (n := n0) 128 (by omega) (acc := []) (by simp) (e0 := some (stD s1)) (e1 := some (.int 1)) (e5 := none)
    rw [List.nil_append, swp_d] at a
    refine ⟨swp 0 128 n0, s1, ?_, o1, by rw [sml1]; omega, swp_built, by rw [swp_t]; exact cmps_fit (by omega) (by omega) (by omega) (by omega), by rw [swp_t, cm]; simp [evsN_len], ?_⟩
    · have rf := rcf (swp 0 128 n0)
      have r1 : rg1 [.int 1] = some [.int 0] := rg1_n (n := 1) (by omega)
      have r2 : rg1 [.int 128] = some (upto 128) := rg1_n (n := 128) (by omega)
      have z0 : D.int ((0 : Nat) : Int) = .int 0 := rfl
      rw [z0] at a
      generalize rcD ((swp 0 128 n0).map (·.1)) = x at *
      simp [-rg1_int, m_too_wide, g_too_wide, r1, mLoop, kName, g_too_wide_2, s10, e0, r2, a, rf]
    · rw [swp_t]
      have q0 : numsOf 0 (cmss (cmpsN ">" 0 128 n0)) = evsN 128 n0 := by rw [cm, numsOf_cmps, if_pos rfl]
      simp [chsOf, List.range_succ, mulL, q0, evsN_sort, evsN_std, dueN]
  · obtain ⟨f5, a⟩ := tw_inner (c := 0) (n := n0) 8 (by omega) (acc := []) (by simp) (e0 := some (stD s1)) (e1 := some (.int 2)) (e5 := none)
    rw [List.nil_append, swp_d] at a
    obtain ⟨g5, b⟩ := tw_inner (c := 1) (n := n1) 7 (by omega) (acc := rcD ((swp 0 8 n0).map (·.1))) (by simp [rcD, evsN_len]) (e0 := some (stD s2)) (e1 := some (.int 2)) (e5 := f5)
    have bb : rcD ((swp 0 8 n0).map (·.1)) ++ (evsN 7 n1).map (sdD 1) = rcD ((swp 0 8 n0 ++ swp 1 7 n1).map (·.1)) := by rw [swp_d]; simp [rcD]
    rw [bb] at b
    have tt : (swp 0 8 n0 ++ swp 1 7 n1).map (·.2) = cmpsN ">" 0 8 n0 ++ cmpsN ">" 1 7 n1 := by rw [List.map_append, swp_t, swp_t]
    refine ⟨swp 0 8 n0 ++ swp 1 7 n1, s2, ?_, o2, by rw [List.length_append, sml1, sml1]; omega, fun x hx => (List.mem_append.mp hx).elim (swp_built x) (swp_built x), by rw [tt]; exact (cmps_fit (by omega) (by omega) (by omega) (by omega)).app (cmps_fit (by omega) (by omega) (by omega) (by omega)), by rw [tt, cmss_app, cm, cm]; simp [evsN_len], ?_⟩
    · have rf := rcf (swp 0 8 n0 ++ swp 1 7 n1)
      have r1 : rg1 [.int 2] = some [.int 0, .int 1] := rg1_n (n := 2) (by omega)
      have r2 : rg1 [.int 8] = some (upto 8) := rg1_n (n := 8) (by omega)
      have r3 : rg1 [.int 7] = some (upto 7) := rg1_n (n := 7) (by omega)
      have z0 : D.int ((0 : Nat) : Int) = .int 0 := rfl
      have z1 : D.int ((1 : Nat) : Int) = .int 1 := rfl
      rw [z0] at a
      rw [z1] at b
      generalize rcD ((swp 0 8 n0 ++ swp 1 7 n1).map (·.1)) = y at *
      generalize rcD ((swp 0 8 n0).map (·.1)) = x at *
      simp [-rg1_int, m_too_wide, g_too_wide, r1, mLoop, kName, g_too_wide_2, s10, e0, e1, r2, r3, a, b, rf]
    · rw [tt]
      have q0 : numsOf 0 (cmss (cmpsN ">" 0 8 n0 ++ cmpsN ">" 1 7 n1)) = evsN 8 n0 := by simp [cmss_app, cm, numsOf_app, numsOf_cmps]
      have q1 : numsOf 1 (cmss (cmpsN ">" 0 8 n0 ++ cmpsN ">" 1 7 n1)) = evsN 7 n1 := by simp [cmss_app, cm, numsOf_app, numsOf_cmps]
      simp [chsOf, List.range_succ, mulL, q0, q1, evsN_sort, evsN_std, dueN]
  · obtain ⟨f5, a⟩ := tw_inner (c := 0) (n := n0) 3 (by omega) (acc := []) (by simp) (e0 := some (stD s1)) (e1 := some (.int 3)) (e5 := none)
    rw [List.nil_append, swp_d] at a
    obtain ⟨g5, b⟩ := tw_inner (c := 1) (n := n1) 3 (by omega) (acc := rcD ((swp 0 3 n0).map (·.1))) (by simp [rcD, evsN_len]) (e0 := some (stD s2)) (e1 := some (.int 3)) (e5 := f5)
    have bb : rcD ((swp 0 3 n0).map (·.1)) ++ (evsN 3 n1).map (sdD 1) = rcD ((swp 0 3 n0 ++ swp 1 3 n1).map (·.1)) := by rw [swp_d]; simp [rcD]
    rw [bb] at b
    obtain ⟨h5, c⟩ := tw_inner (c := 2) (n := n2) 2 (by omega) (acc := rcD ((swp 0 3 n0 ++ swp 1 3 n1).map (·.1))) (by simp [rcD, evsN_len]) (e0 := some (stD s3)) (e1 := some (.int 3)) (e5 := g5)
    have cc : rcD ((swp 0 3 n0 ++ swp 1 3 n1).map (·.1)) ++ (evsN 2 n2).map (sdD 2) = rcD ((swp 0 3 n0 ++ swp 1 3 n1 ++ swp 2 2 n2).map (·.1)) := by rw [swp_d]; simp [rcD]
    rw [cc] at c
    have tt : (swp 0 3 n0 ++ swp 1 3 n1 ++ swp 2 2 n2).map (·.2) = cmpsN ">" 0 3 n0 ++ cmpsN ">" 1 3 n1 ++ cmpsN ">" 2 2 n2 := by rw [List.map_append, List.map_append, swp_t, swp_t, swp_t]
    refine ⟨swp 0 3 n0 ++ swp 1 3 n1 ++ swp 2 2 n2, s3, ?_, o3, by rw [List.length_append, List.length_append, sml1, sml1, sml1]; omega, fun x hx => (List.mem_append.mp hx).elim (fun hx => (List.mem_append.mp hx).elim (swp_built x) (swp_built x)) (swp_built x), by rw [tt]; exact ((cmps_fit (by omega) (by omega) (by omega) (by omega)).app (cmps_fit (by omega) (by omega) (by omega) (by omega))).app (cmps_fit (by omega) (by omega) (by omega) (by omega)), by rw [tt, cmss_app, cmss_app, cm, cm, cm]; simp [evsN_len], ?_⟩
    · have rf := rcf (swp 0 3 n0 ++ swp 1 3 n1 ++ swp 2 2 n2)
      have r1 : rg1 [.int 3] = some [.int 0, .int 1, .int 2] := rg1_n (n := 3) (by omega)
      have r3 : rg1 [.int 3] = some (upto 3) := rg1_n (n := 3) (by omega)
      have r2 : rg1 [.int 2] = some (upto 2) := rg1_n (n := 2) (by omega)
      have z0 : D.int ((0 : Nat) : Int) = .int 0 := rfl
      have z1 : D.int ((1 : Nat) : Int) = .int 1 := rfl
      have z2 : D.int ((2 : Nat) : Int) = .int 2 := rfl
      have u3 : upto 3 = [.int 0, .int 1, .int 2] := rfl
      have u2 : upto 2 = [.int 0, .int 1] := rfl
      rw [z0, u3] at a
      rw [z1, u3] at b
      rw [z2, u2] at c
      rw [u2] at r2
      generalize rcD ((swp 0 3 n0 ++ swp 1 3 n1 ++ swp 2 2 n2).map (·.1)) = z at *
      generalize rcD ((swp 0 3 n0 ++ swp 1 3 n1).map (·.1)) = y at *
      generalize rcD ((swp 0 3 n0).map (·.1)) = x at *
      have tB : g_too_wide = mSeq (mSet 2 (mLst mNil)) (mSeq (mFor (mRg1 (mCons (mVar 1) mNil)) (kName 3) g_too_wide_2) (mRet (mVar 2))) := rfl
      have t0 : ∀ e4, g_too_wide_2 [some (stD s), some (.int 3), some (.ols []), some (.int 0), e4, none] = .nx [some (stD s1), some (.int 3), some (.ols x), some (.int 0), some (.int n0), f5] := fun e4 => by
        simp [-rg1_int, g_too_wide_2, s10, e0, r1, a]
      have t1 : ∀ e4, g_too_wide_2 [some (stD s1), some (.int 3), some (.ols x), some (.int 1), e4, f5] = .nx [some (stD s2), some (.int 3), some (.ols y), some (.int 1), some (.int n1), g5] := fun e4 => by
        simp [-rg1_int, g_too_wide_2, s10, e1, r1, b]
      have t2 : ∀ e4, g_too_wide_2 [some (stD s2), some (.int 3), some (.ols y), some (.int 2), e4, g5] = .nx [some (stD s3), some (.int 3), some (.ols z), some (.int 2), some (.int n2), h5] := fun e4 => by
        simp [-rg1_int, g_too_wide_2, s10, e2, r2, c]
      have lp : mLoop (kName 3) g_too_wide_2 [.int 0, .int 1, .int 2] [some (stD s), some (.int 3), some (.ols []), none, none, none] = .nx [some (stD s3), some (.int 3), some (.ols z), some (.int 2), some (.int n2), h5] := by
        simp [mLoop, kName, t0, t1, t2]
      simp [-rg1_int, m_too_wide, tB, r1, lp, rf]
    · rw [tt]
      have q0 : numsOf 0 (cmss (cmpsN ">" 0 3 n0 ++ cmpsN ">" 1 3 n1 ++ cmpsN ">" 2 2 n2)) = evsN 3 n0 := by simp [cmss_app, cm, numsOf_app, numsOf_cmps]
      have q1 : numsOf 1 (cmss (cmpsN ">" 0 3 n0 ++ cmpsN ">" 1 3 n1 ++ cmpsN ">" 2 2 n2)) = evsN 3 n1 := by simp [cmss_app, cm, numsOf_app, numsOf_cmps]
      have q2 : numsOf 2 (cmss (cmpsN ">" 0 3 n0 ++ cmpsN ">" 1 3 n1 ++ cmpsN ">" 2 2 n2)) = evsN 2 n2 := by simp [cmss_app, cm, numsOf_app, numsOf_cmps]
      rw [List.append_assoc] at q0 q1 q2
      simp [chsOf, List.range_succ, mulL, q0, q1, q2, evsN_sort, evsN_std, dueN]

/-! ## what laws share -/
theorem built_of {w : Nat} {sts : List SSt} (h : ∀ x ∈ sts, ST w x.1 x.2) : Built (sts.map (·.1)) (sts.map (·.2)) := by
  refine ⟨by simp, fun i ss t h1 h2 => ?_⟩
  rw [List.getElem?_map] at h1 h2
  obtain ⟨x, e1, rfl⟩ := Option.map_eq_some_iff.mp h1
  obtain ⟨y, e2, rfl⟩ := Option.map_eq_some_iff.mp h2
  cases e1.symm.trans e2
  have q := h x (List.mem_of_getElem? e1)
  obtain ⟨p, hp⟩ := q.rc
  exact cms_steps hp.valid q.ex
theorem steps_sum {w : Nat} : ∀ {sts : List SSt}, (∀ x ∈ sts, ST w x.1 x.2) → ((sts.map (·.1)).map List.length).sum ≤ sts.length * 16
  | [], _ => by simp
  | x :: sts, h => by
    have ih := steps_sum (sts := sts) fun y hy => h y (List.mem_cons_of_mem _ hy)
    have := (h x List.mem_cons_self).len
    simp only [List.map_cons, List.sum_cons, List.length_cons] at *
    omega
theorem lcStep_no {tg : D → Env → Option Env} {t : M Bool} {el : M D} {vs : List Nat} {d : D} {ρ ρ1 ρ2 : Env} (h1 : tg d (wipeE ρ vs) = some ρ1) (h2 : t ρ1 = .ok false ρ2) : lcStep tg t el vs d ρ = some (none, ρ2) := by
  unfold lcStep
  rw [h1]
  dsimp only
  rw [h2]
theorem lcStep_yes {tg : D → Env → Option Env} {t : M Bool} {el : M D} {vs : List Nat} {d y : D} {ρ ρ1 ρ2 ρ3 : Env} (h1 : tg d (wipeE ρ vs) = some ρ1) (h2 : t ρ1 = .ok true ρ2) (h3 : el ρ2 = .ok y ρ3) : lcStep tg t el vs d ρ = some (some y, ρ3) := by
  unfold lcStep
  rw [h1]
  dsimp only
  rw [h2]
  dsimp only
  rw [h3]

/-! ### the law's own list -/
theorem tr_lc {w : Nat} {sts : List SSt} (h : ∀ x ∈ sts, ST w x.1 x.2) (hl : sts.length ≤ 1000) {r : List (Option Int)} (hr : r.length = w) {e0 e1 e2 e3 e4 e5 e6 e7 e8 e9 e11 e12 e13 e14 e15 e16 : Option D} :
    lcGo (lcStep (kName 17) (mP true) (mOp oIsA (frz (mCall [] (noX m_judged) (bCons (mVar 17) (bCons (mVar 10) bNil)))) (mP (.bl true))) [17]) [17] (rcD (sts.map (·.1))) [] [e0, e1, e2, e3, e4, e5, e6, e7, e8, e9, some (rowD r), e11, e12, e13, e14, e15, e16, none] = some ((trs (sts.map (·.2)) r).map D.bl, [e0, e1, e2, e3, e4, e5, e6, e7, e8, e9, some (rowD r), e11, e12, e13, e14, e15, e16, none]) := by
  have lc := lc_fmap (step := lcStep (kName 17) (mP true) (mOp oIsA (frz (mCall [] (noX m_judged) (bCons (mVar 17) (bCons (mVar 10) bNil)))) (mP (.bl true))) [17]) (vs := [17]) (ρ := [e0, e1, e2, e3, e4, e5, e6, e7, e8, e9, some (rowD r), e11, e12, e13, e14, e15, e16, none])
    (fun x : SSt => D.lst (x.1.map Stp.d)) (fun x => some (.bl (decide (x.2.ev r = some true)))) (xs := sts) (acc := []) (fun x hx => by
      have e := (h x hx).jd hr
      have it := isT_tD (x.2.ev r)
      have fz := tD_fz (c := x.2.ev r)
      have ro := rowD_isO (r := r)
      refine ⟨[e0, e1, e2, e3, e4, e5, e6, e7, e8, e9, some (rowD r), e11, e12, e13, e14, e15, e16, some (.lst (x.1.map Stp.d))], ?_, by simp⟩
      generalize decide (x.2.ev r = some true) = z at *
      generalize tD (x.2.ev r) = y at *
      generalize rowD r = row at *
      generalize x.1.map Stp.d = xd at *
      exact lcStep_yes (ρ1 := [e0, e1, e2, e3, e4, e5, e6, e7, e8, e9, some row, e11, e12, e13, e14, e15, e16, some (.lst xd)]) rfl rfl (by simp [e, it, fz, ro])) (by simp; omega)
  rw [fm_map, List.nil_append] at lc
  have e1 : sts.map (fun x => D.lst (x.1.map Stp.d)) = rcD (sts.map (·.1)) := by simp [rcD]
  have e2 : sts.map (fun x => D.bl (decide (x.2.ev r = some true))) = (trs (sts.map (·.2)) r).map D.bl := by simp [trs]
  rw [e1, e2] at lc
  exact lc
theorem law5_turn {w : Nat} {sts : List SSt} (h : ∀ x ∈ sts, ST w x.1 x.2) (hl : sts.length ≤ 1000) {r : List (Option Int)} (hr : r.length = w) {acc : List Wld} (ha : acc.length ≤ 1000) {e0 e1 e2 e3 e5 e6 e7 e11 e12 e13 e14 e15 e16 : Option D} :
    g_law_5 [e0, e1, e2, e3, some (.lst (rcD (sts.map (·.1)))), e5, e6, e7, some (.ols (acc.map wD)), some (.ols (kyD acc)), some (rowD r), e11, e12, e13, e14, e15, e16, none] =
      .nx [e0, e1, e2, e3, some (.lst (rcD (sts.map (·.1)))), e5, e6, e7, some (.ols ((addW (sts.map (·.2)) acc r).map wD)), some (.ols (kyD (addW (sts.map (·.2)) acc r))), some (rowD r), some (.tup ((trs (sts.map (·.2)) r).map D.bl)), e12, e13, e14, e15, e16, none] := by
  have lc := fun e0 e1 e2 e3 e4 e5 e6 e7 e8 e9 e11 e12 e13 e14 e15 e16 => tr_lc h hl hr (e0 := e0) (e1 := e1) (e2 := e2) (e3 := e3) (e4 := e4) (e5 := e5) (e6 := e6) (e7 := e7) (e8 := e8) (e9 := e9) (e11 := e11) (e12 := e12) (e13 := e13) (e14 := e14) (e15 := e15) (e16 := e16)
  have kf := bls_fz (trs (sts.map (·.2)) r)
  have ro := rowD_isO (r := r)
  have rf : (rowD r).fz = rowD r := by simp [rowD]
  have rcf : fzs (rcD (sts.map (·.1))) = rcD (sts.map (·.1)) := by simp [rcD, fzs_eq, Function.comp_def]
  have ind := inDeep_key true (trs (sts.map (·.2)) r) (acc.map (·.1))
  have ek : (acc.map (·.1)).map (fun k => D.tup (k.map D.bl)) = kyD acc := by simp [kyD]
  rw [ek] at ind
  have hz1 : szok (kyD acc).length = some () := szok_of (by simp [kyD]; omega)
  have hz2 : szok (acc.map wD).length = some () := szok_of (by simp; omega)
  by_cases q : trs (sts.map (·.2)) r ∈ acc.map (·.1)
  · have ea : addW (sts.map (·.2)) acc r = acc := if_pos q
    rw [decide_eq_true q] at ind
    have ind : inDeep true (.tup ((trs (sts.map (·.2)) r).map D.bl)) (kyD acc) = some (.bl false) := ind
    rw [ea]
    generalize (trs (sts.map (·.2)) r).map D.bl = kb at *
    generalize kyD acc = ks at *
    generalize acc.map wD = ws at *
    generalize rowD r = row at *
    generalize rcD (sts.map (·.1)) = rc at *
    simp [g_law_5, lc, kf, ro, rcf, ind]
  · have ea : addW (sts.map (·.2)) acc r = acc ++ [(trs (sts.map (·.2)) r, r)] := if_neg q
    have ek : kyD (acc ++ [(trs (sts.map (·.2)) r, r)]) = kyD acc ++ [.tup ((trs (sts.map (·.2)) r).map D.bl)] := by simp [kyD]
    have ew : (acc ++ [(trs (sts.map (·.2)) r, r)]).map wD = acc.map wD ++ [.tup [.tup ((trs (sts.map (·.2)) r).map D.bl), rowD r]] := by simp [wD]
    rw [decide_eq_false q] at ind
    have ind : inDeep true (.tup ((trs (sts.map (·.2)) r).map D.bl)) (kyD acc) = some (.bl true) := ind
    rw [ea, ek, ew]
    generalize (trs (sts.map (·.2)) r).map D.bl = kb at *
    generalize kyD acc = ks at *
    generalize acc.map wD = ws at *
    generalize rowD r = row at *
    generalize rcD (sts.map (·.1)) = rc at *
    simp [g_law_5, g_law_4, lc, kf, ro, rf, rcf, ind, hz1, hz2]
theorem law6_ok {w : Nat} {sts : List SSt} (hT : ∀ x ∈ sts, ST w x.1 x.2) (hl : sts.length ≤ 20) (hw : w ≤ 3) (cl : (cmss (sts.map (·.2))).length ≤ 31) (ml : mulL (chsOf w (sts.map (·.2))) ≤ 256) {e0 e1 e3 e5 e6 e7 e8 e9 e10 e11 e12 e13 e14 e15 e16 : Option D} :
    ∃ f9 f10 f11, g_law_6 [e0, e1, some (.int (w : Int)), e3, some (.ols (rcD (sts.map (·.1)))), e5, e6, e7, e8, e9, e10, e11, e12, e13, e14, e15, e16, none] =
      .nx [e0, e1, some (.int (w : Int)), e3, some (.lst (rcD (sts.map (·.1)))), e5, e6, some (.ols [.lst ((wrl w (sts.map (·.2))).map wD)]), some (.lst ((wrl w (sts.map (·.2))).map wD)), f9, f10, f11, e12, e13, e14, e15, e16, none] := by
  have bx := boxes_of_ok (built_of hT) (by have := steps_sum hT; omega) cl (w := w) (by omega) (by omega)
  rw [rowsO_D] at bx
  have rl : (rowsO w (sts.map (·.2))).length ≤ 256 := by
    have f := (prodR_facts (chsOf w (sts.map (·.2))) (chsOf w (sts.map (·.2))).length (Nat.le_refl _)).1
    rw [List.take_length] at f
    have : ((prodR (chsOf w (sts.map (·.2)))).map D.tup).length = ((rowsO w (sts.map (·.2))).map rowD).length := by rw [rowsO_D]
    simp only [List.length_map] at this
    omega
  obtain ⟨ρ', e, f10, f11, hρ⟩ := loop_nx (tg := kName 10) (body := g_law_5) (I := fun i ρ => ∃ f10 f11, ρ = [e0, e1, some (.int (w : Int)), e3, some (.lst (rcD (sts.map (·.1)))), e5, e6, e7, some (.ols ((((rowsO w (sts.map (·.2))).take i).foldl (addW (sts.map (·.2))) []).map wD)), some (.ols (kyD (((rowsO w (sts.map (·.2))).take i).foldl (addW (sts.map (·.2))) []))), f10, f11, e12, e13, e14, e15, e16, none])
    (ds := (rowsO w (sts.map (·.2))).map rowD) (ρ := [e0, e1, some (.int (w : Int)), e3, some (.lst (rcD (sts.map (·.1)))), e5, e6, e7, some (.ols []), some (.ols []), e10, e11, e12, e13, e14, e15, e16, none]) (k := 0) ⟨e10, e11, rfl⟩ (fun i d ρ hi ⟨f10, f11, hρ⟩ => by
      subst hρ
      rw [List.getElem?_map] at hi
      obtain ⟨r, q1, q2⟩ := Option.map_eq_some_iff.mp hi
      subst q2
      rw [Nat.zero_add]
      have fl := fold_len (ts := sts.map (·.2)) ((rowsO w (sts.map (·.2))).take i) []
      have hil := (List.getElem?_eq_some_iff.mp q1).1
      have t := law5_turn hT (by omega) (rowsO_len r (List.mem_of_getElem? q1)) (acc := ((rowsO w (sts.map (·.2))).take i).foldl (addW (sts.map (·.2))) []) (by rw [List.length_take] at fl; simp at fl; omega) (e0 := e0) (e1 := e1) (e2 := some (.int (w : Int))) (e3 := e3) (e5 := e5) (e6 := e6) (e7 := e7) (e11 := f11) (e12 := e12) (e13 := e13) (e14 := e14) (e15 := e15) (e16 := e16)
      refine ⟨_, _, rfl, .inl t, some (rowD r), some (.tup ((trs (sts.map (·.2)) r).map D.bl)), ?_⟩
      rw [take_snoc q1, List.foldl_append]
      rfl)
  subst hρ
  rw [Nat.zero_add, List.length_map, List.take_length] at e
  have ew : (rowsO w (sts.map (·.2))).foldl (addW (sts.map (·.2))) [] = wrl w (sts.map (·.2)) := rfl
  rw [ew] at e
  refine ⟨some (.ols (kyD (wrl w (sts.map (·.2))))), f10, f11, ?_⟩
  have fz := wDs_fz (wrl w (sts.map (·.2)))
  have rcf : fzs (rcD (sts.map (·.1))) = rcD (sts.map (·.1)) := by simp [rcD, fzs_eq, Function.comp_def]
  generalize (wrl w (sts.map (·.2))).map wD = ws at *
  generalize kyD (wrl w (sts.map (·.2))) = ks at *
  generalize (rowsO w (sts.map (·.2))).map rowD = rows at *
  generalize rcD (sts.map (·.1)) = rc at *
  simp [g_law_6, rcf, bx, e, fz]

/-! ### the law -/
def g_end : Stm := (mSeq (mSet 15 (mVar 2))
      (mSeq (mIfS (mAnd (mTest (mOp oEqA (mVar 2) (mP (.int 2)))) (mTest (mOp oEqA (frz (mCall [0] (noX m_draw) (bSlot 1 (bCons (mP (.int 2)) bNil)))) (mP (.int 1)))))
      (mSet 15 (mP (.int 0)))
      mNext)
      (mSeq (mFor (mRg1 (mCons (mP (.int 2)) mNil)) (kName 5)
      g_law_1)
      (mRet (mP (.bl true))))))
def g_tail : Stm := (mSeq (mSet 12 (mLc (mItA (mVar 4)) (kName 17) (mP true) (frz (mCall [] (noX m_built) (bCons (mVar 17) bNil))) [17]))
      (mSeq (mIfS (mTest (mOp oEqA (mVar 6) (mP (.int 6))))
      g_law_2
      mNext) g_end))
def g_head (T : Stm) : Stm :=
      (mSeq (mSet 1 (mCall [] (noX m_stream) (bCons (mVar 0) bNil)))
      (mSeq (mSet 2 (mOp oAddA (mP (.int 1)) (frz (mCall [0] (noX m_draw) (bSlot 1 (bCons (mP (.int 3)) bNil))))))
      (mSeq (mSet 3 (mCall [0] (noX m_pool) (bSlot 1 (bCons (mVar 2) bNil))))
      (mSeq (mSet 4 (mLst mNil))
      (mSeq (mFor (mRg1 (mCons (frz (mCall [0] (noX m_draw) (bSlot 1 (bCons (mP (.int 5)) bNil)))) mNil)) (kName 5)
      g_law_7)
      (mSeq (mSet 6 (mCall [0] (noX m_draw) (bSlot 1 (bCons (mP (.int 8)) bNil))))
      (mSeq (mIfS (mTest (mOp oEqA (mVar 6) (mP (.int 7))))
      g_law_3
      g_law_6) T)))))))
theorem g_law_eq : g_law = g_head g_tail := rfl
theorem end_ok {w : Nat} (h1 : 1 ≤ w) {s : Strm'} (so : s.Ok) {xs : List D} {due : D} (h : TW w xs due) (xf : fzs xs = xs) {e0 e3 e4 e5 e6 e8 e9 e10 e11 e12 e13 e14 e15 e16 e17 : Option D} (h12 : XSlot xs e12) :
    ∃ ρ', g_end [e0, some (stD s), some (.int (w : Int)), e3, e4, e5, e6, some due, e8, e9, e10, e11, e12, e13, e14, e15, e16, e17] = .rt (.bl true) ρ' := by
  have loop : ∀ (k : Nat) (s : Strm'), effN k = w → ∃ ρ', mLoop (kName 5) g_law_1 (upto 2) [e0, some (stD s), some (.int (w : Int)), e3, e4, e5, e6, some due, e8, e9, e10, e11, e12, e13, e14, some (.int (k : Int)), e16, e17] = .nx ρ' := fun k s hk => by
    obtain ⟨ρ', e, _⟩ := loop_nx (tg := kName 5) (body := g_law_1) (I := fun i ρ => ∃ e5 e12 e16, XSlot xs e12 ∧ ρ = [e0, some (stD s), some (.int (w : Int)), e3, e4, e5, e6, some due, e8, e9, e10, e11, e12, e13, e14, some (.int (k : Int)), e16, e17])
      (ds := upto 2) (ρ := [e0, some (stD s), some (.int (w : Int)), e3, e4, e5, e6, some due, e8, e9, e10, e11, e12, e13, e14, some (.int (k : Int)), e16, e17]) (k := 0) ⟨e5, e12, e16, h12, rfl⟩ (fun i d ρ hi ⟨e5, e12, e16, q12, hρ⟩ => by
        subst hρ
        obtain ⟨f16, t⟩ := law1_turn hk h xf (e0 := e0) (e1 := some (stD s)) (e2 := some (.int (w : Int))) (e3 := e3) (e4 := e4) (e5 := some d) (e6 := e6) (e8 := e8) (e9 := e9) (e10 := e10) (e11 := e11) (e13 := e13) (e14 := e14) (e16 := e16) (rest := [e17]) q12
        exact ⟨_, _, rfl, .inl t, some d, _, f16, .inl rfl, rfl⟩)
    exact ⟨ρ', e⟩
  have r : rg1 [.int 2] = some (upto 2) := rg1_n (n := 2) (by omega)
  have ew : effN w = w := if_neg (by omega)
  by_cases q : w = 2
  · have d2 := draw_ok so (m := 2) (by decide) (by decide)
    generalize drawV s 2 = v at d2
    generalize drawS s 2 = s2 at d2
    subst q
    by_cases q2 : v = 1
    · subst q2
      obtain ⟨ρ', e⟩ := loop 0 s2 rfl
      have e : mLoop (kName 5) g_law_1 (upto 2) [e0, some (stD s2), some (.int 2), e3, e4, e5, e6, some due, e8, e9, e10, e11, e12, e13, e14, some (.int 0), e16, e17] = .nx ρ' := e
      exact ⟨ρ', by simp [-rg1_int, g_end, d2, r, e]⟩
    · obtain ⟨ρ', e⟩ := loop 2 s2 rfl
      have e : mLoop (kName 5) g_law_1 (upto 2) [e0, some (stD s2), some (.int 2), e3, e4, e5, e6, some due, e8, e9, e10, e11, e12, e13, e14, some (.int 2), e16, e17] = .nx ρ' := e
      exact ⟨ρ', by simp [-rg1_int, g_end, d2, q2, r, e]⟩
  · obtain ⟨ρ', e⟩ := loop w s ew
    have q2 : ¬ (w : Int) = 2 := by omega
    exact ⟨ρ', by simp [-rg1_int, g_end, q2, r, e]⟩
theorem law2_ok {w : Nat} {ts : List Tr} (fit : Fit w ts) (hl : ts.length ≤ 20) {s : Strm'} (so : s.Ok) {e0 e3 e4 e5 e6 e7 e8 e9 e10 e11 e13 e14 e15 e16 e17 : Option D} :
    ∃ (s' : Strm') (xs : List D) (due : D) (f13 f14 : Option D), s'.Ok ∧ TW w xs due ∧ fzs xs = xs ∧
      g_law_2 [e0, some (stD s), some (.int (w : Int)), e3, e4, e5, e6, e7, e8, e9, e10, e11, some (.ols (ts.map Tr.d)), e13, e14, e15, e16, e17] =
        .nx [e0, some (stD s'), some (.int (w : Int)), e3, e4, e5, e6, some due, e8, e9, e10, e11, some (.ols xs), f13, f14, e15, e16, e17] := by
  have da := draw_ok so (m := (ts.length : Int) + 1) (by omega) (by omega)
  have a1 := drawV_nn s (m := (ts.length : Int) + 1) (by omega)
  have a2 := drawV_lt s (m := (ts.length : Int) + 1) (by omega)
  have oa := drawS_ok so ((ts.length : Int) + 1)
  generalize drawS s ((ts.length : Int) + 1) = s1 at da oa
  obtain ⟨at_, ha⟩ : ∃ a : Nat, drawV s ((ts.length : Int) + 1) = (a : Int) := ⟨_, (Int.toNat_of_nonneg a1).symm⟩
  rw [ha] at da a2
  have al : at_ ≤ ts.length := by omega
  have d5 := draw_ok oa (m := 5) (by decide) (by decide)
  obtain ⟨o, eo, op, os, ob⟩ := bad5 (w := w) (drawV_nn s1 (m := 5) (by decide)) (drawV_lt s1 (m := 5) (by decide))
  have o5 := drawS_ok oa 5
  generalize drawS s1 5 = s2 at d5 o5
  generalize drawV s1 5 = c at d5 eo
  have d2 := draw_ok o5 (m := 2) (by decide) (by decide)
  have b1 := drawV_nn s2 (m := 2) (by decide)
  have b2 := drawV_lt s2 (m := 2) (by decide)
  have o6 := drawS_ok o5 2
  generalize drawS s2 2 = s3 at d2 o6
  obtain ⟨m, hm⟩ : ∃ m : Nat, drawV s2 2 = (m : Int) := ⟨_, (Int.toNat_of_nonneg b1).symm⟩
  rw [hm] at d2 b2
  have rep : (List.replicate m [D.tup []]).flatten = List.replicate m (.tup []) := by
    have : m = 0 ∨ m = 1 := by omega
    rcases this with rfl | rfl <;> rfl
  have tf := trs_fz ts
  have od := pln_isO op
  have of := pln_fz op
  have tl : ((ts.map Tr.d).length : Int) + 1 = (ts.length : Int) + 1 := by rw [List.length_map]
  have rf : fzs (List.replicate m (D.tup [])) = List.replicate m (.tup []) := by
    have : m = 0 ∨ m = 1 := by omega
    rcases this with rfl | rfl <;> simp [List.replicate]
  have fk : fzs ((ts.map Tr.d).take at_) = (ts.map Tr.d).take at_ := by rw [← List.map_take, trs_fz]
  have fd : fzs ((ts.map Tr.d).drop at_) = (ts.map Tr.d).drop at_ := by rw [← List.map_drop, trs_fz]
  have xf : fzs ((ts.map Tr.d).take at_ ++ o :: ((ts.map Tr.d).drop at_ ++ List.replicate m (.tup []))) = (ts.map Tr.d).take at_ ++ o :: ((ts.map Tr.d).drop at_ ++ List.replicate m (.tup [])) := by
    rw [fzs_eq] at fk fd rf ⊢
    rw [List.map_append, List.map_cons, List.map_append, fk, fd, rf, of]
  have wb := worlds_bad (w := w) (ts := ts.take at_) (fun t ht => fit t (List.mem_of_mem_take ht)) op (by omega) (chk_no ob) (rest := (ts.map Tr.d).drop at_ ++ List.replicate m (.tup [])) (by rw [List.map_take]; exact xf)
  rw [List.map_take] at wb
  refine ⟨s3, (ts.map Tr.d).take at_ ++ o :: ((ts.map Tr.d).drop at_ ++ List.replicate m (.tup [])), .ols [.str "BadPredicate", o, .bl true, .bl false], some (.int (at_ : Int)), some o, o6,
    tw_told wb (rs := [.str "BadPredicate", o, .bl true, .bl false]) (.inr (.inl ⟨o, rfl, op, rfl⟩)) (by simp [D.fz]) (by simp [D.pln, plns, op, of]) (by simp [D.sz, szs, of]; omega), xf, ?_⟩
  have s1' : slA (.lst (ts.map Tr.d)) none (some (at_ : Int)) = some (.ols ((ts.map Tr.d).take at_)) := by
    have : cutD (ts.map Tr.d) none (some (at_ : Int)) = (ts.map Tr.d).take at_ := cut_take (by simpa using al)
    simp only [slA, this]
  have s2' : slA (.lst (ts.map Tr.d)) (some (at_ : Int)) none = some (.ols ((ts.map Tr.d).drop at_)) := by
    have : cutD (ts.map Tr.d) (some (at_ : Int)) none = (ts.map Tr.d).drop at_ := cut_drop (by simpa using al)
    simp only [slA, this]
  have mu : oMulA (.lst [.tup []]) (.int (m : Int)) = some (.ols (List.replicate m (.tup []))) := by
    rw [oMulA_lst, if_pos (by simp; omega)]
    simp only [Int.toNat_natCast, rep]
  have kl : ((ts.map Tr.d).take at_).length ≤ 1000 := by simp; omega
  have dl : ((ts.map Tr.d).drop at_).length ≤ 1000 := by simp; omega
  have ml : (List.replicate m (D.tup [])).length ≤ 1000 := by simp; omega
  generalize hA : (ts.map Tr.d).take at_ = A at *
  generalize hB : (ts.map Tr.d).drop at_ = B at *
  generalize hC : List.replicate m (D.tup []) = C at *
  have ad1 : oAddA (.lst A) (.lst [o]) = some (.ols (A ++ [o])) := by simp; omega
  have ad2 : oAddA (.lst (A ++ [o])) (.lst B) = some (.ols (A ++ [o] ++ B)) := by simp; omega
  have ad3 : oAddA (.lst (A ++ [o] ++ B)) (.lst C) = some (.ols (A ++ [o] ++ B ++ C)) := by simp; omega
  have fin : A ++ [o] ++ B ++ C = A ++ o :: (B ++ C) := by simp
  have f1 : fzs (A ++ [o]) = A ++ [o] := by rw [fzs_eq] at fk ⊢; rw [List.map_append, fk]; simp [of]
  have f2 : fzs (A ++ [o] ++ B) = A ++ [o] ++ B := by rw [fzs_eq] at f1 fd ⊢; rw [List.map_append, f1, fd]
  rw [fin] at ad3
  generalize A ++ o :: (B ++ C) = X at *
  generalize A ++ [o] ++ B = Y at *
  generalize A ++ [o] = Z at *
  generalize ts.map Tr.d = T at *
  rw [← tl] at da
  simp [-oAddA_lst, -oMulA_lst, -draw_ok, g_law_2, da, d5, eo, od, of, tf, s1', s2', fk, fd, ad1, ad2, ad3, f1, f2, d2, mu, rf]
theorem tail_ok {w : Nat} (h1 : 1 ≤ w) {s : Strm'} (so : s.Ok) {sts : List SSt} (hb : ∀ x ∈ sts, m_built [.lst (x.1.map Stp.d)] = .ok x.2.d []) (hl : sts.length ≤ 200) {kd : Int} {due : D}
    (hk : (kd = 6 ∧ Fit w (sts.map (·.2)) ∧ sts.length ≤ 20) ∨ (kd ≠ 6 ∧ TW w (sts.map fun x => x.2.d) due)) {e0 e3 e4 e5 e8 e9 e10 e11 : Option D} (h4 : XSlot (rcD (sts.map (·.1))) e4) :
    ∃ ρ', g_tail [e0, some (stD s), some (.int (w : Int)), e3, e4, e5, some (.int kd), some due, e8, e9, e10, e11, none, none, none, none, none, none] = .rt (.bl true) ρ' := by
  have bl := fun e0 e1 e2 e3 e4 e5 e6 e7 e8 e9 e10 e11 e12 e13 e14 e15 e16 => lc_fmap (step := lcStep (kName 17) (mP true) (frz (mCall [] (noX m_built) (bCons (mVar 17) bNil))) [17]) (vs := [17]) (ρ := [e0, e1, e2, e3, e4, e5, e6, e7, e8, e9, e10, e11, e12, e13, e14, e15, e16, none])
    (fun x : SSt => D.lst (x.1.map Stp.d)) (fun x => some x.2.d) (xs := sts) (acc := []) (fun x hx => by
      have e := hb x hx
      have f := tr_fz x.2
      refine ⟨[e0, e1, e2, e3, e4, e5, e6, e7, e8, e9, e10, e11, e12, e13, e14, e15, e16, some (.lst (x.1.map Stp.d))], ?_, by simp⟩
      generalize x.1.map Stp.d = xd at *
      simp [lcStep, e, f]) (by rw [List.length_nil]; omega)
  simp only [fm_map, List.nil_append] at bl
  have rcm : sts.map (fun x => D.lst (x.1.map Stp.d)) = rcD (sts.map (·.1)) := by simp [rcD]
  rw [rcm] at bl
  have rcf : fzs (rcD (sts.map (·.1))) = rcD (sts.map (·.1)) := by simp [rcD, fzs_eq, Function.comp_def]
  have tf : fzs (sts.map fun x => x.2.d) = sts.map fun x => x.2.d := by rw [fzs_eq, List.map_map]; exact List.map_congr_left fun x _ => tr_fz x.2
  rcases hk with ⟨rfl, fit, l20⟩ | ⟨hk, tw⟩
  · obtain ⟨s', xs, due', f13, f14, o', tw, xf, e⟩ := law2_ok fit (by simpa using l20) so (e0 := e0) (e3 := e3) (e4 := some (.lst (rcD (sts.map (·.1))))) (e5 := e5) (e6 := some (.int 6)) (e7 := some due) (e8 := e8) (e9 := e9) (e10 := e10) (e11 := e11) (e13 := none) (e14 := none) (e15 := none) (e16 := none) (e17 := none)
    rw [List.map_map] at e
    have em : sts.map (Tr.d ∘ fun x => x.2) = sts.map fun x => x.2.d := rfl
    rw [em] at e
    obtain ⟨ρ', t⟩ := end_ok h1 o' tw xf (e0 := e0) (e3 := e3) (e4 := some (.lst (rcD (sts.map (·.1))))) (e5 := e5) (e6 := some (.int 6)) (e8 := e8) (e9 := e9) (e10 := e10) (e11 := e11) (e12 := some (.ols xs)) (e13 := f13) (e14 := f14) (e15 := none) (e16 := none) (e17 := none) (.inr rfl)
    refine ⟨ρ', ?_⟩
    unfold XSlot at h4
    generalize (sts.map fun x => x.2.d) = td at *
    generalize rcD (sts.map (·.1)) = rc at *
    rcases h4 with rfl | rfl <;> simp [g_tail, rcf, bl, e, t]
  · obtain ⟨ρ', t⟩ := end_ok h1 so tw tf (e0 := e0) (e3 := e3) (e4 := some (.lst (rcD (sts.map (·.1))))) (e5 := e5) (e6 := some (.int kd)) (e8 := e8) (e9 := e9) (e10 := e10) (e11 := e11) (e12 := some (.ols (sts.map fun x => x.2.d))) (e13 := none) (e14 := none) (e15 := none) (e16 := none) (e17 := none) (.inr rfl)
    refine ⟨ρ', ?_⟩
    unfold XSlot at h4
    generalize (sts.map fun x => x.2.d) = td at *
    generalize rcD (sts.map (·.1)) = rc at *
    rcases h4 with rfl | rfl <;> simp [g_tail, rcf, bl, hk, t]
def RcB (p : List (List Int)) (x : SSt) : Prop := STp p p.length 5 x.1 x.2 ∧ m_built [.lst (x.1.map Stp.d)] = .ok x.2.d []
theorem law7_loop {p : List (List Int)} (hp : PoolOk p) (h1 : 1 ≤ p.length) (h3 : p.length ≤ 3) {s : Strm'} (hs : s.Ok) (n : Nat) (hn : n ≤ 100) {e0 e2 e5 : Option D} {rest : Env} :
    ∃ (s' : Strm') (sts : List SSt) (f5 : Option D), s'.Ok ∧ sts.length = n ∧ (∀ x ∈ sts, RcB p x) ∧
      mLoop (kName 5) g_law_7 (upto n) (e0 :: some (stD s) :: e2 :: some (.lst (plD p)) :: some (.ols []) :: e5 :: rest) = .nx (e0 :: some (stD s') :: e2 :: some (.lst (plD p)) :: some (.ols (rcD (sts.map (·.1)))) :: f5 :: rest) := by
  obtain ⟨ρ', e, s', sts, f5, o, hl, hst, hρ⟩ := loop_nx (tg := kName 5) (body := g_law_7) (I := fun i ρ => ∃ (s' : Strm') (sts : List SSt) (f5 : Option D), s'.Ok ∧ sts.length = i ∧ (∀ x ∈ sts, RcB p x) ∧ ρ = e0 :: some (stD s') :: e2 :: some (.lst (plD p)) :: some (.ols (rcD (sts.map (·.1)))) :: f5 :: rest)
    (ds := upto n) (ρ := e0 :: some (stD s) :: e2 :: some (.lst (plD p)) :: some (.ols []) :: e5 :: rest) (k := 0) ⟨s, [], e5, hs, rfl, (fun x h => nomatch h), rfl⟩ (fun i d ρ hi ⟨s1, sts, f5, o1, hl, hst, hρ⟩ => by
      subst hρ
      obtain ⟨hlt, h4⟩ := upto_at hi
      obtain ⟨x, s2, e, o2, hx, eb⟩ := recipe_tree o1 hp h1 h3 (most := 5) (by omega) (by omega)
      have e : m_recipe [stD s1, .lst (plD p), .int 5] = .ok (.lst (x.1.map Stp.d)) [stD s2] := e
      have hz : szok (rcD (sts.map (·.1))).length = some () := szok_of (by simp [rcD]; omega)
      have ap : rcD ((sts ++ [x]).map (·.1)) = rcD (sts.map (·.1)) ++ [.lst (x.1.map Stp.d)] := by simp [rcD]
      refine ⟨_, _, rfl, .inl ?_, s2, sts ++ [x], some d, o2, by simp [hl], fun y hy => ?_, rfl⟩
      · rw [ap]
        generalize rcD (sts.map (·.1)) = xs at hz
        simp [g_law_7, e, hz]
      · rcases List.mem_append.mp hy with hy | hy
        · exact hst y hy
        · rw [List.mem_singleton] at hy
          subst hy
          exact ⟨hx, eb⟩)
  subst hρ
  rw [Nat.zero_add, upto_len] at hl
  exact ⟨s', sts, f5, o, hl, hst, e⟩
theorem wDs_pln {W : List Wld} (h : ∀ x ∈ W, x.1.length ≤ 10 ∧ x.2.length ≤ 10) (hl : W.length ≤ 100) : (D.lst [.lst (W.map wD)]).pln = true ∧ (D.lst [.lst (W.map wD)]).sz ≤ 5999 := by
  have p : plns (W.map wD) = true := plns_all.mpr fun d hd => by
    obtain ⟨x, _, rfl⟩ := List.mem_map.mp hd
    exact (wD_pln x).1
  have s : ∀ V : List Wld, (∀ x ∈ V, x.1.length ≤ 10 ∧ x.2.length ≤ 10) → szs (V.map wD) ≤ V.length * 23 := fun V => by
    induction V with
    | nil => intro _; simp [szs]
    | cons x V ih =>
      intro h
      have a := ih fun y hy => h y (List.mem_cons_of_mem _ hy)
      have b := (wD_pln x).2
      obtain ⟨c, d⟩ := h x List.mem_cons_self
      rw [List.map_cons, szs_cons, b, List.length_cons, Nat.succ_mul]
      omega
  have s := s W h
  exact ⟨by simp [D.pln, plns, p], by simp [D.sz, szs]; omega⟩
theorem law_true (ns : List Int) (h : ns.length ≤ 63) : m_law [.scr ns] = .ok (.bl true) [] := by
  have es := stream_ok ns h
  have o0 := stream_Ok h
  generalize (⟨ns, 0, 0, 0⟩ : Strm') = s0 at es o0
  have d0 := draw_ok o0 (m := 3) (by decide) (by decide)
  have a1 := drawV_nn s0 (m := 3) (by decide)
  have a2 := drawV_lt s0 (m := 3) (by decide)
  have o1 := drawS_ok o0 3
  generalize drawS s0 3 = s1 at d0 o1
  obtain ⟨w, hW⟩ : ∃ w : Nat, 1 + drawV s0 3 = (w : Int) := ⟨(1 + drawV s0 3).toNat, by omega⟩
  have hw1 : 1 ≤ w := by omega
  have hw3 : w ≤ 3 := by omega
  generalize drawV s0 3 = v0 at *
  obtain ⟨p, s2, ep, o2, hp, pl, pq⟩ := pool_okW o1 (w := w) hw1 hw3
  have d4 := draw_ok o2 (m := 5) (by decide) (by decide)
  have b1 := drawV_nn s2 (m := 5) (by decide)
  have b2 := drawV_lt s2 (m := 5) (by decide)
  have o3 := drawS_ok o2 5
  generalize drawS s2 5 = s3 at d4 o3
  obtain ⟨n, hn⟩ : ∃ n : Nat, drawV s2 5 = (n : Int) := ⟨_, (Int.toNat_of_nonneg b1).symm⟩
  rw [hn] at d4 b2
  obtain ⟨s4, sts, f5, o4, sl, hst, l3⟩ := law7_loop hp (by omega) (by omega) o3 n (by omega) (e0 := some (.scr ns)) (e2 := some (.int (w : Int))) (e5 := none) (rest := [none, none, none, none, none, none, none, none, none, none, none, none])
  have r1 : rg1 [.int (n : Int)] = some (upto n) := rg1_n (by omega)
  have d8 := draw_ok o4 (m := 8) (by decide) (by decide)
  have o5 := drawS_ok o4 8
  generalize drawS s4 8 = s5 at d8 o5
  generalize drawV s4 8 = kd at d8
  have hS : ∀ x ∈ sts, STp p w 5 x.1 x.2 := fun x hx => by
    have := (hst x hx).1
    rwa [pl] at this
  have hT : ∀ x ∈ sts, ST w x.1 x.2 := fun x hx => (hS x hx).st
  have fit := fit_of hS
  have cl := cmss_of hS
  have cl31 : (cmss (sts.map (·.2))).length ≤ 31 := by omega
  have ml : mulL (chsOf w (sts.map (·.2))) ≤ 256 := mulL_pool hw1 hw3 pq (pool_of hS)
  have mlaw : ∀ ρ', g_law [some (.scr ns), none, none, none, none, none, none, none, none, none, none, none, none, none, none, none, none, none] = .rt (.bl true) ρ' → m_law [.scr ns] = .ok (.bl true) [] := fun ρ' e => by
    simp [m_law, e]
  by_cases q : kd = 7
  · subst q
    obtain ⟨us, s6, tw, o6, ul, ub, ufit, ucl, uml⟩ := too_wide_ok o5 hw1 hw3
    have wo := worlds_ok hw1 hw3 ufit (by omega) (by simp; omega)
    have no : ¬ mulL (chsOf w (us.map (·.2))) ≤ 256 := by rw [uml]; unfold dueN; split <;> (try split) <;> omega
    rw [if_neg no, uml] at wo
    rw [List.map_map] at wo
    have wo : m_worlds [.lst (us.map fun x => x.2.d), .int (w : Int)] = .ex 2 (some (.int (dueN w : Nat))) [] := wo
    have T : TW w (us.map fun x => x.2.d) (.ols [.str "TooWide", .int (dueN w : Nat), .bl true, .bl false]) := tw_told wo (rs := [.str "TooWide", .int (dueN w : Nat), .bl true, .bl false]) (.inr (.inr ⟨_, rfl, rfl⟩)) (by simp [D.fz]) (by simp [D.pln, plns]) (by simp [D.sz, szs])
    obtain ⟨ρ', t⟩ := tail_ok hw1 o6 ub ul (kd := 7) (.inr ⟨by decide, T⟩) (e0 := some (.scr ns)) (e3 := some (.lst (plD p))) (e4 := some (.lst (rcD (us.map (·.1))))) (e5 := f5) (e8 := none) (e9 := none) (e10 := none) (e11 := none) (.inl rfl)
    have g3 : g_law_3 [some (.scr ns), some (stD s5), some (.int (w : Int)), some (.lst (plD p)), some (.ols (rcD (sts.map (·.1)))), f5, some (.int 7), none, none, none, none, none, none, none, none, none, none, none] = .nx [some (.scr ns), some (stD s6), some (.int (w : Int)), some (.lst (plD p)), some (.lst (rcD (us.map (·.1)))), f5, some (.int 7), some (.ols [.str "TooWide", .int (dueN w : Nat), .bl true, .bl false]), none, none, none, none, none, none, none, none, none, none] := by
      generalize rcD (us.map (·.1)) = ur at *
      have : w = 1 ∨ w = 2 ∨ w = 3 := by omega
      rcases this with rfl | rfl | rfl
      · have tw : m_too_wide [stD s5, .int 1] = .ok (.lst ur) [stD s6] := tw
        simp [g_law_3, tw, dueN]
      · have tw : m_too_wide [stD s5, .int 2] = .ok (.lst ur) [stD s6] := tw
        simp [g_law_3, tw, dueN]
      · have tw : m_too_wide [stD s5, .int 3] = .ok (.lst ur) [stD s6] := tw
        simp [g_law_3, tw, dueN]
    refine mlaw ρ' ?_
    rw [g_law_eq]
    generalize g_tail = TT at *
    simp [-rg1_int, -draw_ok, g_head, es, d0, hW, ep, d4, r1, l3, d8, g3, t]
  · obtain ⟨f9, f10, f11, e6⟩ := law6_ok hT (by omega) hw3 cl31 ml (e0 := some (.scr ns)) (e1 := some (stD s5)) (e3 := some (.lst (plD p))) (e5 := f5) (e6 := some (.int kd)) (e7 := none) (e8 := none) (e9 := none) (e10 := none) (e11 := none) (e12 := none) (e13 := none) (e14 := none) (e15 := none) (e16 := none)
    have wo := worlds_ok hw1 hw3 fit (by omega) (by simp; omega)
    rw [if_pos ml, List.map_map] at wo
    have wo : m_worlds [.lst (sts.map fun x => x.2.d), .int (w : Int)] = .ok (.ols ((wrl w (sts.map (·.2))).map wD)) [] := wo
    have wl := wrl_len w (sts.map (·.2))
    have wl : (wrl w (sts.map (·.2))).length ≤ 16 := by
      refine Nat.le_trans wl ?_
      rw [List.length_map]
      exact Nat.pow_le_pow_right (n := 2) (i := sts.length) (j := 4) (by decide) (by omega)
    have wp := wDs_pln (W := wrl w (sts.map (·.2))) (fun x hx => by
      obtain ⟨q1, q2⟩ := wrl_mem hx
      rw [q2]
      have := rowsO_len x.2 q1
      exact ⟨by simp [trs]; omega, by omega⟩) (by omega)
    have fz := wDs_fz (wrl w (sts.map (·.2)))
    have T : TW w (sts.map fun x => x.2.d) (.ols [.lst ((wrl w (sts.map (·.2))).map wD)]) := tw_told wo (rs := [.ols ((wrl w (sts.map (·.2))).map wD)]) (.inl ⟨_, rfl, rfl, by simp; omega⟩) (by simp [D.fz, fz]) (by simp only [fzs, D.fz, fz]; exact wp.1) (by simp only [fzs, D.fz, fz]; exact wp.2)
    obtain ⟨ρ', t⟩ := tail_ok hw1 o5 (fun x hx => (hst x hx).2) (by omega) (kd := kd) (due := .ols [.lst ((wrl w (sts.map (·.2))).map wD)]) (by
      by_cases q6 : kd = 6
      · exact .inl ⟨q6, fit, by omega⟩
      · exact .inr ⟨q6, T⟩) (e0 := some (.scr ns)) (e3 := some (.lst (plD p))) (e4 := some (.lst (rcD (sts.map (·.1))))) (e5 := f5) (e8 := some (.lst ((wrl w (sts.map (·.2))).map wD))) (e9 := f9) (e10 := f10) (e11 := f11) (.inl rfl)
    refine mlaw ρ' ?_
    rw [g_law_eq]
    generalize g_tail = TT at *
    generalize (wrl w (sts.map (·.2))).map wD = ws at *
    generalize rcD (sts.map (·.1)) = rc at *
    simp [-rg1_int, -draw_ok, g_head, es, d0, hW, ep, d4, r1, l3, d8, q, e6, t]

def clsItem : Stmt → Nat → Stmt
  | .ClassDef (body := b) .., j => b.getD j (.Pass ⟨0, 0, 0, 0⟩)
  | s, _ => s
def topS (i : Nat) : Stmt := PySem.Challenge.pw_wholepages_k17_worlds_listed.main.body.getD i (.Pass ⟨0, 0, 0, 0⟩)
abbrev s_BadPredicate_init : Stmt := clsItem (topS 2) 0
abbrev N_BadPredicate_init : List Str := ["self", "predicate"]
theorem sc_BadPredicate_init : FnScope N_BadPredicate_init ["self", "predicate"] (defScope s_BadPredicate_init) := ⟨rfl, rfl, rfl, by decide +kernel, rfl, by decide +kernel, by decide +kernel⟩
abbrev s_TooWide_init : Stmt := clsItem (topS 3) 0
abbrev N_TooWide_init : List Str := ["self", "boxes"]
theorem sc_TooWide_init : FnScope N_TooWide_init ["self", "boxes"] (defScope s_TooWide_init) := ⟨rfl, rfl, rfl, by decide +kernel, rfl, by decide +kernel, by decide +kernel⟩
abbrev s_is_between : Stmt := topS 6
abbrev N_is_between : List Str := ["value", "low", "high"]
theorem sc_is_between : FnScope N_is_between ["value", "low", "high"] (defScope s_is_between) := ⟨rfl, rfl, rfl, by decide +kernel, rfl, by decide +kernel, by decide +kernel⟩
abbrev s_is_node : Stmt := topS 10
abbrev N_is_node : List Str := ["value", "columns", "word"]
theorem sc_is_node : FnScope N_is_node ["value", "columns"] (defScope s_is_node) := ⟨rfl, rfl, rfl, by decide +kernel, rfl, by decide +kernel, by decide +kernel⟩
abbrev s_parts_of : Stmt := topS 11
abbrev N_parts_of : List Str := ["predicate"]
theorem sc_parts_of : FnScope N_parts_of ["predicate"] (defScope s_parts_of) := ⟨rfl, rfl, rfl, by decide +kernel, rfl, by decide +kernel, by decide +kernel⟩
abbrev s_check_predicate : Stmt := topS 12
abbrev N_check_predicate : List Str := ["predicate", "columns", "nodes", "waiting", "node"]
theorem sc_check_predicate : FnScope N_check_predicate ["predicate", "columns"] (defScope s_check_predicate) := ⟨rfl, rfl, rfl, by decide +kernel, rfl, by decide +kernel, by decide +kernel⟩
abbrev s_comparisons_of : Stmt := topS 13
abbrev N_comparisons_of : List Str := ["predicate", "part", "found"]
theorem sc_comparisons_of : FnScope N_comparisons_of ["predicate"] (defScope s_comparisons_of) := ⟨rfl, rfl, rfl, by decide +kernel, rfl, by decide +kernel, by decide +kernel⟩
abbrev s_compares : Stmt := topS 14
abbrev N_compares : List Str := ["value", "sign", "number"]
theorem sc_compares : FnScope N_compares ["value", "sign", "number"] (defScope s_compares) := ⟨rfl, rfl, rfl, by decide +kernel, rfl, by decide +kernel, by decide +kernel⟩
abbrev s_comparison_truth : Stmt := topS 15
abbrev N_comparison_truth : List Str := ["value", "sign", "number"]
theorem sc_comparison_truth : FnScope N_comparison_truth ["value", "sign", "number"] (defScope s_comparison_truth) := ⟨rfl, rfl, rfl, by decide +kernel, rfl, by decide +kernel, by decide +kernel⟩
abbrev s_both_truth : Stmt := topS 16
abbrev N_both_truth : List Str := ["truths"]
theorem sc_both_truth : FnScope N_both_truth ["truths"] (defScope s_both_truth) := ⟨rfl, rfl, rfl, by decide +kernel, rfl, by decide +kernel, by decide +kernel⟩
abbrev s_either_truth : Stmt := topS 17
abbrev N_either_truth : List Str := ["truths"]
theorem sc_either_truth : FnScope N_either_truth ["truths"] (defScope s_either_truth) := ⟨rfl, rfl, rfl, by decide +kernel, rfl, by decide +kernel, by decide +kernel⟩
abbrev s_negation_truth : Stmt := topS 18
abbrev N_negation_truth : List Str := ["part"]
theorem sc_negation_truth : FnScope N_negation_truth ["part"] (defScope s_negation_truth) := ⟨rfl, rfl, rfl, by decide +kernel, rfl, by decide +kernel, by decide +kernel⟩
abbrev s_truth : Stmt := topS 19
abbrev N_truth : List Str := ["predicate", "row", "word", "truths", "part"]
theorem sc_truth : FnScope N_truth ["predicate", "row"] (defScope s_truth) := ⟨rfl, rfl, rfl, by decide +kernel, rfl, by decide +kernel, by decide +kernel⟩
abbrev s_holds : Stmt := topS 20
abbrev N_holds : List Str := ["predicate", "row"]
theorem sc_holds : FnScope N_holds ["predicate", "row"] (defScope s_holds) := ⟨rfl, rfl, rfl, by decide +kernel, rfl, by decide +kernel, by decide +kernel⟩
abbrev s_numbers_of : Stmt := topS 22
abbrev N_numbers_of : List Str := ["predicates", "column", "found", "predicate", "node"]
theorem sc_numbers_of : FnScope N_numbers_of ["predicates", "column"] (defScope s_numbers_of) := ⟨rfl, rfl, rfl, by decide +kernel, rfl, by decide +kernel, by decide +kernel⟩
abbrev s_class_starts : Stmt := topS 23
abbrev N_class_starts : List Str := ["numbers", "number"]
theorem sc_class_starts : FnScope N_class_starts ["numbers"] (defScope s_class_starts) := ⟨rfl, rfl, rfl, by decide +kernel, rfl, by decide +kernel, by decide +kernel⟩
abbrev s_stand_ins : Stmt := topS 24
abbrev N_stand_ins : List Str := ["numbers"]
theorem sc_stand_ins : FnScope N_stand_ins ["numbers"] (defScope s_stand_ins) := ⟨rfl, rfl, rfl, by decide +kernel, rfl, by decide +kernel, by decide +kernel⟩
abbrev s_combine : Stmt := topS 27
abbrev N_combine : List Str := ["choices", "many", "choice", "tuples", "start", "item"]
theorem sc_combine : FnScope N_combine ["choices"] (defScope s_combine) := ⟨rfl, rfl, rfl, by decide +kernel, rfl, by decide +kernel, by decide +kernel⟩
abbrev s_boxes : Stmt := topS 28
abbrev N_boxes : List Str := ["predicates", "columns", "predicate", "column"]
theorem sc_boxes : FnScope N_boxes ["predicates", "columns"] (defScope s_boxes) := ⟨rfl, rfl, rfl, by decide +kernel, rfl, by decide +kernel, by decide +kernel⟩
abbrev s_worlds : Stmt := topS 29
abbrev N_worlds : List Str := ["predicates", "columns", "first", "box", "truths", "predicate"]
theorem sc_worlds : FnScope N_worlds ["predicates", "columns"] (defScope s_worlds) := ⟨rfl, rfl, rfl, by decide +kernel, rfl, by decide +kernel, by decide +kernel⟩
abbrev s__law_stream : Stmt := topS 31
abbrev N__law_stream : List Str := ["_law_script"]
theorem sc__law_stream : FnScope N__law_stream ["_law_script"] (defScope s__law_stream) := ⟨rfl, rfl, rfl, by decide +kernel, rfl, by decide +kernel, by decide +kernel⟩
abbrev s__law_draw : Stmt := topS 32
abbrev N__law_draw : List Str := ["_law_stream_here", "_law_many", "_law_place", "_law_cell", "_law_number_here"]
theorem sc__law_draw : FnScope N__law_draw ["_law_stream_here", "_law_many"] (defScope s__law_draw) := ⟨rfl, rfl, rfl, by decide +kernel, rfl, by decide +kernel, by decide +kernel⟩
abbrev s__law_number : Stmt := topS 33
abbrev N__law_number : List Str := ["_law_stream_here", "_law_most", "_law_kind"]
theorem sc__law_number : FnScope N__law_number ["_law_stream_here", "_law_most"] (defScope s__law_number) := ⟨rfl, rfl, rfl, by decide +kernel, rfl, by decide +kernel, by decide +kernel⟩
abbrev s__law_pool : Stmt := topS 34
abbrev N__law_pool : List Str := ["_law_stream_here", "_law_wide", "_law_pool_here", "_law_c", "_law_numbers", "_law_k"]
theorem sc__law_pool : FnScope N__law_pool ["_law_stream_here", "_law_wide"] (defScope s__law_pool) := ⟨rfl, rfl, rfl, by decide +kernel, rfl, by decide +kernel, by decide +kernel⟩
abbrev s__law_leaf : Stmt := topS 35
abbrev N__law_leaf : List Str := ["_law_stream_here", "_law_pool_here", "_law_kind", "_law_c", "_law_sign"]
theorem sc__law_leaf : FnScope N__law_leaf ["_law_stream_here", "_law_pool_here"] (defScope s__law_leaf) := ⟨rfl, rfl, rfl, by decide +kernel, rfl, by decide +kernel, by decide +kernel⟩
abbrev s__law_recipe : Stmt := topS 36
abbrev N__law_recipe : List Str := ["_law_stream_here", "_law_pool_here", "_law_most", "_law_steps", "_law_depth", "_law_nodes", "_law_k", "_law_kind", "_law_many"]
theorem sc__law_recipe : FnScope N__law_recipe ["_law_stream_here", "_law_pool_here", "_law_most"] (defScope s__law_recipe) := ⟨rfl, rfl, rfl, by decide +kernel, rfl, by decide +kernel, by decide +kernel⟩
abbrev s__law_built : Stmt := topS 37
abbrev N__law_built : List Str := ["_law_steps", "_law_stack", "_law_step", "_law_part", "_law_rest"]
theorem sc__law_built : FnScope N__law_built ["_law_steps"] (defScope s__law_built) := ⟨rfl, rfl, rfl, by decide +kernel, rfl, by decide +kernel, by decide +kernel⟩
abbrev s__law_compared : Stmt := topS 38
abbrev N__law_compared : List Str := ["_law_sign", "_law_value", "_law_number_here"]
theorem sc__law_compared : FnScope N__law_compared ["_law_sign", "_law_value", "_law_number_here"] (defScope s__law_compared) := ⟨rfl, rfl, rfl, by decide +kernel, rfl, by decide +kernel, by decide +kernel⟩
abbrev s__law_joined : Stmt := topS 39
abbrev N__law_joined : List Str := ["_law_word", "_law_parts", "_law_decides"]
theorem sc__law_joined : FnScope N__law_joined ["_law_word", "_law_parts"] (defScope s__law_joined) := ⟨rfl, rfl, rfl, by decide +kernel, rfl, by decide +kernel, by decide +kernel⟩
abbrev s__law_judged : Stmt := topS 40
abbrev N__law_judged : List Str := ["_law_steps", "_law_row", "_law_stack", "_law_step", "_law_part", "_law_rest"]
theorem sc__law_judged : FnScope N__law_judged ["_law_steps", "_law_row"] (defScope s__law_judged) := ⟨rfl, rfl, rfl, by decide +kernel, rfl, by decide +kernel, by decide +kernel⟩
abbrev s__law_alike : Stmt := topS 41
abbrev N__law_alike : List Str := ["_law_told", "_law_due", "_law_left", "_law_k", "_law_pair", "_law_one", "_law_two", "_law_at"]
theorem sc__law_alike : FnScope N__law_alike ["_law_told", "_law_due"] (defScope s__law_alike) := ⟨rfl, rfl, rfl, by decide +kernel, rfl, by decide +kernel, by decide +kernel⟩
abbrev s__law_compared_with : Stmt := topS 42
abbrev N__law_compared_with : List Str := ["_law_recipes", "_law_c", "_law_found", "_law_steps", "_law_step"]
theorem sc__law_compared_with : FnScope N__law_compared_with ["_law_recipes", "_law_c"] (defScope s__law_compared_with) := ⟨rfl, rfl, rfl, by decide +kernel, rfl, by decide +kernel, by decide +kernel⟩
abbrev s__law_standing_list : Stmt := topS 43
abbrev N__law_standing_list : List Str := ["_law_numbers", "_law_found", "_law_k"]
theorem sc__law_standing_list : FnScope N__law_standing_list ["_law_numbers"] (defScope s__law_standing_list) := ⟨rfl, rfl, rfl, by decide +kernel, rfl, by decide +kernel, by decide +kernel⟩
abbrev s__law_boxes_of : Stmt := topS 44
abbrev N__law_boxes_of : List Str := ["_law_recipes", "_law_wide", "_law_rows", "_law_c", "_law_longer", "_law_at", "_law_item"]
theorem sc__law_boxes_of : FnScope N__law_boxes_of ["_law_recipes", "_law_wide"] (defScope s__law_boxes_of) := ⟨rfl, rfl, rfl, by decide +kernel, rfl, by decide +kernel, by decide +kernel⟩
abbrev s__law_worlds_told : Stmt := topS 45
abbrev N__law_worlds_told : List Str := ["_law_predicates", "_law_asked", "_law_told", "e", "f"]
theorem sc__law_worlds_told : FnScope N__law_worlds_told ["_law_predicates", "_law_asked"] (defScope s__law_worlds_told) := ⟨rfl, rfl, rfl, by decide +kernel, rfl, by decide +kernel, by decide +kernel⟩
abbrev s__law_too_wide : Stmt := topS 46
abbrev N__law_too_wide : List Str := ["_law_stream_here", "_law_wide", "_law_recipes", "_law_c", "_law_n", "_law_k"]
theorem sc__law_too_wide : FnScope N__law_too_wide ["_law_stream_here", "_law_wide"] (defScope s__law_too_wide) := ⟨rfl, rfl, rfl, by decide +kernel, rfl, by decide +kernel, by decide +kernel⟩
abbrev s_law : Stmt := topS 47
abbrev N_law : List Str := ["_law_script", "_law_stream_here", "_law_wide", "_law_pool_here", "_law_recipes", "_law_k", "_law_kind", "_law_due", "_law_listed", "_law_known", "_law_row", "_law_truths", "_law_predicates", "_law_at", "_law_odd", "_law_asked", "_law_told", "_law_steps"]
theorem sc_law : FnScope N_law ["_law_script"] (defScope s_law) := ⟨rfl, rfl, rfl, by decide +kernel, rfl, by decide +kernel, by decide +kernel⟩
structure Txt (K : PySem.W.Frag) (mg : Str → Option Value) : Type where
  a_BadPredicate_init : Addr
  d_BadPredicate_init : FuncData
  F_BadPredicate_init : Fun K "__init__" "BadPredicate.__init__" s_BadPredicate_init a_BadPredicate_init d_BadPredicate_init
  b_BadPredicate_init : Binds K d_BadPredicate_init ["self", "predicate"] []
  a_TooWide_init : Addr
  d_TooWide_init : FuncData
  F_TooWide_init : Fun K "__init__" "TooWide.__init__" s_TooWide_init a_TooWide_init d_TooWide_init
  b_TooWide_init : Binds K d_TooWide_init ["self", "boxes"] []
  a_is_between : Addr
  d_is_between : FuncData
  F_is_between : Fun K "is_between" "is_between" s_is_between a_is_between d_is_between
  b_is_between : Binds K d_is_between ["value", "low", "high"] []
  g_is_between : mg "is_between" = some (.ref a_is_between)
  a_is_node : Addr
  d_is_node : FuncData
  F_is_node : Fun K "is_node" "is_node" s_is_node a_is_node d_is_node
  b_is_node : Binds K d_is_node ["value", "columns"] []
  g_is_node : mg "is_node" = some (.ref a_is_node)
  a_parts_of : Addr
  d_parts_of : FuncData
  F_parts_of : Fun K "parts_of" "parts_of" s_parts_of a_parts_of d_parts_of
  b_parts_of : Binds K d_parts_of ["predicate"] []
  g_parts_of : mg "parts_of" = some (.ref a_parts_of)
  a_check_predicate : Addr
  d_check_predicate : FuncData
  F_check_predicate : FunD K "check_predicate" "check_predicate" (defArgs s_check_predicate) (defBody s_check_predicate) (defScope s_check_predicate) [] [("columns", .int (2))] a_check_predicate d_check_predicate
  g_check_predicate : mg "check_predicate" = some (.ref a_check_predicate)
  a_comparisons_of : Addr
  d_comparisons_of : FuncData
  F_comparisons_of : Fun K "comparisons_of" "comparisons_of" s_comparisons_of a_comparisons_of d_comparisons_of
  b_comparisons_of : Binds K d_comparisons_of ["predicate"] []
  g_comparisons_of : mg "comparisons_of" = some (.ref a_comparisons_of)
  a_compares : Addr
  d_compares : FuncData
  F_compares : Fun K "compares" "compares" s_compares a_compares d_compares
  b_compares : Binds K d_compares ["value", "sign", "number"] []
  g_compares : mg "compares" = some (.ref a_compares)
  a_comparison_truth : Addr
  d_comparison_truth : FuncData
  F_comparison_truth : Fun K "comparison_truth" "comparison_truth" s_comparison_truth a_comparison_truth d_comparison_truth
  b_comparison_truth : Binds K d_comparison_truth ["value", "sign", "number"] []
  g_comparison_truth : mg "comparison_truth" = some (.ref a_comparison_truth)
  a_both_truth : Addr
  d_both_truth : FuncData
  F_both_truth : Fun K "both_truth" "both_truth" s_both_truth a_both_truth d_both_truth
  b_both_truth : Binds K d_both_truth ["truths"] []
  g_both_truth : mg "both_truth" = some (.ref a_both_truth)
  a_either_truth : Addr
  d_either_truth : FuncData
  F_either_truth : Fun K "either_truth" "either_truth" s_either_truth a_either_truth d_either_truth
  b_either_truth : Binds K d_either_truth ["truths"] []
  g_either_truth : mg "either_truth" = some (.ref a_either_truth)
  a_negation_truth : Addr
  d_negation_truth : FuncData
  F_negation_truth : Fun K "negation_truth" "negation_truth" s_negation_truth a_negation_truth d_negation_truth
  b_negation_truth : Binds K d_negation_truth ["part"] []
  g_negation_truth : mg "negation_truth" = some (.ref a_negation_truth)
  a_truth : Addr
  d_truth : FuncData
  F_truth : Fun K "truth" "truth" s_truth a_truth d_truth
  b_truth : Binds K d_truth ["predicate", "row"] []
  g_truth : mg "truth" = some (.ref a_truth)
  a_holds : Addr
  d_holds : FuncData
  F_holds : Fun K "holds" "holds" s_holds a_holds d_holds
  b_holds : Binds K d_holds ["predicate", "row"] []
  g_holds : mg "holds" = some (.ref a_holds)
  a_numbers_of : Addr
  d_numbers_of : FuncData
  F_numbers_of : Fun K "numbers_of" "numbers_of" s_numbers_of a_numbers_of d_numbers_of
  b_numbers_of : Binds K d_numbers_of ["predicates", "column"] []
  g_numbers_of : mg "numbers_of" = some (.ref a_numbers_of)
  a_class_starts : Addr
  d_class_starts : FuncData
  F_class_starts : Fun K "class_starts" "class_starts" s_class_starts a_class_starts d_class_starts
  b_class_starts : Binds K d_class_starts ["numbers"] []
  g_class_starts : mg "class_starts" = some (.ref a_class_starts)
  a_stand_ins : Addr
  d_stand_ins : FuncData
  F_stand_ins : Fun K "stand_ins" "stand_ins" s_stand_ins a_stand_ins d_stand_ins
  b_stand_ins : Binds K d_stand_ins ["numbers"] []
  g_stand_ins : mg "stand_ins" = some (.ref a_stand_ins)
  a_combine : Addr
  d_combine : FuncData
  F_combine : Fun K "combine" "combine" s_combine a_combine d_combine
  b_combine : Binds K d_combine ["choices"] []
  g_combine : mg "combine" = some (.ref a_combine)
  a_boxes : Addr
  d_boxes : FuncData
  F_boxes : FunD K "boxes" "boxes" (defArgs s_boxes) (defBody s_boxes) (defScope s_boxes) [] [("columns", .int (2))] a_boxes d_boxes
  g_boxes : mg "boxes" = some (.ref a_boxes)
  a_worlds : Addr
  d_worlds : FuncData
  F_worlds : FunD K "worlds" "worlds" (defArgs s_worlds) (defBody s_worlds) (defScope s_worlds) [] [("columns", .int (2))] a_worlds d_worlds
  g_worlds : mg "worlds" = some (.ref a_worlds)
  a_stream : Addr
  d_stream : FuncData
  F_stream : Fun K "_law_stream" "_law_stream" s__law_stream a_stream d_stream
  b_stream : Binds K d_stream ["_law_script"] []
  g_stream : mg "_law_stream" = some (.ref a_stream)
  a_draw : Addr
  d_draw : FuncData
  F_draw : Fun K "_law_draw" "_law_draw" s__law_draw a_draw d_draw
  b_draw : Binds K d_draw ["_law_stream_here", "_law_many"] []
  g_draw : mg "_law_draw" = some (.ref a_draw)
  a_number : Addr
  d_number : FuncData
  F_number : Fun K "_law_number" "_law_number" s__law_number a_number d_number
  b_number : Binds K d_number ["_law_stream_here", "_law_most"] []
  g_number : mg "_law_number" = some (.ref a_number)
  a_pool : Addr
  d_pool : FuncData
  F_pool : Fun K "_law_pool" "_law_pool" s__law_pool a_pool d_pool
  b_pool : Binds K d_pool ["_law_stream_here", "_law_wide"] []
  g_pool : mg "_law_pool" = some (.ref a_pool)
  a_leaf : Addr
  d_leaf : FuncData
  F_leaf : Fun K "_law_leaf" "_law_leaf" s__law_leaf a_leaf d_leaf
  b_leaf : Binds K d_leaf ["_law_stream_here", "_law_pool_here"] []
  g_leaf : mg "_law_leaf" = some (.ref a_leaf)
  a_recipe : Addr
  d_recipe : FuncData
  F_recipe : Fun K "_law_recipe" "_law_recipe" s__law_recipe a_recipe d_recipe
  b_recipe : Binds K d_recipe ["_law_stream_here", "_law_pool_here", "_law_most"] []
  g_recipe : mg "_law_recipe" = some (.ref a_recipe)
  a_built : Addr
  d_built : FuncData
  F_built : Fun K "_law_built" "_law_built" s__law_built a_built d_built
  b_built : Binds K d_built ["_law_steps"] []
  g_built : mg "_law_built" = some (.ref a_built)
  a_compared : Addr
  d_compared : FuncData
  F_compared : Fun K "_law_compared" "_law_compared" s__law_compared a_compared d_compared
  b_compared : Binds K d_compared ["_law_sign", "_law_value", "_law_number_here"] []
  g_compared : mg "_law_compared" = some (.ref a_compared)
  a_joined : Addr
  d_joined : FuncData
  F_joined : Fun K "_law_joined" "_law_joined" s__law_joined a_joined d_joined
  b_joined : Binds K d_joined ["_law_word", "_law_parts"] []
  g_joined : mg "_law_joined" = some (.ref a_joined)
  a_judged : Addr
  d_judged : FuncData
  F_judged : Fun K "_law_judged" "_law_judged" s__law_judged a_judged d_judged
  b_judged : Binds K d_judged ["_law_steps", "_law_row"] []
  g_judged : mg "_law_judged" = some (.ref a_judged)
  a_alike : Addr
  d_alike : FuncData
  F_alike : Fun K "_law_alike" "_law_alike" s__law_alike a_alike d_alike
  b_alike : Binds K d_alike ["_law_told", "_law_due"] []
  g_alike : mg "_law_alike" = some (.ref a_alike)
  a_compared_with : Addr
  d_compared_with : FuncData
  F_compared_with : Fun K "_law_compared_with" "_law_compared_with" s__law_compared_with a_compared_with d_compared_with
  b_compared_with : Binds K d_compared_with ["_law_recipes", "_law_c"] []
  g_compared_with : mg "_law_compared_with" = some (.ref a_compared_with)
  a_standing_list : Addr
  d_standing_list : FuncData
  F_standing_list : Fun K "_law_standing_list" "_law_standing_list" s__law_standing_list a_standing_list d_standing_list
  b_standing_list : Binds K d_standing_list ["_law_numbers"] []
  g_standing_list : mg "_law_standing_list" = some (.ref a_standing_list)
  a_boxes_of : Addr
  d_boxes_of : FuncData
  F_boxes_of : Fun K "_law_boxes_of" "_law_boxes_of" s__law_boxes_of a_boxes_of d_boxes_of
  b_boxes_of : Binds K d_boxes_of ["_law_recipes", "_law_wide"] []
  g_boxes_of : mg "_law_boxes_of" = some (.ref a_boxes_of)
  a_worlds_told : Addr
  d_worlds_told : FuncData
  F_worlds_told : Fun K "_law_worlds_told" "_law_worlds_told" s__law_worlds_told a_worlds_told d_worlds_told
  b_worlds_told : Binds K d_worlds_told ["_law_predicates", "_law_asked"] []
  g_worlds_told : mg "_law_worlds_told" = some (.ref a_worlds_told)
  a_too_wide : Addr
  d_too_wide : FuncData
  F_too_wide : Fun K "_law_too_wide" "_law_too_wide" s__law_too_wide a_too_wide d_too_wide
  b_too_wide : Binds K d_too_wide ["_law_stream_here", "_law_wide"] []
  g_too_wide : mg "_law_too_wide" = some (.ref a_too_wide)
  C_PagesError : Addr
  g_PagesError : mg "PagesError" = some (.ref C_PagesError)
  cB_PagesError : PySem.W.subIn K (.ref C_PagesError) (.type "BaseException") = some true
  cT_PagesError : PySem.W.typeIn K (.ref C_PagesError) = some (.type "type")
  kC_PagesError : PySem.W.keepIn K (.ref C_PagesError) = true
  is_PagesError : IsC K C_PagesError
  xf_PagesError : XfC K C_PagesError
  xF_PagesError : PySem.W.excIn K C_PagesError [.type "ValueError", .type "Exception", .type "BaseException", .type "object"] "ValueError.__new__" = true
  ga_PagesError : PySem.W.specialIn K (.ref C_PagesError) "__getattribute__" = some (some (.builtin "type.__getattribute__"))
  rd_PagesError : PySem.W.readsIn K C_PagesError (.type "type") = true
  vV_PagesError : PySem.W.findCls K (.ref C_PagesError) (.type "type") "__init__" = some (.val (.builtin "ValueError.__init__"))
  C_BadPredicate : Addr
  g_BadPredicate : mg "BadPredicate" = some (.ref C_BadPredicate)
  cB_BadPredicate : PySem.W.subIn K (.ref C_BadPredicate) (.type "BaseException") = some true
  cT_BadPredicate : PySem.W.typeIn K (.ref C_BadPredicate) = some (.type "type")
  kC_BadPredicate : PySem.W.keepIn K (.ref C_BadPredicate) = true
  is_BadPredicate : IsC K C_BadPredicate
  xf_BadPredicate : XfC K C_BadPredicate
  oc_BadPredicate : OexC K C_BadPredicate
  iC_BadPredicate : PySem.W.findIn K (.ref C_BadPredicate) "__init__" = some (some (.ref a_BadPredicate_init))
  tI_BadPredicate : PySem.W.typeIn K (.ref a_BadPredicate_init) = some (.type "function")
  no_BadPredicate : PySem.W.findIn K (.ref C_BadPredicate) "predicate" = some none
  C_TooWide : Addr
  g_TooWide : mg "TooWide" = some (.ref C_TooWide)
  cB_TooWide : PySem.W.subIn K (.ref C_TooWide) (.type "BaseException") = some true
  cT_TooWide : PySem.W.typeIn K (.ref C_TooWide) = some (.type "type")
  kC_TooWide : PySem.W.keepIn K (.ref C_TooWide) = true
  is_TooWide : IsC K C_TooWide
  xf_TooWide : XfC K C_TooWide
  oc_TooWide : OexC K C_TooWide
  iC_TooWide : PySem.W.findIn K (.ref C_TooWide) "__init__" = some (some (.ref a_TooWide_init))
  tI_TooWide : PySem.W.typeIn K (.ref a_TooWide_init) = some (.type "function")
  no_TooWide : PySem.W.findIn K (.ref C_TooWide) "boxes" = some none
  kit_PagesError_PagesError : PySem.W.kitOne K (.ref C_PagesError) (.ref C_PagesError) = some true
  te_PagesError_PagesError : PySem.W.exmOne K (.ref C_PagesError) (.ref C_PagesError) = some true
  kit_PagesError_BadPredicate : PySem.W.kitOne K (.ref C_PagesError) (.ref C_BadPredicate) = some false
  te_PagesError_BadPredicate : PySem.W.exmOne K (.ref C_PagesError) (.ref C_BadPredicate) = some false
  kit_PagesError_TooWide : PySem.W.kitOne K (.ref C_PagesError) (.ref C_TooWide) = some false
  te_PagesError_TooWide : PySem.W.exmOne K (.ref C_PagesError) (.ref C_TooWide) = some false
  kit_BadPredicate_PagesError : PySem.W.kitOne K (.ref C_BadPredicate) (.ref C_PagesError) = some true
  te_BadPredicate_PagesError : PySem.W.exmOne K (.ref C_BadPredicate) (.ref C_PagesError) = some true
  kit_BadPredicate_BadPredicate : PySem.W.kitOne K (.ref C_BadPredicate) (.ref C_BadPredicate) = some true
  te_BadPredicate_BadPredicate : PySem.W.exmOne K (.ref C_BadPredicate) (.ref C_BadPredicate) = some true
  kit_BadPredicate_TooWide : PySem.W.kitOne K (.ref C_BadPredicate) (.ref C_TooWide) = some false
  te_BadPredicate_TooWide : PySem.W.exmOne K (.ref C_BadPredicate) (.ref C_TooWide) = some false
  kit_TooWide_PagesError : PySem.W.kitOne K (.ref C_TooWide) (.ref C_PagesError) = some true
  te_TooWide_PagesError : PySem.W.exmOne K (.ref C_TooWide) (.ref C_PagesError) = some true
  kit_TooWide_BadPredicate : PySem.W.kitOne K (.ref C_TooWide) (.ref C_BadPredicate) = some false
  te_TooWide_BadPredicate : PySem.W.exmOne K (.ref C_TooWide) (.ref C_BadPredicate) = some false
  kit_TooWide_TooWide : PySem.W.kitOne K (.ref C_TooWide) (.ref C_TooWide) = some true
  te_TooWide_TooWide : PySem.W.exmOne K (.ref C_TooWide) (.ref C_TooWide) = some true
  t_GREATEST : Tok
  g_GREATEST : mg "GREATEST" = some (.int (1000000000000000000) t_GREATEST)
  t_MOST_NODES : Tok
  g_MOST_NODES : mg "MOST_NODES" = some (.int (16) t_MOST_NODES)
  t_MOST_TUPLES : Tok
  g_MOST_TUPLES : mg "MOST_TUPLES" = some (.int (256) t_MOST_TUPLES)
  c_SIGNS : Addr
  g_SIGNS : mg "SIGNS" = some (.ref c_SIGNS)
  l_SIGNS : ∀ H : Hp, SqT K H c_SIGNS [.str "<", .str "<=", .str "=", .str "!=", .str ">=", .str ">"]
  z_abs : mg "abs" = none
  z_bool : mg "bool" = none
  z_int : mg "int" = none
  z_isinstance : mg "isinstance" = none
  z_len : mg "len" = none
  z_list : mg "list" = none
  z_range : mg "range" = none
  z_set : mg "set" = none
  z_sorted : mg "sorted" = none
  z_str : mg "str" = none
  z_tuple : mg "tuple" = none
section
variable {K : PySem.W.Frag} {mg : Str → Option Value}
theorem kb_check_predicate_columns (T : Txt K mg) : ∃ mv : List Value, KBn K T.d_check_predicate ["predicate", "columns"] 1 ["columns"] (fun us ws => (fun {α : Type} (vs mz zs : List α) => vs ++ (zs ++ mz)) us mv ws) (fun vs zs => (fun {α : Type} (vs mz zs : List α) => vs ++ (zs ++ mz)) vs [] zs) := T.F_check_predicate.kbinds0 1 ["columns"] [] (fun {α : Type} (vs mz zs : List α) => vs ++ (zs ++ mz)) (List.cons_ne_nil _ _) (by simp) (fun r1 r2 r3 => r1.append (r3.append r2)) (fun D doc pm an cdv ct us mv ws h1 h2 h3 => match us, h1, mv, h2, ws, h3 with | [_], _, [], _, [_], _ => rfl)
theorem kb_boxes_columns (T : Txt K mg) : ∃ mv : List Value, KBn K T.d_boxes ["predicates", "columns"] 1 ["columns"] (fun us ws => (fun {α : Type} (vs mz zs : List α) => vs ++ (zs ++ mz)) us mv ws) (fun vs zs => (fun {α : Type} (vs mz zs : List α) => vs ++ (zs ++ mz)) vs [] zs) := T.F_boxes.kbinds0 1 ["columns"] [] (fun {α : Type} (vs mz zs : List α) => vs ++ (zs ++ mz)) (List.cons_ne_nil _ _) (by simp) (fun r1 r2 r3 => r1.append (r3.append r2)) (fun D doc pm an cdv ct us mv ws h1 h2 h3 => match us, h1, mv, h2, ws, h3 with | [_], _, [], _, [_], _ => rfl)
theorem bd_worlds (T : Txt K mg) : ∃ ds, Vals [.int (2)] ds ∧ Binds K T.d_worlds ["predicates", "columns"] ds := T.F_worlds.binds0 1 (List.cons_ne_nil _ _) (by rfl) (fun D doc pm an cdv ct us ks h1 h2 => match us, h1, ks, h2 with | [_], _, [_], _ => ⟨_, _, _, _, _, _, rfl, rfl, rfl⟩)
theorem kb_worlds_columns (T : Txt K mg) : ∃ mv : List Value, KBn K T.d_worlds ["predicates", "columns"] 1 ["columns"] (fun us ws => (fun {α : Type} (vs mz zs : List α) => vs ++ (zs ++ mz)) us mv ws) (fun vs zs => (fun {α : Type} (vs mz zs : List α) => vs ++ (zs ++ mz)) vs [] zs) := T.F_worlds.kbinds0 1 ["columns"] [] (fun {α : Type} (vs mz zs : List α) => vs ++ (zs ++ mz)) (List.cons_ne_nil _ _) (by simp) (fun r1 r2 r3 => r1.append (r3.append r2)) (fun D doc pm an cdv ct us mv ws h1 h2 h3 => match us, h1, mv, h2, ws, h3 with | [_], _, [], _, [_], _ => rfl)
end
section
variable {K : PySem.W.Frag} {mg : Str → Option Value}
def ctb (T : Txt K mg) : CTB := { adr := fun n => match n with  | _ => 0, slt := fun n => match n with  | _ => false, err := fun n => match n with | 0 => T.C_PagesError | 1 => T.C_BadPredicate | 2 => T.C_TooWide | _ => 0, fld := fun n => match n with | 0 => "" | 1 => "predicate" | 2 => "boxes" | _ => "" }
theorem Txt.r_SIGNS (T : Txt K mg) {b : CTB} (R : Hp) : Rep K b R (.ref T.c_SIGNS) (.tup [.str "<", .str "<=", .str "=", .str "!=", .str ">=", .str ">"]) := .tup (T.l_SIGNS R) rfl ((Reps.cons (.str _) (Reps.cons (.str _) (Reps.cons (.str _) (Reps.cons (.str _) (Reps.cons (.str _) (Reps.cons (.str _) Reps.nil)))))) : Reps K b R _ _).2
theorem Txt.fit_BadPredicate (T : Txt K mg) : ∀ c r, fitsD [1] 3 c = some r → PySem.W.exmOne K (.ref ((ctb T).err c)) (.ref T.C_BadPredicate) = some r
  | 0, r, e => by
    cases (show some false = some r from e)
    exact T.te_PagesError_BadPredicate
  | 1, r, e => by
    cases (show some true = some r from e)
    exact T.te_BadPredicate_BadPredicate
  | 2, r, e => by
    cases (show some false = some r from e)
    exact T.te_TooWide_BadPredicate
  | c + 3, r, e => by
    have h : fitsD [1] 3 (c + 3) = none := if_neg (by omega)
    rw [h] at e
    cases e
theorem Txt.fit_TooWide (T : Txt K mg) : ∀ c r, fitsD [2] 3 c = some r → PySem.W.exmOne K (.ref ((ctb T).err c)) (.ref T.C_TooWide) = some r
  | 0, r, e => by
    cases (show some false = some r from e)
    exact T.te_PagesError_TooWide
  | 1, r, e => by
    cases (show some false = some r from e)
    exact T.te_BadPredicate_TooWide
  | 2, r, e => by
    cases (show some true = some r from e)
    exact T.te_TooWide_TooWide
  | c + 3, r, e => by
    have h : fitsD [2] 3 (c + 3) = none := if_neg (by omega)
    rw [h] at e
    cases e
end
section
variable {P : Program} {w : World} {K : PySem.W.Frag} {mg : Str → Option Value} {base : Heap}
theorem ok_BadPredicate_init (T : Txt K mg) : FnOk P w K mg base CX0 1 T.a_BadPredicate_init T.d_BadPredicate_init ["self", "predicate"] (spErr T.C_BadPredicate "predicate") := by
  refine T.F_BadPredicate_init.ok sc_BadPredicate_init (fun vs H Q E h => ?_) (fun cdv A outer s H vs Q E hr h => ⟨_, (pss_cons (ps_expr (pe_owninit (by rfl) T.g_PagesError T.ga_PagesError T.rd_PagesError T.vV_PagesError (pa_cons (pv 0) (pa_cons pe_str pa_nil)))) (pss_one (ps_ost (pv 0) (pv 1)))), ?_⟩)
  · obtain ⟨a, v, rfl, ha, k⟩ := h; rfl
  · obtain ⟨a, v, rfl, ha, k⟩ := h
    exact err_init T.oc_BadPredicate T.no_BadPredicate ha k
theorem ok_TooWide_init (T : Txt K mg) : FnOk P w K mg base CX0 1 T.a_TooWide_init T.d_TooWide_init ["self", "boxes"] (spErr T.C_TooWide "boxes") := by
  refine T.F_TooWide_init.ok sc_TooWide_init (fun vs H Q E h => ?_) (fun cdv A outer s H vs Q E hr h => ⟨_, (pss_cons (ps_expr (pe_owninit (by rfl) T.g_PagesError T.ga_PagesError T.rd_PagesError T.vV_PagesError (pa_cons (pv 0) (pa_cons pe_str pa_nil)))) (pss_one (ps_ost (pv 0) (pv 1)))), ?_⟩)
  · obtain ⟨a, v, rfl, ha, k⟩ := h; rfl
  · obtain ⟨a, v, rfl, ha, k⟩ := h
    exact err_init T.oc_TooWide T.no_TooWide ha k
theorem ok_is_between (T : Txt K mg) : FnOk P w K mg base CX0 1 T.a_is_between T.d_is_between ["value", "low", "high"] (SpM K (ctb T) [] m_is_between) := by
  refine T.F_is_between.ok sc_is_between (fun vs H Q E h => SpM.len (np := 3) (n := 3) h) (fun cdv A outer s H vs Q E hr h => ⟨_, (pss_cons (ps_if (PW.pt (pw_or (pt_val (pe_callB (cr_isi (K := K) rfl) (by rfl) T.z_isinstance (by decide +kernel) (pa_cons (pv 0) (pa_cons (pe_bltn (v := .ty "bool") (by rfl) T.z_bool (by decide +kernel) rfl) pa_nil)))) (pw_or1 (pt_not (pt_val (pe_callB (cr_isi (K := K) rfl) (by rfl) T.z_isinstance (by decide +kernel) (pa_cons (pv 0) (pa_cons (pe_bltn (v := .ty "int") (by rfl) T.z_int (by decide +kernel) rfl) pa_nil))))))))
      (pss_one (ps_ret pe_bl))
      pss_nil)
      (pss_one (ps_ret (pe_chain op_le op_le (pv 1) (pv 0) (pv 2))))), ?_⟩)
  exact sim_fn (ct := ctb T) (ms := []) (np := 3) (N := N_is_between)
      (sim_seq (sim_ifS (sim_or (sim_B (sim_isi (T := .bool) sim_var)) (sim_not (sim_B (sim_isi (T := .int) sim_var))))
      (sim_ret ((sim_c fun _ => .bl _)).toE)
      sim_next)
      (sim_ret ((sim_chain so_le so_le sim_var sim_var sim_var)).toE))
      (by decide) (by decide) h
theorem ok_is_node (T : Txt K mg) : FnOk P w K mg base CX0 2 T.a_is_node T.d_is_node ["value", "columns"] (SpM K (ctb T) [] m_is_node) := by
  refine T.F_is_node.ok sc_is_node (fun vs H Q E h => SpM.len (np := 2) (n := 3) h) (fun cdv A outer s H vs Q E hr h => ⟨_, (pss_cons (ps_if (PW.pt (pw_or (pt_not (pt_val (pe_callB (cr_isi (K := K) rfl) (by rfl) T.z_isinstance (by decide +kernel) (pa_cons (pv 0) (pa_cons (pe_bltn (v := .ty "tuple") (by rfl) T.z_tuple (by decide +kernel) rfl) pa_nil))))) (pw_or (pt_cmpR (op_eqA (K := K) rfl hr.units) (pe_callB (cr_len (K := K) rfl) (by rfl) T.z_len PySem.boot_len (pa_cons (pv 0) pa_nil)) pe_int (nomark _)) (pw_or1 (pt_not (pt_val (pe_callB (cr_isi (K := K) rfl) (by rfl) T.z_isinstance (by decide +kernel) (pa_cons (pe_ix (ix_A (K := K) rfl) (pv 0) pe_int (fun _ _ => rfl)) (pa_cons (pe_bltn (v := .ty "str") (by rfl) T.z_str (by decide +kernel) rfl) pa_nil)))))))))
      (pss_one (ps_ret pe_bl))
      pss_nil)
      (pss_cons (ps_set (i := 2) sc_is_node.nd rfl (.inl rfl) (pe_ix (ix_A (K := K) rfl) (pv 0) pe_int (fun _ _ => rfl)))
      (pss_cons (ps_if (pt_cmpR (op_inA (K := K) rfl) (pv 2) (pe_glob (v := .ref T.c_SIGNS) rfl T.g_SIGNS rfl) (by rfl))
      (pss_one (ps_ret (pe_and (pe_cmpR (op_eqA (K := K) rfl hr.units) (pe_callB (cr_len (K := K) rfl) (by rfl) T.z_len PySem.boot_len (pa_cons (pv 0) pa_nil)) pe_int (nomark _)) (pe_and (pe_call (ok_is_between T) (hr.mono (by decide)) (by rfl) T.g_is_between T.F_is_between.kp T.b_is_between .nil pass0 (pa_cons (pe_ix (ix_A (K := K) rfl) (pv 0) pe_int (fun _ _ => rfl)) (pa_cons pe_int (pa_cons (pe_op op_sub (pv 1) pe_int) pa_nil)))) (pe_one (pe_call (ok_is_between T) (hr.mono (by decide)) (by rfl) T.g_is_between T.F_is_between.kp T.b_is_between .nil pass0 (pa_cons (pe_ix (ix_A (K := K) rfl) (pv 0) pe_int (fun _ _ => rfl)) (pa_cons (pe_op op_sub pe_int (pe_glob (v := .int (1000000000000000000)) rfl T.g_GREATEST ⟨_, rfl⟩)) (pa_cons (pe_op op_sub (pe_glob (v := .int (1000000000000000000)) rfl T.g_GREATEST ⟨_, rfl⟩) pe_int) pa_nil)))))))))
      pss_nil)
      (pss_cons (ps_if (pt_cmpR (op_eqA (K := K) rfl hr.units) (pv 2) pe_str (nomark _))
      (pss_one (ps_ret (pe_and (pe_cmpR (op_eqA (K := K) rfl hr.units) (pe_callB (cr_len (K := K) rfl) (by rfl) T.z_len PySem.boot_len (pa_cons (pv 0) pa_nil)) pe_int (nomark _)) (pe_one (pe_call (ok_is_between T) (hr.mono (by decide)) (by rfl) T.g_is_between T.F_is_between.kp T.b_is_between .nil pass0 (pa_cons (pe_ix (ix_A (K := K) rfl) (pv 0) pe_int (fun _ _ => rfl)) (pa_cons pe_int (pa_cons (pe_op op_sub (pv 1) pe_int) pa_nil))))))))
      pss_nil)
      (pss_cons (ps_if (PW.pt (pw_or (pt_cmpR (op_eqA (K := K) rfl hr.units) (pv 2) pe_str (nomark _)) (pw_or1 (pt_cmpR (op_eqA (K := K) rfl hr.units) (pv 2) pe_str (nomark _)))))
      (pss_one (ps_ret (pe_cmpR (op_eqA (K := K) rfl hr.units) (pe_callB (cr_len (K := K) rfl) (by rfl) T.z_len PySem.boot_len (pa_cons (pv 0) pa_nil)) pe_int (nomark _))))
      pss_nil)
      (pss_one (ps_ret (pe_or (pe_cmpR (op_eqA (K := K) rfl hr.units) (pv 2) pe_str (nomark _)) (pe_one (pe_cmpR (op_eqA (K := K) rfl hr.units) (pv 2) pe_str (nomark _))))))))))), ?_⟩)
  exact sim_fn (ct := ctb T) (ms := []) (np := 2) (N := N_is_node)
      (sim_seq (sim_ifS (sim_or (sim_not (sim_B (sim_isi (T := .tuple) sim_var))) (sim_or (sim_test (sim_op so_eqA sim_lenV (sim_c fun _ => .int _))) (sim_not (sim_B (sim_isi (T := .str) (sim_ixAV (sim_c fun _ => .int _)))))))
      (sim_ret ((sim_c fun _ => .bl _)).toE)
      sim_next)
      (sim_seq (sim_set ((sim_ixAV (sim_c fun _ => .int _))).toE (by decide))
      (sim_seq (sim_ifS (sim_test (sim_op so_in sim_var (sim_c fun R => T.r_SIGNS R)))
      (sim_ret ((sim_andV (sim_op so_eqA sim_lenV (sim_c fun _ => .int _)) (sim_andV ((sim_call0 (sim_bcons (sim_ixAV (sim_c fun _ => .int _)) (sim_bcons (sim_c fun _ => .int _) (sim_bcons (sim_op so_sub sim_var (sim_c fun _ => .int _)) sim_bnil))))).toF ((sim_call0 (sim_bcons (sim_ixAV (sim_c fun _ => .int _)) (sim_bcons (sim_op so_sub (sim_c fun _ => .int _) (sim_c fun R => .int _)) (sim_bcons (sim_op so_sub (sim_c fun R => .int _) (sim_c fun _ => .int _)) sim_bnil))))).toF))).toE)
      sim_next)
      (sim_seq (sim_ifS (sim_test (sim_op so_eqA sim_var (sim_c fun _ => .str _)))
      (sim_ret ((sim_andV (sim_op so_eqA sim_lenV (sim_c fun _ => .int _)) ((sim_call0 (sim_bcons (sim_ixAV (sim_c fun _ => .int _)) (sim_bcons (sim_c fun _ => .int _) (sim_bcons (sim_op so_sub sim_var (sim_c fun _ => .int _)) sim_bnil))))).toF)).toE)
      sim_next)
      (sim_seq (sim_ifS (sim_or (sim_test (sim_op so_eqA sim_var (sim_c fun _ => .str _))) (sim_test (sim_op so_eqA sim_var (sim_c fun _ => .str _))))
      (sim_ret ((sim_op so_eqA sim_lenV (sim_c fun _ => .int _))).toE)
      sim_next)
      (sim_ret ((sim_orV (sim_op so_eqA sim_var (sim_c fun _ => .str _)) (sim_op so_eqA sim_var (sim_c fun _ => .str _)))).toE))))))
      (by decide) (by decide) h
theorem ok_parts_of (T : Txt K mg) : FnOk P w K mg base CX0 1 T.a_parts_of T.d_parts_of ["predicate"] (SpM K (ctb T) [] m_parts_of) := by
  refine T.F_parts_of.ok sc_parts_of (fun vs H Q E h => SpM.len (np := 1) (n := 1) h) (fun cdv A outer s H vs Q E hr h => ⟨_, (pss_cons (ps_if (PW.pt (pw_or (pt_cmpR (op_inA (K := K) rfl) (pe_ix (ix_A (K := K) rfl) (pv 0) pe_int (fun _ _ => rfl)) (pe_glob (v := .ref T.c_SIGNS) rfl T.g_SIGNS rfl) (by rfl)) (pw_or1 (pt_cmpR (op_eqA (K := K) rfl hr.units) (pe_ix (ix_A (K := K) rfl) (pv 0) pe_int (fun _ _ => rfl)) pe_str (nomark _)))))
      (pss_one (ps_ret (pe_tup pa_nil)))
      pss_nil)
      (pss_one (ps_ret (pe_slice (sl_A (K := K) rfl) (pv 0) (po_some pe_int) po_none)))), ?_⟩)
  exact sim_fn (ct := ctb T) (ms := []) (np := 1) (N := N_parts_of)
      (sim_seq (sim_ifS (sim_or (sim_test (sim_op so_in (sim_ixAV (sim_c fun _ => .int _)) (sim_c fun R => T.r_SIGNS R))) (sim_test (sim_op so_eqA (sim_ixAV (sim_c fun _ => .int _)) (sim_c fun _ => .str _))))
      (sim_ret ((sim_tup sim_nil)).toE)
      sim_next)
      (sim_ret (sim_slA sim_var (sim_psome (sim_c fun _ => .int _)) sim_pno)))
      (by decide) (by decide) h
theorem ok_check_predicate (T : Txt K mg) : FnOk P w K mg base (L2.CX P w) 3 T.a_check_predicate T.d_check_predicate ["predicate", "columns"] (SpM K (ctb T) [] m_check_predicate) := by
  refine T.F_check_predicate.ok sc_check_predicate (fun vs H Q E h => SpM.len (np := 2) (n := 5) h) (fun cdv A outer s H vs Q E hr h => ⟨_, (pss_cons (ps_set (i := 2) sc_check_predicate.nd rfl (.inl rfl) pe_int)
      (pss_cons (ps_set (i := 3) sc_check_predicate.nd rfl (.inl rfl) (pe_lst (pa_cons (pv 0) pa_nil)))
      (pss_one (ps_while (passes_of rfl) (pt_tru (K := K) rfl (pv 3))
      (pss_cons (ps_set (i := 4) sc_check_predicate.nd rfl (.inl rfl) (pe_bmA (f := fun K => tBM0 K "list" rPop (tVar 3)) rfl (pe_bm0 PySem.F.plainAttrs_list PySem.F.slot_list_pop PySem.F.type_list_pop mt_pop (pv 3))))
      (pss_cons (ps_aug (i := 2) sc_check_predicate.nd rfl (.inl rfl) pe_int ip_add)
      (pss_cons (ps_if (PW.pt (pw_or (pt_cmpR op_gt (pv 2) (pe_glob (v := .int (16)) rfl T.g_MOST_NODES ⟨_, rfl⟩) (nomark _)) (pw_or1 (pt_not (pt_tru (K := K) rfl (pe_call (ok_is_node T) (hr.mono (by decide)) (by rfl) T.g_is_node T.F_is_node.kp T.b_is_node .nil pass0 (pa_cons (pv 4) (pa_cons (pv 1) pa_nil))))))))
      (pss_one (ps_raise rfl (takes_of rfl rfl rfl rfl) (pmk_oex T.oc_BadPredicate T.iC_BadPredicate T.tI_BadPredicate (ok_BadPredicate_init T) (hr.mono (by decide)) T.b_BadPredicate_init .nil pass0 (by rfl) T.g_BadPredicate (pa_cons (pv 0) pa_nil))))
      pss_nil)
      (pss_one (ps_expr (pe_bmA (f := fun K => tBM K "list" rExtend (tVar 3) (tCons _ tNil)) rfl (pe_bm PySem.F.plainAttrs_list PySem.F.slot_list_extend PySem.F.type_list_extend mt_extend (pv 3) (pa_cons (pe_callTy (cr_list (K := K) rfl) (by rfl) T.z_list (by decide +kernel) (pa_cons (pe_call (ok_parts_of T) (hr.mono (by decide)) (by rfl) T.g_parts_of T.F_parts_of.kp T.b_parts_of .nil pass0 (pa_cons (pv 4) pa_nil)) pa_nil)) pa_nil)))))))))))), ?_⟩)
  exact sim_fn (ct := ctb T) (ms := []) (np := 2) (N := N_check_predicate)
      (sim_seq (sim_set ((sim_c fun _ => .int _)).toE (by decide))
      (sim_seq (sim_set (sim_lst (sim_cons sim_var sim_nil)) (by decide))
      (sim_while 100000 sim_truV
      (sim_seq (sim_set (sim_pop).toE (by decide))
      (sim_seq (sim_aug (sim_c fun _ => .int _) (by decide))
      (sim_seq (sim_ifS (sim_or (sim_test (sim_op so_gt sim_var (sim_c fun R => .int _))) (sim_not (sim_tru ((sim_call0 (sim_bcons sim_var (sim_bcons sim_var sim_bnil)))).toF)))
      (sim_raise1 (c := 1) rfl rfl (sim_cons sim_var sim_nil))
      sim_next)
      (sim_drop (sim_extend (sim_cbL so_list (sim_cons ((sim_call0 (sim_bcons sim_var sim_bnil))).toF sim_nil))))))))))
      (by decide) (by decide) h
theorem ok_comparisons_of (T : Txt K mg) : ∀ fu : Nat, FnOk P w K mg base CX0 (fu + 2) T.a_comparisons_of T.d_comparisons_of ["predicate"] (SpM K (ctb T) [] (m_comparisons_of fu)) := by
  refine Nat.rec (motive := fun fu => FnOk P w K mg base CX0 (fu + 2) T.a_comparisons_of T.d_comparisons_of ["predicate"] (SpM K (ctb T) [] (m_comparisons_of fu))) ⟨fun vs H Q E h => (SpM.none h).elim, fun _ _ _ _ _ _ _ _ _ _ _ _ _ h => (SpM.none h).elim⟩ (fun fu ih => ?_)
  refine T.F_comparisons_of.ok sc_comparisons_of (fun vs H Q E h => SpM.len (np := 1) (n := 3) h) (fun cdv A outer s H vs Q E hr h => ⟨_, (pss_cons (ps_if (pt_cmpR (op_inA (K := K) rfl) (pe_ix (ix_A (K := K) rfl) (pv 0) pe_int (fun _ _ => rfl)) (pe_glob (v := .ref T.c_SIGNS) rfl T.g_SIGNS rfl) (by rfl))
      (pss_one (ps_ret (pe_lst (pa_cons (pv 0) pa_nil))))
      pss_nil)
      (pss_one (ps_ret (pe_lc2 (own := [("part", 1), ("found", 2)]) (vs1 := [2]) (tt := tYes) (tt1 := tYes) rfl sc_comparisons_of.nd (pi_seq (K := K) rfl (pe_call (ok_parts_of T) (hr.mono (by omega)) (by rfl) T.g_parts_of T.F_parts_of.kp T.b_parts_of .nil pass0 (pa_cons (pv 0) pa_nil))) (blkOk_by (own := [("part", 1), ("found", 2)]) (N := N_comparisons_of) (sc := defScope s_comparisons_of) (by decide +kernel)) (by decide) (fun _ _ _ _ _ => (pg_name (i := 1) sc_comparisons_of.nd rfl (Or.inl rfl))) (fun _ _ _ _ _ => pts_nil) (fun _ _ _ _ _ => (pi_seq (K := K) rfl (pe_call ih (hr.mono (by omega)) (by rfl) T.g_comparisons_of T.F_comparisons_of.kp T.b_comparisons_of .nil pass0 (pa_cons (pv 1) pa_nil)))) (fun _ _ _ _ _ => (pg_name (i := 2) sc_comparisons_of.nd rfl (Or.inl rfl))) (fun _ _ _ _ _ => pts_nil) (fun _ _ _ _ _ => (pv 2)))))), ?_⟩)
  exact sim_fn (ct := ctb T) (ms := []) (np := 1) (N := N_comparisons_of)
      (sim_seq (sim_ifS (sim_test (sim_op so_in (sim_ixAV (sim_c fun _ => .int _)) (sim_c fun R => T.r_SIGNS R)))
      (sim_ret (sim_lst (sim_cons sim_var sim_nil)))
      sim_next)
      (sim_ret (sim_lc2 (vs := [1, 2]) (vs1 := [2]) (sim_seqI ((sim_call0 (sim_bcons sim_var sim_bnil))).toF) (sim_name (by decide)) (by decide) (by decide) sim_yes (sim_seqI ((sim_call0 (sim_bcons sim_var sim_bnil))).toF) (sim_name (by decide)) (by decide) (by decide) sim_yes sim_var)))
      (by decide) (by decide) h
theorem ok_compares (T : Txt K mg) : FnOk P w K mg base CX0 1 T.a_compares T.d_compares ["value", "sign", "number"] (SpM K (ctb T) [] m_compares) := by
  refine T.F_compares.ok sc_compares (fun vs H Q E h => SpM.len (np := 3) (n := 3) h) (fun cdv A outer s H vs Q E hr h => ⟨_, (pss_cons (ps_if (pt_cmpR (op_eqA (K := K) rfl hr.units) (pv 1) pe_str (nomark _))
      (pss_one (ps_ret (pe_cmpR op_lt (pv 0) (pv 2) (nomark _))))
      pss_nil)
      (pss_cons (ps_if (pt_cmpR (op_eqA (K := K) rfl hr.units) (pv 1) pe_str (nomark _))
      (pss_one (ps_ret (pe_cmpR op_le (pv 0) (pv 2) (nomark _))))
      pss_nil)
      (pss_cons (ps_if (pt_cmpR (op_eqA (K := K) rfl hr.units) (pv 1) pe_str (nomark _))
      (pss_one (ps_ret (pe_cmpR (op_eqA (K := K) rfl hr.units) (pv 0) (pv 2) (nomark _))))
      pss_nil)
      (pss_cons (ps_if (pt_cmpR (op_eqA (K := K) rfl hr.units) (pv 1) pe_str (nomark _))
      (pss_one (ps_ret (pe_cmpR (op_neA (K := K) rfl hr.units) (pv 0) (pv 2) (nomark _))))
      pss_nil)
      (pss_cons (ps_if (pt_cmpR (op_eqA (K := K) rfl hr.units) (pv 1) pe_str (nomark _))
      (pss_one (ps_ret (pe_cmpR op_ge (pv 0) (pv 2) (nomark _))))
      pss_nil)
      (pss_one (ps_ret (pe_cmpR op_gt (pv 0) (pv 2) (nomark _))))))))), ?_⟩)
  exact sim_fn (ct := ctb T) (ms := []) (np := 3) (N := N_compares)
      (sim_seq (sim_ifS (sim_test (sim_op so_eqA sim_var (sim_c fun _ => .str _)))
      (sim_ret ((sim_op so_lt sim_var sim_var)).toE)
      sim_next)
      (sim_seq (sim_ifS (sim_test (sim_op so_eqA sim_var (sim_c fun _ => .str _)))
      (sim_ret ((sim_op so_le sim_var sim_var)).toE)
      sim_next)
      (sim_seq (sim_ifS (sim_test (sim_op so_eqA sim_var (sim_c fun _ => .str _)))
      (sim_ret ((sim_op so_eqA sim_var sim_var)).toE)
      sim_next)
      (sim_seq (sim_ifS (sim_test (sim_op so_eqA sim_var (sim_c fun _ => .str _)))
      (sim_ret ((sim_op so_neA sim_var sim_var)).toE)
      sim_next)
      (sim_seq (sim_ifS (sim_test (sim_op so_eqA sim_var (sim_c fun _ => .str _)))
      (sim_ret ((sim_op so_ge sim_var sim_var)).toE)
      sim_next)
      (sim_ret ((sim_op so_gt sim_var sim_var)).toE))))))
      (by decide) (by decide) h
theorem ok_comparison_truth (T : Txt K mg) : FnOk P w K mg base CX0 2 T.a_comparison_truth T.d_comparison_truth ["value", "sign", "number"] (SpM K (ctb T) [] m_comparison_truth) := by
  refine T.F_comparison_truth.ok sc_comparison_truth (fun vs H Q E h => SpM.len (np := 3) (n := 3) h) (fun cdv A outer s H vs Q E hr h => ⟨_, (pss_cons (ps_if (pt_cmpR op_isA (pv 0) pe_non (nomark _))
      (pss_one (ps_ret pe_non))
      pss_nil)
      (pss_one (ps_ret (pe_call (ok_compares T) (hr.mono (by decide)) (by rfl) T.g_compares T.F_compares.kp T.b_compares .nil pass0 (pa_cons (pv 0) (pa_cons (pv 1) (pa_cons (pv 2) pa_nil))))))), ?_⟩)
  exact sim_fn (ct := ctb T) (ms := []) (np := 3) (N := N_comparison_truth)
      (sim_seq (sim_ifS (sim_test (sim_op so_isA sim_var (sim_c fun _ => .non)))
      (sim_ret ((sim_c fun _ => .non)).toE)
      sim_next)
      (sim_ret (sim_call0 (sim_bcons sim_var (sim_bcons sim_var (sim_bcons sim_var sim_bnil))))))
      (by decide) (by decide) h
theorem ok_both_truth (T : Txt K mg) : FnOk P w K mg base CX0 1 T.a_both_truth T.d_both_truth ["truths"] (SpM K (ctb T) [] m_both_truth) := by
  refine T.F_both_truth.ok sc_both_truth (fun vs H Q E h => SpM.len (np := 1) (n := 1) h) (fun cdv A outer s H vs Q E hr h => ⟨_, (pss_cons (ps_if (pt_cmpR (op_inA (K := K) rfl) pe_bl (pv 0) (by rfl))
      (pss_one (ps_ret pe_bl))
      pss_nil)
      (pss_one (ps_ret (pe_ifExp (pt_cmpR (op_inA (K := K) rfl) pe_non (pv 0) (by rfl)) pe_non pe_bl)))), ?_⟩)
  exact sim_fn (ct := ctb T) (ms := []) (np := 1) (N := N_both_truth)
      (sim_seq (sim_ifS (sim_test (sim_op so_in (sim_c fun _ => .bl _) sim_var))
      (sim_ret ((sim_c fun _ => .bl _)).toE)
      sim_next)
      (sim_ret ((sim_if (sim_test (sim_op so_in (sim_c fun _ => .non) sim_var)) (sim_c fun _ => .non) (sim_c fun _ => .bl _))).toE))
      (by decide) (by decide) h
theorem ok_either_truth (T : Txt K mg) : FnOk P w K mg base CX0 1 T.a_either_truth T.d_either_truth ["truths"] (SpM K (ctb T) [] m_either_truth) := by
  refine T.F_either_truth.ok sc_either_truth (fun vs H Q E h => SpM.len (np := 1) (n := 1) h) (fun cdv A outer s H vs Q E hr h => ⟨_, (pss_cons (ps_if (pt_cmpR (op_inA (K := K) rfl) pe_bl (pv 0) (by rfl))
      (pss_one (ps_ret pe_bl))
      pss_nil)
      (pss_one (ps_ret (pe_ifExp (pt_cmpR (op_inA (K := K) rfl) pe_non (pv 0) (by rfl)) pe_non pe_bl)))), ?_⟩)
  exact sim_fn (ct := ctb T) (ms := []) (np := 1) (N := N_either_truth)
      (sim_seq (sim_ifS (sim_test (sim_op so_in (sim_c fun _ => .bl _) sim_var))
      (sim_ret ((sim_c fun _ => .bl _)).toE)
      sim_next)
      (sim_ret ((sim_if (sim_test (sim_op so_in (sim_c fun _ => .non) sim_var)) (sim_c fun _ => .non) (sim_c fun _ => .bl _))).toE))
      (by decide) (by decide) h
theorem ok_negation_truth (T : Txt K mg) : FnOk P w K mg base CX0 1 T.a_negation_truth T.d_negation_truth ["part"] (SpM K (ctb T) [] m_negation_truth) := by
  refine T.F_negation_truth.ok sc_negation_truth (fun vs H Q E h => SpM.len (np := 1) (n := 1) h) (fun cdv A outer s H vs Q E hr h => ⟨_, (pss_one (ps_ret (pe_ifExp (pt_cmpR op_isA (pv 0) pe_non (nomark _)) pe_non (pe_not (pv 0))))), ?_⟩)
  exact sim_fn (ct := ctb T) (ms := []) (np := 1) (N := N_negation_truth)
      (sim_ret ((sim_if (sim_test (sim_op so_isA sim_var (sim_c fun _ => .non))) (sim_c fun _ => .non) (sim_notV sim_var))).toE)
      (by decide) (by decide) h
theorem ok_truth (T : Txt K mg) : ∀ fu : Nat, FnOk P w K mg base CX0 (fu + 3) T.a_truth T.d_truth ["predicate", "row"] (SpM K (ctb T) [] (m_truth fu)) := by
  refine Nat.rec (motive := fun fu => FnOk P w K mg base CX0 (fu + 3) T.a_truth T.d_truth ["predicate", "row"] (SpM K (ctb T) [] (m_truth fu))) ⟨fun vs H Q E h => (SpM.none h).elim, fun _ _ _ _ _ _ _ _ _ _ _ _ _ h => (SpM.none h).elim⟩ (fun fu ih => ?_)
  refine T.F_truth.ok sc_truth (fun vs H Q E h => SpM.len (np := 2) (n := 5) h) (fun cdv A outer s H vs Q E hr h => ⟨_, (pss_cons (ps_set (i := 2) sc_truth.nd rfl (.inl rfl) (pe_ix (ix_A (K := K) rfl) (pv 0) pe_int (fun _ _ => rfl)))
      (pss_cons (ps_if (pt_cmpR (op_inA (K := K) rfl) (pv 2) (pe_glob (v := .ref T.c_SIGNS) rfl T.g_SIGNS rfl) (by rfl))
      (pss_one (ps_ret (pe_call (ok_comparison_truth T) (hr.mono (by omega)) (by rfl) T.g_comparison_truth T.F_comparison_truth.kp T.b_comparison_truth .nil pass0 (pa_cons (pe_ix (ix_A (K := K) rfl) (pv 1) (pe_ix (ix_A (K := K) rfl) (pv 0) pe_int (fun _ _ => rfl)) (fun _ _ => rfl)) (pa_cons (pv 2) (pa_cons (pe_ix (ix_A (K := K) rfl) (pv 0) pe_int (fun _ _ => rfl)) pa_nil))))))
      pss_nil)
      (pss_cons (ps_if (pt_cmpR (op_eqA (K := K) rfl hr.units) (pv 2) pe_str (nomark _))
      (pss_one (ps_ret (pe_cmpR op_isA (pe_ix (ix_A (K := K) rfl) (pv 1) (pe_ix (ix_A (K := K) rfl) (pv 0) pe_int (fun _ _ => rfl)) (fun _ _ => rfl)) pe_non (nomark _))))
      pss_nil)
      (pss_cons (ps_setLc (i := 3) (own := [("part", 4)]) (tt := tYes) rfl sc_truth.nd rfl rfl (sw_true rfl rfl rfl (by decide +kernel)) (pi_seq (K := K) rfl (pe_call (ok_parts_of T) (hr.mono (by omega)) (by rfl) T.g_parts_of T.F_parts_of.kp T.b_parts_of .nil pass0 (pa_cons (pv 0) pa_nil))) (blkOk_by (own := [("part", 4)]) (N := N_truth) (sc := defScope s_truth) (by decide +kernel)) (fun _ _ _ _ _ => (pg_name (i := 4) sc_truth.nd rfl (Or.inl rfl))) (fun _ _ _ _ _ => pts_nil) (fun _ _ _ _ _ => (pe_call ih (hr.mono (by omega)) (by rfl) T.g_truth T.F_truth.kp T.b_truth .nil pass0 (pa_cons (pv 4) (pa_cons (pv 1) pa_nil)))))
      (pss_cons (ps_if (pt_cmpR (op_eqA (K := K) rfl hr.units) (pv 2) pe_str (nomark _))
      (pss_one (ps_ret (pe_call (ok_both_truth T) (hr.mono (by omega)) (by rfl) T.g_both_truth T.F_both_truth.kp T.b_both_truth .nil pass0 (pa_cons (pv 3) pa_nil))))
      pss_nil)
      (pss_cons (ps_if (pt_cmpR (op_eqA (K := K) rfl hr.units) (pv 2) pe_str (nomark _))
      (pss_one (ps_ret (pe_call (ok_either_truth T) (hr.mono (by omega)) (by rfl) T.g_either_truth T.F_either_truth.kp T.b_either_truth .nil pass0 (pa_cons (pv 3) pa_nil))))
      pss_nil)
      (pss_cons (ps_if (pt_cmpR (op_eqA (K := K) rfl hr.units) (pv 2) pe_str (nomark _))
      (pss_one (ps_ret (pe_call (ok_negation_truth T) (hr.mono (by omega)) (by rfl) T.g_negation_truth T.F_negation_truth.kp T.b_negation_truth .nil pass0 (pa_cons (pe_ix (ix_A (K := K) rfl) (pv 3) pe_int (fun _ _ => rfl)) pa_nil))))
      pss_nil)
      (pss_one (ps_ret (pe_cmpR op_notA (pe_ix (ix_A (K := K) rfl) (pv 3) pe_int (fun _ _ => rfl)) pe_bl (nomark _))))))))))), ?_⟩)
  exact sim_fn (ct := ctb T) (ms := []) (np := 2) (N := N_truth)
      (sim_seq (sim_set ((sim_ixAV (sim_c fun _ => .int _))).toE (by decide))
      (sim_seq (sim_ifS (sim_test (sim_op so_in sim_var (sim_c fun R => T.r_SIGNS R)))
      (sim_ret (sim_call0 (sim_bcons (sim_ixAV (sim_ixAV (sim_c fun _ => .int _))) (sim_bcons sim_var (sim_bcons (sim_ixAV (sim_c fun _ => .int _)) sim_bnil)))))
      sim_next)
      (sim_seq (sim_ifS (sim_test (sim_op so_eqA sim_var (sim_c fun _ => .str _)))
      (sim_ret ((sim_op so_isA (sim_ixAV (sim_ixAV (sim_c fun _ => .int _))) (sim_c fun _ => .non))).toE)
      sim_next)
      (sim_seq (sim_set (sim_lc (vs := [4]) (sim_seqI ((sim_call0 (sim_bcons sim_var sim_bnil))).toF) (sim_name (by decide)) (by decide) (by decide) sim_yes ((sim_call0 (sim_bcons sim_var (sim_bcons sim_var sim_bnil)))).toF) (by decide))
      (sim_seq (sim_ifS (sim_test (sim_op so_eqA sim_var (sim_c fun _ => .str _)))
      (sim_ret (sim_call0 (sim_bcons sim_var sim_bnil)))
      sim_next)
      (sim_seq (sim_ifS (sim_test (sim_op so_eqA sim_var (sim_c fun _ => .str _)))
      (sim_ret (sim_call0 (sim_bcons sim_var sim_bnil)))
      sim_next)
      (sim_seq (sim_ifS (sim_test (sim_op so_eqA sim_var (sim_c fun _ => .str _)))
      (sim_ret (sim_call0 (sim_bcons (sim_ixAV (sim_c fun _ => .int _)) sim_bnil)))
      sim_next)
      (sim_ret ((sim_op so_notA (sim_ixAV (sim_c fun _ => .int _)) (sim_c fun _ => .bl _))).toE))))))))
      (by decide) (by decide) h
theorem ok_holds (T : Txt K mg) : FnOk P w K mg base CX0 24 T.a_holds T.d_holds ["predicate", "row"] (SpM K (ctb T) [] m_holds) := by
  refine T.F_holds.ok sc_holds (fun vs H Q E h => SpM.len (np := 2) (n := 2) h) (fun cdv A outer s H vs Q E hr h => ⟨_, (pss_one (ps_ret (pe_cmpR op_isA (pe_call (ok_truth T 20) (hr.mono (by decide)) (by rfl) T.g_truth T.F_truth.kp T.b_truth .nil pass0 (pa_cons (pv 0) (pa_cons (pv 1) pa_nil))) pe_bl (nomark _)))), ?_⟩)
  exact sim_fn (ct := ctb T) (ms := []) (np := 2) (N := N_holds)
      (sim_ret ((sim_op so_isA ((sim_call0 (sim_bcons sim_var (sim_bcons sim_var sim_bnil)))).toF (sim_c fun _ => .bl _))).toE)
      (by decide) (by decide) h
theorem ok_numbers_of (T : Txt K mg) : FnOk P w K mg base CX0 23 T.a_numbers_of T.d_numbers_of ["predicates", "column"] (SpM K (ctb T) [] m_numbers_of) := by
  refine T.F_numbers_of.ok sc_numbers_of (fun vs H Q E h => SpM.len (np := 2) (n := 5) h) (fun cdv A outer s H vs Q E hr h => ⟨_, (pss_cons (ps_setLc2 (i := 2) (own := [("predicate", 3), ("node", 4)]) (vs1 := [4]) (tt := tYes) (tt1 := tYes) rfl sc_numbers_of.nd rfl rfl (sw_true rfl rfl rfl (by decide +kernel)) (pi_seq (K := K) rfl (pv 0)) (blkOk_by (own := [("predicate", 3), ("node", 4)]) (N := N_numbers_of) (sc := defScope s_numbers_of) (by decide +kernel)) (by decide) (fun _ _ _ _ _ => (pg_name (i := 3) sc_numbers_of.nd rfl (Or.inl rfl))) (fun _ _ _ _ _ => pts_nil) (fun _ _ _ _ _ => (pi_seq (K := K) rfl (pe_call (ok_comparisons_of T 20) (hr.mono (by decide)) (by rfl) T.g_comparisons_of T.F_comparisons_of.kp T.b_comparisons_of .nil pass0 (pa_cons (pv 3) pa_nil)))) (fun _ _ _ _ _ => (pg_name (i := 4) sc_numbers_of.nd rfl (Or.inl rfl))) (fun _ _ _ _ _ => pts_nil) (fun _ _ _ _ _ => (pv 4)))
      (pss_one (ps_ret (pe_callB (cr_sortedSetW rfl) (by rfl) T.z_sorted (by decide +kernel) (pa_cons (pe_scI (own := [("node", 4)]) rfl sc_numbers_of.nd (pi_seq (K := K) rfl (pv 2)) (blkOk_by (own := [("node", 4)]) (N := N_numbers_of) (sc := defScope s_numbers_of) (by decide +kernel)) (fun _ _ _ _ _ => (pg_name (i := 4) sc_numbers_of.nd rfl (Or.inl rfl))) (fun _ _ _ _ _ => (pts_one (pt_cmpR (op_eqA (K := K) rfl hr.units) (pe_ix (ix_A (K := K) rfl) (pv 4) pe_int (fun _ _ => rfl)) (pv 1) (nomark _)))) (fun _ _ _ _ _ => (pe_ix (ix_A (K := K) rfl) (pv 4) pe_int (fun _ _ => rfl)))) pa_nil))))), ?_⟩)
  exact sim_fn (ct := ctb T) (ms := []) (np := 2) (N := N_numbers_of)
      (sim_seq (sim_set (sim_lc2 (vs := [3, 4]) (vs1 := [4]) (sim_seqI sim_var) (sim_name (by decide)) (by decide) (by decide) sim_yes (sim_seqI ((sim_call0 (sim_bcons sim_var sim_bnil))).toF) (sim_name (by decide)) (by decide) (by decide) sim_yes sim_var) (by decide))
      (sim_ret (sim_sortC (vs := [4]) (sim_seqI sim_var) (sim_name (by decide)) (by decide) (by decide) (sim_test (sim_op so_eqA (sim_ixAV (sim_c fun _ => .int _)) sim_var)) (sim_ixAV (sim_c fun _ => .int _)))))
      (by decide) (by decide) h
theorem ok_class_starts (T : Txt K mg) : FnOk P w K mg base CX0 1 T.a_class_starts T.d_class_starts ["numbers"] (SpM K (ctb T) [] m_class_starts) := by
  refine T.F_class_starts.ok sc_class_starts (fun vs H Q E h => SpM.len (np := 1) (n := 2) h) (fun cdv A outer s H vs Q E hr h => ⟨_, (pss_one (ps_ret (pe_callB (cr_sortedSetW rfl) (by rfl) T.z_sorted (by decide +kernel) (pa_cons (pe_callTy (cr_setOfI rfl) (by rfl) T.z_set (by decide +kernel) (pa_cons (pe_op (op_addA (K := K) rfl) (pe_callTy (cr_list (K := K) rfl) (by rfl) T.z_list (by decide +kernel) (pa_cons (pv 0) pa_nil)) (pe_lc (own := [("number", 1)]) (tt := tYes) rfl sc_class_starts.nd (pi_seq (K := K) rfl (pv 0)) (blkOk_by (own := [("number", 1)]) (N := N_class_starts) (sc := defScope s_class_starts) (by decide +kernel)) (fun _ _ _ _ _ => (pg_name (i := 1) sc_class_starts.nd rfl (Or.inl rfl))) (fun _ _ _ _ _ => pts_nil) (fun _ _ _ _ _ => (pe_op (op_addA (K := K) rfl) (pv 1) pe_int)))) pa_nil)) pa_nil)))), ?_⟩)
  exact sim_fn (ct := ctb T) (ms := []) (np := 1) (N := N_class_starts)
      (sim_ret (sim_sortS ((sim_opE so_addA ((sim_cbL so_list (sim_cons sim_var sim_nil))).toF ((sim_lc (vs := [1]) (sim_seqI sim_var) (sim_name (by decide)) (by decide) (by decide) sim_yes ((sim_opE so_addA sim_var (sim_c fun _ => .int _))).toF)).toF)).toF))
      (by decide) (by decide) h
theorem ok_stand_ins (T : Txt K mg) : FnOk P w K mg base CX0 2 T.a_stand_ins T.d_stand_ins ["numbers"] (SpM K (ctb T) [] m_stand_ins) := by
  refine T.F_stand_ins.ok sc_stand_ins (fun vs H Q E h => SpM.len (np := 1) (n := 1) h) (fun cdv A outer s H vs Q E hr h => ⟨_, (pss_cons (ps_if (pt_not (pt_tru (K := K) rfl (pv 0)))
      (pss_one (ps_ret (pe_lst (pa_cons pe_non (pa_cons pe_int pa_nil)))))
      pss_nil)
      (pss_one (ps_ret (pe_op (op_addA (K := K) rfl) (pe_lst (pa_cons pe_non (pa_cons (pe_op op_sub (pe_ix (ix_A (K := K) rfl) (pv 0) pe_int (fun _ _ => rfl)) pe_int) pa_nil))) (pe_call (ok_class_starts T) (hr.mono (by decide)) (by rfl) T.g_class_starts T.F_class_starts.kp T.b_class_starts .nil pass0 (pa_cons (pv 0) pa_nil)))))), ?_⟩)
  exact sim_fn (ct := ctb T) (ms := []) (np := 1) (N := N_stand_ins)
      (sim_seq (sim_ifS (sim_not (sim_tru sim_var))
      (sim_ret (sim_lst (sim_cons (sim_c fun _ => .non) (sim_cons (sim_c fun _ => .int _) sim_nil))))
      sim_next)
      (sim_ret (sim_opE so_addA ((sim_lst (sim_cons (sim_c fun _ => .non) (sim_cons (sim_op so_sub (sim_ixAV (sim_c fun _ => .int _)) (sim_c fun _ => .int _)) sim_nil)))).toF ((sim_call0 (sim_bcons sim_var sim_bnil))).toF)))
      (by decide) (by decide) h
theorem ok_combine (T : Txt K mg) : FnOk P w K mg base (L2.CX P w) 3 T.a_combine T.d_combine ["choices"] (SpM K (ctb T) [] m_combine) := by
  refine T.F_combine.okX sc_combine (fun vs H Q E h => SpM.len (np := 1) (n := 6) h) (fun cdv A outer s H vs Q E hr h => ⟨_, (pss_cons (ps_set (i := 1) sc_combine.nd rfl (.inl rfl) pe_int)
      (pss_cons (ps_for (passes_of rfl) rfl (pi_seq (K := K) rfl (pv 0)) (pg_name (i := 2) sc_combine.nd rfl (.inr rfl))
      (pss_one (ps_set (i := 1) sc_combine.nd rfl (.inl rfl) (pe_op (op_mulA (K := K) rfl) (pv 1) (pe_callB (cr_len (K := K) rfl) (by rfl) T.z_len PySem.boot_len (pa_cons (pv 2) pa_nil))))))
      (pss_cons (ps_if (pt_cmpR op_gt (pv 1) (pe_glob (v := .int (256)) rfl T.g_MOST_TUPLES ⟨_, rfl⟩) (nomark _))
      (pss_one (ps_raise rfl (takes_of rfl rfl rfl rfl) (pmk_oex T.oc_TooWide T.iC_TooWide T.tI_TooWide (ok_TooWide_init T) (hr.mono (by decide)) T.b_TooWide_init .nil pass0 (by rfl) T.g_TooWide (pa_cons (pv 1) pa_nil))))
      pss_nil)
      (pss_cons (ps_if (pt_cmpR (op_eqA (K := K) rfl hr.units) (pv 1) pe_int (nomark _))
      (pss_one (ps_ret (pe_lst pa_nil)))
      pss_nil)
      (pss_cons (ps_set (i := 3) sc_combine.nd rfl (.inl rfl) (pe_lst (pa_cons (pe_tup pa_nil) pa_nil)))
      (pss_cons (ps_for (passes_of rfl) rfl (pi_seq (K := K) rfl (pv 0)) (pg_name (i := 2) sc_combine.nd rfl (.inr rfl))
      (pss_one (ps_setLc2 (i := 3) (own := [("start", 4), ("item", 5)]) (vs1 := [5]) (tt := tYes) (tt1 := tYes) rfl sc_combine.nd rfl rfl (sw_true rfl rfl rfl (by decide +kernel)) (pi_seq (K := K) rfl (pv 3)) (blkOk_by (own := [("start", 4), ("item", 5)]) (N := N_combine) (sc := defScope s_combine) (by decide +kernel)) (by decide) (fun _ _ _ _ _ => (pg_name (i := 4) sc_combine.nd rfl (Or.inl rfl))) (fun _ _ _ _ _ => pts_nil) (fun _ _ _ _ _ => (pi_seq (K := K) rfl (pv 2))) (fun _ _ _ _ _ => (pg_name (i := 5) sc_combine.nd rfl (Or.inl rfl))) (fun _ _ _ _ _ => pts_nil) (fun _ _ _ _ _ => (pe_tup (pa_starA (K0 := K) rfl (pv 4) (pa_cons (pv 5) pa_nil)))))))
      (pss_one (ps_ret (pv 3))))))))), ?_⟩)
  exact sim_fn (ct := ctb T) (ms := []) (np := 1) (N := N_combine)
      (sim_seq (sim_set ((sim_c fun _ => .int _)).toE (by decide))
      (sim_seq (sim_for (sim_seqI sim_var) (sim_name (by decide))
      (sim_set (sim_opE so_mulA sim_var sim_lenV) (by decide)))
      (sim_seq (sim_ifS (sim_test (sim_op so_gt sim_var (sim_c fun R => .int _)))
      (sim_raise1 (c := 2) rfl rfl (sim_cons sim_var sim_nil))
      sim_next)
      (sim_seq (sim_ifS (sim_test (sim_op so_eqA sim_var (sim_c fun _ => .int _)))
      (sim_ret (sim_lst sim_nil))
      sim_next)
      (sim_seq (sim_set (sim_lst (sim_cons (sim_tup sim_nil) sim_nil)) (by decide))
      (sim_seq (sim_for (sim_seqI sim_var) (sim_name (by decide))
      (sim_set (sim_lc2 (vs := [4, 5]) (vs1 := [5]) (sim_seqI sim_var) (sim_name (by decide)) (by decide) (by decide) sim_yes (sim_seqI sim_var) (sim_name (by decide)) (by decide) (by decide) sim_yes (sim_tup (sim_star sim_var (sim_cons sim_var sim_nil)))) (by decide)))
      (sim_ret (sim_var).toE)))))))
      (by decide) (by decide) h
theorem ok_boxes (T : Txt K mg) : FnOk P w K mg base (L2.CX P w) 24 T.a_boxes T.d_boxes ["predicates", "columns"] (SpM K (ctb T) [] m_boxes) := by
  refine T.F_boxes.ok sc_boxes (fun vs H Q E h => SpM.len (np := 2) (n := 4) h) (fun cdv A outer s H vs Q E hr h => ⟨_, (pss_cons (ps_for (passes_of rfl) rfl (pi_seq (K := K) rfl (pv 0)) (pg_name (i := 2) sc_boxes.nd rfl (.inl rfl))
      (pss_one (ps_expr (pe_callNS (ok_check_predicate T) (hr.mono (by decide)) (by rfl) T.g_check_predicate T.F_check_predicate.kp (kb_check_predicate_columns T).choose_spec (fun σ => passAt (takes_of rfl rfl rfl rfl) σ) (pa_cons (pv 2) pa_nil) (pk_cons (pv 1) pk_nil)))))
      (pss_one (ps_ret (pe_callS (ok_combine T) (hr.mono (by decide)) (by rfl) T.g_combine T.F_combine.kp T.b_combine (fun σ => passAt (takes_of rfl rfl rfl rfl) σ) (pa_cons (pe_lc (own := [("column", 3)]) (tt := tYes) rfl sc_boxes.nd (pi_range1 (by rfl) T.z_range (pa_cons (pv 1) pa_nil)) (blkOk_by (own := [("column", 3)]) (N := N_boxes) (sc := defScope s_boxes) (by decide +kernel)) (fun _ _ _ _ _ => (pg_name (i := 3) sc_boxes.nd rfl (Or.inl rfl))) (fun _ _ _ _ _ => pts_nil) (fun _ _ _ _ _ => (pe_call (ok_stand_ins T) (hr.mono (by decide)) (by rfl) T.g_stand_ins T.F_stand_ins.kp T.b_stand_ins .nil pass0 (pa_cons (pe_call (ok_numbers_of T) (hr.mono (by decide)) (by rfl) T.g_numbers_of T.F_numbers_of.kp T.b_numbers_of .nil pass0 (pa_cons (pv 0) (pa_cons (pv 3) pa_nil))) pa_nil)))) pa_nil))))), ?_⟩)
  exact sim_fn (ct := ctb T) (ms := []) (np := 2) (N := N_boxes)
      (sim_seq (sim_for (sim_seqI sim_var) (sim_name (by decide))
      (sim_drop ((sim_callNS (sim_bcons sim_var sim_bnil) (sim_cons sim_var sim_nil) (fun σ R vs zs as bs h1 h2 => h1.app (h2.app (.of Reps.nil))))).toF))
      (sim_ret (sim_callS (sim_bcons ((sim_lc (vs := [3]) (sim_rg1 (sim_cons sim_var sim_nil)) (sim_name (by decide)) (by decide) (by decide) sim_yes ((sim_call0 (sim_bcons ((sim_call0 (sim_bcons sim_var (sim_bcons sim_var sim_bnil)))).toF sim_bnil))).toF)).toF sim_bnil))))
      (by decide) (by decide) h
theorem ok_worlds (T : Txt K mg) : FnOk P w K mg base (L2.CX P w) 25 T.a_worlds T.d_worlds ["predicates", "columns"] (SpM K (ctb T) [] m_worlds) := by
  refine T.F_worlds.ok sc_worlds (fun vs H Q E h => SpM.len (np := 2) (n := 6) h) (fun cdv A outer s H vs Q E hr h => ⟨_, (pss_cons (ps_set (i := 2) sc_worlds.nd rfl (.inl rfl) pe_dnewB)
      (pss_cons (ps_for (passes_of rfl) rfl (pi_seq (K := K) rfl (pe_callNS (ok_boxes T) (hr.mono (by decide)) (by rfl) T.g_boxes T.F_boxes.kp (kb_boxes_columns T).choose_spec (fun σ => passAt (takes_of rfl rfl rfl rfl) σ) (pa_cons (pv 0) pa_nil) (pk_cons (pv 1) pk_nil))) (pg_name (i := 3) sc_worlds.nd rfl (.inr rfl))
      (pss_cons (ps_set (i := 4) sc_worlds.nd rfl (.inl rfl) (pe_callTy (cr_tuple (K := K) rfl) (by rfl) T.z_tuple (by decide +kernel) (pa_cons (pe_lc (own := [("predicate", 5)]) (tt := tYes) rfl sc_worlds.nd (pi_seq (K := K) rfl (pv 0)) (blkOk_by (own := [("predicate", 5)]) (N := N_worlds) (sc := defScope s_worlds) (by decide +kernel)) (fun _ _ _ _ _ => (pg_name (i := 5) sc_worlds.nd rfl (Or.inl rfl))) (fun _ _ _ _ _ => pts_nil) (fun _ _ _ _ _ => (pe_call (ok_holds T) (hr.mono (by decide)) (by rfl) T.g_holds T.F_holds.kp T.b_holds .nil pass0 (pa_cons (pv 5) (pa_cons (pv 3) pa_nil))))) pa_nil)))
      (pss_one (ps_if (pt_cmpR (op_notInBA (K := K) rfl (units1 hr)) (pv 4) (pv 2) (by rfl))
      (pss_one (ps_asg (pv 3) (pg_sub (pv 2) (pv 4) (set_dicBA (K := K) rfl (units1 hr)))))
      pss_nil))))
      (pss_one (ps_ret (pe_itemsB rfl (pv 2) (by rfl) T.z_list (by decide +kernel)))))), ?_⟩)
  exact sim_fn (ct := ctb T) (ms := []) (np := 2) (N := N_worlds)
      (sim_seq (sim_set sim_newD (by decide))
      (sim_seq (sim_for (sim_seqI ((sim_callNS (sim_bcons sim_var sim_bnil) (sim_cons sim_var sim_nil) (fun σ R vs zs as bs h1 h2 => h1.app (h2.app (.of Reps.nil))))).toF) (sim_name (by decide))
      (sim_seq (sim_set ((sim_cb so_tuple (sim_cons ((sim_lc (vs := [5]) (sim_seqI sim_var) (sim_name (by decide)) (by decide) (by decide) sim_yes ((sim_call0 (sim_bcons sim_var (sim_bcons sim_var sim_bnil)))).toF)).toF sim_nil))).toE (by decide))
      (sim_ifS (sim_test (sim_inD sim_var))
      (sim_setD sim_var sim_var)
      sim_next)))
      (sim_ret sim_items)))
      (by decide) (by decide) h
theorem ok_stream (T : Txt K mg) : FnOk P w K mg base CX0 1 T.a_stream T.d_stream ["_law_script"] (SpM K (ctb T) [] m_stream) := by
  refine T.F_stream.ok sc__law_stream (fun vs H Q E h => SpM.len (np := 1) (n := 1) h) (fun cdv A outer s H vs Q E hr h => ⟨_, (pss_one (ps_ret (pe_lst (pa_cons (pe_callTy (cr_list (K := K) rfl) (by rfl) T.z_list (by decide +kernel) (pa_cons (pv 0) pa_nil)) (pa_cons pe_int (pa_cons pe_int (pa_cons pe_int pa_nil))))))), ?_⟩)
  exact sim_fn (ct := ctb T) (ms := []) (np := 1) (N := N__law_stream)
      (sim_ret (sim_lst (sim_cons ((sim_cbL so_list (sim_cons sim_var sim_nil))).toF (sim_cons (sim_c fun _ => .int _) (sim_cons (sim_c fun _ => .int _) (sim_cons (sim_c fun _ => .int _) sim_nil))))))
      (by decide) (by decide) h
theorem ok_draw (T : Txt K mg) : FnOk P w K mg base CX0 1 T.a_draw T.d_draw ["_law_stream_here", "_law_many"] (SpM K (ctb T) [0] m_draw) := by
  refine T.F_draw.ok sc__law_draw (fun vs H Q E h => SpM.len (np := 2) (n := 5) h) (fun cdv A outer s H vs Q E hr h => ⟨_, (pss_cons (ps_if (PW.pt (pw_and (PW.pt (pw_or (pt_cmpR (op_eqA (K := K) rfl hr.units) (pe_ix (ix_A (K := K) rfl) (pv 0) pe_int (fun _ _ => rfl)) pe_int (nomark _)) (pw_or1 (pt_cmpR (op_eqA (K := K) rfl hr.units) (pe_ix (ix_A (K := K) rfl) (pv 0) pe_int (fun _ _ => rfl)) pe_int (nomark _))))) (pw_and1 (pt_cmpR op_lt (pe_ix (ix_A (K := K) rfl) (pv 0) pe_int (fun _ _ => rfl)) (pe_callB (cr_len (K := K) rfl) (by rfl) T.z_len PySem.boot_len (pa_cons (pe_ix (ix_A (K := K) rfl) (pv 0) pe_int (fun _ _ => rfl)) pa_nil)) (nomark _)))))
      (pss_cons (ps_set (i := 2) sc__law_draw.nd rfl (.inl rfl) (pe_ix (ix_A (K := K) rfl) (pv 0) pe_int (fun _ _ => rfl)))
      (pss_cons (ps_set (i := 3) sc__law_draw.nd rfl (.inl rfl) (pe_ix (ix_A (K := K) rfl) (pe_ix (ix_A (K := K) rfl) (pv 0) pe_int (fun _ _ => rfl)) (pv 2) (fun _ _ => rfl)))
      (pss_cons (ps_set (i := 4) sc__law_draw.nd rfl (.inl rfl) (pe_op (op_addA (K := K) rfl) (pe_op (op_mulA (K := K) rfl) pe_int (pe_callB call_abs (by rfl) T.z_abs (by decide +kernel) (pa_cons (pv 3) pa_nil))) (pe_callTy call_int1 (by rfl) T.z_int (by decide +kernel) (pa_cons (pe_cmpR op_lt (pv 3) pe_int (nomark _)) pa_nil))))
      (pss_cons (ps_if (pt_cmpR op_lt (pv 4) (pe_op (op_mulA (K := K) rfl) pe_int (pe_op op_pow pe_int pe_int)) (nomark _))
      (pss_cons (ps_set (i := 4) sc__law_draw.nd rfl (.inl rfl) (pe_op op_mod (pe_callTy call_int1 (by rfl) T.z_int (by decide +kernel) (pa_cons (pe_op (op_addA (K := K) rfl) (pe_op (op_mulA (K := K) rfl) (pv 4) pe_int) (pe_op (op_mulA (K := K) rfl) (pe_op (op_addA (K := K) rfl) (pe_op (op_mulA (K := K) rfl) (pv 2) (pv 2)) pe_int) pe_int)) pa_nil)) pe_int))
      (pss_one (ps_set (i := 4) sc__law_draw.nd rfl (.inl rfl) (pe_op op_mod (pe_callTy call_int1 (by rfl) T.z_int (by decide +kernel) (pa_cons (pe_op (op_addA (K := K) rfl) (pe_op (op_addA (K := K) rfl) (pe_op (op_mulA (K := K) rfl) (pe_op (op_mulA (K := K) rfl) (pv 4) (pv 4)) pe_int) (pe_op (op_mulA (K := K) rfl) (pv 4) pe_int)) pe_int) pa_nil)) pe_int))))
      pss_nil)
      (pss_cons (ps_asg (pe_op (op_addA (K := K) rfl) (pv 2) pe_int) (pg_sub (pv 0) pe_int set_list))
      (pss_cons (ps_asg (pv 4) (pg_sub (pv 0) pe_int set_list))
      (pss_one (ps_asg pe_int (pg_sub (pv 0) pe_int set_list)))))))))
      pss_nil)
      (pss_cons (ps_if (pt_cmpR (op_eqA (K := K) rfl hr.units) (pe_ix (ix_A (K := K) rfl) (pv 0) pe_int (fun _ _ => rfl)) pe_int (nomark _))
      (pss_one (ps_ret pe_int))
      pss_nil)
      (pss_cons (ps_set (i := 4) sc__law_draw.nd rfl (.inl rfl) (pe_ix (ix_A (K := K) rfl) (pv 0) pe_int (fun _ _ => rfl)))
      (pss_cons (ps_asg (pe_op op_fdivW (pv 4) (pv 1)) (pg_sub (pv 0) pe_int set_list))
      (pss_cons (ps_asg (pe_op op_sub (pe_ix (ix_A (K := K) rfl) (pv 0) pe_int (fun _ _ => rfl)) pe_int) (pg_sub (pv 0) pe_int set_list))
      (pss_one (ps_ret (pe_op op_mod (pe_callTy call_int1 (by rfl) T.z_int (by decide +kernel) (pa_cons (pv 4) pa_nil)) (pv 1))))))))), ?_⟩)
  exact sim_fn (ct := ctb T) (ms := [0]) (np := 2) (N := N__law_draw)
      (sim_seq (sim_ifS (sim_and (sim_or (sim_test (sim_op so_eqA (sim_ixAV (sim_c fun _ => .int _)) (sim_c fun _ => .int _))) (sim_test (sim_op so_eqA (sim_ixAV (sim_c fun _ => .int _)) (sim_c fun _ => .int _)))) (sim_test (sim_op so_lt (sim_ixAV (sim_c fun _ => .int _)) (sim_cb so_len (sim_cons (sim_ixAV (sim_c fun _ => .int _)) sim_nil)))))
      (sim_seq (sim_set ((sim_ixAV (sim_c fun _ => .int _))).toE (by decide))
      (sim_seq (sim_set ((sim_op so_ixA (sim_ixAV (sim_c fun _ => .int _)) sim_var)).toE (by decide))
      (sim_seq (sim_set (sim_opE so_addA ((sim_opE so_mulA (sim_c fun _ => .int _) (sim_cb so_abs (sim_cons sim_var sim_nil)))).toF (sim_cb so_int (sim_cons (sim_op so_lt sim_var (sim_c fun _ => .int _)) sim_nil))) (by decide))
      (sim_seq (sim_ifS (sim_test (sim_op so_lt sim_var ((sim_opE so_mulA (sim_c fun _ => .int _) (sim_op so_pow (sim_c fun _ => .int _) (sim_c fun _ => .int _)))).toF))
      (sim_seq (sim_set ((sim_op so_mod (sim_cb so_int (sim_cons ((sim_opE so_addA ((sim_opE so_mulA sim_var (sim_c fun _ => .int _))).toF ((sim_opE so_mulA ((sim_opE so_addA ((sim_opE so_mulA sim_var sim_var)).toF (sim_c fun _ => .int _))).toF (sim_c fun _ => .int _))).toF)).toF sim_nil)) (sim_c fun _ => .int _))).toE (by decide))
      (sim_set ((sim_op so_mod (sim_cb so_int (sim_cons ((sim_opE so_addA ((sim_opE so_addA ((sim_opE so_mulA ((sim_opE so_mulA sim_var sim_var)).toF (sim_c fun _ => .int _))).toF ((sim_opE so_mulA sim_var (sim_c fun _ => .int _))).toF)).toF (sim_c fun _ => .int _))).toF sim_nil)) (sim_c fun _ => .int _))).toE (by decide)))
      sim_next)
      (sim_seq (sim_setIx ((sim_opE so_addA sim_var (sim_c fun _ => .int _))).toF (sim_c fun _ => .int _))
      (sim_seq (sim_setIx sim_var (sim_c fun _ => .int _))
      (sim_setIx (sim_c fun _ => .int _) (sim_c fun _ => .int _))))))))
      sim_next)
      (sim_seq (sim_ifS (sim_test (sim_op so_eqA (sim_ixAV (sim_c fun _ => .int _)) (sim_c fun _ => .int _)))
      (sim_ret ((sim_c fun _ => .int _)).toE)
      sim_next)
      (sim_seq (sim_set ((sim_ixAV (sim_c fun _ => .int _))).toE (by decide))
      (sim_seq (sim_setIx (sim_op so_div sim_var sim_var) (sim_c fun _ => .int _))
      (sim_seq (sim_setIx (sim_op so_sub (sim_ixAV (sim_c fun _ => .int _)) (sim_c fun _ => .int _)) (sim_c fun _ => .int _))
      (sim_ret ((sim_op so_mod (sim_cb so_int (sim_cons sim_var sim_nil)) sim_var)).toE))))))
      (by decide) (by decide) h
theorem ok_number (T : Txt K mg) : FnOk P w K mg base CX0 2 T.a_number T.d_number ["_law_stream_here", "_law_most"] (SpM K (ctb T) [0] m_number) := by
  refine T.F_number.ok sc__law_number (fun vs H Q E h => SpM.len (np := 2) (n := 3) h) (fun cdv A outer s H vs Q E hr h => ⟨_, (pss_cons (ps_set (i := 2) sc__law_number.nd rfl (.inl rfl) (pe_call (ok_draw T) (hr.mono (by decide)) (by rfl) T.g_draw T.F_draw.kp T.b_draw .nil pass0 (pa_cons (pv 0) (pa_cons pe_int pa_nil))))
      (pss_cons (ps_if (pt_cmpR (op_eqA (K := K) rfl hr.units) (pv 2) pe_int (nomark _))
      (pss_one (ps_ret (pe_op op_sub (pe_call (ok_draw T) (hr.mono (by decide)) (by rfl) T.g_draw T.F_draw.kp T.b_draw .nil pass0 (pa_cons (pv 0) (pa_cons (pe_op (op_addA (K := K) rfl) (pe_op (op_mulA (K := K) rfl) pe_int (pv 1)) pe_int) pa_nil))) (pv 1))))
      pss_nil)
      (pss_cons (ps_if (pt_cmpR (op_eqA (K := K) rfl hr.units) (pv 2) pe_int (nomark _))
      (pss_one (ps_ret (pe_op (op_mulA (K := K) rfl) (pe_op op_sub (pv 1) (pe_call (ok_draw T) (hr.mono (by decide)) (by rfl) T.g_draw T.F_draw.kp T.b_draw .nil pass0 (pa_cons (pv 0) (pa_cons pe_int pa_nil)))) (pe_op op_sub pe_int (pe_op (op_mulA (K := K) rfl) pe_int (pe_call (ok_draw T) (hr.mono (by decide)) (by rfl) T.g_draw T.F_draw.kp T.b_draw .nil pass0 (pa_cons (pv 0) (pa_cons pe_int pa_nil))))))))
      pss_nil)
      (pss_one (ps_ret (pe_op op_sub (pe_call (ok_draw T) (hr.mono (by decide)) (by rfl) T.g_draw T.F_draw.kp T.b_draw .nil pass0 (pa_cons (pv 0) (pa_cons pe_int pa_nil))) pe_int)))))), ?_⟩)
  exact sim_fn (ct := ctb T) (ms := [0]) (np := 2) (N := N__law_number)
      (sim_seq (sim_set (sim_call0 (sim_bslot (sim_bcons (sim_c fun _ => .int _) sim_bnil))) (by decide))
      (sim_seq (sim_ifS (sim_test (sim_op so_eqA sim_var (sim_c fun _ => .int _)))
      (sim_ret ((sim_op so_sub ((sim_call0 (sim_bslot (sim_bcons ((sim_opE so_addA ((sim_opE so_mulA (sim_c fun _ => .int _) sim_var)).toF (sim_c fun _ => .int _))).toF sim_bnil)))).toF sim_var)).toE)
      sim_next)
      (sim_seq (sim_ifS (sim_test (sim_op so_eqA sim_var (sim_c fun _ => .int _)))
      (sim_ret (sim_opE so_mulA (sim_op so_sub sim_var ((sim_call0 (sim_bslot (sim_bcons (sim_c fun _ => .int _) sim_bnil)))).toF) (sim_op so_sub (sim_c fun _ => .int _) ((sim_opE so_mulA (sim_c fun _ => .int _) ((sim_call0 (sim_bslot (sim_bcons (sim_c fun _ => .int _) sim_bnil)))).toF)).toF)))
      sim_next)
      (sim_ret ((sim_op so_sub ((sim_call0 (sim_bslot (sim_bcons (sim_c fun _ => .int _) sim_bnil)))).toF (sim_c fun _ => .int _))).toE))))
      (by decide) (by decide) h
theorem ok_pool (T : Txt K mg) : FnOk P w K mg base CX0 3 T.a_pool T.d_pool ["_law_stream_here", "_law_wide"] (SpM K (ctb T) [0] m_pool) := by
  refine T.F_pool.ok sc__law_pool (fun vs H Q E h => SpM.len (np := 2) (n := 6) h) (fun cdv A outer s H vs Q E hr h => ⟨_, (pss_cons (ps_set (i := 2) sc__law_pool.nd rfl (.inl rfl) (pe_lst pa_nil))
      (pss_cons (ps_for PassesOwn.never rfl (pi_range1 (by rfl) T.z_range (pa_cons (pv 1) pa_nil)) (pg_name (i := 3) sc__law_pool.nd rfl (.inl rfl))
      (pss_cons (ps_set (i := 4) sc__law_pool.nd rfl (.inl rfl) (pe_lst (pa_cons (pe_call (ok_number T) (hr.mono (by decide)) (by rfl) T.g_number T.F_number.kp T.b_number .nil pass0 (pa_cons (pv 0) (pa_cons (pe_op op_sub (pe_op op_pow pe_int pe_int) pe_int) pa_nil))) pa_nil)))
      (pss_cons (ps_for PassesOwn.never rfl (pi_range1 (by rfl) T.z_range (pa_cons (pe_call (ok_draw T) (hr.mono (by decide)) (by rfl) T.g_draw T.F_draw.kp T.b_draw .nil pass0 (pa_cons (pv 0) (pa_cons (pe_ix (ix_A (K := K) rfl) (pe_lst (pa_cons pe_int (pa_cons pe_int (pa_cons pe_int pa_nil)))) (pe_op op_sub (pv 1) pe_int) (fun _ _ => rfl)) pa_nil))) pa_nil)) (pg_name (i := 5) sc__law_pool.nd rfl (.inl rfl))
      (pss_one (ps_if (PW.pt (pw_and (pt_cmpR op_lt (pe_ix (ix_A (K := K) rfl) (pv 4) (pv 5) (fun _ _ => rfl)) (pe_op op_sub (pe_op op_pow pe_int pe_int) pe_int) (nomark _)) (pw_and1 (pt_cmpR (op_eqA (K := K) rfl hr.units) (pe_call (ok_draw T) (hr.mono (by decide)) (by rfl) T.g_draw T.F_draw.kp T.b_draw .nil pass0 (pa_cons (pv 0) (pa_cons pe_int pa_nil))) pe_int (nomark _)))))
      (pss_one (ps_expr (pe_bmA (f := fun K => tBM K "list" rAppend (tVar 4) _) rfl (pe_bm PySem.F.plainAttrs_list PySem.F.slot_list_append PySem.F.type_list_append mt_append (pv 4) (pa_cons (pe_op (op_addA (K := K) rfl) (pe_ix (ix_A (K := K) rfl) (pv 4) (pv 5) (fun _ _ => rfl)) (pe_call (ok_draw T) (hr.mono (by decide)) (by rfl) T.g_draw T.F_draw.kp T.b_draw .nil pass0 (pa_cons (pv 0) (pa_cons pe_int pa_nil)))) pa_nil)))))
      (pss_one (ps_expr (pe_bmA (f := fun K => tBM K "list" rAppend (tVar 4) _) rfl (pe_bm PySem.F.plainAttrs_list PySem.F.slot_list_append PySem.F.type_list_append mt_append (pv 4) (pa_cons (pe_call (ok_number T) (hr.mono (by decide)) (by rfl) T.g_number T.F_number.kp T.b_number .nil pass0 (pa_cons (pv 0) (pa_cons (pe_op op_sub (pe_op op_pow pe_int pe_int) pe_int) pa_nil))) pa_nil))))))))
      (pss_one (ps_expr (pe_bmA (f := fun K => tBM K "list" rAppend (tVar 2) _) rfl (pe_bm PySem.F.plainAttrs_list PySem.F.slot_list_append PySem.F.type_list_append mt_append (pv 2) (pa_cons (pv 4) pa_nil))))))))
      (pss_one (ps_ret (pv 2))))), ?_⟩)
  exact sim_fn (ct := ctb T) (ms := [0]) (np := 2) (N := N__law_pool)
      (sim_seq (sim_set (sim_lst sim_nil) (by decide))
      (sim_seq (sim_for (sim_rg1 (sim_cons sim_var sim_nil)) (sim_name (by decide))
      (sim_seq (sim_set (sim_lst (sim_cons ((sim_call0 (sim_bslot (sim_bcons (sim_op so_sub (sim_op so_pow (sim_c fun _ => .int _) (sim_c fun _ => .int _)) (sim_c fun _ => .int _)) sim_bnil)))).toF sim_nil)) (by decide))
      (sim_seq (sim_for (sim_rg1 (sim_cons ((sim_call0 (sim_bslot (sim_bcons (sim_op so_ixA ((sim_lst (sim_cons (sim_c fun _ => .int _) (sim_cons (sim_c fun _ => .int _) (sim_cons (sim_c fun _ => .int _) sim_nil))))).toF (sim_op so_sub sim_var (sim_c fun _ => .int _))) sim_bnil)))).toF sim_nil)) (sim_name (by decide))
      (sim_ifS (sim_and (sim_test (sim_op so_lt (sim_ixAV sim_var) (sim_op so_sub (sim_op so_pow (sim_c fun _ => .int _) (sim_c fun _ => .int _)) (sim_c fun _ => .int _)))) (sim_test (sim_op so_eqA ((sim_call0 (sim_bslot (sim_bcons (sim_c fun _ => .int _) sim_bnil)))).toF (sim_c fun _ => .int _))))
      (sim_drop (sim_append (sim_cons ((sim_opE so_addA (sim_ixAV sim_var) ((sim_call0 (sim_bslot (sim_bcons (sim_c fun _ => .int _) sim_bnil)))).toF)).toF sim_nil)))
      (sim_drop (sim_append (sim_cons ((sim_call0 (sim_bslot (sim_bcons (sim_op so_sub (sim_op so_pow (sim_c fun _ => .int _) (sim_c fun _ => .int _)) (sim_c fun _ => .int _)) sim_bnil)))).toF sim_nil)))))
      (sim_drop (sim_append (sim_cons sim_var sim_nil))))))
      (sim_ret (sim_var).toE)))
      (by decide) (by decide) h
theorem ok_leaf (T : Txt K mg) : FnOk P w K mg base CX0 2 T.a_leaf T.d_leaf ["_law_stream_here", "_law_pool_here"] (SpM K (ctb T) [0] m_leaf) := by
  refine T.F_leaf.ok sc__law_leaf (fun vs H Q E h => SpM.len (np := 2) (n := 5) h) (fun cdv A outer s H vs Q E hr h => ⟨_, (pss_cons (ps_set (i := 2) sc__law_leaf.nd rfl (.inl rfl) (pe_call (ok_draw T) (hr.mono (by decide)) (by rfl) T.g_draw T.F_draw.kp T.b_draw .nil pass0 (pa_cons (pv 0) (pa_cons pe_int pa_nil))))
      (pss_cons (ps_if (pt_cmpR (op_eqA (K := K) rfl hr.units) (pv 2) pe_int (nomark _))
      (pss_one (ps_ret (pe_tup (pa_cons (pe_ix (ix_A (K := K) rfl) (pe_lst (pa_cons pe_str (pa_cons pe_str pa_nil))) (pe_call (ok_draw T) (hr.mono (by decide)) (by rfl) T.g_draw T.F_draw.kp T.b_draw .nil pass0 (pa_cons (pv 0) (pa_cons pe_int pa_nil))) (fun _ _ => rfl)) (pa_cons pe_int pa_nil)))))
      pss_nil)
      (pss_cons (ps_set (i := 3) sc__law_leaf.nd rfl (.inl rfl) (pe_call (ok_draw T) (hr.mono (by decide)) (by rfl) T.g_draw T.F_draw.kp T.b_draw .nil pass0 (pa_cons (pv 0) (pa_cons (pe_callB (cr_len (K := K) rfl) (by rfl) T.z_len PySem.boot_len (pa_cons (pv 1) pa_nil)) pa_nil))))
      (pss_cons (ps_if (pt_cmpR (op_eqA (K := K) rfl hr.units) (pv 2) pe_int (nomark _))
      (pss_one (ps_ret (pe_tup (pa_cons pe_str (pa_cons (pv 3) pa_nil)))))
      pss_nil)
      (pss_cons (ps_set (i := 4) sc__law_leaf.nd rfl (.inl rfl) (pe_ix (ix_A (K := K) rfl) (pe_lst (pa_cons pe_str (pa_cons pe_str (pa_cons pe_str (pa_cons pe_str (pa_cons pe_str (pa_cons pe_str pa_nil))))))) (pe_call (ok_draw T) (hr.mono (by decide)) (by rfl) T.g_draw T.F_draw.kp T.b_draw .nil pass0 (pa_cons (pv 0) (pa_cons pe_int pa_nil))) (fun _ _ => rfl)))
      (pss_one (ps_ret (pe_tup (pa_cons (pv 4) (pa_cons (pv 3) (pa_cons (pe_ix (ix_A (K := K) rfl) (pe_ix (ix_A (K := K) rfl) (pv 1) (pv 3) (fun _ _ => rfl)) (pe_call (ok_draw T) (hr.mono (by decide)) (by rfl) T.g_draw T.F_draw.kp T.b_draw .nil pass0 (pa_cons (pv 0) (pa_cons (pe_callB (cr_len (K := K) rfl) (by rfl) T.z_len PySem.boot_len (pa_cons (pe_ix (ix_A (K := K) rfl) (pv 1) (pv 3) (fun _ _ => rfl)) pa_nil)) pa_nil))) (fun _ _ => rfl)) pa_nil))))))))))), ?_⟩)
  exact sim_fn (ct := ctb T) (ms := [0]) (np := 2) (N := N__law_leaf)
      (sim_seq (sim_set (sim_call0 (sim_bslot (sim_bcons (sim_c fun _ => .int _) sim_bnil))) (by decide))
      (sim_seq (sim_ifS (sim_test (sim_op so_eqA sim_var (sim_c fun _ => .int _)))
      (sim_ret ((sim_tup (sim_cons (sim_op so_ixA ((sim_lst (sim_cons (sim_c fun _ => .str _) (sim_cons (sim_c fun _ => .str _) sim_nil)))).toF ((sim_call0 (sim_bslot (sim_bcons (sim_c fun _ => .int _) sim_bnil)))).toF) (sim_cons (sim_c fun _ => .int _) sim_nil)))).toE)
      sim_next)
      (sim_seq (sim_set (sim_call0 (sim_bslot (sim_bcons sim_lenV sim_bnil))) (by decide))
      (sim_seq (sim_ifS (sim_test (sim_op so_eqA sim_var (sim_c fun _ => .int _)))
      (sim_ret ((sim_tup (sim_cons (sim_c fun _ => .str _) (sim_cons sim_var sim_nil)))).toE)
      sim_next)
      (sim_seq (sim_set ((sim_op so_ixA ((sim_lst (sim_cons (sim_c fun _ => .str _) (sim_cons (sim_c fun _ => .str _) (sim_cons (sim_c fun _ => .str _) (sim_cons (sim_c fun _ => .str _) (sim_cons (sim_c fun _ => .str _) (sim_cons (sim_c fun _ => .str _) sim_nil)))))))).toF ((sim_call0 (sim_bslot (sim_bcons (sim_c fun _ => .int _) sim_bnil)))).toF)).toE (by decide))
      (sim_ret ((sim_tup (sim_cons sim_var (sim_cons sim_var (sim_cons (sim_op so_ixA (sim_ixAV sim_var) ((sim_call0 (sim_bslot (sim_bcons (sim_cb so_len (sim_cons (sim_ixAV sim_var) sim_nil)) sim_bnil)))).toF) sim_nil))))).toE))))))
      (by decide) (by decide) h
theorem ok_recipe (T : Txt K mg) : FnOk P w K mg base CX0 3 T.a_recipe T.d_recipe ["_law_stream_here", "_law_pool_here", "_law_most"] (SpM K (ctb T) [0] m_recipe) := by
  refine T.F_recipe.ok sc__law_recipe (fun vs H Q E h => SpM.len (np := 3) (n := 9) h) (fun cdv A outer s H vs Q E hr h => ⟨_, (pss_cons (ps_set (i := 3) sc__law_recipe.nd rfl (.inl rfl) (pe_lst pa_nil))
      (pss_cons (ps_set (i := 4) sc__law_recipe.nd rfl (.inl rfl) pe_int)
      (pss_cons (ps_set (i := 5) sc__law_recipe.nd rfl (.inl rfl) (pe_op (op_addA (K := K) rfl) pe_int (pe_call (ok_draw T) (hr.mono (by decide)) (by rfl) T.g_draw T.F_draw.kp T.b_draw .nil pass0 (pa_cons (pv 0) (pa_cons (pv 2) pa_nil)))))
      (pss_cons (ps_for PassesOwn.never rfl (pi_range1 (by rfl) T.z_range (pa_cons (pv 5) pa_nil)) (pg_name (i := 6) sc__law_recipe.nd rfl (.inl rfl))
      (pss_cons (ps_set (i := 7) sc__law_recipe.nd rfl (.inl rfl) (pe_call (ok_draw T) (hr.mono (by decide)) (by rfl) T.g_draw T.F_draw.kp T.b_draw .nil pass0 (pa_cons (pv 0) (pa_cons pe_int pa_nil))))
      (pss_cons (ps_set (i := 8) sc__law_recipe.nd rfl (.inl rfl) (pv 4))
      (pss_cons (ps_if (pt_cmpR op_lt (pe_op (op_addA (K := K) rfl) (pv 6) pe_int) (pv 5) (nomark _))
      (pss_one (ps_set (i := 8) sc__law_recipe.nd rfl (.inl rfl) (pe_call (ok_draw T) (hr.mono (by decide)) (by rfl) T.g_draw T.F_draw.kp T.b_draw .nil pass0 (pa_cons (pv 0) (pa_cons (pe_op (op_addA (K := K) rfl) (pv 4) pe_int) pa_nil)))))
      pss_nil)
      (pss_one (ps_if (PW.pt (pw_or (pt_cmpR (op_eqA (K := K) rfl hr.units) (pv 4) pe_int (nomark _)) (pw_or1 (PW.pt (pw_and (pt_cmpR op_lt (pv 7) pe_int (nomark _)) (pw_and1 (pt_cmpR op_lt (pe_op (op_addA (K := K) rfl) (pv 6) pe_int) (pv 5) (nomark _))))))))
      (pss_cons (ps_expr (pe_bmA (f := fun K => tBM K "list" rAppend (tVar 3) _) rfl (pe_bm PySem.F.plainAttrs_list PySem.F.slot_list_append PySem.F.type_list_append mt_append (pv 3) (pa_cons (pe_call (ok_leaf T) (hr.mono (by decide)) (by rfl) T.g_leaf T.F_leaf.kp T.b_leaf .nil pass0 (pa_cons (pv 0) (pa_cons (pv 1) pa_nil))) pa_nil))))
      (pss_one (ps_set (i := 4) sc__law_recipe.nd rfl (.inl rfl) (pe_op (op_addA (K := K) rfl) (pv 4) pe_int))))
      (pss_one (ps_if (PW.pt (pw_and (pt_cmpR op_lt (pv 7) pe_int (nomark _)) (pw_and1 (PW.pt (pw_or (pt_cmpR op_lt (pe_op (op_addA (K := K) rfl) (pv 6) pe_int) (pv 5) (nomark _)) (pw_or1 (pt_cmpR (op_eqA (K := K) rfl hr.units) (pv 4) pe_int (nomark _))))))))
      (pss_one (ps_expr (pe_bmA (f := fun K => tBM K "list" rAppend (tVar 3) _) rfl (pe_bm PySem.F.plainAttrs_list PySem.F.slot_list_append PySem.F.type_list_append mt_append (pv 3) (pa_cons (pe_tup (pa_cons (pe_ix (ix_A (K := K) rfl) (pe_lst (pa_cons pe_str (pa_cons pe_str pa_nil))) (pe_op op_mod (pe_callTy call_int1 (by rfl) T.z_int (by decide +kernel) (pa_cons (pv 7) pa_nil)) pe_int) (fun _ _ => rfl)) pa_nil)) pa_nil)))))
      (pss_cons (ps_expr (pe_bmA (f := fun K => tBM K "list" rAppend (tVar 3) _) rfl (pe_bm PySem.F.plainAttrs_list PySem.F.slot_list_append PySem.F.type_list_append mt_append (pv 3) (pa_cons (pe_tup (pa_cons (pe_ix (ix_A (K := K) rfl) (pe_lst (pa_cons pe_str (pa_cons pe_str pa_nil))) (pe_op op_mod (pe_callTy call_int1 (by rfl) T.z_int (by decide +kernel) (pa_cons (pv 7) pa_nil)) pe_int) (fun _ _ => rfl)) (pa_cons (pv 8) pa_nil))) pa_nil))))
      (pss_one (ps_set (i := 4) sc__law_recipe.nd rfl (.inl rfl) (pe_op op_sub (pe_op (op_addA (K := K) rfl) (pv 4) pe_int) (pv 8)))))))))))))
      (pss_one (ps_ret (pv 3))))))), ?_⟩)
  exact sim_fn (ct := ctb T) (ms := [0]) (np := 3) (N := N__law_recipe)
      (sim_seq (sim_set (sim_lst sim_nil) (by decide))
      (sim_seq (sim_set ((sim_c fun _ => .int _)).toE (by decide))
      (sim_seq (sim_set (sim_opE so_addA (sim_c fun _ => .int _) ((sim_call0 (sim_bslot (sim_bcons sim_var sim_bnil)))).toF) (by decide))
      (sim_seq (sim_for (sim_rg1 (sim_cons sim_var sim_nil)) (sim_name (by decide))
      (sim_seq (sim_set (sim_call0 (sim_bslot (sim_bcons (sim_c fun _ => .int _) sim_bnil))) (by decide))
      (sim_seq (sim_set (sim_var).toE (by decide))
      (sim_seq (sim_ifS (sim_test (sim_op so_lt ((sim_opE so_addA sim_var (sim_c fun _ => .int _))).toF sim_var))
      (sim_set (sim_call0 (sim_bslot (sim_bcons ((sim_opE so_addA sim_var (sim_c fun _ => .int _))).toF sim_bnil))) (by decide))
      sim_next)
      (sim_ifS (sim_or (sim_test (sim_op so_eqA sim_var (sim_c fun _ => .int _))) (sim_and (sim_test (sim_op so_lt sim_var (sim_c fun _ => .int _))) (sim_test (sim_op so_lt ((sim_opE so_addA sim_var (sim_c fun _ => .int _))).toF sim_var))))
      (sim_seq (sim_drop (sim_append (sim_cons ((sim_call0 (sim_bslot (sim_bcons sim_var sim_bnil)))).toF sim_nil)))
      (sim_set (sim_opE so_addA sim_var (sim_c fun _ => .int _)) (by decide)))
      (sim_ifS (sim_and (sim_test (sim_op so_lt sim_var (sim_c fun _ => .int _))) (sim_or (sim_test (sim_op so_lt ((sim_opE so_addA sim_var (sim_c fun _ => .int _))).toF sim_var)) (sim_test (sim_op so_eqA sim_var (sim_c fun _ => .int _)))))
      (sim_drop (sim_append (sim_cons (sim_tup (sim_cons (sim_op so_ixA ((sim_lst (sim_cons (sim_c fun _ => .str _) (sim_cons (sim_c fun _ => .str _) sim_nil)))).toF (sim_op so_mod (sim_cb so_int (sim_cons sim_var sim_nil)) (sim_c fun _ => .int _))) sim_nil)) sim_nil)))
      (sim_seq (sim_drop (sim_append (sim_cons (sim_tup (sim_cons (sim_op so_ixA ((sim_lst (sim_cons (sim_c fun _ => .str _) (sim_cons (sim_c fun _ => .str _) sim_nil)))).toF (sim_op so_mod (sim_cb so_int (sim_cons sim_var sim_nil)) (sim_c fun _ => .int _))) (sim_cons sim_var sim_nil))) sim_nil)))
      (sim_set ((sim_op so_sub ((sim_opE so_addA sim_var (sim_c fun _ => .int _))).toF sim_var)).toE (by decide)))))))))
      (sim_ret (sim_var).toE)))))
      (by decide) (by decide) h
theorem ok_built (T : Txt K mg) : FnOk P w K mg base CX0 1 T.a_built T.d_built ["_law_steps"] (SpM K (ctb T) [] m_built) := by
  refine T.F_built.ok sc__law_built (fun vs H Q E h => SpM.len (np := 1) (n := 5) h) (fun cdv A outer s H vs Q E hr h => ⟨_, (pss_cons (ps_set (i := 1) sc__law_built.nd rfl (.inl rfl) (pe_lst pa_nil))
      (pss_cons (ps_for PassesOwn.never rfl (pi_seq (K := K) rfl (pv 0)) (pg_name (i := 2) sc__law_built.nd rfl (.inl rfl))
      (pss_one (ps_if (PW.pt (pw_or (pt_cmpR (op_eqA (K := K) rfl hr.units) (pe_ix (ix_A (K := K) rfl) (pv 2) pe_int (fun _ _ => rfl)) pe_str (nomark _)) (pw_or1 (pt_cmpR (op_eqA (K := K) rfl hr.units) (pe_ix (ix_A (K := K) rfl) (pv 2) pe_int (fun _ _ => rfl)) pe_str (nomark _)))))
      (pss_cons (ps_set (i := 3) sc__law_built.nd rfl (.inl rfl) (pe_bmA (f := fun K => tBM0 K "list" rPop (tVar 1)) rfl (pe_bm0 PySem.F.plainAttrs_list PySem.F.slot_list_pop PySem.F.type_list_pop mt_pop (pv 1))))
      (pss_one (ps_expr (pe_bmA (f := fun K => tBM K "list" rAppend (tVar 1) _) rfl (pe_bm PySem.F.plainAttrs_list PySem.F.slot_list_append PySem.F.type_list_append mt_append (pv 1) (pa_cons (pe_tup (pa_cons (pe_ix (ix_A (K := K) rfl) (pv 2) pe_int (fun _ _ => rfl)) (pa_cons (pv 3) pa_nil))) pa_nil))))))
      (pss_one (ps_if (PW.pt (pw_or (pt_cmpR (op_eqA (K := K) rfl hr.units) (pe_ix (ix_A (K := K) rfl) (pv 2) pe_int (fun _ _ => rfl)) pe_str (nomark _)) (pw_or1 (pt_cmpR (op_eqA (K := K) rfl hr.units) (pe_ix (ix_A (K := K) rfl) (pv 2) pe_int (fun _ _ => rfl)) pe_str (nomark _)))))
      (pss_cons (ps_set (i := 4) sc__law_built.nd rfl (.inl rfl) (pe_op op_sub (pe_callB (cr_len (K := K) rfl) (by rfl) T.z_len PySem.boot_len (pa_cons (pv 1) pa_nil)) (pe_ix (ix_A (K := K) rfl) (pv 2) pe_int (fun _ _ => rfl))))
      (pss_one (ps_set (i := 1) sc__law_built.nd rfl (.inl rfl) (pe_op (op_addA (K := K) rfl) (pe_slice (sl_A (K := K) rfl) (pv 1) po_none (po_some (pv 4))) (pe_lst (pa_cons (pe_op (op_addA (K := K) rfl) (pe_tup (pa_cons (pe_ix (ix_A (K := K) rfl) (pv 2) pe_int (fun _ _ => rfl)) pa_nil)) (pe_callTy (cr_tuple (K := K) rfl) (by rfl) T.z_tuple (by decide +kernel) (pa_cons (pe_slice (sl_A (K := K) rfl) (pv 1) (po_some (pv 4)) po_none) pa_nil))) pa_nil))))))
      (pss_one (ps_expr (pe_bmA (f := fun K => tBM K "list" rAppend (tVar 1) _) rfl (pe_bm PySem.F.plainAttrs_list PySem.F.slot_list_append PySem.F.type_list_append mt_append (pv 1) (pa_cons (pv 2) pa_nil))))))))))
      (pss_one (ps_ret (pe_ix (ix_A (K := K) rfl) (pv 1) pe_int (fun _ _ => rfl)))))), ?_⟩)
  exact sim_fn (ct := ctb T) (ms := []) (np := 1) (N := N__law_built)
      (sim_seq (sim_set (sim_lst sim_nil) (by decide))
      (sim_seq (sim_for (sim_seqI sim_var) (sim_name (by decide))
      (sim_ifS (sim_or (sim_test (sim_op so_eqA (sim_ixAV (sim_c fun _ => .int _)) (sim_c fun _ => .str _))) (sim_test (sim_op so_eqA (sim_ixAV (sim_c fun _ => .int _)) (sim_c fun _ => .str _))))
      (sim_seq (sim_set (sim_pop).toE (by decide))
      (sim_drop (sim_append (sim_cons (sim_tup (sim_cons (sim_ixAV (sim_c fun _ => .int _)) (sim_cons sim_var sim_nil))) sim_nil))))
      (sim_ifS (sim_or (sim_test (sim_op so_eqA (sim_ixAV (sim_c fun _ => .int _)) (sim_c fun _ => .str _))) (sim_test (sim_op so_eqA (sim_ixAV (sim_c fun _ => .int _)) (sim_c fun _ => .str _))))
      (sim_seq (sim_set ((sim_op so_sub sim_lenV (sim_ixAV (sim_c fun _ => .int _)))).toE (by decide))
      (sim_set (sim_opE so_addA ((sim_slA sim_var sim_pno (sim_psome sim_var))).toF ((sim_lst (sim_cons ((sim_opE so_addA (sim_tup (sim_cons (sim_ixAV (sim_c fun _ => .int _)) sim_nil)) (sim_cb so_tuple (sim_cons ((sim_slA sim_var (sim_psome sim_var) sim_pno)).toF sim_nil)))).toF sim_nil))).toF) (by decide)))
      (sim_drop (sim_append (sim_cons sim_var sim_nil))))))
      (sim_ret ((sim_ixAV (sim_c fun _ => .int _))).toE)))
      (by decide) (by decide) h
theorem ok_compared (T : Txt K mg) : FnOk P w K mg base CX0 1 T.a_compared T.d_compared ["_law_sign", "_law_value", "_law_number_here"] (SpM K (ctb T) [] m_compared) := by
  refine T.F_compared.ok sc__law_compared (fun vs H Q E h => SpM.len (np := 3) (n := 3) h) (fun cdv A outer s H vs Q E hr h => ⟨_, (pss_cons (ps_if (pt_cmpR op_isA (pv 1) pe_non (nomark _))
      (pss_one (ps_ret pe_non))
      pss_nil)
      (pss_cons (ps_if (pt_cmpR (op_eqA (K := K) rfl hr.units) (pv 0) pe_str (nomark _))
      (pss_one (ps_ret (pe_cmpR op_lt (pv 1) (pv 2) (nomark _))))
      pss_nil)
      (pss_cons (ps_if (pt_cmpR (op_eqA (K := K) rfl hr.units) (pv 0) pe_str (nomark _))
      (pss_one (ps_ret (pe_cmpR op_le (pv 1) (pv 2) (nomark _))))
      pss_nil)
      (pss_cons (ps_if (pt_cmpR (op_eqA (K := K) rfl hr.units) (pv 0) pe_str (nomark _))
      (pss_one (ps_ret (pe_cmpR (op_eqA (K := K) rfl hr.units) (pv 1) (pv 2) (nomark _))))
      pss_nil)
      (pss_cons (ps_if (pt_cmpR (op_eqA (K := K) rfl hr.units) (pv 0) pe_str (nomark _))
      (pss_one (ps_ret (pe_cmpR (op_neA (K := K) rfl hr.units) (pv 1) (pv 2) (nomark _))))
      pss_nil)
      (pss_cons (ps_if (pt_cmpR (op_eqA (K := K) rfl hr.units) (pv 0) pe_str (nomark _))
      (pss_one (ps_ret (pe_cmpR op_ge (pv 1) (pv 2) (nomark _))))
      pss_nil)
      (pss_one (ps_ret (pe_cmpR op_gt (pv 1) (pv 2) (nomark _)))))))))), ?_⟩)
  exact sim_fn (ct := ctb T) (ms := []) (np := 3) (N := N__law_compared)
      (sim_seq (sim_ifS (sim_test (sim_op so_isA sim_var (sim_c fun _ => .non)))
      (sim_ret ((sim_c fun _ => .non)).toE)
      sim_next)
      (sim_seq (sim_ifS (sim_test (sim_op so_eqA sim_var (sim_c fun _ => .str _)))
      (sim_ret ((sim_op so_lt sim_var sim_var)).toE)
      sim_next)
      (sim_seq (sim_ifS (sim_test (sim_op so_eqA sim_var (sim_c fun _ => .str _)))
      (sim_ret ((sim_op so_le sim_var sim_var)).toE)
      sim_next)
      (sim_seq (sim_ifS (sim_test (sim_op so_eqA sim_var (sim_c fun _ => .str _)))
      (sim_ret ((sim_op so_eqA sim_var sim_var)).toE)
      sim_next)
      (sim_seq (sim_ifS (sim_test (sim_op so_eqA sim_var (sim_c fun _ => .str _)))
      (sim_ret ((sim_op so_neA sim_var sim_var)).toE)
      sim_next)
      (sim_seq (sim_ifS (sim_test (sim_op so_eqA sim_var (sim_c fun _ => .str _)))
      (sim_ret ((sim_op so_ge sim_var sim_var)).toE)
      sim_next)
      (sim_ret ((sim_op so_gt sim_var sim_var)).toE)))))))
      (by decide) (by decide) h
theorem ok_joined (T : Txt K mg) : FnOk P w K mg base CX0 1 T.a_joined T.d_joined ["_law_word", "_law_parts"] (SpM K (ctb T) [] m_joined) := by
  refine T.F_joined.ok sc__law_joined (fun vs H Q E h => SpM.len (np := 2) (n := 3) h) (fun cdv A outer s H vs Q E hr h => ⟨_, (pss_cons (ps_set (i := 2) sc__law_joined.nd rfl (.inl rfl) (pe_cmpR (op_eqA (K := K) rfl hr.units) (pv 0) pe_str (nomark _)))
      (pss_cons (ps_if (pt_cmpR (op_inA (K := K) rfl) (pv 2) (pv 1) (by rfl))
      (pss_one (ps_ret (pv 2)))
      pss_nil)
      (pss_cons (ps_if (pt_cmpR (op_inA (K := K) rfl) pe_non (pv 1) (by rfl))
      (pss_one (ps_ret pe_non))
      pss_nil)
      (pss_one (ps_ret (pe_not (pv 2))))))), ?_⟩)
  exact sim_fn (ct := ctb T) (ms := []) (np := 2) (N := N__law_joined)
      (sim_seq (sim_set ((sim_op so_eqA sim_var (sim_c fun _ => .str _))).toE (by decide))
      (sim_seq (sim_ifS (sim_test (sim_op so_in sim_var sim_var))
      (sim_ret (sim_var).toE)
      sim_next)
      (sim_seq (sim_ifS (sim_test (sim_op so_in (sim_c fun _ => .non) sim_var))
      (sim_ret ((sim_c fun _ => .non)).toE)
      sim_next)
      (sim_ret ((sim_notV sim_var)).toE))))
      (by decide) (by decide) h
theorem ok_judged (T : Txt K mg) : FnOk P w K mg base CX0 2 T.a_judged T.d_judged ["_law_steps", "_law_row"] (SpM K (ctb T) [] m_judged) := by
  refine T.F_judged.ok sc__law_judged (fun vs H Q E h => SpM.len (np := 2) (n := 6) h) (fun cdv A outer s H vs Q E hr h => ⟨_, (pss_cons (ps_set (i := 2) sc__law_judged.nd rfl (.inl rfl) (pe_lst pa_nil))
      (pss_cons (ps_for PassesOwn.never rfl (pi_seq (K := K) rfl (pv 0)) (pg_name (i := 3) sc__law_judged.nd rfl (.inl rfl))
      (pss_one (ps_if (pt_cmpR (op_eqA (K := K) rfl hr.units) (pe_ix (ix_A (K := K) rfl) (pv 3) pe_int (fun _ _ => rfl)) pe_str (nomark _))
      (pss_one (ps_expr (pe_bmA (f := fun K => tBM K "list" rAppend (tVar 2) _) rfl (pe_bm PySem.F.plainAttrs_list PySem.F.slot_list_append PySem.F.type_list_append mt_append (pv 2) (pa_cons (pe_cmpR op_isA (pe_ix (ix_A (K := K) rfl) (pv 1) (pe_ix (ix_A (K := K) rfl) (pv 3) pe_int (fun _ _ => rfl)) (fun _ _ => rfl)) pe_non (nomark _)) pa_nil)))))
      (pss_one (ps_if (pt_cmpR (op_eqA (K := K) rfl hr.units) (pe_ix (ix_A (K := K) rfl) (pv 3) pe_int (fun _ _ => rfl)) pe_str (nomark _))
      (pss_cons (ps_set (i := 4) sc__law_judged.nd rfl (.inl rfl) (pe_bmA (f := fun K => tBM0 K "list" rPop (tVar 2)) rfl (pe_bm0 PySem.F.plainAttrs_list PySem.F.slot_list_pop PySem.F.type_list_pop mt_pop (pv 2))))
      (pss_one (ps_expr (pe_bmA (f := fun K => tBM K "list" rAppend (tVar 2) _) rfl (pe_bm PySem.F.plainAttrs_list PySem.F.slot_list_append PySem.F.type_list_append mt_append (pv 2) (pa_cons (pe_cmpR op_notA (pv 4) pe_bl (nomark _)) pa_nil))))))
      (pss_one (ps_if (pt_cmpR (op_eqA (K := K) rfl hr.units) (pe_ix (ix_A (K := K) rfl) (pv 3) pe_int (fun _ _ => rfl)) pe_str (nomark _))
      (pss_cons (ps_set (i := 4) sc__law_judged.nd rfl (.inl rfl) (pe_bmA (f := fun K => tBM0 K "list" rPop (tVar 2)) rfl (pe_bm0 PySem.F.plainAttrs_list PySem.F.slot_list_pop PySem.F.type_list_pop mt_pop (pv 2))))
      (pss_cons (ps_if (pt_cmpR op_notA (pv 4) pe_non (nomark _))
      (pss_one (ps_set (i := 4) sc__law_judged.nd rfl (.inl rfl) (pe_not (pv 4))))
      pss_nil)
      (pss_one (ps_expr (pe_bmA (f := fun K => tBM K "list" rAppend (tVar 2) _) rfl (pe_bm PySem.F.plainAttrs_list PySem.F.slot_list_append PySem.F.type_list_append mt_append (pv 2) (pa_cons (pv 4) pa_nil)))))))
      (pss_one (ps_if (PW.pt (pw_or (pt_cmpR (op_eqA (K := K) rfl hr.units) (pe_ix (ix_A (K := K) rfl) (pv 3) pe_int (fun _ _ => rfl)) pe_str (nomark _)) (pw_or1 (pt_cmpR (op_eqA (K := K) rfl hr.units) (pe_ix (ix_A (K := K) rfl) (pv 3) pe_int (fun _ _ => rfl)) pe_str (nomark _)))))
      (pss_cons (ps_set (i := 5) sc__law_judged.nd rfl (.inl rfl) (pe_op op_sub (pe_callB (cr_len (K := K) rfl) (by rfl) T.z_len PySem.boot_len (pa_cons (pv 2) pa_nil)) (pe_ix (ix_A (K := K) rfl) (pv 3) pe_int (fun _ _ => rfl))))
      (pss_one (ps_set (i := 2) sc__law_judged.nd rfl (.inl rfl) (pe_op (op_addA (K := K) rfl) (pe_slice (sl_A (K := K) rfl) (pv 2) po_none (po_some (pv 5))) (pe_lst (pa_cons (pe_call (ok_joined T) (hr.mono (by decide)) (by rfl) T.g_joined T.F_joined.kp T.b_joined .nil pass0 (pa_cons (pe_ix (ix_A (K := K) rfl) (pv 3) pe_int (fun _ _ => rfl)) (pa_cons (pe_slice (sl_A (K := K) rfl) (pv 2) (po_some (pv 5)) po_none) pa_nil))) pa_nil))))))
      (pss_one (ps_expr (pe_bmA (f := fun K => tBM K "list" rAppend (tVar 2) _) rfl (pe_bm PySem.F.plainAttrs_list PySem.F.slot_list_append PySem.F.type_list_append mt_append (pv 2) (pa_cons (pe_call (ok_compared T) (hr.mono (by decide)) (by rfl) T.g_compared T.F_compared.kp T.b_compared .nil pass0 (pa_cons (pe_ix (ix_A (K := K) rfl) (pv 3) pe_int (fun _ _ => rfl)) (pa_cons (pe_ix (ix_A (K := K) rfl) (pv 1) (pe_ix (ix_A (K := K) rfl) (pv 3) pe_int (fun _ _ => rfl)) (fun _ _ => rfl)) (pa_cons (pe_ix (ix_A (K := K) rfl) (pv 3) pe_int (fun _ _ => rfl)) pa_nil)))) pa_nil))))))))))))))
      (pss_one (ps_ret (pe_ix (ix_A (K := K) rfl) (pv 2) pe_int (fun _ _ => rfl)))))), ?_⟩)
  exact sim_fn (ct := ctb T) (ms := []) (np := 2) (N := N__law_judged)
      (sim_seq (sim_set (sim_lst sim_nil) (by decide))
      (sim_seq (sim_for (sim_seqI sim_var) (sim_name (by decide))
      (sim_ifS (sim_test (sim_op so_eqA (sim_ixAV (sim_c fun _ => .int _)) (sim_c fun _ => .str _)))
      (sim_drop (sim_append (sim_cons (sim_op so_isA (sim_ixAV (sim_ixAV (sim_c fun _ => .int _))) (sim_c fun _ => .non)) sim_nil)))
      (sim_ifS (sim_test (sim_op so_eqA (sim_ixAV (sim_c fun _ => .int _)) (sim_c fun _ => .str _)))
      (sim_seq (sim_set (sim_pop).toE (by decide))
      (sim_drop (sim_append (sim_cons (sim_op so_notA sim_var (sim_c fun _ => .bl _)) sim_nil))))
      (sim_ifS (sim_test (sim_op so_eqA (sim_ixAV (sim_c fun _ => .int _)) (sim_c fun _ => .str _)))
      (sim_seq (sim_set (sim_pop).toE (by decide))
      (sim_seq (sim_ifS (sim_test (sim_op so_notA sim_var (sim_c fun _ => .non)))
      (sim_set ((sim_notV sim_var)).toE (by decide))
      sim_next)
      (sim_drop (sim_append (sim_cons sim_var sim_nil)))))
      (sim_ifS (sim_or (sim_test (sim_op so_eqA (sim_ixAV (sim_c fun _ => .int _)) (sim_c fun _ => .str _))) (sim_test (sim_op so_eqA (sim_ixAV (sim_c fun _ => .int _)) (sim_c fun _ => .str _))))
      (sim_seq (sim_set ((sim_op so_sub sim_lenV (sim_ixAV (sim_c fun _ => .int _)))).toE (by decide))
      (sim_set (sim_opE so_addA ((sim_slA sim_var sim_pno (sim_psome sim_var))).toF ((sim_lst (sim_cons ((sim_call0 (sim_bcons (sim_ixAV (sim_c fun _ => .int _)) (sim_bcons ((sim_slA sim_var (sim_psome sim_var) sim_pno)).toF sim_bnil)))).toF sim_nil))).toF) (by decide)))
      (sim_drop (sim_append (sim_cons ((sim_call0 (sim_bcons (sim_ixAV (sim_c fun _ => .int _)) (sim_bcons (sim_ixAV (sim_ixAV (sim_c fun _ => .int _))) (sim_bcons (sim_ixAV (sim_c fun _ => .int _)) sim_bnil))))).toF sim_nil))))))))
      (sim_ret ((sim_ixAV (sim_c fun _ => .int _))).toE)))
      (by decide) (by decide) h
theorem ok_alike (T : Txt K mg) : FnOk P w K mg base CX0 1 T.a_alike T.d_alike ["_law_told", "_law_due"] (SpM K (ctb T) [] m_alike) := by
  refine T.F_alike.ok sc__law_alike (fun vs H Q E h => SpM.len (np := 2) (n := 8) h) (fun cdv A outer s H vs Q E hr h => ⟨_, (pss_cons (ps_set (i := 2) sc__law_alike.nd rfl (.inl rfl) (pe_lst (pa_cons (pe_lst (pa_cons (pv 0) (pa_cons (pv 1) pa_nil))) pa_nil)))
      (pss_cons (ps_for PassesOwn.never rfl (pi_range1 (by rfl) T.z_range (pa_cons pe_int pa_nil)) (pg_name (i := 3) sc__law_alike.nd rfl (.inl rfl))
      (pss_cons (ps_if (pt_cmpR (op_eqA (K := K) rfl hr.units) (pe_callB (cr_len (K := K) rfl) (by rfl) T.z_len PySem.boot_len (pa_cons (pv 2) pa_nil)) pe_int (nomark _))
      (pss_one (ps_ret pe_bl))
      pss_nil)
      (pss_cons (ps_set (i := 4) sc__law_alike.nd rfl (.inl rfl) (pe_bmA (f := fun K => tBM0 K "list" rPop (tVar 2)) rfl (pe_bm0 PySem.F.plainAttrs_list PySem.F.slot_list_pop PySem.F.type_list_pop mt_pop (pv 2))))
      (pss_cons (ps_set (i := 5) sc__law_alike.nd rfl (.inl rfl) (pe_ix (ix_A (K := K) rfl) (pv 4) pe_int (fun _ _ => rfl)))
      (pss_cons (ps_set (i := 6) sc__law_alike.nd rfl (.inl rfl) (pe_ix (ix_A (K := K) rfl) (pv 4) pe_int (fun _ _ => rfl)))
      (pss_one (ps_if (pt_val (pe_callB (cr_isi2 (K := K) rfl) (by rfl) T.z_isinstance (by decide +kernel) (pa_cons (pv 6) (pa_cons (pe_tup (pa_cons (pe_bltn (v := .ty "list") (by rfl) T.z_list (by decide +kernel) rfl) (pa_cons (pe_bltn (v := .ty "tuple") (by rfl) T.z_tuple (by decide +kernel) rfl) pa_nil))) pa_nil))))
      (pss_cons (ps_if (PW.pt (pw_or (pt_not (pt_val (pe_callB (cr_isi2 (K := K) rfl) (by rfl) T.z_isinstance (by decide +kernel) (pa_cons (pv 5) (pa_cons (pe_tup (pa_cons (pe_bltn (v := .ty "list") (by rfl) T.z_list (by decide +kernel) rfl) (pa_cons (pe_bltn (v := .ty "tuple") (by rfl) T.z_tuple (by decide +kernel) rfl) pa_nil))) pa_nil))))) (pw_or1 (pt_cmpR (op_neA (K := K) rfl hr.units) (pe_callB (cr_isi (K := K) rfl) (by rfl) T.z_isinstance (by decide +kernel) (pa_cons (pv 5) (pa_cons (pe_bltn (v := .ty "list") (by rfl) T.z_list (by decide +kernel) rfl) pa_nil))) (pe_callB (cr_isi (K := K) rfl) (by rfl) T.z_isinstance (by decide +kernel) (pa_cons (pv 6) (pa_cons (pe_bltn (v := .ty "list") (by rfl) T.z_list (by decide +kernel) rfl) pa_nil))) (nomark _)))))
      (pss_one (ps_ret pe_bl))
      pss_nil)
      (pss_cons (ps_if (pt_cmpR (op_neA (K := K) rfl hr.units) (pe_callB (cr_len (K := K) rfl) (by rfl) T.z_len PySem.boot_len (pa_cons (pv 5) pa_nil)) (pe_callB (cr_len (K := K) rfl) (by rfl) T.z_len PySem.boot_len (pa_cons (pv 6) pa_nil)) (nomark _))
      (pss_one (ps_ret pe_bl))
      pss_nil)
      (pss_one (ps_for PassesOwn.never rfl (pi_range1 (by rfl) T.z_range (pa_cons (pe_callB (cr_len (K := K) rfl) (by rfl) T.z_len PySem.boot_len (pa_cons (pv 6) pa_nil)) pa_nil)) (pg_name (i := 7) sc__law_alike.nd rfl (.inl rfl))
      (pss_one (ps_expr (pe_bmA (f := fun K => tBM K "list" rAppend (tVar 2) _) rfl (pe_bm PySem.F.plainAttrs_list PySem.F.slot_list_append PySem.F.type_list_append mt_append (pv 2) (pa_cons (pe_lst (pa_cons (pe_ix (ix_A (K := K) rfl) (pv 5) (pv 7) (fun _ _ => rfl)) (pa_cons (pe_ix (ix_A (K := K) rfl) (pv 6) (pv 7) (fun _ _ => rfl)) pa_nil))) pa_nil)))))))))
      (pss_one (ps_if (pt_cmpR op_isA (pv 6) pe_non (nomark _))
      (pss_one (ps_if (pt_cmpR op_notA (pv 5) pe_non (nomark _))
      (pss_one (ps_ret pe_bl))
      pss_nil))
      (pss_one (ps_if (pt_val (pe_callB (cr_isi (K := K) rfl) (by rfl) T.z_isinstance (by decide +kernel) (pa_cons (pv 6) (pa_cons (pe_bltn (v := .ty "bool") (by rfl) T.z_bool (by decide +kernel) rfl) pa_nil))))
      (pss_one (ps_if (PW.pt (pw_or (pt_not (pt_val (pe_callB (cr_isi (K := K) rfl) (by rfl) T.z_isinstance (by decide +kernel) (pa_cons (pv 5) (pa_cons (pe_bltn (v := .ty "bool") (by rfl) T.z_bool (by decide +kernel) rfl) pa_nil))))) (pw_or1 (pt_cmpR (op_neA (K := K) rfl hr.units) (pv 5) (pv 6) (nomark _)))))
      (pss_one (ps_ret pe_bl))
      pss_nil))
      (pss_one (ps_if (pt_val (pe_callB (cr_isi (K := K) rfl) (by rfl) T.z_isinstance (by decide +kernel) (pa_cons (pv 6) (pa_cons (pe_bltn (v := .ty "int") (by rfl) T.z_int (by decide +kernel) rfl) pa_nil))))
      (pss_one (ps_if (PW.pt (pw_or (pt_not (pt_val (pe_callB (cr_isi (K := K) rfl) (by rfl) T.z_isinstance (by decide +kernel) (pa_cons (pv 5) (pa_cons (pe_bltn (v := .ty "int") (by rfl) T.z_int (by decide +kernel) rfl) pa_nil))))) (pw_or (pt_val (pe_callB (cr_isi (K := K) rfl) (by rfl) T.z_isinstance (by decide +kernel) (pa_cons (pv 5) (pa_cons (pe_bltn (v := .ty "bool") (by rfl) T.z_bool (by decide +kernel) rfl) pa_nil)))) (pw_or1 (pt_cmpR (op_neA (K := K) rfl hr.units) (pv 5) (pv 6) (nomark _))))))
      (pss_one (ps_ret pe_bl))
      pss_nil))
      (pss_one (ps_if (PW.pt (pw_or (pt_not (pt_val (pe_callB (cr_isi (K := K) rfl) (by rfl) T.z_isinstance (by decide +kernel) (pa_cons (pv 5) (pa_cons (pe_bltn (v := .ty "str") (by rfl) T.z_str (by decide +kernel) rfl) pa_nil))))) (pw_or1 (pt_cmpR (op_neA (K := K) rfl hr.units) (pv 5) (pv 6) (nomark _)))))
      (pss_one (ps_ret pe_bl))
      pss_nil)))))))))))))))
      (pss_one (ps_ret pe_bl)))), ?_⟩)
  exact sim_fn (ct := ctb T) (ms := []) (np := 2) (N := N__law_alike)
      (sim_seq (sim_set (sim_lst (sim_cons ((sim_lst (sim_cons sim_var (sim_cons sim_var sim_nil)))).toF sim_nil)) (by decide))
      (sim_seq (sim_for (sim_rg1 (sim_cons (sim_c fun _ => .int _) sim_nil)) (sim_name (by decide))
      (sim_seq (sim_ifS (sim_test (sim_op so_eqA sim_lenV (sim_c fun _ => .int _)))
      (sim_ret ((sim_c fun _ => .bl _)).toE)
      sim_next)
      (sim_seq (sim_set (sim_pop).toE (by decide))
      (sim_seq (sim_set ((sim_ixAV (sim_c fun _ => .int _))).toE (by decide))
      (sim_seq (sim_set ((sim_ixAV (sim_c fun _ => .int _))).toE (by decide))
      (sim_ifS (sim_B (sim_isi2 sim_var))
      (sim_seq (sim_ifS (sim_or (sim_not (sim_B (sim_isi2 sim_var))) (sim_test (sim_op so_neA (sim_isi (T := .list) sim_var) (sim_isi (T := .list) sim_var))))
      (sim_ret ((sim_c fun _ => .bl _)).toE)
      sim_next)
      (sim_seq (sim_ifS (sim_test (sim_op so_neA sim_lenV sim_lenV))
      (sim_ret ((sim_c fun _ => .bl _)).toE)
      sim_next)
      (sim_for (sim_rg1 (sim_cons sim_lenV sim_nil)) (sim_name (by decide))
      (sim_drop (sim_append (sim_cons ((sim_lst (sim_cons (sim_ixAV sim_var) (sim_cons (sim_ixAV sim_var) sim_nil)))).toF sim_nil))))))
      (sim_ifS (sim_test (sim_op so_isA sim_var (sim_c fun _ => .non)))
      (sim_ifS (sim_test (sim_op so_notA sim_var (sim_c fun _ => .non)))
      (sim_ret ((sim_c fun _ => .bl _)).toE)
      sim_next)
      (sim_ifS (sim_B (sim_isi (T := .bool) sim_var))
      (sim_ifS (sim_or (sim_not (sim_B (sim_isi (T := .bool) sim_var))) (sim_test (sim_op so_neA sim_var sim_var)))
      (sim_ret ((sim_c fun _ => .bl _)).toE)
      sim_next)
      (sim_ifS (sim_B (sim_isi (T := .int) sim_var))
      (sim_ifS (sim_or (sim_not (sim_B (sim_isi (T := .int) sim_var))) (sim_or (sim_B (sim_isi (T := .bool) sim_var)) (sim_test (sim_op so_neA sim_var sim_var))))
      (sim_ret ((sim_c fun _ => .bl _)).toE)
      sim_next)
      (sim_ifS (sim_or (sim_not (sim_B (sim_isi (T := .str) sim_var))) (sim_test (sim_op so_neA sim_var sim_var)))
      (sim_ret ((sim_c fun _ => .bl _)).toE)
      sim_next))))))))))
      (sim_ret ((sim_c fun _ => .bl _)).toE)))
      (by decide) (by decide) h
theorem ok_compared_with (T : Txt K mg) : FnOk P w K mg base CX0 1 T.a_compared_with T.d_compared_with ["_law_recipes", "_law_c"] (SpM K (ctb T) [] m_compared_with) := by
  refine T.F_compared_with.ok sc__law_compared_with (fun vs H Q E h => SpM.len (np := 2) (n := 5) h) (fun cdv A outer s H vs Q E hr h => ⟨_, (pss_cons (ps_set (i := 2) sc__law_compared_with.nd rfl (.inl rfl) (pe_lst pa_nil))
      (pss_cons (ps_for PassesOwn.never rfl (pi_seq (K := K) rfl (pv 0)) (pg_name (i := 3) sc__law_compared_with.nd rfl (.inl rfl))
      (pss_one (ps_for PassesOwn.never rfl (pi_seq (K := K) rfl (pv 3)) (pg_name (i := 4) sc__law_compared_with.nd rfl (.inl rfl))
      (pss_one (ps_if (PW.pt (pw_and (pt_cmpR (op_eqA (K := K) rfl hr.units) (pe_callB (cr_len (K := K) rfl) (by rfl) T.z_len PySem.boot_len (pa_cons (pv 4) pa_nil)) pe_int (nomark _)) (pw_and (pt_cmpR (op_eqA (K := K) rfl hr.units) (pe_ix (ix_A (K := K) rfl) (pv 4) pe_int (fun _ _ => rfl)) (pv 1) (nomark _)) (pw_and1 (pt_cmpR (op_notInA (K := K) rfl) (pe_ix (ix_A (K := K) rfl) (pv 4) pe_int (fun _ _ => rfl)) (pv 2) (by rfl))))))
      (pss_one (ps_expr (pe_bmA (f := fun K => tBM K "list" rAppend (tVar 2) _) rfl (pe_bm PySem.F.plainAttrs_list PySem.F.slot_list_append PySem.F.type_list_append mt_append (pv 2) (pa_cons (pe_ix (ix_A (K := K) rfl) (pv 4) pe_int (fun _ _ => rfl)) pa_nil)))))
      pss_nil)))))
      (pss_one (ps_ret (pe_callB cr_sortedI (by rfl) T.z_sorted (by decide +kernel) (pa_cons (pv 2) pa_nil)))))), ?_⟩)
  exact sim_fn (ct := ctb T) (ms := []) (np := 2) (N := N__law_compared_with)
      (sim_seq (sim_set (sim_lst sim_nil) (by decide))
      (sim_seq (sim_for (sim_seqI sim_var) (sim_name (by decide))
      (sim_for (sim_seqI sim_var) (sim_name (by decide))
      (sim_ifS (sim_and (sim_test (sim_op so_eqA sim_lenV (sim_c fun _ => .int _))) (sim_and (sim_test (sim_op so_eqA (sim_ixAV (sim_c fun _ => .int _)) sim_var)) (sim_test (sim_inV (sim_ixAV (sim_c fun _ => .int _))))))
      (sim_drop (sim_append (sim_cons (sim_ixAV (sim_c fun _ => .int _)) sim_nil)))
      sim_next)))
      (sim_ret (sim_cbL so_asc (sim_cons sim_var sim_nil)))))
      (by decide) (by decide) h
theorem ok_standing_list (T : Txt K mg) : FnOk P w K mg base CX0 1 T.a_standing_list T.d_standing_list ["_law_numbers"] (SpM K (ctb T) [] m_standing_list) := by
  refine T.F_standing_list.ok sc__law_standing_list (fun vs H Q E h => SpM.len (np := 1) (n := 3) h) (fun cdv A outer s H vs Q E hr h => ⟨_, (pss_cons (ps_if (pt_cmpR (op_eqA (K := K) rfl hr.units) (pe_callB (cr_len (K := K) rfl) (by rfl) T.z_len PySem.boot_len (pa_cons (pv 0) pa_nil)) pe_int (nomark _))
      (pss_one (ps_ret (pe_lst (pa_cons pe_non (pa_cons pe_int pa_nil)))))
      pss_nil)
      (pss_cons (ps_set (i := 1) sc__law_standing_list.nd rfl (.inl rfl) (pe_lst (pa_cons pe_non (pa_cons (pe_op op_sub (pe_ix (ix_A (K := K) rfl) (pv 0) pe_int (fun _ _ => rfl)) pe_int) pa_nil))))
      (pss_cons (ps_for PassesOwn.never rfl (pi_range1 (by rfl) T.z_range (pa_cons (pe_callB (cr_len (K := K) rfl) (by rfl) T.z_len PySem.boot_len (pa_cons (pv 0) pa_nil)) pa_nil)) (pg_name (i := 2) sc__law_standing_list.nd rfl (.inl rfl))
      (pss_cons (ps_expr (pe_bmA (f := fun K => tBM K "list" rAppend (tVar 1) _) rfl (pe_bm PySem.F.plainAttrs_list PySem.F.slot_list_append PySem.F.type_list_append mt_append (pv 1) (pa_cons (pe_ix (ix_A (K := K) rfl) (pv 0) (pv 2) (fun _ _ => rfl)) pa_nil))))
      (pss_one (ps_if (PW.pt (pw_or (pt_cmpR (op_eqA (K := K) rfl hr.units) (pe_op (op_addA (K := K) rfl) (pv 2) pe_int) (pe_callB (cr_len (K := K) rfl) (by rfl) T.z_len PySem.boot_len (pa_cons (pv 0) pa_nil)) (nomark _)) (pw_or1 (pt_cmpR op_ge (pe_op op_sub (pe_ix (ix_A (K := K) rfl) (pv 0) (pe_op (op_addA (K := K) rfl) (pv 2) pe_int) (fun _ _ => rfl)) (pe_ix (ix_A (K := K) rfl) (pv 0) (pv 2) (fun _ _ => rfl))) pe_int (nomark _)))))
      (pss_one (ps_expr (pe_bmA (f := fun K => tBM K "list" rAppend (tVar 1) _) rfl (pe_bm PySem.F.plainAttrs_list PySem.F.slot_list_append PySem.F.type_list_append mt_append (pv 1) (pa_cons (pe_op (op_addA (K := K) rfl) (pe_ix (ix_A (K := K) rfl) (pv 0) (pv 2) (fun _ _ => rfl)) pe_int) pa_nil)))))
      pss_nil))))
      (pss_one (ps_ret (pv 1)))))), ?_⟩)
  exact sim_fn (ct := ctb T) (ms := []) (np := 1) (N := N__law_standing_list)
      (sim_seq (sim_ifS (sim_test (sim_op so_eqA sim_lenV (sim_c fun _ => .int _)))
      (sim_ret (sim_lst (sim_cons (sim_c fun _ => .non) (sim_cons (sim_c fun _ => .int _) sim_nil))))
      sim_next)
      (sim_seq (sim_set (sim_lst (sim_cons (sim_c fun _ => .non) (sim_cons (sim_op so_sub (sim_ixAV (sim_c fun _ => .int _)) (sim_c fun _ => .int _)) sim_nil))) (by decide))
      (sim_seq (sim_for (sim_rg1 (sim_cons sim_lenV sim_nil)) (sim_name (by decide))
      (sim_seq (sim_drop (sim_append (sim_cons (sim_ixAV sim_var) sim_nil)))
      (sim_ifS (sim_or (sim_test (sim_op so_eqA ((sim_opE so_addA sim_var (sim_c fun _ => .int _))).toF sim_lenV)) (sim_test (sim_op so_ge (sim_op so_sub (sim_ixAV ((sim_opE so_addA sim_var (sim_c fun _ => .int _))).toF) (sim_ixAV sim_var)) (sim_c fun _ => .int _))))
      (sim_drop (sim_append (sim_cons ((sim_opE so_addA (sim_ixAV sim_var) (sim_c fun _ => .int _))).toF sim_nil)))
      sim_next)))
      (sim_ret (sim_var).toE))))
      (by decide) (by decide) h
theorem ok_boxes_of (T : Txt K mg) : FnOk P w K mg base CX0 2 T.a_boxes_of T.d_boxes_of ["_law_recipes", "_law_wide"] (SpM K (ctb T) [] m_boxes_of) := by
  refine T.F_boxes_of.ok sc__law_boxes_of (fun vs H Q E h => SpM.len (np := 2) (n := 7) h) (fun cdv A outer s H vs Q E hr h => ⟨_, (pss_cons (ps_set (i := 2) sc__law_boxes_of.nd rfl (.inl rfl) (pe_lst (pa_cons (pe_tup pa_nil) pa_nil)))
      (pss_cons (ps_for PassesOwn.never rfl (pi_range1 (by rfl) T.z_range (pa_cons (pv 1) pa_nil)) (pg_name (i := 3) sc__law_boxes_of.nd rfl (.inl rfl))
      (pss_cons (ps_set (i := 4) sc__law_boxes_of.nd rfl (.inl rfl) (pe_lst pa_nil))
      (pss_cons (ps_for PassesOwn.never rfl (pi_range1 (by rfl) T.z_range (pa_cons (pe_callB (cr_len (K := K) rfl) (by rfl) T.z_len PySem.boot_len (pa_cons (pv 2) pa_nil)) pa_nil)) (pg_name (i := 5) sc__law_boxes_of.nd rfl (.inl rfl))
      (pss_one (ps_for PassesOwn.never rfl (pi_seq (K := K) rfl (pe_call (ok_standing_list T) (hr.mono (by decide)) (by rfl) T.g_standing_list T.F_standing_list.kp T.b_standing_list .nil pass0 (pa_cons (pe_call (ok_compared_with T) (hr.mono (by decide)) (by rfl) T.g_compared_with T.F_compared_with.kp T.b_compared_with .nil pass0 (pa_cons (pv 0) (pa_cons (pv 3) pa_nil))) pa_nil))) (pg_name (i := 6) sc__law_boxes_of.nd rfl (.inl rfl))
      (pss_one (ps_expr (pe_bmA (f := fun K => tBM K "list" rAppend (tVar 4) _) rfl (pe_bm PySem.F.plainAttrs_list PySem.F.slot_list_append PySem.F.type_list_append mt_append (pv 4) (pa_cons (pe_op (op_addA (K := K) rfl) (pe_ix (ix_A (K := K) rfl) (pv 2) (pv 5) (fun _ _ => rfl)) (pe_tup (pa_cons (pv 6) pa_nil))) pa_nil))))))))
      (pss_one (ps_set (i := 2) sc__law_boxes_of.nd rfl (.inl rfl) (pe_callTy (cr_list (K := K) rfl) (by rfl) T.z_list (by decide +kernel) (pa_cons (pv 4) pa_nil)))))))
      (pss_one (ps_ret (pv 2))))), ?_⟩)
  exact sim_fn (ct := ctb T) (ms := []) (np := 2) (N := N__law_boxes_of)
      (sim_seq (sim_set (sim_lst (sim_cons (sim_tup sim_nil) sim_nil)) (by decide))
      (sim_seq (sim_for (sim_rg1 (sim_cons sim_var sim_nil)) (sim_name (by decide))
      (sim_seq (sim_set (sim_lst sim_nil) (by decide))
      (sim_seq (sim_for (sim_rg1 (sim_cons sim_lenV sim_nil)) (sim_name (by decide))
      (sim_for (sim_seqI ((sim_call0 (sim_bcons ((sim_call0 (sim_bcons sim_var (sim_bcons sim_var sim_bnil)))).toF sim_bnil))).toF) (sim_name (by decide))
      (sim_drop (sim_append (sim_cons ((sim_opE so_addA (sim_ixAV sim_var) (sim_tup (sim_cons sim_var sim_nil)))).toF sim_nil)))))
      (sim_set (sim_cbL so_list (sim_cons sim_var sim_nil)) (by decide)))))
      (sim_ret (sim_var).toE)))
      (by decide) (by decide) h
theorem ok_worlds_told (T : Txt K mg) : FnOk P w K mg base CX0 26 T.a_worlds_told T.d_worlds_told ["_law_predicates", "_law_asked"] (SpM K (ctb T) [] m_worlds_told) := by
  refine T.F_worlds_told.ok sc__law_worlds_told (fun vs H Q E h => SpM.len (np := 2) (n := 5) (SpM.unX h E)) (fun cdv A outer s H vs Q E hr h => ⟨_, (pss_cons (ps_set (i := 2) sc__law_worlds_told.nd rfl (.inl rfl) (pe_lst pa_nil))
      (pss_cons (ps_try_named rfl rfl sc__law_worlds_told.nd takes0 (fun W pn xe tk po => (pss_one (ps_if (pt_cmpR (op_eqA (K := K) rfl hr.units) (pv 1) pe_int (nomark _))
      (pss_one (ps_set (i := 2) sc__law_worlds_told.nd rfl (.inl rfl) (pe_lst (pa_cons (pe_callSD (ok_worlds T) (hr.mono (by decide)) (by rfl) T.g_worlds T.F_worlds.kp ((bd_worlds T).choose_spec.2) ((bd_worlds T).choose_spec.1) (fun σ => passAt tk σ) (pa_cons (pv 0) pa_nil)) pa_nil))))
      (pss_one (ps_set (i := 2) sc__law_worlds_told.nd rfl (.inl rfl) (pe_lst (pa_cons (pe_callNS (ok_worlds T) (hr.mono (by decide)) (by rfl) T.g_worlds T.F_worlds.kp (kb_worlds_columns T).choose_spec (fun σ => passAt tk σ) (pa_cons (pv 0) pa_nil) (pk_cons (pv 1) pk_nil)) pa_nil)))))))
      (.cons (i := 3) rfl rfl ⟨rfl, by decide, .inl T.g_BadPredicate⟩ (fun a oe cls d pn hz hf => (pss_one (ps_set (i := 2) sc__law_worlds_told.nd rfl (.inl rfl) (pe_lst (pa_cons pe_str (pa_cons (pe_xf T.xf_BadPredicate T.no_BadPredicate hz hf (pv 3)) (pa_cons (pe_callB (call_isX T.is_BadPredicate hz hf) (by rfl) T.z_isinstance (by decide +kernel) (pa_cons (pv 3) (pa_cons (pe_glob (v := .ref T.C_PagesError) rfl T.g_PagesError rfl) pa_nil))) (pa_cons (pe_callB (call_isX T.is_BadPredicate hz hf) (by rfl) T.z_isinstance (by decide +kernel) (pa_cons (pv 3) (pa_cons (pe_glob (v := .ref T.C_TooWide) rfl T.g_TooWide rfl) pa_nil))) pa_nil))))))))
      (.cons (i := 4) rfl rfl ⟨rfl, by decide, .inl T.g_TooWide⟩ (fun a oe cls d pn hz hf => (pss_one (ps_set (i := 2) sc__law_worlds_told.nd rfl (.inl rfl) (pe_lst (pa_cons pe_str (pa_cons (pe_xf T.xf_TooWide T.no_TooWide hz hf (pv 4)) (pa_cons (pe_callB (call_isX T.is_TooWide hz hf) (by rfl) T.z_isinstance (by decide +kernel) (pa_cons (pv 4) (pa_cons (pe_glob (v := .ref T.C_PagesError) rfl T.g_PagesError rfl) pa_nil))) (pa_cons pe_bl pa_nil))))))))
      .nil)))
      (pss_one (ps_ret (pv 2))))), ?_⟩)
  exact sim_fn (ct := ctb T) (ms := []) (np := 2) (N := N__law_worlds_told)
      (sim_seq (sim_set (sim_lst sim_nil) (by decide))
      (sim_seq (sim_tryN (.cons (by decide) (fun c r e => T.fit_BadPredicate c r e) (fun a od c x hc => (sim_set (sim_lst (sim_cons (sim_c fun _ => .str _) (sim_cons (sim_xf (cX := 1) rfl rfl (by simp) (if_pos rfl)) (sim_cons (sim_isX (cX := 1) rfl (by simp) (if_pos rfl) T.kit_BadPredicate_PagesError) (sim_cons (sim_isX (cX := 1) rfl (by simp) (if_pos rfl) T.kit_BadPredicate_TooWide) sim_nil))))) (by decide)))
      (.cons (by decide) (fun c r e => T.fit_TooWide c r e) (fun a od c x hc => (sim_set (sim_lst (sim_cons (sim_c fun _ => .str _) (sim_cons (sim_xf (cX := 2) rfl rfl (by simp) (if_pos rfl)) (sim_cons (sim_isX (cX := 2) rfl (by simp) (if_pos rfl) T.kit_TooWide_PagesError) (sim_cons (sim_c fun _ => .bl _) sim_nil))))) (by decide)))
      .nil)) (fun W' => (sim_ifS (sim_test (sim_op so_eqA sim_var (sim_c fun _ => .int _)))
      (sim_set (sim_lst1 (sim_callSD (sim_bcons sim_var sim_bnil) (fun R => (Reps.cons (.int _) Reps.nil)))) (by decide))
      (sim_set (sim_lst1 (sim_callNS (sim_bcons sim_var sim_bnil) (sim_cons sim_var sim_nil) (fun σ R vs zs as bs h1 h2 => h1.app (h2.app (.of Reps.nil))))) (by decide)))))
      (sim_ret sim_move)))
      (by decide) (by decide) (SpM.unX h E0)
theorem ok_too_wide (T : Txt K mg) : FnOk P w K mg base CX0 3 T.a_too_wide T.d_too_wide ["_law_stream_here", "_law_wide"] (SpM K (ctb T) [0] m_too_wide) := by
  refine T.F_too_wide.ok sc__law_too_wide (fun vs H Q E h => SpM.len (np := 2) (n := 6) h) (fun cdv A outer s H vs Q E hr h => ⟨_, (pss_cons (ps_set (i := 2) sc__law_too_wide.nd rfl (.inl rfl) (pe_lst pa_nil))
      (pss_cons (ps_for PassesOwn.never rfl (pi_range1 (by rfl) T.z_range (pa_cons (pv 1) pa_nil)) (pg_name (i := 3) sc__law_too_wide.nd rfl (.inl rfl))
      (pss_cons (ps_set (i := 4) sc__law_too_wide.nd rfl (.inl rfl) (pe_call (ok_number T) (hr.mono (by decide)) (by rfl) T.g_number T.F_number.kp T.b_number .nil pass0 (pa_cons (pv 0) (pa_cons (pe_op op_pow pe_int pe_int) pa_nil))))
      (pss_one (ps_for PassesOwn.never rfl (pi_range1 (by rfl) T.z_range (pa_cons (pe_ix (ix_A (K := K) rfl) (pe_ix (ix_A (K := K) rfl) (pe_lst (pa_cons (pe_lst (pa_cons pe_int pa_nil)) (pa_cons (pe_lst (pa_cons pe_int (pa_cons pe_int pa_nil))) (pa_cons (pe_lst (pa_cons pe_int (pa_cons pe_int (pa_cons pe_int pa_nil)))) pa_nil)))) (pe_op op_sub (pv 1) pe_int) (fun _ _ => rfl)) (pv 3) (fun _ _ => rfl)) pa_nil)) (pg_name (i := 5) sc__law_too_wide.nd rfl (.inl rfl))
      (pss_one (ps_expr (pe_bmA (f := fun K => tBM K "list" rAppend (tVar 2) _) rfl (pe_bm PySem.F.plainAttrs_list PySem.F.slot_list_append PySem.F.type_list_append mt_append (pv 2) (pa_cons (pe_lst (pa_cons (pe_tup (pa_cons pe_str (pa_cons (pv 3) (pa_cons (pe_op (op_addA (K := K) rfl) (pv 4) (pe_op (op_mulA (K := K) rfl) pe_int (pv 5))) pa_nil)))) pa_nil)) pa_nil)))))))))
      (pss_one (ps_ret (pv 2))))), ?_⟩)
  exact sim_fn (ct := ctb T) (ms := [0]) (np := 2) (N := N__law_too_wide)
      (sim_seq (sim_set (sim_lst sim_nil) (by decide))
      (sim_seq (sim_for (sim_rg1 (sim_cons sim_var sim_nil)) (sim_name (by decide))
      (sim_seq (sim_set (sim_call0 (sim_bslot (sim_bcons (sim_op so_pow (sim_c fun _ => .int _) (sim_c fun _ => .int _)) sim_bnil))) (by decide))
      (sim_for (sim_rg1 (sim_cons (sim_op so_ixA (sim_op so_ixA ((sim_lst (sim_cons ((sim_lst (sim_cons (sim_c fun _ => .int _) sim_nil))).toF (sim_cons ((sim_lst (sim_cons (sim_c fun _ => .int _) (sim_cons (sim_c fun _ => .int _) sim_nil)))).toF (sim_cons ((sim_lst (sim_cons (sim_c fun _ => .int _) (sim_cons (sim_c fun _ => .int _) (sim_cons (sim_c fun _ => .int _) sim_nil))))).toF sim_nil))))).toF (sim_op so_sub sim_var (sim_c fun _ => .int _))) sim_var) sim_nil)) (sim_name (by decide))
      (sim_drop (sim_append (sim_cons ((sim_lst (sim_cons (sim_tup (sim_cons (sim_c fun _ => .str _) (sim_cons sim_var (sim_cons ((sim_opE so_addA sim_var ((sim_opE so_mulA (sim_c fun _ => .int _) sim_var)).toF)).toF sim_nil)))) sim_nil))).toF sim_nil))))))
      (sim_ret (sim_var).toE)))
      (by decide) (by decide) h
theorem ok_law0 {f : Addr} {fd : FuncData} (F : Fun K "law" "law" s_law f fd) (T : Txt K mg) : FnOk P w K mg base CX0 27 f fd ["_law_script"] (SpM K (ctb T) [] m_law) := by
  refine F.ok sc_law (fun vs H Q E h => SpM.len (np := 1) (n := 18) h) (fun cdv A outer s H vs Q E hr h => ⟨_, (pss_cons (ps_set (i := 1) sc_law.nd rfl (.inl rfl) (pe_call (ok_stream T) (hr.mono (by decide)) (by rfl) T.g_stream T.F_stream.kp T.b_stream .nil pass0 (pa_cons (pv 0) pa_nil)))
      (pss_cons (ps_set (i := 2) sc_law.nd rfl (.inl rfl) (pe_op (op_addA (K := K) rfl) pe_int (pe_call (ok_draw T) (hr.mono (by decide)) (by rfl) T.g_draw T.F_draw.kp T.b_draw .nil pass0 (pa_cons (pv 1) (pa_cons pe_int pa_nil)))))
      (pss_cons (ps_set (i := 3) sc_law.nd rfl (.inl rfl) (pe_call (ok_pool T) (hr.mono (by decide)) (by rfl) T.g_pool T.F_pool.kp T.b_pool .nil pass0 (pa_cons (pv 1) (pa_cons (pv 2) pa_nil))))
      (pss_cons (ps_set (i := 4) sc_law.nd rfl (.inl rfl) (pe_lst pa_nil))
      (pss_cons (ps_for PassesOwn.never rfl (pi_range1 (by rfl) T.z_range (pa_cons (pe_call (ok_draw T) (hr.mono (by decide)) (by rfl) T.g_draw T.F_draw.kp T.b_draw .nil pass0 (pa_cons (pv 1) (pa_cons pe_int pa_nil))) pa_nil)) (pg_name (i := 5) sc_law.nd rfl (.inl rfl))
      (pss_one (ps_expr (pe_bmA (f := fun K => tBM K "list" rAppend (tVar 4) _) rfl (pe_bm PySem.F.plainAttrs_list PySem.F.slot_list_append PySem.F.type_list_append mt_append (pv 4) (pa_cons (pe_call (ok_recipe T) (hr.mono (by decide)) (by rfl) T.g_recipe T.F_recipe.kp T.b_recipe .nil pass0 (pa_cons (pv 1) (pa_cons (pv 3) (pa_cons pe_int pa_nil)))) pa_nil))))))
      (pss_cons (ps_set (i := 6) sc_law.nd rfl (.inl rfl) (pe_call (ok_draw T) (hr.mono (by decide)) (by rfl) T.g_draw T.F_draw.kp T.b_draw .nil pass0 (pa_cons (pv 1) (pa_cons pe_int pa_nil))))
      (pss_cons (ps_if (pt_cmpR (op_eqA (K := K) rfl hr.units) (pv 6) pe_int (nomark _))
      (pss_cons (ps_set (i := 4) sc_law.nd rfl (.inl rfl) (pe_call (ok_too_wide T) (hr.mono (by decide)) (by rfl) T.g_too_wide T.F_too_wide.kp T.b_too_wide .nil pass0 (pa_cons (pv 1) (pa_cons (pv 2) pa_nil))))
      (pss_one (ps_set (i := 7) sc_law.nd rfl (.inl rfl) (pe_lst (pa_cons pe_str (pa_cons (pe_ix (ix_A (K := K) rfl) (pe_lst (pa_cons pe_int (pa_cons pe_int (pa_cons pe_int pa_nil)))) (pe_op op_sub (pv 2) pe_int) (fun _ _ => rfl)) (pa_cons pe_bl (pa_cons pe_bl pa_nil))))))))
      (pss_cons (ps_set (i := 8) sc_law.nd rfl (.inl rfl) (pe_lst pa_nil))
      (pss_cons (ps_set (i := 9) sc_law.nd rfl (.inl rfl) (pe_lst pa_nil))
      (pss_cons (ps_for PassesOwn.never rfl (pi_seq (K := K) rfl (pe_call (ok_boxes_of T) (hr.mono (by decide)) (by rfl) T.g_boxes_of T.F_boxes_of.kp T.b_boxes_of .nil pass0 (pa_cons (pv 4) (pa_cons (pv 2) pa_nil)))) (pg_name (i := 10) sc_law.nd rfl (.inr rfl))
      (pss_cons (ps_set (i := 11) sc_law.nd rfl (.inl rfl) (pe_callTy (cr_tuple (K := K) rfl) (by rfl) T.z_tuple (by decide +kernel) (pa_cons (pe_lc (own := [("_law_steps", 17)]) (tt := tYes) rfl sc_law.nd (pi_seq (K := K) rfl (pv 4)) (blkOk_by (own := [("_law_steps", 17)]) (N := N_law) (sc := defScope s_law) (by decide +kernel)) (fun _ _ _ _ _ => (pg_name (i := 17) sc_law.nd rfl (Or.inl rfl))) (fun _ _ _ _ _ => pts_nil) (fun _ _ _ _ _ => (pe_cmpR op_isA (pe_call (ok_judged T) (hr.mono (by decide)) (by rfl) T.g_judged T.F_judged.kp T.b_judged .nil pass0 (pa_cons (pv 17) (pa_cons (pv 10) pa_nil))) pe_bl (nomark _)))) pa_nil)))
      (pss_one (ps_if (pt_cmpR (op_notInDp (K := K) rfl (units65 hr)) (pv 11) (pv 9) (by rfl))
      (pss_cons (ps_expr (pe_bmA (f := fun K => tBM K "list" rAppend (tVar 9) _) rfl (pe_bm PySem.F.plainAttrs_list PySem.F.slot_list_append PySem.F.type_list_append mt_append (pv 9) (pa_cons (pv 11) pa_nil))))
      (pss_one (ps_expr (pe_bmA (f := fun K => tBM K "list" rAppend (tVar 8) _) rfl (pe_bm PySem.F.plainAttrs_list PySem.F.slot_list_append PySem.F.type_list_append mt_append (pv 8) (pa_cons (pe_tup (pa_cons (pv 11) (pa_cons (pv 10) pa_nil))) pa_nil))))))
      pss_nil))))
      (pss_one (ps_set (i := 7) sc_law.nd rfl (.inl rfl) (pe_lst (pa_cons (pv 8) pa_nil))))))))
      (pss_cons (ps_setLc (i := 12) (own := [("_law_steps", 17)]) (tt := tYes) rfl sc_law.nd rfl rfl (sw_true rfl rfl rfl (by decide +kernel)) (pi_seq (K := K) rfl (pv 4)) (blkOk_by (own := [("_law_steps", 17)]) (N := N_law) (sc := defScope s_law) (by decide +kernel)) (fun _ _ _ _ _ => (pg_name (i := 17) sc_law.nd rfl (Or.inl rfl))) (fun _ _ _ _ _ => pts_nil) (fun _ _ _ _ _ => (pe_call (ok_built T) (hr.mono (by decide)) (by rfl) T.g_built T.F_built.kp T.b_built .nil pass0 (pa_cons (pv 17) pa_nil))))
      (pss_cons (ps_if (pt_cmpR (op_eqA (K := K) rfl hr.units) (pv 6) pe_int (nomark _))
      (pss_cons (ps_set (i := 13) sc_law.nd rfl (.inl rfl) (pe_call (ok_draw T) (hr.mono (by decide)) (by rfl) T.g_draw T.F_draw.kp T.b_draw .nil pass0 (pa_cons (pv 1) (pa_cons (pe_op (op_addA (K := K) rfl) (pe_callB (cr_len (K := K) rfl) (by rfl) T.z_len PySem.boot_len (pa_cons (pv 12) pa_nil)) pe_int) pa_nil))))
      (pss_cons (ps_set (i := 14) sc_law.nd rfl (.inl rfl) (pe_ix (ix_A (K := K) rfl) (pe_lst (pa_cons pe_str (pa_cons pe_non (pa_cons (pe_lst (pa_cons pe_str (pa_cons pe_int (pa_cons pe_int pa_nil)))) (pa_cons (pe_tup (pa_cons pe_str (pa_cons (pv 2) pa_nil))) (pa_cons (pe_tup (pa_cons pe_str (pa_cons (pe_tup (pa_cons pe_str (pa_cons pe_int pa_nil))) pa_nil))) pa_nil)))))) (pe_call (ok_draw T) (hr.mono (by decide)) (by rfl) T.g_draw T.F_draw.kp T.b_draw .nil pass0 (pa_cons (pv 1) (pa_cons pe_int pa_nil))) (fun _ _ => rfl)))
      (pss_cons (ps_set (i := 12) sc_law.nd rfl (.inl rfl) (pe_op (op_addA (K := K) rfl) (pe_op (op_addA (K := K) rfl) (pe_op (op_addA (K := K) rfl) (pe_slice (sl_A (K := K) rfl) (pv 12) po_none (po_some (pv 13))) (pe_lst (pa_cons (pv 14) pa_nil))) (pe_slice (sl_A (K := K) rfl) (pv 12) (po_some (pv 13)) po_none)) (pe_op (op_mulA (K := K) rfl) (pe_lst (pa_cons (pe_tup pa_nil) pa_nil)) (pe_call (ok_draw T) (hr.mono (by decide)) (by rfl) T.g_draw T.F_draw.kp T.b_draw .nil pass0 (pa_cons (pv 1) (pa_cons pe_int pa_nil))))))
      (pss_one (ps_set (i := 7) sc_law.nd rfl (.inl rfl) (pe_lst (pa_cons pe_str (pa_cons (pv 14) (pa_cons pe_bl (pa_cons pe_bl pa_nil))))))))))
      pss_nil)
      (pss_cons (ps_set (i := 15) sc_law.nd rfl (.inl rfl) (pv 2))
      (pss_cons (ps_if (PW.pt (pw_and (pt_cmpR (op_eqA (K := K) rfl hr.units) (pv 2) pe_int (nomark _)) (pw_and1 (pt_cmpR (op_eqA (K := K) rfl hr.units) (pe_call (ok_draw T) (hr.mono (by decide)) (by rfl) T.g_draw T.F_draw.kp T.b_draw .nil pass0 (pa_cons (pv 1) (pa_cons pe_int pa_nil))) pe_int (nomark _)))))
      (pss_one (ps_set (i := 15) sc_law.nd rfl (.inl rfl) pe_int))
      pss_nil)
      (pss_cons (ps_for PassesOwn.never rfl (pi_range1 (by rfl) T.z_range (pa_cons pe_int pa_nil)) (pg_name (i := 5) sc_law.nd rfl (.inl rfl))
      (pss_cons (ps_set (i := 16) sc_law.nd rfl (.inl rfl) (pe_call (ok_worlds_told T) (hr.mono (by decide)) (by rfl) T.g_worlds_told T.F_worlds_told.kp T.b_worlds_told .nil pass0 (pa_cons (pv 12) (pa_cons (pv 15) pa_nil))))
      (pss_cons (ps_if (pt_not (pt_tru (K := K) rfl (pe_call (ok_alike T) (hr.mono (by decide)) (by rfl) T.g_alike T.F_alike.kp T.b_alike .nil pass0 (pa_cons (pv 16) (pa_cons (pv 7) pa_nil)))))
      (pss_one (ps_ret pe_bl))
      pss_nil)
      (pss_one (ps_if (pt_cmpR (op_eqA (K := K) rfl hr.units) (pe_callB (cr_len (K := K) rfl) (by rfl) T.z_len PySem.boot_len (pa_cons (pv 16) pa_nil)) pe_int (nomark _))
      (pss_one (ps_expr (pe_bmA (f := fun K => tBM K "list" rAppend (tOp (rIxA K) (tVar 16) _) (tCons _ tNil)) rfl (pe_bm PySem.F.plainAttrs_list PySem.F.slot_list_append PySem.F.type_list_append mt_append (pe_ix (ix_A (K := K) rfl) (pv 16) pe_int (fun _ _ => rfl)) (pa_cons pe_non pa_nil)))))
      pss_nil)))))
      (pss_one (ps_ret pe_bl)))))))))))))), ?_⟩)
  exact sim_fn (ct := ctb T) (ms := []) (np := 1) (N := N_law)
      (sim_seq (sim_set (sim_call0 (sim_bcons sim_var sim_bnil)) (by decide))
      (sim_seq (sim_set (sim_opE so_addA (sim_c fun _ => .int _) ((sim_call0 (sim_bslot (sim_bcons (sim_c fun _ => .int _) sim_bnil)))).toF) (by decide))
      (sim_seq (sim_set (sim_call0 (sim_bslot (sim_bcons sim_var sim_bnil))) (by decide))
      (sim_seq (sim_set (sim_lst sim_nil) (by decide))
      (sim_seq (sim_for (sim_rg1 (sim_cons ((sim_call0 (sim_bslot (sim_bcons (sim_c fun _ => .int _) sim_bnil)))).toF sim_nil)) (sim_name (by decide))
      (sim_drop (sim_append (sim_cons ((sim_call0 (sim_bslot (sim_bcons sim_var (sim_bcons (sim_c fun _ => .int _) sim_bnil))))).toF sim_nil))))
      (sim_seq (sim_set (sim_call0 (sim_bslot (sim_bcons (sim_c fun _ => .int _) sim_bnil))) (by decide))
      (sim_seq (sim_ifS (sim_test (sim_op so_eqA sim_var (sim_c fun _ => .int _)))
      (sim_seq (sim_set (sim_call0 (sim_bslot (sim_bcons sim_var sim_bnil))) (by decide))
      (sim_set (sim_lst (sim_cons (sim_c fun _ => .str _) (sim_cons (sim_op so_ixA ((sim_lst (sim_cons (sim_c fun _ => .int _) (sim_cons (sim_c fun _ => .int _) (sim_cons (sim_c fun _ => .int _) sim_nil))))).toF (sim_op so_sub sim_var (sim_c fun _ => .int _))) (sim_cons (sim_c fun _ => .bl _) (sim_cons (sim_c fun _ => .bl _) sim_nil))))) (by decide)))
      (sim_seq (sim_set (sim_lst sim_nil) (by decide))
      (sim_seq (sim_set (sim_lst sim_nil) (by decide))
      (sim_seq (sim_for (sim_seqI ((sim_call0 (sim_bcons sim_var (sim_bcons sim_var sim_bnil)))).toF) (sim_name (by decide))
      (sim_seq (sim_set ((sim_cb so_tuple (sim_cons ((sim_lc (vs := [17]) (sim_seqI sim_var) (sim_name (by decide)) (by decide) (by decide) sim_yes (sim_op so_isA ((sim_call0 (sim_bcons sim_var (sim_bcons sim_var sim_bnil)))).toF (sim_c fun _ => .bl _)))).toF sim_nil))).toE (by decide))
      (sim_ifS (sim_test (sim_inP sim_var))
      (sim_seq (sim_drop (sim_append (sim_cons sim_var sim_nil)))
      (sim_drop (sim_append (sim_cons (sim_tup (sim_cons sim_var (sim_cons sim_var sim_nil))) sim_nil))))
      sim_next)))
      (sim_set (sim_lst (sim_cons sim_var sim_nil)) (by decide))))))
      (sim_seq (sim_set (sim_lc (vs := [17]) (sim_seqI sim_var) (sim_name (by decide)) (by decide) (by decide) sim_yes ((sim_call0 (sim_bcons sim_var sim_bnil))).toF) (by decide))
      (sim_seq (sim_ifS (sim_test (sim_op so_eqA sim_var (sim_c fun _ => .int _)))
      (sim_seq (sim_set (sim_call0 (sim_bslot (sim_bcons ((sim_opE so_addA sim_lenV (sim_c fun _ => .int _))).toF sim_bnil))) (by decide))
      (sim_seq (sim_set ((sim_op so_ixA ((sim_lst (sim_cons (sim_c fun _ => .str _) (sim_cons (sim_c fun _ => .non) (sim_cons ((sim_lst (sim_cons (sim_c fun _ => .str _) (sim_cons (sim_c fun _ => .int _) (sim_cons (sim_c fun _ => .int _) sim_nil))))).toF (sim_cons (sim_tup (sim_cons (sim_c fun _ => .str _) (sim_cons sim_var sim_nil))) (sim_cons (sim_tup (sim_cons (sim_c fun _ => .str _) (sim_cons (sim_tup (sim_cons (sim_c fun _ => .str _) (sim_cons (sim_c fun _ => .int _) sim_nil))) sim_nil))) sim_nil))))))).toF ((sim_call0 (sim_bslot (sim_bcons (sim_c fun _ => .int _) sim_bnil)))).toF)).toE (by decide))
      (sim_seq (sim_set (sim_opE so_addA ((sim_opE so_addA ((sim_opE so_addA ((sim_slA sim_var sim_pno (sim_psome sim_var))).toF ((sim_lst (sim_cons sim_var sim_nil))).toF)).toF ((sim_slA sim_var (sim_psome sim_var) sim_pno)).toF)).toF ((sim_opE so_mulA ((sim_lst (sim_cons (sim_tup sim_nil) sim_nil))).toF ((sim_call0 (sim_bslot (sim_bcons (sim_c fun _ => .int _) sim_bnil)))).toF)).toF) (by decide))
      (sim_set (sim_lst (sim_cons (sim_c fun _ => .str _) (sim_cons sim_var (sim_cons (sim_c fun _ => .bl _) (sim_cons (sim_c fun _ => .bl _) sim_nil))))) (by decide)))))
      sim_next)
      (sim_seq (sim_set (sim_var).toE (by decide))
      (sim_seq (sim_ifS (sim_and (sim_test (sim_op so_eqA sim_var (sim_c fun _ => .int _))) (sim_test (sim_op so_eqA ((sim_call0 (sim_bslot (sim_bcons (sim_c fun _ => .int _) sim_bnil)))).toF (sim_c fun _ => .int _))))
      (sim_set ((sim_c fun _ => .int _)).toE (by decide))
      sim_next)
      (sim_seq (sim_for (sim_rg1 (sim_cons (sim_c fun _ => .int _) sim_nil)) (sim_name (by decide))
      (sim_seq (sim_set (sim_call0 (sim_bcons sim_var (sim_bcons sim_var sim_bnil))) (by decide))
      (sim_seq (sim_ifS (sim_not (sim_tru (sim_peek (sim_bslot (sim_bslot sim_bnil)))))
      (sim_ret ((sim_c fun _ => .bl _)).toE)
      sim_next)
      (sim_ifS (sim_test (sim_op so_eqA sim_lenV (sim_c fun _ => .int _)))
      (sim_drop (sim_appIx (n := 0) fun _ => .non))
      sim_next))))
      (sim_ret ((sim_c fun _ => .bl _)).toE)))))))))))))
      (by decide) (by decide) h
end
def spLaw (K : PySem.W.Frag) : Sp := fun vs H Q _ => ∃ (a : Addr) (ns : List Int), vs = [.ref a] ∧ SqL K H a (ns.map V.int) ∧ ns.length ≤ 63 ∧ ∀ H', Q (.bl true) H'
theorem ok_law {P : Program} {w : World} {K : PySem.W.Frag} {mg : Str → Option Value} {base : Heap} {f : Addr} {fd : FuncData} (F : Fun K "law" "law" s_law f fd) (T : Txt K mg) : FnOk P w K mg base CX0 27 f fd ["_law_script"] (spLaw K) := FnOk.imp (ok_law0 F T) fun vs H Q E h => law_sp law_true h
theorem all_mk {l : PySem.W.OpenLaw} {w : World} {K : PySem.W.Frag} {h : Heap} {mg : Str → Option Value} {fa : Addr} (X : K.In h) (G : h.Ns mainGlobals mg) (hfa : mg "law" = some (.ref fa))
    {C_PagesError : Addr}
    {C_BadPredicate : Addr}
    {C_TooWide : Addr}
    {nm_BadPredicate q_BadPredicate : Str} {NS_BadPredicate : Addr} {bs_BadPredicate : List Value} {sn_BadPredicate : List Str} {sb_BadPredicate : List Value} {ab_BadPredicate : Bool} {co_BadPredicate : Option Bool} {dd_BadPredicate : Option Addr} {m0_BadPredicate m1_BadPredicate m2_BadPredicate m3_BadPredicate m5_BadPredicate : Option Value}
    {nm_TooWide q_TooWide : Str} {NS_TooWide : Addr} {bs_TooWide : List Value} {sn_TooWide : List Str} {sb_TooWide : List Value} {ab_TooWide : Bool} {co_TooWide : Option Bool} {dd_TooWide : Option Addr} {m0_TooWide m1_TooWide m2_TooWide m3_TooWide m5_TooWide : Option Value}
    {f0 : Addr} {od0 an0 : Option Addr} {sl0 : Array (Option Value)} {oc0 kV0 dc0 pm0 cd0 ct0 : Value}
    {f1 : Addr} {od1 an1 : Option Addr} {sl1 : Array (Option Value)} {oc1 kV1 dc1 pm1 cd1 ct1 : Value}
    {f2 : Addr} {od2 an2 : Option Addr} {sl2 : Array (Option Value)} {oc2 kV2 dc2 pm2 cd2 ct2 : Value}
    {f3 : Addr} {od3 an3 : Option Addr} {sl3 : Array (Option Value)} {oc3 kV3 dc3 pm3 cd3 ct3 : Value}
    {f4 : Addr} {od4 an4 : Option Addr} {sl4 : Array (Option Value)} {oc4 kV4 dc4 pm4 cd4 ct4 : Value}
    {f5 : Addr} {od5 an5 : Option Addr} {sl5 : Array (Option Value)} {oc5 dc5 pm5 cd5 ct5 : Value}
    {kd5 : Addr}
    {kt5_0 : Tok}
    {f6 : Addr} {od6 an6 : Option Addr} {sl6 : Array (Option Value)} {oc6 kV6 dc6 pm6 cd6 ct6 : Value}
    {f7 : Addr} {od7 an7 : Option Addr} {sl7 : Array (Option Value)} {oc7 kV7 dc7 pm7 cd7 ct7 : Value}
    {f8 : Addr} {od8 an8 : Option Addr} {sl8 : Array (Option Value)} {oc8 kV8 dc8 pm8 cd8 ct8 : Value}
    {f9 : Addr} {od9 an9 : Option Addr} {sl9 : Array (Option Value)} {oc9 kV9 dc9 pm9 cd9 ct9 : Value}
    {f10 : Addr} {od10 an10 : Option Addr} {sl10 : Array (Option Value)} {oc10 kV10 dc10 pm10 cd10 ct10 : Value}
    {f11 : Addr} {od11 an11 : Option Addr} {sl11 : Array (Option Value)} {oc11 kV11 dc11 pm11 cd11 ct11 : Value}
    {f12 : Addr} {od12 an12 : Option Addr} {sl12 : Array (Option Value)} {oc12 kV12 dc12 pm12 cd12 ct12 : Value}
    {f13 : Addr} {od13 an13 : Option Addr} {sl13 : Array (Option Value)} {oc13 kV13 dc13 pm13 cd13 ct13 : Value}
    {f14 : Addr} {od14 an14 : Option Addr} {sl14 : Array (Option Value)} {oc14 kV14 dc14 pm14 cd14 ct14 : Value}
    {f15 : Addr} {od15 an15 : Option Addr} {sl15 : Array (Option Value)} {oc15 kV15 dc15 pm15 cd15 ct15 : Value}
    {f16 : Addr} {od16 an16 : Option Addr} {sl16 : Array (Option Value)} {oc16 kV16 dc16 pm16 cd16 ct16 : Value}
    {f17 : Addr} {od17 an17 : Option Addr} {sl17 : Array (Option Value)} {oc17 kV17 dc17 pm17 cd17 ct17 : Value}
    {f18 : Addr} {od18 an18 : Option Addr} {sl18 : Array (Option Value)} {oc18 dc18 pm18 cd18 ct18 : Value}
    {kd18 : Addr}
    {kt18_0 : Tok}
    {f19 : Addr} {od19 an19 : Option Addr} {sl19 : Array (Option Value)} {oc19 dc19 pm19 cd19 ct19 : Value}
    {kd19 : Addr}
    {kt19_0 : Tok}
    {f20 : Addr} {od20 an20 : Option Addr} {sl20 : Array (Option Value)} {oc20 kV20 dc20 pm20 cd20 ct20 : Value}
    {f21 : Addr} {od21 an21 : Option Addr} {sl21 : Array (Option Value)} {oc21 kV21 dc21 pm21 cd21 ct21 : Value}
    {f22 : Addr} {od22 an22 : Option Addr} {sl22 : Array (Option Value)} {oc22 kV22 dc22 pm22 cd22 ct22 : Value}
    {f23 : Addr} {od23 an23 : Option Addr} {sl23 : Array (Option Value)} {oc23 kV23 dc23 pm23 cd23 ct23 : Value}
    {f24 : Addr} {od24 an24 : Option Addr} {sl24 : Array (Option Value)} {oc24 kV24 dc24 pm24 cd24 ct24 : Value}
    {f25 : Addr} {od25 an25 : Option Addr} {sl25 : Array (Option Value)} {oc25 kV25 dc25 pm25 cd25 ct25 : Value}
    {f26 : Addr} {od26 an26 : Option Addr} {sl26 : Array (Option Value)} {oc26 kV26 dc26 pm26 cd26 ct26 : Value}
    {f27 : Addr} {od27 an27 : Option Addr} {sl27 : Array (Option Value)} {oc27 kV27 dc27 pm27 cd27 ct27 : Value}
    {f28 : Addr} {od28 an28 : Option Addr} {sl28 : Array (Option Value)} {oc28 kV28 dc28 pm28 cd28 ct28 : Value}
    {f29 : Addr} {od29 an29 : Option Addr} {sl29 : Array (Option Value)} {oc29 kV29 dc29 pm29 cd29 ct29 : Value}
    {f30 : Addr} {od30 an30 : Option Addr} {sl30 : Array (Option Value)} {oc30 kV30 dc30 pm30 cd30 ct30 : Value}
    {f31 : Addr} {od31 an31 : Option Addr} {sl31 : Array (Option Value)} {oc31 kV31 dc31 pm31 cd31 ct31 : Value}
    {f32 : Addr} {od32 an32 : Option Addr} {sl32 : Array (Option Value)} {oc32 kV32 dc32 pm32 cd32 ct32 : Value}
    {f33 : Addr} {od33 an33 : Option Addr} {sl33 : Array (Option Value)} {oc33 kV33 dc33 pm33 cd33 ct33 : Value}
    {f34 : Addr} {od34 an34 : Option Addr} {sl34 : Array (Option Value)} {oc34 kV34 dc34 pm34 cd34 ct34 : Value}
    {f35 : Addr} {od35 an35 : Option Addr} {sl35 : Array (Option Value)} {oc35 kV35 dc35 pm35 cd35 ct35 : Value}
    {f36 : Addr} {od36 an36 : Option Addr} {sl36 : Array (Option Value)} {oc36 kV36 dc36 pm36 cd36 ct36 : Value}
    {t_GREATEST : Tok}
    {t_MOST_NODES : Tok}
    {t_MOST_TUPLES : Tok}
    {c_SIGNS : Addr}
    {dd_SIGNS : Option Addr} {nn_SIGNS : Nat} {ss_SIGNS : Array (Option Value)} {t_SIGNS_0 : Tok} {t_SIGNS_1 : Tok} {t_SIGNS_2 : Tok} {t_SIGNS_3 : Tok} {t_SIGNS_4 : Tok} {t_SIGNS_5 : Tok}
    (gC_PagesError : PySem.W.nsIn K mainGlobals "PagesError" = some (some (.ref C_PagesError)))
    (gC_BadPredicate : PySem.W.nsIn K mainGlobals "BadPredicate" = some (some (.ref C_BadPredicate)))
    (gC_TooWide : PySem.W.nsIn K mainGlobals "TooWide" = some (some (.ref C_TooWide)))
    (kgC : PySem.W.specialIn K (.builtin "object.__class__") "__get__" = some (some (.builtin "getset_descriptor.__get__")))
    (ktC : PySem.W.takesIn K (.builtin "object.__class__") = some true)
    (ga_PagesError : PySem.W.findIn K (.ref C_PagesError) "__getattribute__" = some (some (.builtin "BaseException.__getattribute__")))
    (gt_PagesError : PySem.W.findIn K (.ref C_PagesError) "__getattr__" = some none)
    (sub_PagesError : PySem.W.subIn K (.ref C_PagesError) (.type "BaseException") = some true)
    (kc_PagesError : PySem.W.findIn K (.ref C_PagesError) "__class__" = some (some (.builtin "object.__class__")))
    (ob_PagesError : PySem.W.mroIn K C_PagesError (.type "object") = some true)
    (cI_PagesError : PySem.W.isClsIn K C_PagesError = true)
    (cT_PagesError : PySem.W.typeIn K (.ref C_PagesError) = some (.type "type"))
    (hd_PagesError : PySem.W.hasDictIn K C_PagesError = true)
    (kC_PagesError : PySem.W.keepIn K (.ref C_PagesError) = true)
    (xF_PagesError : PySem.W.excIn K C_PagesError [.type "ValueError", .type "Exception", .type "BaseException", .type "object"] "ValueError.__new__" = true)
    (sg_PagesError : PySem.W.specialIn K (.ref C_PagesError) "__getattribute__" = some (some (.builtin "type.__getattribute__")))
    (rd_PagesError : PySem.W.readsIn K C_PagesError (.type "type") = true)
    (vV_PagesError : PySem.W.findCls K (.ref C_PagesError) (.type "type") "__init__" = some (.val (.builtin "ValueError.__init__")))
    (su_PagesError_PagesError : PySem.W.subIn K (.ref C_PagesError) (.ref C_PagesError) = some true)
    (su_PagesError_BadPredicate : PySem.W.subIn K (.ref C_PagesError) (.ref C_BadPredicate) = some false)
    (su_PagesError_TooWide : PySem.W.subIn K (.ref C_PagesError) (.ref C_TooWide) = some false)
    (ga_BadPredicate : PySem.W.findIn K (.ref C_BadPredicate) "__getattribute__" = some (some (.builtin "BaseException.__getattribute__")))
    (gt_BadPredicate : PySem.W.findIn K (.ref C_BadPredicate) "__getattr__" = some none)
    (sub_BadPredicate : PySem.W.subIn K (.ref C_BadPredicate) (.type "BaseException") = some true)
    (kc_BadPredicate : PySem.W.findIn K (.ref C_BadPredicate) "__class__" = some (some (.builtin "object.__class__")))
    (ob_BadPredicate : PySem.W.mroIn K C_BadPredicate (.type "object") = some true)
    (cI_BadPredicate : PySem.W.isClsIn K C_BadPredicate = true)
    (cT_BadPredicate : PySem.W.typeIn K (.ref C_BadPredicate) = some (.type "type"))
    (hd_BadPredicate : PySem.W.hasDictIn K C_BadPredicate = true)
    (kC_BadPredicate : PySem.W.keepIn K (.ref C_BadPredicate) = true)
    (xL_BadPredicate : K.lookup C_BadPredicate = some (excClassObj nm_BadPredicate q_BadPredicate C_BadPredicate NS_BadPredicate bs_BadPredicate [.ref C_PagesError, .type "ValueError", .type "Exception", .type "BaseException", .type "object"] true sn_BadPredicate sb_BadPredicate ab_BadPredicate co_BadPredicate dd_BadPredicate m0_BadPredicate m1_BadPredicate m2_BadPredicate m3_BadPredicate m5_BadPredicate "ValueError.__new__"))
    (sa_BadPredicate : PySem.W.findIn K (.ref C_BadPredicate) "__setattr__" = some (some (.builtin "object.__setattr__")))
    (no_BadPredicate : PySem.W.findIn K (.ref C_BadPredicate) "predicate" = some none)
    (su_BadPredicate_PagesError : PySem.W.subIn K (.ref C_BadPredicate) (.ref C_PagesError) = some true)
    (su_BadPredicate_BadPredicate : PySem.W.subIn K (.ref C_BadPredicate) (.ref C_BadPredicate) = some true)
    (su_BadPredicate_TooWide : PySem.W.subIn K (.ref C_BadPredicate) (.ref C_TooWide) = some false)
    (ga_TooWide : PySem.W.findIn K (.ref C_TooWide) "__getattribute__" = some (some (.builtin "BaseException.__getattribute__")))
    (gt_TooWide : PySem.W.findIn K (.ref C_TooWide) "__getattr__" = some none)
    (sub_TooWide : PySem.W.subIn K (.ref C_TooWide) (.type "BaseException") = some true)
    (kc_TooWide : PySem.W.findIn K (.ref C_TooWide) "__class__" = some (some (.builtin "object.__class__")))
    (ob_TooWide : PySem.W.mroIn K C_TooWide (.type "object") = some true)
    (cI_TooWide : PySem.W.isClsIn K C_TooWide = true)
    (cT_TooWide : PySem.W.typeIn K (.ref C_TooWide) = some (.type "type"))
    (hd_TooWide : PySem.W.hasDictIn K C_TooWide = true)
    (kC_TooWide : PySem.W.keepIn K (.ref C_TooWide) = true)
    (xL_TooWide : K.lookup C_TooWide = some (excClassObj nm_TooWide q_TooWide C_TooWide NS_TooWide bs_TooWide [.ref C_PagesError, .type "ValueError", .type "Exception", .type "BaseException", .type "object"] true sn_TooWide sb_TooWide ab_TooWide co_TooWide dd_TooWide m0_TooWide m1_TooWide m2_TooWide m3_TooWide m5_TooWide "ValueError.__new__"))
    (sa_TooWide : PySem.W.findIn K (.ref C_TooWide) "__setattr__" = some (some (.builtin "object.__setattr__")))
    (no_TooWide : PySem.W.findIn K (.ref C_TooWide) "boxes" = some none)
    (su_TooWide_PagesError : PySem.W.subIn K (.ref C_TooWide) (.ref C_PagesError) = some true)
    (su_TooWide_BadPredicate : PySem.W.subIn K (.ref C_TooWide) (.ref C_BadPredicate) = some false)
    (su_TooWide_TooWide : PySem.W.subIn K (.ref C_TooWide) (.ref C_TooWide) = some true)
    (a0 : PySem.W.findIn K (.ref C_BadPredicate) "__init__" = some (some (.ref f0)))
    (t0 : PySem.W.typeIn K (.ref f0) = some (.type "function"))
    (l0 : K.lookup f0 = some ⟨oc0, od0, .func (PySem.W.fnOf "__init__" "BadPredicate.__init__" (defArgs s_BadPredicate_init) (defBody s_BadPredicate_init) (defScope s_BadPredicate_init) .none kV0 dc0 pm0 an0 cd0 ct0), sl0⟩)
    (c0 : PySem.W.codeIn K cd0 "BadPredicate.__init__" = true)
    (k0 : PySem.W.keepIn K (.ref f0) = true)
    (a1 : PySem.W.findIn K (.ref C_TooWide) "__init__" = some (some (.ref f1)))
    (t1 : PySem.W.typeIn K (.ref f1) = some (.type "function"))
    (l1 : K.lookup f1 = some ⟨oc1, od1, .func (PySem.W.fnOf "__init__" "TooWide.__init__" (defArgs s_TooWide_init) (defBody s_TooWide_init) (defScope s_TooWide_init) .none kV1 dc1 pm1 an1 cd1 ct1), sl1⟩)
    (c1 : PySem.W.codeIn K cd1 "TooWide.__init__" = true)
    (k1 : PySem.W.keepIn K (.ref f1) = true)
    (a2 : PySem.W.nsIn K mainGlobals "is_between" = some (some (.ref f2)))
    (l2 : K.lookup f2 = some ⟨oc2, od2, .func (PySem.W.fnOf "is_between" "is_between" (defArgs s_is_between) (defBody s_is_between) (defScope s_is_between) .none kV2 dc2 pm2 an2 cd2 ct2), sl2⟩)
    (c2 : PySem.W.codeIn K cd2 "is_between" = true)
    (k2 : PySem.W.keepIn K (.ref f2) = true)
    (a3 : PySem.W.nsIn K mainGlobals "is_node" = some (some (.ref f3)))
    (l3 : K.lookup f3 = some ⟨oc3, od3, .func (PySem.W.fnOf "is_node" "is_node" (defArgs s_is_node) (defBody s_is_node) (defScope s_is_node) .none kV3 dc3 pm3 an3 cd3 ct3), sl3⟩)
    (c3 : PySem.W.codeIn K cd3 "is_node" = true)
    (k3 : PySem.W.keepIn K (.ref f3) = true)
    (a4 : PySem.W.nsIn K mainGlobals "parts_of" = some (some (.ref f4)))
    (l4 : K.lookup f4 = some ⟨oc4, od4, .func (PySem.W.fnOf "parts_of" "parts_of" (defArgs s_parts_of) (defBody s_parts_of) (defScope s_parts_of) .none kV4 dc4 pm4 an4 cd4 ct4), sl4⟩)
    (c4 : PySem.W.codeIn K cd4 "parts_of" = true)
    (k4 : PySem.W.keepIn K (.ref f4) = true)
    (a5 : PySem.W.nsIn K mainGlobals "check_predicate" = some (some (.ref f5)))
    (l5 : K.lookup f5 = some ⟨oc5, od5, .func (PySem.W.fnOf "check_predicate" "check_predicate" (defArgs s_check_predicate) (defBody s_check_predicate) (defScope s_check_predicate) .none (.ref kd5) dc5 pm5 an5 cd5 ct5), sl5⟩)
    (kn5_0 : PySem.W.nsIn K kd5 "columns" = some (some (.int (2) kt5_0)))
    (c5 : PySem.W.codeIn K cd5 "check_predicate" = true)
    (k5 : PySem.W.keepIn K (.ref f5) = true)
    (a6 : PySem.W.nsIn K mainGlobals "comparisons_of" = some (some (.ref f6)))
    (l6 : K.lookup f6 = some ⟨oc6, od6, .func (PySem.W.fnOf "comparisons_of" "comparisons_of" (defArgs s_comparisons_of) (defBody s_comparisons_of) (defScope s_comparisons_of) .none kV6 dc6 pm6 an6 cd6 ct6), sl6⟩)
    (c6 : PySem.W.codeIn K cd6 "comparisons_of" = true)
    (k6 : PySem.W.keepIn K (.ref f6) = true)
    (a7 : PySem.W.nsIn K mainGlobals "compares" = some (some (.ref f7)))
    (l7 : K.lookup f7 = some ⟨oc7, od7, .func (PySem.W.fnOf "compares" "compares" (defArgs s_compares) (defBody s_compares) (defScope s_compares) .none kV7 dc7 pm7 an7 cd7 ct7), sl7⟩)
    (c7 : PySem.W.codeIn K cd7 "compares" = true)
    (k7 : PySem.W.keepIn K (.ref f7) = true)
    (a8 : PySem.W.nsIn K mainGlobals "comparison_truth" = some (some (.ref f8)))
    (l8 : K.lookup f8 = some ⟨oc8, od8, .func (PySem.W.fnOf "comparison_truth" "comparison_truth" (defArgs s_comparison_truth) (defBody s_comparison_truth) (defScope s_comparison_truth) .none kV8 dc8 pm8 an8 cd8 ct8), sl8⟩)
    (c8 : PySem.W.codeIn K cd8 "comparison_truth" = true)
    (k8 : PySem.W.keepIn K (.ref f8) = true)
    (a9 : PySem.W.nsIn K mainGlobals "both_truth" = some (some (.ref f9)))
    (l9 : K.lookup f9 = some ⟨oc9, od9, .func (PySem.W.fnOf "both_truth" "both_truth" (defArgs s_both_truth) (defBody s_both_truth) (defScope s_both_truth) .none kV9 dc9 pm9 an9 cd9 ct9), sl9⟩)
    (c9 : PySem.W.codeIn K cd9 "both_truth" = true)
    (k9 : PySem.W.keepIn K (.ref f9) = true)
    (a10 : PySem.W.nsIn K mainGlobals "either_truth" = some (some (.ref f10)))
    (l10 : K.lookup f10 = some ⟨oc10, od10, .func (PySem.W.fnOf "either_truth" "either_truth" (defArgs s_either_truth) (defBody s_either_truth) (defScope s_either_truth) .none kV10 dc10 pm10 an10 cd10 ct10), sl10⟩)
    (c10 : PySem.W.codeIn K cd10 "either_truth" = true)
    (k10 : PySem.W.keepIn K (.ref f10) = true)
    (a11 : PySem.W.nsIn K mainGlobals "negation_truth" = some (some (.ref f11)))
    (l11 : K.lookup f11 = some ⟨oc11, od11, .func (PySem.W.fnOf "negation_truth" "negation_truth" (defArgs s_negation_truth) (defBody s_negation_truth) (defScope s_negation_truth) .none kV11 dc11 pm11 an11 cd11 ct11), sl11⟩)
    (c11 : PySem.W.codeIn K cd11 "negation_truth" = true)
    (k11 : PySem.W.keepIn K (.ref f11) = true)
    (a12 : PySem.W.nsIn K mainGlobals "truth" = some (some (.ref f12)))
    (l12 : K.lookup f12 = some ⟨oc12, od12, .func (PySem.W.fnOf "truth" "truth" (defArgs s_truth) (defBody s_truth) (defScope s_truth) .none kV12 dc12 pm12 an12 cd12 ct12), sl12⟩)
    (c12 : PySem.W.codeIn K cd12 "truth" = true)
    (k12 : PySem.W.keepIn K (.ref f12) = true)
    (a13 : PySem.W.nsIn K mainGlobals "holds" = some (some (.ref f13)))
    (l13 : K.lookup f13 = some ⟨oc13, od13, .func (PySem.W.fnOf "holds" "holds" (defArgs s_holds) (defBody s_holds) (defScope s_holds) .none kV13 dc13 pm13 an13 cd13 ct13), sl13⟩)
    (c13 : PySem.W.codeIn K cd13 "holds" = true)
    (k13 : PySem.W.keepIn K (.ref f13) = true)
    (a14 : PySem.W.nsIn K mainGlobals "numbers_of" = some (some (.ref f14)))
    (l14 : K.lookup f14 = some ⟨oc14, od14, .func (PySem.W.fnOf "numbers_of" "numbers_of" (defArgs s_numbers_of) (defBody s_numbers_of) (defScope s_numbers_of) .none kV14 dc14 pm14 an14 cd14 ct14), sl14⟩)
    (c14 : PySem.W.codeIn K cd14 "numbers_of" = true)
    (k14 : PySem.W.keepIn K (.ref f14) = true)
    (a15 : PySem.W.nsIn K mainGlobals "class_starts" = some (some (.ref f15)))
    (l15 : K.lookup f15 = some ⟨oc15, od15, .func (PySem.W.fnOf "class_starts" "class_starts" (defArgs s_class_starts) (defBody s_class_starts) (defScope s_class_starts) .none kV15 dc15 pm15 an15 cd15 ct15), sl15⟩)
    (c15 : PySem.W.codeIn K cd15 "class_starts" = true)
    (k15 : PySem.W.keepIn K (.ref f15) = true)
    (a16 : PySem.W.nsIn K mainGlobals "stand_ins" = some (some (.ref f16)))
    (l16 : K.lookup f16 = some ⟨oc16, od16, .func (PySem.W.fnOf "stand_ins" "stand_ins" (defArgs s_stand_ins) (defBody s_stand_ins) (defScope s_stand_ins) .none kV16 dc16 pm16 an16 cd16 ct16), sl16⟩)
    (c16 : PySem.W.codeIn K cd16 "stand_ins" = true)
    (k16 : PySem.W.keepIn K (.ref f16) = true)
    (a17 : PySem.W.nsIn K mainGlobals "combine" = some (some (.ref f17)))
    (l17 : K.lookup f17 = some ⟨oc17, od17, .func (PySem.W.fnOf "combine" "combine" (defArgs s_combine) (defBody s_combine) (defScope s_combine) .none kV17 dc17 pm17 an17 cd17 ct17), sl17⟩)
    (c17 : PySem.W.codeIn K cd17 "combine" = true)
    (k17 : PySem.W.keepIn K (.ref f17) = true)
    (a18 : PySem.W.nsIn K mainGlobals "boxes" = some (some (.ref f18)))
    (l18 : K.lookup f18 = some ⟨oc18, od18, .func (PySem.W.fnOf "boxes" "boxes" (defArgs s_boxes) (defBody s_boxes) (defScope s_boxes) .none (.ref kd18) dc18 pm18 an18 cd18 ct18), sl18⟩)
    (kn18_0 : PySem.W.nsIn K kd18 "columns" = some (some (.int (2) kt18_0)))
    (c18 : PySem.W.codeIn K cd18 "boxes" = true)
    (k18 : PySem.W.keepIn K (.ref f18) = true)
    (a19 : PySem.W.nsIn K mainGlobals "worlds" = some (some (.ref f19)))
    (l19 : K.lookup f19 = some ⟨oc19, od19, .func (PySem.W.fnOf "worlds" "worlds" (defArgs s_worlds) (defBody s_worlds) (defScope s_worlds) .none (.ref kd19) dc19 pm19 an19 cd19 ct19), sl19⟩)
    (kn19_0 : PySem.W.nsIn K kd19 "columns" = some (some (.int (2) kt19_0)))
    (c19 : PySem.W.codeIn K cd19 "worlds" = true)
    (k19 : PySem.W.keepIn K (.ref f19) = true)
    (a20 : PySem.W.nsIn K mainGlobals "_law_stream" = some (some (.ref f20)))
    (l20 : K.lookup f20 = some ⟨oc20, od20, .func (PySem.W.fnOf "_law_stream" "_law_stream" (defArgs s__law_stream) (defBody s__law_stream) (defScope s__law_stream) .none kV20 dc20 pm20 an20 cd20 ct20), sl20⟩)
    (c20 : PySem.W.codeIn K cd20 "_law_stream" = true)
    (k20 : PySem.W.keepIn K (.ref f20) = true)
    (a21 : PySem.W.nsIn K mainGlobals "_law_draw" = some (some (.ref f21)))
    (l21 : K.lookup f21 = some ⟨oc21, od21, .func (PySem.W.fnOf "_law_draw" "_law_draw" (defArgs s__law_draw) (defBody s__law_draw) (defScope s__law_draw) .none kV21 dc21 pm21 an21 cd21 ct21), sl21⟩)
    (c21 : PySem.W.codeIn K cd21 "_law_draw" = true)
    (k21 : PySem.W.keepIn K (.ref f21) = true)
    (a22 : PySem.W.nsIn K mainGlobals "_law_number" = some (some (.ref f22)))
    (l22 : K.lookup f22 = some ⟨oc22, od22, .func (PySem.W.fnOf "_law_number" "_law_number" (defArgs s__law_number) (defBody s__law_number) (defScope s__law_number) .none kV22 dc22 pm22 an22 cd22 ct22), sl22⟩)
    (c22 : PySem.W.codeIn K cd22 "_law_number" = true)
    (k22 : PySem.W.keepIn K (.ref f22) = true)
    (a23 : PySem.W.nsIn K mainGlobals "_law_pool" = some (some (.ref f23)))
    (l23 : K.lookup f23 = some ⟨oc23, od23, .func (PySem.W.fnOf "_law_pool" "_law_pool" (defArgs s__law_pool) (defBody s__law_pool) (defScope s__law_pool) .none kV23 dc23 pm23 an23 cd23 ct23), sl23⟩)
    (c23 : PySem.W.codeIn K cd23 "_law_pool" = true)
    (k23 : PySem.W.keepIn K (.ref f23) = true)
    (a24 : PySem.W.nsIn K mainGlobals "_law_leaf" = some (some (.ref f24)))
    (l24 : K.lookup f24 = some ⟨oc24, od24, .func (PySem.W.fnOf "_law_leaf" "_law_leaf" (defArgs s__law_leaf) (defBody s__law_leaf) (defScope s__law_leaf) .none kV24 dc24 pm24 an24 cd24 ct24), sl24⟩)
    (c24 : PySem.W.codeIn K cd24 "_law_leaf" = true)
    (k24 : PySem.W.keepIn K (.ref f24) = true)
    (a25 : PySem.W.nsIn K mainGlobals "_law_recipe" = some (some (.ref f25)))
    (l25 : K.lookup f25 = some ⟨oc25, od25, .func (PySem.W.fnOf "_law_recipe" "_law_recipe" (defArgs s__law_recipe) (defBody s__law_recipe) (defScope s__law_recipe) .none kV25 dc25 pm25 an25 cd25 ct25), sl25⟩)
    (c25 : PySem.W.codeIn K cd25 "_law_recipe" = true)
    (k25 : PySem.W.keepIn K (.ref f25) = true)
    (a26 : PySem.W.nsIn K mainGlobals "_law_built" = some (some (.ref f26)))
    (l26 : K.lookup f26 = some ⟨oc26, od26, .func (PySem.W.fnOf "_law_built" "_law_built" (defArgs s__law_built) (defBody s__law_built) (defScope s__law_built) .none kV26 dc26 pm26 an26 cd26 ct26), sl26⟩)
    (c26 : PySem.W.codeIn K cd26 "_law_built" = true)
    (k26 : PySem.W.keepIn K (.ref f26) = true)
    (a27 : PySem.W.nsIn K mainGlobals "_law_compared" = some (some (.ref f27)))
    (l27 : K.lookup f27 = some ⟨oc27, od27, .func (PySem.W.fnOf "_law_compared" "_law_compared" (defArgs s__law_compared) (defBody s__law_compared) (defScope s__law_compared) .none kV27 dc27 pm27 an27 cd27 ct27), sl27⟩)
    (c27 : PySem.W.codeIn K cd27 "_law_compared" = true)
    (k27 : PySem.W.keepIn K (.ref f27) = true)
    (a28 : PySem.W.nsIn K mainGlobals "_law_joined" = some (some (.ref f28)))
    (l28 : K.lookup f28 = some ⟨oc28, od28, .func (PySem.W.fnOf "_law_joined" "_law_joined" (defArgs s__law_joined) (defBody s__law_joined) (defScope s__law_joined) .none kV28 dc28 pm28 an28 cd28 ct28), sl28⟩)
    (c28 : PySem.W.codeIn K cd28 "_law_joined" = true)
    (k28 : PySem.W.keepIn K (.ref f28) = true)
    (a29 : PySem.W.nsIn K mainGlobals "_law_judged" = some (some (.ref f29)))
    (l29 : K.lookup f29 = some ⟨oc29, od29, .func (PySem.W.fnOf "_law_judged" "_law_judged" (defArgs s__law_judged) (defBody s__law_judged) (defScope s__law_judged) .none kV29 dc29 pm29 an29 cd29 ct29), sl29⟩)
    (c29 : PySem.W.codeIn K cd29 "_law_judged" = true)
    (k29 : PySem.W.keepIn K (.ref f29) = true)
    (a30 : PySem.W.nsIn K mainGlobals "_law_alike" = some (some (.ref f30)))
    (l30 : K.lookup f30 = some ⟨oc30, od30, .func (PySem.W.fnOf "_law_alike" "_law_alike" (defArgs s__law_alike) (defBody s__law_alike) (defScope s__law_alike) .none kV30 dc30 pm30 an30 cd30 ct30), sl30⟩)
    (c30 : PySem.W.codeIn K cd30 "_law_alike" = true)
    (k30 : PySem.W.keepIn K (.ref f30) = true)
    (a31 : PySem.W.nsIn K mainGlobals "_law_compared_with" = some (some (.ref f31)))
    (l31 : K.lookup f31 = some ⟨oc31, od31, .func (PySem.W.fnOf "_law_compared_with" "_law_compared_with" (defArgs s__law_compared_with) (defBody s__law_compared_with) (defScope s__law_compared_with) .none kV31 dc31 pm31 an31 cd31 ct31), sl31⟩)
    (c31 : PySem.W.codeIn K cd31 "_law_compared_with" = true)
    (k31 : PySem.W.keepIn K (.ref f31) = true)
    (a32 : PySem.W.nsIn K mainGlobals "_law_standing_list" = some (some (.ref f32)))
    (l32 : K.lookup f32 = some ⟨oc32, od32, .func (PySem.W.fnOf "_law_standing_list" "_law_standing_list" (defArgs s__law_standing_list) (defBody s__law_standing_list) (defScope s__law_standing_list) .none kV32 dc32 pm32 an32 cd32 ct32), sl32⟩)
    (c32 : PySem.W.codeIn K cd32 "_law_standing_list" = true)
    (k32 : PySem.W.keepIn K (.ref f32) = true)
    (a33 : PySem.W.nsIn K mainGlobals "_law_boxes_of" = some (some (.ref f33)))
    (l33 : K.lookup f33 = some ⟨oc33, od33, .func (PySem.W.fnOf "_law_boxes_of" "_law_boxes_of" (defArgs s__law_boxes_of) (defBody s__law_boxes_of) (defScope s__law_boxes_of) .none kV33 dc33 pm33 an33 cd33 ct33), sl33⟩)
    (c33 : PySem.W.codeIn K cd33 "_law_boxes_of" = true)
    (k33 : PySem.W.keepIn K (.ref f33) = true)
    (a34 : PySem.W.nsIn K mainGlobals "_law_worlds_told" = some (some (.ref f34)))
    (l34 : K.lookup f34 = some ⟨oc34, od34, .func (PySem.W.fnOf "_law_worlds_told" "_law_worlds_told" (defArgs s__law_worlds_told) (defBody s__law_worlds_told) (defScope s__law_worlds_told) .none kV34 dc34 pm34 an34 cd34 ct34), sl34⟩)
    (c34 : PySem.W.codeIn K cd34 "_law_worlds_told" = true)
    (k34 : PySem.W.keepIn K (.ref f34) = true)
    (a35 : PySem.W.nsIn K mainGlobals "_law_too_wide" = some (some (.ref f35)))
    (l35 : K.lookup f35 = some ⟨oc35, od35, .func (PySem.W.fnOf "_law_too_wide" "_law_too_wide" (defArgs s__law_too_wide) (defBody s__law_too_wide) (defScope s__law_too_wide) .none kV35 dc35 pm35 an35 cd35 ct35), sl35⟩)
    (c35 : PySem.W.codeIn K cd35 "_law_too_wide" = true)
    (k35 : PySem.W.keepIn K (.ref f35) = true)
    (a36 : PySem.W.nsIn K mainGlobals "law" = some (some (.ref f36)))
    (l36 : K.lookup f36 = some ⟨oc36, od36, .func (PySem.W.fnOf "law" "law" (defArgs s_law) (defBody s_law) (defScope s_law) .none kV36 dc36 pm36 an36 cd36 ct36), sl36⟩)
    (c36 : PySem.W.codeIn K cd36 "law" = true)
    (k36 : PySem.W.keepIn K (.ref f36) = true)
    (g_GREATEST : PySem.W.nsIn K mainGlobals "GREATEST" = some (some (.int (1000000000000000000) t_GREATEST)))
    (g_MOST_NODES : PySem.W.nsIn K mainGlobals "MOST_NODES" = some (some (.int (16) t_MOST_NODES)))
    (g_MOST_TUPLES : PySem.W.nsIn K mainGlobals "MOST_TUPLES" = some (some (.int (256) t_MOST_TUPLES)))
    (g_SIGNS : PySem.W.nsIn K mainGlobals "SIGNS" = some (some (.ref c_SIGNS)))
    (l_SIGNS : K.lookup c_SIGNS = some ⟨.type "tuple", dd_SIGNS, .seq #[.str "<" t_SIGNS_0, .str "<=" t_SIGNS_1, .str "=" t_SIGNS_2, .str "!=" t_SIGNS_3, .str ">=" t_SIGNS_4, .str ">" t_SIGNS_5] nn_SIGNS, ss_SIGNS⟩)
    (z_abs : PySem.W.nsIn K mainGlobals "abs" = some none)
    (z_bool : PySem.W.nsIn K mainGlobals "bool" = some none)
    (z_int : PySem.W.nsIn K mainGlobals "int" = some none)
    (z_isinstance : PySem.W.nsIn K mainGlobals "isinstance" = some none)
    (z_len : PySem.W.nsIn K mainGlobals "len" = some none)
    (z_list : PySem.W.nsIn K mainGlobals "list" = some none)
    (z_range : PySem.W.nsIn K mainGlobals "range" = some none)
    (z_set : PySem.W.nsIn K mainGlobals "set" = some none)
    (z_sorted : PySem.W.nsIn K mainGlobals "sorted" = some none)
    (z_str : PySem.W.nsIn K mainGlobals "str" = some none)
    (z_tuple : PySem.W.nsIn K mainGlobals "tuple" = some none) :
    ∃ fd : FuncData, (∀ (s : Shared) (v : Value), BindsTo s fd ⟨[v], []⟩ [("_law_script", v)]) ∧ ∀ base : Heap, K.In base → base.Ns mainGlobals mg → FnOk l.prog w K mg base CX0 27 fa fd ["_law_script"] (spLaw K) := by
  have e := hfa.symm.trans (PySem.W.mg_of X G a36)
  cases e
  have F0 := fun_mk (st := s_BadPredicate_init) l0 c0 k0
  have b0 := F0.binds (ps := ["self", "predicate"]) fun _ _ _ _ _ _ us hl => match us, hl with | [_, _], _ => rfl
  have F1 := fun_mk (st := s_TooWide_init) l1 c1 k1
  have b1 := F1.binds (ps := ["self", "boxes"]) fun _ _ _ _ _ _ us hl => match us, hl with | [_, _], _ => rfl
  have F2 := fun_mk (st := s_is_between) l2 c2 k2
  have b2 := F2.binds (ps := ["value", "low", "high"]) fun _ _ _ _ _ _ us hl => match us, hl with | [_, _, _], _ => rfl
  have F3 := fun_mk (st := s_is_node) l3 c3 k3
  have b3 := F3.binds (ps := ["value", "columns"]) fun _ _ _ _ _ _ us hl => match us, hl with | [_, _], _ => rfl
  have F4 := fun_mk (st := s_parts_of) l4 c4 k4
  have b4 := F4.binds (ps := ["predicate"]) fun _ _ _ _ _ _ us hl => match us, hl with | [_], _ => rfl
  have F5 : FunD K "check_predicate" "check_predicate" (defArgs s_check_predicate) (defBody s_check_predicate) (defScope s_check_predicate) [] [("columns", .int (2))] f5 _ := ⟨⟨_, _, _, _, _, _, _, _, _, _, rfl, l5, c5, .inl ⟨rfl, rfl⟩, .inr ⟨_, rfl, by
      intro q hq
      simp only [List.mem_cons, List.not_mem_nil, or_false] at hq
      skip
      · subst hq; exact ⟨_, kn5_0, ⟨_, rfl⟩⟩⟩⟩, k5⟩
  have F6 := fun_mk (st := s_comparisons_of) l6 c6 k6
  have b6 := F6.binds (ps := ["predicate"]) fun _ _ _ _ _ _ us hl => match us, hl with | [_], _ => rfl
  have F7 := fun_mk (st := s_compares) l7 c7 k7
  have b7 := F7.binds (ps := ["value", "sign", "number"]) fun _ _ _ _ _ _ us hl => match us, hl with | [_, _, _], _ => rfl
  have F8 := fun_mk (st := s_comparison_truth) l8 c8 k8
  have b8 := F8.binds (ps := ["value", "sign", "number"]) fun _ _ _ _ _ _ us hl => match us, hl with | [_, _, _], _ => rfl
  have F9 := fun_mk (st := s_both_truth) l9 c9 k9
  have b9 := F9.binds (ps := ["truths"]) fun _ _ _ _ _ _ us hl => match us, hl with | [_], _ => rfl
  have F10 := fun_mk (st := s_either_truth) l10 c10 k10
  have b10 := F10.binds (ps := ["truths"]) fun _ _ _ _ _ _ us hl => match us, hl with | [_], _ => rfl
  have F11 := fun_mk (st := s_negation_truth) l11 c11 k11
  have b11 := F11.binds (ps := ["part"]) fun _ _ _ _ _ _ us hl => match us, hl with | [_], _ => rfl
  have F12 := fun_mk (st := s_truth) l12 c12 k12
  have b12 := F12.binds (ps := ["predicate", "row"]) fun _ _ _ _ _ _ us hl => match us, hl with | [_, _], _ => rfl
  have F13 := fun_mk (st := s_holds) l13 c13 k13
  have b13 := F13.binds (ps := ["predicate", "row"]) fun _ _ _ _ _ _ us hl => match us, hl with | [_, _], _ => rfl
  have F14 := fun_mk (st := s_numbers_of) l14 c14 k14
  have b14 := F14.binds (ps := ["predicates", "column"]) fun _ _ _ _ _ _ us hl => match us, hl with | [_, _], _ => rfl
  have F15 := fun_mk (st := s_class_starts) l15 c15 k15
  have b15 := F15.binds (ps := ["numbers"]) fun _ _ _ _ _ _ us hl => match us, hl with | [_], _ => rfl
  have F16 := fun_mk (st := s_stand_ins) l16 c16 k16
  have b16 := F16.binds (ps := ["numbers"]) fun _ _ _ _ _ _ us hl => match us, hl with | [_], _ => rfl
  have F17 := fun_mk (st := s_combine) l17 c17 k17
  have b17 := F17.binds (ps := ["choices"]) fun _ _ _ _ _ _ us hl => match us, hl with | [_], _ => rfl
  have F18 : FunD K "boxes" "boxes" (defArgs s_boxes) (defBody s_boxes) (defScope s_boxes) [] [("columns", .int (2))] f18 _ := ⟨⟨_, _, _, _, _, _, _, _, _, _, rfl, l18, c18, .inl ⟨rfl, rfl⟩, .inr ⟨_, rfl, by
      intro q hq
      simp only [List.mem_cons, List.not_mem_nil, or_false] at hq
      skip
      · subst hq; exact ⟨_, kn18_0, ⟨_, rfl⟩⟩⟩⟩, k18⟩
  have F19 : FunD K "worlds" "worlds" (defArgs s_worlds) (defBody s_worlds) (defScope s_worlds) [] [("columns", .int (2))] f19 _ := ⟨⟨_, _, _, _, _, _, _, _, _, _, rfl, l19, c19, .inl ⟨rfl, rfl⟩, .inr ⟨_, rfl, by
      intro q hq
      simp only [List.mem_cons, List.not_mem_nil, or_false] at hq
      skip
      · subst hq; exact ⟨_, kn19_0, ⟨_, rfl⟩⟩⟩⟩, k19⟩
  have F20 := fun_mk (st := s__law_stream) l20 c20 k20
  have b20 := F20.binds (ps := ["_law_script"]) fun _ _ _ _ _ _ us hl => match us, hl with | [_], _ => rfl
  have F21 := fun_mk (st := s__law_draw) l21 c21 k21
  have b21 := F21.binds (ps := ["_law_stream_here", "_law_many"]) fun _ _ _ _ _ _ us hl => match us, hl with | [_, _], _ => rfl
  have F22 := fun_mk (st := s__law_number) l22 c22 k22
  have b22 := F22.binds (ps := ["_law_stream_here", "_law_most"]) fun _ _ _ _ _ _ us hl => match us, hl with | [_, _], _ => rfl
  have F23 := fun_mk (st := s__law_pool) l23 c23 k23
  have b23 := F23.binds (ps := ["_law_stream_here", "_law_wide"]) fun _ _ _ _ _ _ us hl => match us, hl with | [_, _], _ => rfl
  have F24 := fun_mk (st := s__law_leaf) l24 c24 k24
  have b24 := F24.binds (ps := ["_law_stream_here", "_law_pool_here"]) fun _ _ _ _ _ _ us hl => match us, hl with | [_, _], _ => rfl
  have F25 := fun_mk (st := s__law_recipe) l25 c25 k25
  have b25 := F25.binds (ps := ["_law_stream_here", "_law_pool_here", "_law_most"]) fun _ _ _ _ _ _ us hl => match us, hl with | [_, _, _], _ => rfl
  have F26 := fun_mk (st := s__law_built) l26 c26 k26
  have b26 := F26.binds (ps := ["_law_steps"]) fun _ _ _ _ _ _ us hl => match us, hl with | [_], _ => rfl
  have F27 := fun_mk (st := s__law_compared) l27 c27 k27
  have b27 := F27.binds (ps := ["_law_sign", "_law_value", "_law_number_here"]) fun _ _ _ _ _ _ us hl => match us, hl with | [_, _, _], _ => rfl
  have F28 := fun_mk (st := s__law_joined) l28 c28 k28
  have b28 := F28.binds (ps := ["_law_word", "_law_parts"]) fun _ _ _ _ _ _ us hl => match us, hl with | [_, _], _ => rfl
  have F29 := fun_mk (st := s__law_judged) l29 c29 k29
  have b29 := F29.binds (ps := ["_law_steps", "_law_row"]) fun _ _ _ _ _ _ us hl => match us, hl with | [_, _], _ => rfl
  have F30 := fun_mk (st := s__law_alike) l30 c30 k30
  have b30 := F30.binds (ps := ["_law_told", "_law_due"]) fun _ _ _ _ _ _ us hl => match us, hl with | [_, _], _ => rfl
  have F31 := fun_mk (st := s__law_compared_with) l31 c31 k31
  have b31 := F31.binds (ps := ["_law_recipes", "_law_c"]) fun _ _ _ _ _ _ us hl => match us, hl with | [_, _], _ => rfl
  have F32 := fun_mk (st := s__law_standing_list) l32 c32 k32
  have b32 := F32.binds (ps := ["_law_numbers"]) fun _ _ _ _ _ _ us hl => match us, hl with | [_], _ => rfl
  have F33 := fun_mk (st := s__law_boxes_of) l33 c33 k33
  have b33 := F33.binds (ps := ["_law_recipes", "_law_wide"]) fun _ _ _ _ _ _ us hl => match us, hl with | [_, _], _ => rfl
  have F34 := fun_mk (st := s__law_worlds_told) l34 c34 k34
  have b34 := F34.binds (ps := ["_law_predicates", "_law_asked"]) fun _ _ _ _ _ _ us hl => match us, hl with | [_, _], _ => rfl
  have F35 := fun_mk (st := s__law_too_wide) l35 c35 k35
  have b35 := F35.binds (ps := ["_law_stream_here", "_law_wide"]) fun _ _ _ _ _ _ us hl => match us, hl with | [_, _], _ => rfl
  have F36 := fun_mk (st := s_law) l36 c36 k36
  have T : Txt K mg := { a_BadPredicate_init := _, d_BadPredicate_init := _, F_BadPredicate_init := F0, b_BadPredicate_init := b0, iC_BadPredicate := a0, tI_BadPredicate := t0, no_BadPredicate := no_BadPredicate, oc_BadPredicate := { cls := ⟨_, _, _, _, _, _, _, _, _, _, _, _, _, _, _, xL_BadPredicate, by rfl⟩, sa := sa_BadPredicate, exC := sub_BadPredicate, tyC := cT_BadPredicate, kC := kC_BadPredicate }, a_TooWide_init := _, d_TooWide_init := _, F_TooWide_init := F1, b_TooWide_init := b1, iC_TooWide := a1, tI_TooWide := t1, no_TooWide := no_TooWide, oc_TooWide := { cls := ⟨_, _, _, _, _, _, _, _, _, _, _, _, _, _, _, xL_TooWide, by rfl⟩, sa := sa_TooWide, exC := sub_TooWide, tyC := cT_TooWide, kC := kC_TooWide }, a_is_between := _, d_is_between := _, F_is_between := F2, b_is_between := b2, g_is_between := PySem.W.mg_of X G a2, a_is_node := _, d_is_node := _, F_is_node := F3, b_is_node := b3, g_is_node := PySem.W.mg_of X G a3, a_parts_of := _, d_parts_of := _, F_parts_of := F4, b_parts_of := b4, g_parts_of := PySem.W.mg_of X G a4, a_check_predicate := _, d_check_predicate := _, F_check_predicate := F5, g_check_predicate := PySem.W.mg_of X G a5, a_comparisons_of := _, d_comparisons_of := _, F_comparisons_of := F6, b_comparisons_of := b6, g_comparisons_of := PySem.W.mg_of X G a6, a_compares := _, d_compares := _, F_compares := F7, b_compares := b7, g_compares := PySem.W.mg_of X G a7, a_comparison_truth := _, d_comparison_truth := _, F_comparison_truth := F8, b_comparison_truth := b8, g_comparison_truth := PySem.W.mg_of X G a8, a_both_truth := _, d_both_truth := _, F_both_truth := F9, b_both_truth := b9, g_both_truth := PySem.W.mg_of X G a9, a_either_truth := _, d_either_truth := _, F_either_truth := F10, b_either_truth := b10, g_either_truth := PySem.W.mg_of X G a10, a_negation_truth := _, d_negation_truth := _, F_negation_truth := F11, b_negation_truth := b11, g_negation_truth := PySem.W.mg_of X G a11, a_truth := _, d_truth := _, F_truth := F12, b_truth := b12, g_truth := PySem.W.mg_of X G a12, a_holds := _, d_holds := _, F_holds := F13, b_holds := b13, g_holds := PySem.W.mg_of X G a13, a_numbers_of := _, d_numbers_of := _, F_numbers_of := F14, b_numbers_of := b14, g_numbers_of := PySem.W.mg_of X G a14, a_class_starts := _, d_class_starts := _, F_class_starts := F15, b_class_starts := b15, g_class_starts := PySem.W.mg_of X G a15, a_stand_ins := _, d_stand_ins := _, F_stand_ins := F16, b_stand_ins := b16, g_stand_ins := PySem.W.mg_of X G a16, a_combine := _, d_combine := _, F_combine := F17, b_combine := b17, g_combine := PySem.W.mg_of X G a17, a_boxes := _, d_boxes := _, F_boxes := F18, g_boxes := PySem.W.mg_of X G a18, a_worlds := _, d_worlds := _, F_worlds := F19, g_worlds := PySem.W.mg_of X G a19, a_stream := _, d_stream := _, F_stream := F20, b_stream := b20, g_stream := PySem.W.mg_of X G a20, a_draw := _, d_draw := _, F_draw := F21, b_draw := b21, g_draw := PySem.W.mg_of X G a21, a_number := _, d_number := _, F_number := F22, b_number := b22, g_number := PySem.W.mg_of X G a22, a_pool := _, d_pool := _, F_pool := F23, b_pool := b23, g_pool := PySem.W.mg_of X G a23, a_leaf := _, d_leaf := _, F_leaf := F24, b_leaf := b24, g_leaf := PySem.W.mg_of X G a24, a_recipe := _, d_recipe := _, F_recipe := F25, b_recipe := b25, g_recipe := PySem.W.mg_of X G a25, a_built := _, d_built := _, F_built := F26, b_built := b26, g_built := PySem.W.mg_of X G a26, a_compared := _, d_compared := _, F_compared := F27, b_compared := b27, g_compared := PySem.W.mg_of X G a27, a_joined := _, d_joined := _, F_joined := F28, b_joined := b28, g_joined := PySem.W.mg_of X G a28, a_judged := _, d_judged := _, F_judged := F29, b_judged := b29, g_judged := PySem.W.mg_of X G a29, a_alike := _, d_alike := _, F_alike := F30, b_alike := b30, g_alike := PySem.W.mg_of X G a30, a_compared_with := _, d_compared_with := _, F_compared_with := F31, b_compared_with := b31, g_compared_with := PySem.W.mg_of X G a31, a_standing_list := _, d_standing_list := _, F_standing_list := F32, b_standing_list := b32, g_standing_list := PySem.W.mg_of X G a32, a_boxes_of := _, d_boxes_of := _, F_boxes_of := F33, b_boxes_of := b33, g_boxes_of := PySem.W.mg_of X G a33, a_worlds_told := _, d_worlds_told := _, F_worlds_told := F34, b_worlds_told := b34, g_worlds_told := PySem.W.mg_of X G a34, a_too_wide := _, d_too_wide := _, F_too_wide := F35, b_too_wide := b35, g_too_wide := PySem.W.mg_of X G a35, C_PagesError := _, g_PagesError := PySem.W.mg_of X G gC_PagesError, cB_PagesError := sub_PagesError, cT_PagesError := cT_PagesError, kC_PagesError := kC_PagesError, is_PagesError := { c := cI_PagesError, ga := ga_PagesError, gt := gt_PagesError, sub := sub_PagesError, kc := kc_PagesError, kg := kgC, kt := ktC, ob := ob_PagesError }, xf_PagesError := ⟨ga_PagesError, gt_PagesError, sub_PagesError, hd_PagesError⟩, xF_PagesError := xF_PagesError, ga_PagesError := sg_PagesError, rd_PagesError := rd_PagesError, vV_PagesError := vV_PagesError, kit_PagesError_PagesError := kit_own cI_PagesError cT_PagesError su_PagesError_PagesError (.inl rfl), te_PagesError_PagesError := exm_own sub_PagesError cI_PagesError cT_PagesError su_PagesError_PagesError, kit_PagesError_BadPredicate := kit_own cI_BadPredicate cT_BadPredicate su_PagesError_BadPredicate (.inr fun z => by rw [← z, su_PagesError_PagesError] at su_PagesError_BadPredicate; cases su_PagesError_BadPredicate), te_PagesError_BadPredicate := exm_own sub_BadPredicate cI_BadPredicate cT_BadPredicate su_PagesError_BadPredicate, kit_PagesError_TooWide := kit_own cI_TooWide cT_TooWide su_PagesError_TooWide (.inr fun z => by rw [← z, su_PagesError_PagesError] at su_PagesError_TooWide; cases su_PagesError_TooWide), te_PagesError_TooWide := exm_own sub_TooWide cI_TooWide cT_TooWide su_PagesError_TooWide, C_BadPredicate := _, g_BadPredicate := PySem.W.mg_of X G gC_BadPredicate, cB_BadPredicate := sub_BadPredicate, cT_BadPredicate := cT_BadPredicate, kC_BadPredicate := kC_BadPredicate, is_BadPredicate := { c := cI_BadPredicate, ga := ga_BadPredicate, gt := gt_BadPredicate, sub := sub_BadPredicate, kc := kc_BadPredicate, kg := kgC, kt := ktC, ob := ob_BadPredicate }, xf_BadPredicate := ⟨ga_BadPredicate, gt_BadPredicate, sub_BadPredicate, hd_BadPredicate⟩, kit_BadPredicate_PagesError := kit_own cI_PagesError cT_PagesError su_BadPredicate_PagesError (.inl rfl), te_BadPredicate_PagesError := exm_own sub_PagesError cI_PagesError cT_PagesError su_BadPredicate_PagesError, kit_BadPredicate_BadPredicate := kit_own cI_BadPredicate cT_BadPredicate su_BadPredicate_BadPredicate (.inl rfl), te_BadPredicate_BadPredicate := exm_own sub_BadPredicate cI_BadPredicate cT_BadPredicate su_BadPredicate_BadPredicate, kit_BadPredicate_TooWide := kit_own cI_TooWide cT_TooWide su_BadPredicate_TooWide (.inr fun z => by rw [← z, su_BadPredicate_BadPredicate] at su_BadPredicate_TooWide; cases su_BadPredicate_TooWide), te_BadPredicate_TooWide := exm_own sub_TooWide cI_TooWide cT_TooWide su_BadPredicate_TooWide, C_TooWide := _, g_TooWide := PySem.W.mg_of X G gC_TooWide, cB_TooWide := sub_TooWide, cT_TooWide := cT_TooWide, kC_TooWide := kC_TooWide, is_TooWide := { c := cI_TooWide, ga := ga_TooWide, gt := gt_TooWide, sub := sub_TooWide, kc := kc_TooWide, kg := kgC, kt := ktC, ob := ob_TooWide }, xf_TooWide := ⟨ga_TooWide, gt_TooWide, sub_TooWide, hd_TooWide⟩, kit_TooWide_PagesError := kit_own cI_PagesError cT_PagesError su_TooWide_PagesError (.inl rfl), te_TooWide_PagesError := exm_own sub_PagesError cI_PagesError cT_PagesError su_TooWide_PagesError, kit_TooWide_BadPredicate := kit_own cI_BadPredicate cT_BadPredicate su_TooWide_BadPredicate (.inr fun z => by rw [← z, su_TooWide_TooWide] at su_TooWide_BadPredicate; cases su_TooWide_BadPredicate), te_TooWide_BadPredicate := exm_own sub_BadPredicate cI_BadPredicate cT_BadPredicate su_TooWide_BadPredicate, kit_TooWide_TooWide := kit_own cI_TooWide cT_TooWide su_TooWide_TooWide (.inl rfl), te_TooWide_TooWide := exm_own sub_TooWide cI_TooWide cT_TooWide su_TooWide_TooWide, t_GREATEST := _, g_GREATEST := PySem.W.mg_of X G g_GREATEST, t_MOST_NODES := _, g_MOST_NODES := PySem.W.mg_of X G g_MOST_NODES, t_MOST_TUPLES := _, g_MOST_TUPLES := PySem.W.mg_of X G g_MOST_TUPLES, c_SIGNS := _, g_SIGNS := PySem.W.mg_of X G g_SIGNS, l_SIGNS := fun H => .inr ⟨_, _, _, l_SIGNS, rfl, rfl, by rw [sizeLine_eq]; show 6 ≤ 16777216; decide, (.cons ⟨_, rfl⟩ (.cons ⟨_, rfl⟩ (.cons ⟨_, rfl⟩ (.cons ⟨_, rfl⟩ (.cons ⟨_, rfl⟩ (.cons ⟨_, rfl⟩ .nil))))))⟩, z_abs := PySem.W.mg_none_of X G z_abs, z_bool := PySem.W.mg_none_of X G z_bool, z_int := PySem.W.mg_none_of X G z_int, z_isinstance := PySem.W.mg_none_of X G z_isinstance, z_len := PySem.W.mg_none_of X G z_len, z_list := PySem.W.mg_none_of X G z_list, z_range := PySem.W.mg_none_of X G z_range, z_set := PySem.W.mg_none_of X G z_set, z_sorted := PySem.W.mg_none_of X G z_sorted, z_str := PySem.W.mg_none_of X G z_str, z_tuple := PySem.W.mg_none_of X G z_tuple }
  exact ⟨PySem.W.fnOf "law" "law" (defArgs s_law) (defBody s_law) (defScope s_law) .none kV36 dc36 pm36 an36 cd36 ct36, fun s v => .of_eq rfl, fun base _ _ => ok_law F36 T⟩
end Y
open PySem PySem.W PyProof.Rows
set_option maxHeartbeats 0 in
theorem PySem.Challenge.cw_wholepages_k17_worlds_listed_holds : PySem.Challenge.rw_wholepages_k17_worlds_listed.Holds := by
  w_on; o_law; k_head; (case hw => w_witness2)
  k_fill
  refine L2.walk_of (l := PySem.Challenge.rw_wholepages_k17_worlds_listed) (n := 63) (k := 27) (x := "_law_script") (CX := fun _ => L2.CX0) (sp := fun w => Y.spLaw _) rfl (by decide) rfl ⟨rfl, by decide, by decide⟩ (fun w h Y => PySem.W.kIn_of Y) ?F (fun _ _ a ns hl _ hS => ⟨a, ns, rfl, hS, hl, fun _ => rfl⟩) (fun _ _ _ _ _ h => h)
  case F =>
    intro w mg fa h KX G hmg
    refine' Y.all_mk KX G hmg ?gC_PagesError ?gC_BadPredicate ?gC_TooWide ?kgC ?ktC ?ga_PagesError ?gt_PagesError ?sub_PagesError ?kc_PagesError ?ob_PagesError ?cI_PagesError ?cT_PagesError ?hd_PagesError ?kC_PagesError ?xF_PagesError ?sg_PagesError ?rd_PagesError ?vV_PagesError ?su_PagesError_PagesError ?su_PagesError_BadPredicate ?su_PagesError_TooWide ?ga_BadPredicate ?gt_BadPredicate ?sub_BadPredicate ?kc_BadPredicate ?ob_BadPredicate ?cI_BadPredicate ?cT_BadPredicate ?hd_BadPredicate ?kC_BadPredicate ?xL_BadPredicate ?sa_BadPredicate ?no_BadPredicate ?su_BadPredicate_PagesError ?su_BadPredicate_BadPredicate ?su_BadPredicate_TooWide ?ga_TooWide ?gt_TooWide ?sub_TooWide ?kc_TooWide ?ob_TooWide ?cI_TooWide ?cT_TooWide ?hd_TooWide ?kC_TooWide ?xL_TooWide ?sa_TooWide ?no_TooWide ?su_TooWide_PagesError ?su_TooWide_BadPredicate ?su_TooWide_TooWide ?a0 ?t0 ?l0 ?c0 ?k0 ?a1 ?t1 ?l1 ?c1 ?k1 ?a2 ?l2 ?c2 ?k2 ?a3 ?l3 ?c3 ?k3 ?a4 ?l4 ?c4 ?k4 ?a5 ?l5 ?kn5_0 ?c5 ?k5 ?a6 ?l6 ?c6 ?k6 ?a7 ?l7 ?c7 ?k7 ?a8 ?l8 ?c8 ?k8 ?a9 ?l9 ?c9 ?k9 ?a10 ?l10 ?c10 ?k10 ?a11 ?l11 ?c11 ?k11 ?a12 ?l12 ?c12 ?k12 ?a13 ?l13 ?c13 ?k13 ?a14 ?l14 ?c14 ?k14 ?a15 ?l15 ?c15 ?k15 ?a16 ?l16 ?c16 ?k16 ?a17 ?l17 ?c17 ?k17 ?a18 ?l18 ?kn18_0 ?c18 ?k18 ?a19 ?l19 ?kn19_0 ?c19 ?k19 ?a20 ?l20 ?c20 ?k20 ?a21 ?l21 ?c21 ?k21 ?a22 ?l22 ?c22 ?k22 ?a23 ?l23 ?c23 ?k23 ?a24 ?l24 ?c24 ?k24 ?a25 ?l25 ?c25 ?k25 ?a26 ?l26 ?c26 ?k26 ?a27 ?l27 ?c27 ?k27 ?a28 ?l28 ?c28 ?k28 ?a29 ?l29 ?c29 ?k29 ?a30 ?l30 ?c30 ?k30 ?a31 ?l31 ?c31 ?k31 ?a32 ?l32 ?c32 ?k32 ?a33 ?l33 ?c33 ?k33 ?a34 ?l34 ?c34 ?k34 ?a35 ?l35 ?c35 ?k35 ?a36 ?l36 ?c36 ?k36 ?g_GREATEST ?g_MOST_NODES ?g_MOST_TUPLES ?g_SIGNS ?l_SIGNS ?z_abs ?z_bool ?z_int ?z_isinstance ?z_len ?z_list ?z_range ?z_set ?z_sorted ?z_str ?z_tuple
    (case gC_PagesError => k_is); (case gC_BadPredicate => k_is); (case gC_TooWide => k_is); (case kgC => k_is); (case ktC => k_is); (case ga_PagesError => k_is); (case gt_PagesError => k_is); (case sub_PagesError => k_is); (case kc_PagesError => k_is); (case ob_PagesError => k_is); (case cI_PagesError => k_is); (case cT_PagesError => k_is); (case hd_PagesError => k_is); (case kC_PagesError => k_is); (case xF_PagesError => k_exc); (case sg_PagesError => k_is); (case rd_PagesError => k_is); (case vV_PagesError => k_is); (case su_PagesError_PagesError => k_is); (case su_PagesError_BadPredicate => k_is); (case su_PagesError_TooWide => k_is); (case ga_BadPredicate => k_is); (case gt_BadPredicate => k_is); (case sub_BadPredicate => k_is); (case kc_BadPredicate => k_is); (case ob_BadPredicate => k_is); (case cI_BadPredicate => k_is); (case cT_BadPredicate => k_is); (case hd_BadPredicate => k_is); (case kC_BadPredicate => k_is); (case xL_BadPredicate => k_is); (case sa_BadPredicate => k_is); (case no_BadPredicate => k_is); (case su_BadPredicate_PagesError => k_is); (case su_BadPredicate_BadPredicate => k_is); (case su_BadPredicate_TooWide => k_is); (case ga_TooWide => k_is); (case gt_TooWide => k_is); (case sub_TooWide => k_is); (case kc_TooWide => k_is); (case ob_TooWide => k_is); (case cI_TooWide => k_is); (case cT_TooWide => k_is); (case hd_TooWide => k_is); (case kC_TooWide => k_is); (case xL_TooWide => k_is); (case sa_TooWide => k_is); (case no_TooWide => k_is); (case su_TooWide_PagesError => k_is); (case su_TooWide_BadPredicate => k_is); (case su_TooWide_TooWide => k_is); (case a0 => k_is); (case t0 => k_is); (case l0 => k_is); (case c0 => k_is); (case k0 => k_is); (case a1 => k_is); (case t1 => k_is); (case l1 => k_is); (case c1 => k_is); (case k1 => k_is); (case a2 => k_is); (case l2 => k_is); (case c2 => k_is); (case k2 => k_is); (case a3 => k_is); (case l3 => k_is); (case c3 => k_is); (case k3 => k_is); (case a4 => k_is); (case l4 => k_is); (case c4 => k_is); (case k4 => k_is); (case a5 => k_is); (case l5 => k_is); (case kn5_0 => k_is); (case c5 => k_is); (case k5 => k_is); (case a6 => k_is); (case l6 => k_is); (case c6 => k_is); (case k6 => k_is); (case a7 => k_is); (case l7 => k_is); (case c7 => k_is); (case k7 => k_is); (case a8 => k_is); (case l8 => k_is); (case c8 => k_is); (case k8 => k_is); (case a9 => k_is); (case l9 => k_is); (case c9 => k_is); (case k9 => k_is); (case a10 => k_is); (case l10 => k_is); (case c10 => k_is); (case k10 => k_is); (case a11 => k_is); (case l11 => k_is); (case c11 => k_is); (case k11 => k_is); (case a12 => k_is); (case l12 => k_is); (case c12 => k_is); (case k12 => k_is); (case a13 => k_is); (case l13 => k_is); (case c13 => k_is); (case k13 => k_is); (case a14 => k_is); (case l14 => k_is); (case c14 => k_is); (case k14 => k_is); (case a15 => k_is); (case l15 => k_is); (case c15 => k_is); (case k15 => k_is); (case a16 => k_is); (case l16 => k_is); (case c16 => k_is); (case k16 => k_is); (case a17 => k_is); (case l17 => k_is); (case c17 => k_is); (case k17 => k_is); (case a18 => k_is); (case l18 => k_is); (case kn18_0 => k_is); (case c18 => k_is); (case k18 => k_is); (case a19 => k_is); (case l19 => k_is); (case kn19_0 => k_is); (case c19 => k_is); (case k19 => k_is); (case a20 => k_is); (case l20 => k_is); (case c20 => k_is); (case k20 => k_is); (case a21 => k_is); (case l21 => k_is); (case c21 => k_is); (case k21 => k_is); (case a22 => k_is); (case l22 => k_is); (case c22 => k_is); (case k22 => k_is); (case a23 => k_is); (case l23 => k_is); (case c23 => k_is); (case k23 => k_is); (case a24 => k_is); (case l24 => k_is); (case c24 => k_is); (case k24 => k_is); (case a25 => k_is); (case l25 => k_is); (case c25 => k_is); (case k25 => k_is); (case a26 => k_is); (case l26 => k_is); (case c26 => k_is); (case k26 => k_is); (case a27 => k_is); (case l27 => k_is); (case c27 => k_is); (case k27 => k_is); (case a28 => k_is); (case l28 => k_is); (case c28 => k_is); (case k28 => k_is); (case a29 => k_is); (case l29 => k_is); (case c29 => k_is); (case k29 => k_is); (case a30 => k_is); (case l30 => k_is); (case c30 => k_is); (case k30 => k_is); (case a31 => k_is); (case l31 => k_is); (case c31 => k_is); (case k31 => k_is); (case a32 => k_is); (case l32 => k_is); (case c32 => k_is); (case k32 => k_is); (case a33 => k_is); (case l33 => k_is); (case c33 => k_is); (case k33 => k_is); (case a34 => k_is); (case l34 => k_is); (case c34 => k_is); (case k34 => k_is); (case a35 => k_is); (case l35 => k_is); (case c35 => k_is); (case k35 => k_is); (case a36 => k_is); (case l36 => k_is); (case c36 => k_is); (case k36 => k_is); (case g_GREATEST => k_is); (case g_MOST_NODES => k_is); (case g_MOST_TUPLES => k_is); (case g_SIGNS => k_is); (case l_SIGNS => k_is); (case z_abs => k_is); (case z_bool => k_is); (case z_int => k_is); (case z_isinstance => k_is); (case z_len => k_is); (case z_list => k_is); (case z_range => k_is); (case z_set => k_is); (case z_sorted => k_is); (case z_str => k_is); (case z_tuple => k_is)
