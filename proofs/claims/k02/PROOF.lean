import PyProof.Rows.All
import Wide.All
import OpenK.AllK
import Wide.FinOn
import HandS.ForMost
import HandS.Wide
import HandS.IsInst
import HandS.EndBits
import HandS.Style
import HandS.SortInts
import HandS.Evl
import HandS.TupMul
import HandS.WordsExc
import HandS.ExcOwn
import HandS.Exc
import HandS.ExcInit
import HandS.ExcField
import KE.KExcIs
import HandS.TryMany
import HandS.Conv
import HandS.Zip
import HandS.CallLocal
import HandS.Defaults
import HandS.Strs
import HandS.SetKeys
import HandS.SetBool
import HandS.Slots
import HandS.SlotsOwn
import HandS.Property
import HandS.ClsMeth
import HandS.MakeKwOnly
import HandS.FStr
import HandS.CallSlots
import HandS.ExcIs
import PySem.Challenge.RW_wholepages_k02_addresses_and_chunks
set_option Elab.async false
set_option linter.all false
set_option maxRecDepth 100000
set_option maxHeartbeats 4000000

/-! ## Common: steps of a reading, heaps, the law's own helpers -/
namespace Y
open PySem PySem.Spec PyProof.Rows L2
/-! ### steps -/
section
variable {K : PySem.W.Frag} {σ : L2.St} {H : Hp} {D : Ends} {ta tb te tc : TE} {t u : TS} {c d : TT} {Q : VK} {R : Bool → Hp → Prop}
theorem c_seq (h : t { D with nx := u D } σ H) : tSeq t u D σ H := h
theorem st_of {t : TS} {σ0 : L2.St} (e : σ0 = σ) (h : t D σ H) : t D σ0 H := by
  rw [e]
  exact h
theorem c_next (h : D.nx σ H) : tNext D σ H := h
theorem c_asg {g : TG} (h : te σ H fun x H1 => g x σ H1 D.nx) : tAsg te g D σ H := h
theorem c_gname {i : Nat} {v : V} {Q : L2.St → Hp → Prop} (h : Q (σ.set i (some v)) H) : gName i v σ H Q := h
theorem c_gsub {to ti : TE} {s : TSet} {v : V} {Q : L2.St → Hp → Prop} (h : to σ H fun o H1 => ti σ H1 fun i H2 => s o i v H2 fun H3 => Q σ H3) : gSub to ti s v σ H Q := h
theorem c_drop (h : te σ H fun _ H1 => D.nx σ H1) : tDrop te D σ H := h
theorem c_ret (h : te σ H D.rt) : tRet te D σ H := h
theorem c_retN (h : D.rt .non H) : tRetN D σ H := h
theorem c_ifs (h : c σ H fun b H1 => if b = true then t D σ H1 else u D σ H1) : tIfS c t u D σ H := h
theorem c_var {i : Nat} {v : V} (e : σ[i]? = some (some v)) (h : Q v H) : tVar i σ H Q := ⟨v, e, h⟩
theorem c_c {v : V} (h : Q v H) : tC v σ H Q := h
theorem c_op {r : R2} (h : ta σ H fun x H1 => tb σ H1 fun y H2 => r x y H2 Q) : tOp r ta tb σ H Q := h
theorem c_un {r : V → Hp → VK → Prop} (h : ta σ H fun x H1 => r x H1 Q) : tUn r ta σ H Q := h
theorem c_test (h : te σ H fun x H1 => ∃ k, x = .bl k ∧ R k H1) : tTest te σ H R := h
theorem c_B (h : te σ H fun x H1 => ∃ k, x = .bl k ∧ R k H1) : tB te σ H R := h
theorem c_bl {k : Bool} (h : R k H) : ∃ k', V.bl k = .bl k' ∧ R k' H := ⟨k, rfl, h⟩
theorem c_and (h : c σ H fun b H1 => if b = true then d σ H1 R else R false H1) : tAnd c d σ H R := h
theorem c_or (h : c σ H fun b H1 => if b = true then R true H1 else d σ H1 R) : tOr c d σ H R := h
theorem c_not (h : c σ H fun b H1 => R (!b) H1) : tNot c σ H R := h
theorem c_andV (h : ta σ H fun x H1 => ∃ b, x = .bl b ∧ if b = true then tb σ H1 Q else Q (.bl false) H1) : tAndV ta tb σ H Q := h
theorem c_orV (h : ta σ H fun x H1 => ∃ b, x = .bl b ∧ if b = true then Q (.bl true) H1 else tb σ H1 Q) : tOrV ta tb σ H Q := h
theorem c_notV (h : ta σ H fun x H1 => ∃ b, x = .bl b ∧ Q (.bl (!b)) H1) : tNotV ta σ H Q := h
theorem c_if (h : c σ H fun b H1 => if b = true then ta σ H1 Q else tb σ H1 Q) : tIf c ta tb σ H Q := h
theorem c_CB {r : List V → Hp → VK → Prop} {t : TA} (h : t σ H fun vs H1 => r vs H1 Q) : tCB r t σ H Q := h
theorem c_nil {Q : List V → Hp → Prop} (h : Q [] H) : tNil σ H Q := h
theorem c_cons {tr : TA} {Q : List V → Hp → Prop} (h : ta σ H fun x H1 => tr σ H1 fun xs H2 => Q (x :: xs) H2) : tCons ta tr σ H Q := h
theorem c_call {sp : Sp} {dvs : List V} {E : XK} {t : TA} (h : t σ H fun vs H1 => sp (vs ++ dvs) H1 Q E) : tCall sp dvs E t σ H Q := h
theorem c_lst {t : TA} (h : t σ H fun xs H1 => xs.length ≤ sizeLine ∧ ∀ p, H1 p = none → Q (.ref p) (upd H1 p (.lst xs))) : tLst t σ H Q := h
theorem c_tup {t : TA} (h : t σ H fun xs H1 => xs.length ≤ sizeLine ∧ ∀ p, H1 p = none → Q (.ref p) (upd H1 p (.tup xs))) : tTup t σ H Q := h
theorem c_BM {T : String} {r : V → List V → Hp → VK → Prop} {to : TE} {t : TA} (h : to σ H fun x H1 => tyV K T x H1 ∧ t σ H1 fun xs H2 => r x xs H2 Q) : tBM K T r to t σ H Q := h
theorem c_BM0 {T : String} {r : V → List V → Hp → VK → Prop} {to : TE} (h : to σ H fun x H1 => tyV K T x H1 ∧ r x [] H1 Q) : tBM0 K T r to σ H Q := h
theorem c_chain {r r' : R2} (h : ta σ H fun x H1 => tb σ H1 fun y H2 => r x y H2 fun z H3 => ∃ k, z = .bl k ∧ if k = true then tc σ H3 fun w H4 => r' y w H4 Q else Q (.bl false) H3) : tChain r r' ta tb tc σ H Q := h
theorem c_for {wi : TI} {g : TG} {D : Ends} {xs : List V} {a : Addr} (hx : SqL K H a xs)
    (h : ∃ W : Nat → Nat → L2.St → Hp → Prop, (∃ m, W 0 m σ H) ∧ ∀ i m σ H, W i m σ H →
      ((Itl K a).stop i H ∧ D.nx σ H) ∨ ((Itl K a).go i H ∧ ∃ N : L2.St → Hp → Prop, (∀ σ' H', N σ' H' → ∃ m', m' < m ∧ W (i + 1) m' σ' H') ∧ ∀ x H', (Itl K a).yld i H x H' → g x σ H' fun σ2 H2 => t { D with nx := N, ct := N, bk := D.nx } σ2 H2)) :
    ∃ a', V.ref a = .ref a' ∧ (∃ xs, SqL K H a' xs) ∧ ∃ W : Nat → Nat → L2.St → Hp → Prop, (∃ m, W 0 m σ H) ∧ ∀ i m σ H, W i m σ H →
      ((Itl K a').stop i H ∧ D.nx σ H) ∨ ((Itl K a').go i H ∧ ∃ N : L2.St → Hp → Prop, (∀ σ' H', N σ' H' → ∃ m', m' < m ∧ W (i + 1) m' σ' H') ∧ ∀ x H', (Itl K a').yld i H x H' → g x σ H' fun σ2 H2 => t { D with nx := N, ct := N, bk := D.nx } σ2 H2) := ⟨a, rfl, ⟨xs, hx⟩, h⟩
/-- for x in xs, by what holds ahead of each turn -/
theorem c_forL {tl : TE} {g : TG} (h : tl σ H fun x H1 => ∃ a xs, x = .ref a ∧ SqL K H1 a xs ∧ ∃ Pv : Nat → L2.St → Hp → Prop, Pv 0 σ H1 ∧ (∀ i σ H, i ≤ xs.length → Pv i σ H → SqL K H a xs) ∧
      (∀ i x σ H, xs[i]? = some x → Pv i σ H → g x σ H fun σ2 H2 => t { D with nx := Pv (i + 1), ct := Pv (i + 1), bk := D.nx } σ2 H2) ∧ (∀ σ H, Pv xs.length σ H → D.nx σ H))
    (mono : ∀ Q Q' : VK, (∀ v H, Q v H → Q' v H) → tl σ H Q → tl σ H Q') : tFor (iList K tl) g t D σ H := by
  refine mono _ _ (fun v H1 h => ?_) h
  obtain ⟨a, xs, rfl, hx, Pv, h0, hl, hs, hd⟩ := h
  exact ⟨a, rfl, ⟨xs, hx⟩, for_list (xs := xs) Pv h0 hl hs hd⟩
theorem c_rng1 {ta : TA} {g : TG} (h : ta σ H fun vs H1 => ∃ j : Int, vs = [.int j] ∧ -(2 ^ 62) ≤ j ∧ j < 2 ^ 62 ∧ ∃ W : Nat → Nat → L2.St → Hp → Prop, (∃ m, W 0 m σ H1) ∧ ∀ i m σ H, W i m σ H →
      ((Itr 0 j.toNat).stop i H ∧ D.nx σ H) ∨ ((Itr 0 j.toNat).go i H ∧ ∃ N : L2.St → Hp → Prop, (∀ σ' H', N σ' H' → ∃ m', m' < m ∧ W (i + 1) m' σ' H') ∧ ∀ x H', (Itr 0 j.toNat).yld i H x H' → g x σ H' fun σ2 H2 => t { D with nx := N, ct := N, bk := D.nx } σ2 H2)) :
    tFor (iRng1 ta) g t D σ H := h
theorem c_forList {tl : TE} {g : TG} (h : tl σ H fun x H1 => ∃ a, x = .ref a ∧ (∃ xs, SqL K H1 a xs) ∧ ∃ W : Nat → Nat → L2.St → Hp → Prop, (∃ m, W 0 m σ H1) ∧ ∀ i m σ H, W i m σ H →
      ((Itl K a).stop i H ∧ D.nx σ H) ∨ ((Itl K a).go i H ∧ ∃ N : L2.St → Hp → Prop, (∀ σ' H', N σ' H' → ∃ m', m' < m ∧ W (i + 1) m' σ' H') ∧ ∀ x H', (Itl K a).yld i H x H' → g x σ H' fun σ2 H2 => t { D with nx := N, ct := N, bk := D.nx } σ2 H2)) :
    tFor (iList K tl) g t D σ H := h
theorem c_forTup {tl : TE} {g : TG} (h : tl σ H fun x H1 => ∃ a, x = .ref a ∧ (∃ xs, SqT K H1 a xs) ∧ ∃ W : Nat → Nat → L2.St → Hp → Prop, (∃ m, W 0 m σ H1) ∧ ∀ i m σ H, W i m σ H →
      ((Itt K a).stop i H ∧ D.nx σ H) ∨ ((Itt K a).go i H ∧ ∃ N : L2.St → Hp → Prop, (∀ σ' H', N σ' H' → ∃ m', m' < m ∧ W (i + 1) m' σ' H') ∧ ∀ x H', (Itt K a).yld i H x H' → g x σ H' fun σ2 H2 => t { D with nx := N, ct := N, bk := D.nx } σ2 H2)) :
    tFor (iTup K tl) g t D σ H := h
/-! operators by values -/
theorem r_I0 {g : Int → Int → V} {i j : Int} (h : Q (g i j) H) : rI0 g (.int i) (.int j) H Q := ⟨i, j, rfl, rfl, h⟩
theorem r_I {C : Int → Int → Prop} {g : Int → Int → V} {i j : Int} (hc : C i j) (h : Q (g i j) H) : rI C g (.int i) (.int j) H Q := ⟨i, j, rfl, rfl, hc, h⟩
theorem r_U {g : Int → V} {i : Int} (h : Q (g i) H) : rU g (.int i) H Q := ⟨i, rfl, h⟩
theorem dec_int {i j : Int} : decide (V.int i = V.int j) = decide (i = j) := by
  by_cases h : i = j
  · rw [decide_eq_true h, h, decide_eq_true rfl]
  · rw [decide_eq_false h, decide_eq_false fun z => h (V.int.inj z)]
theorem dec_bl {i j : Bool} : decide (V.bl i = V.bl j) = decide (i = j) := by cases i <;> cases j <;> rfl
theorem dec_str {i j : Str} : decide (V.str i = V.str j) = decide (i = j) := by
  by_cases h : i = j
  · rw [decide_eq_true h, h, decide_eq_true rfl]
  · rw [decide_eq_false h, decide_eq_false fun z => h (V.str.inj z)]
theorem r_eqI {i j : Int} (h : Q (.bl (decide (i = j))) H) : rEq (.int i) (.int j) H Q := ⟨rfl, by rw [dec_int]; exact h⟩
theorem r_neI {i j : Int} (h : Q (.bl (!decide (i = j))) H) : rNe (.int i) (.int j) H Q := ⟨rfl, by rw [dec_int]; exact h⟩
theorem r_eqB {i j : Bool} (h : Q (.bl (decide (i = j))) H) : rEq (.bl i) (.bl j) H Q := ⟨rfl, by rw [dec_bl]; exact h⟩
theorem r_neB {i j : Bool} (h : Q (.bl (!decide (i = j))) H) : rNe (.bl i) (.bl j) H Q := ⟨rfl, by rw [dec_bl]; exact h⟩
theorem r_eqS {i j : Str} (h : Q (.bl (decide (i = j))) H) : rEq (.str i) (.str j) H Q := ⟨rfl, by rw [dec_str]; exact h⟩
theorem r_neS {i j : Str} (h : Q (.bl (!decide (i = j))) H) : rNe (.str i) (.str j) H Q := ⟨rfl, by rw [dec_str]; exact h⟩
theorem r_isN {x : V} (h : Q (.bl (decide (x = .non))) H) : (fun (x y : V) (H : Hp) (Q : VK) => y = .non ∧ Q (.bl (decide (x = .non))) H) x .non H Q := ⟨rfl, h⟩
theorem r_ixL {p : Addr} {xs : List V} {i : Int} {v : V} (hx : SqL K H p xs) (ha : atI xs i = some v) (h : Q v H) : rIxL K (.ref p) (.int i) H Q := ⟨p, xs, i, v, rfl, rfl, hx, ha, h⟩
theorem r_ixT {p : Addr} {xs : List V} {i : Int} {v : V} (hx : SqT K H p xs) (ha : atI xs i = some v) (h : Q v H) : rIxT K (.ref p) (.int i) H Q := ⟨p, xs, i, v, rfl, rfl, hx, ha, h⟩
theorem r_inL {n : Bool} {p : Addr} {x : V} {xs : List V} (hx : SqL K H p xs) (h1 : flatV x = true) (h2 : xs.all flatV = true) (h : Q (.bl (if n then !inV x xs else inV x xs)) H) : rIn K n x (.ref p) H Q := ⟨p, xs, rfl, .inl hx, h1, h2, h⟩
theorem r_inT {n : Bool} {p : Addr} {x : V} {xs : List V} (hx : SqT K H p xs) (h1 : flatV x = true) (h2 : xs.all flatV = true) (h : Q (.bl (if n then !inV x xs else inV x xs)) H) : rIn K n x (.ref p) H Q := ⟨p, xs, rfl, .inr hx, h1, h2, h⟩
theorem r_lenL {p : Addr} {xs : List V} (hx : SqL K H p xs) (h : Q (.int xs.length) H) : (fun (xs : List V) (H : Hp) (Q : VK) => ∃ p ys, xs = [.ref p] ∧ (SqL K H p ys ∨ SqT K H p ys) ∧ Q (.int ys.length) H) [.ref p] H Q := ⟨p, xs, rfl, .inl hx, h⟩
theorem r_lenT {p : Addr} {xs : List V} (hx : SqT K H p xs) (h : Q (.int xs.length) H) : (fun (xs : List V) (H : Hp) (Q : VK) => ∃ p ys, xs = [.ref p] ∧ (SqL K H p ys ∨ SqT K H p ys) ∧ Q (.int ys.length) H) [.ref p] H Q := ⟨p, xs, rfl, .inr hx, h⟩
theorem r_app {p : Addr} {xs : List V} {y : V} (hx : H p = some (.lst xs)) (hl : xs.length < sizeLine) (h : Q .non (upd H p (.lst (xs ++ [y])))) : rAppend (.ref p) [y] H Q := ⟨p, xs, y, rfl, rfl, hx, hl, h⟩
theorem r_pop {p : Addr} {xs : List V} {y : V} (hx : H p = some (.lst (xs ++ [y]))) (h : Q y (upd H p (.lst xs))) : rPop (.ref p) [] H Q :=
  ⟨p, xs ++ [y], y, rfl, rfl, hx, by simp, by rw [List.dropLast_concat]; exact h⟩
theorem r_setL {p : Addr} {xs : List V} {i : Int} {j : Nat} {v : V} {Q : Hp → Prop} (hx : H p = some (.lst xs)) (hj : ixN xs.length i = some j) (h : Q (upd H p (.lst (xs.set j v)))) : rSetL (.ref p) (.int i) v H Q := ⟨p, xs, i, j, rfl, rfl, hx, hj, h⟩
theorem r_pow18 {H : Hp} {Q : VK} (h : Q (.int 1000000000000000000) H) : rI CPow (fun i j => .int (i ^ j.toNat)) (.int 10) (.int 18) H Q := r_I ⟨by decide, by decide, by decide⟩ h
theorem r_pow17 {H : Hp} {Q : VK} (h : Q (.int 100000000000000000) H) : rI CPow (fun i j => .int (i ^ j.toNat)) (.int 10) (.int 17) H Q := r_I ⟨by decide, by decide, by decide⟩ h
theorem ixn {n j : Nat} (h : j < n) : ixN n (j : Int) = some j := by
  unfold ixN
  rw [if_pos (by omega), if_pos (by omega)]
  rfl
theorem map_at {ns : List Int} {i : Nat} (h : i < ns.length) : (ns.map V.int)[i]? = some (.int ns[i]) := by
  rw [List.getElem?_map, List.getElem?_eq_getElem h]
  rfl
theorem r_tyL {p : Addr} {xs : List V} (hx : SqL K H p xs) {B : Prop} (h : B) : tyV K "list" (.ref p) H ∧ B := ⟨.inl ⟨rfl, _, hx⟩, h⟩
end
/-! ### tests -/
theorem i_T {b : Bool} {A B : Prop} (hb : b = true) (h : A) : if b = true then A else B := by
  rw [if_pos hb]
  exact h
theorem i_F {b : Bool} {A B : Prop} (hb : b = false) (h : B) : if b = true then A else B := by
  rw [hb, if_neg Bool.false_ne_true]
  exact h
theorem i_2 {b : Bool} {A B : Prop} (h1 : b = true → A) (h2 : b = false → B) : if b = true then A else B := by
  cases b with
  | true => exact i_T rfl (h1 rfl)
  | false => exact i_F rfl (h2 rfl)
theorem i_d {p : Prop} [Decidable p] {A B : Prop} (h1 : p → A) (h2 : ¬ p → B) : if decide p = true then A else B := by
  by_cases h : p
  · exact i_T (decide_eq_true h) (h1 h)
  · exact i_F (decide_eq_false h) (h2 h)
theorem i_n {p : Prop} [Decidable p] {A B : Prop} (h1 : ¬ p → A) (h2 : p → B) : if (!decide p) = true then A else B := by
  by_cases h : p
  · exact i_F (by rw [decide_eq_true h]; rfl) (h2 h)
  · exact i_T (by rw [decide_eq_false h]; rfl) (h1 h)
theorem small {n : Nat} (h : n ≤ 100000) : n ≤ sizeLine := Nat.le_trans h (by decide)
theorem smallLt {n : Nat} (h : n < 100000) : n < sizeLine := Nat.lt_of_lt_of_le h (by decide)
/-! ### heaps: what stays but at S -/
def Ex (S : Addr) (H H' : Hp) : Prop := ∀ a o, a ≠ S → H a = some o → H' a = some o
theorem Ex.refl (S : Addr) (H : Hp) : Ex S H H := fun _ _ _ h => h
theorem Ex.trans {S : Addr} {H H1 H2 : Hp} (a : Ex S H H1) (b : Ex S H1 H2) : Ex S H H2 := fun x o n h => b x o n (a x o n h)
theorem Ex.new {S : Addr} {H H1 : Hp} {p : Addr} {o : HO} (e : Ex S H H1) (h : H1 p = none) : Ex S H (upd H1 p o) := fun a u n ha => by
  rw [upd_ne (ne_of_none (e a u n ha) h)]
  exact e a u n ha
theorem Ex.mut {S : Addr} {H H1 : Hp} {p : Addr} {o : HO} (e : Ex S H H1) (h : H p = none) : Ex S H (upd H1 p o) := fun a u n ha => by
  rw [upd_ne (ne_of_none ha h)]
  exact e a u n ha
theorem Ex.at {S : Addr} {H H1 : Hp} {o : HO} (e : Ex S H H1) : Ex S H (upd H1 S o) := fun a u n ha => by
  rw [upd_ne n]
  exact e a u n ha
theorem Ex.same {S : Addr} {H H1 H2 : Hp} (e : Ex S H H1) (s : Same H1 H2) : Ex S H H2 := fun a u n ha => s a u (e a u n ha)
theorem same_new {H H1 : Hp} {p : Addr} {o : HO} (e : Same H H1) (h : H1 p = none) : Same H (upd H1 p o) := fun a u ha => by
  rw [upd_ne (ne_of_none (e a u ha) h)]
  exact e a u ha
theorem same_mut {H H1 : Hp} {p : Addr} {o : HO} (e : Same H H1) (h : H p = none) : Same H (upd H1 p o) := fun a u ha => by
  rw [upd_ne (ne_of_none ha h)]
  exact e a u ha
theorem same_tup {K : PySem.W.Frag} {H H' : Hp} {a : Addr} {xs : List V} (e : Same H H') (h : SqT K H a xs) : SqT K H' a xs := by
  rcases h with (h | ⟨o, h⟩) | h
  · exact .inl (.inl (e _ _ h))
  · exact .inl (.inr ⟨o, e _ _ h⟩)
  · exact .inr h
theorem Ex.seq {K : PySem.W.Frag} {S : Addr} {H H' : Hp} {a : Addr} {xs : List V} (e : Ex S H H') (n : a ≠ S) (h : SqL K H a xs) : SqL K H' a xs := by
  rcases h with (h | ⟨o, h⟩) | h
  · exact .inl (.inl (e _ _ n h))
  · exact .inl (.inr ⟨o, e _ _ n h⟩)
  · exact .inr h
theorem Ex.tup {K : PySem.W.Frag} {S : Addr} {H H' : Hp} {a : Addr} {xs : List V} (e : Ex S H H') (n : a ≠ S) (h : SqT K H a xs) : SqT K H' a xs := by
  rcases h with (h | ⟨o, h⟩) | h
  · exact .inl (.inl (e _ _ n h))
  · exact .inl (.inr ⟨o, e _ _ n h⟩)
  · exact .inr h
theorem sql {K : PySem.W.Frag} {H : Hp} {a : Addr} {xs : List V} (h : H a = some (.lst xs)) : SqL K H a xs := .inl (.inl h)
theorem sqt {K : PySem.W.Frag} {H : Hp} {a : Addr} {xs : List V} (h : H a = some (.tup xs)) : SqT K H a xs := .inl (.inl h)

theorem seq' {K : PySem.W.Frag} {H H' : Hp} {a : Addr} {xs : List V} (h : SqL K H a xs) (e : Same H H') : SqL K H' a xs := e.seq h
theorem tup' {K : PySem.W.Frag} {H H' : Hp} {a : Addr} {xs : List V} (h : SqT K H a xs) (e : Same H H') : SqT K H' a xs := same_tup e h
theorem same_at {H H' : Hp} {a : Addr} {o : HO} (e : Same H H') (h : H a = some o) : H' a = some o := e _ _ h
theorem ex_at {S : Addr} {H H' : Hp} {a : Addr} {o : HO} (e : Ex S H H') (n : a ≠ S) (h : H a = some o) : H' a = some o := e _ _ n h
theorem ne_nn {H : Hp} {a b : Addr} {o : HO} (h' : H b = none) (h : H a = some o) : a ≠ b := ne_of_none h h'
theorem ne_nn' {H : Hp} {a b : Addr} {o : HO} (h' : H b = none) (h : H a = some o) : b ≠ a := (ne_of_none h h').symm
section
variable {K : PySem.W.Frag} {σ : L2.St} {H : Hp} {tb te : TE} {c : TT} {Q : VK} {g : TG} {vs : List Nat}
theorem c_lcT (h : te σ H fun x H1 => ∃ a, x = .ref a ∧ (∃ xs, SqT K H1 a xs) ∧ ∀ D, H1 D = none → ∃ W : Nat → Nat → Hp → Prop, (∃ m, W 0 m (upd H1 D (.lst []))) ∧ ∀ i m G, W i m G →
      ((Itt K a).stop i G ∧ Q (.ref D) G) ∨ ((Itt K a).go i G ∧ ∃ Nx : Hp → Prop, (∀ G', Nx G' → ∃ m', m' < m ∧ W (i + 1) m' G') ∧ ∀ x G', (Itt K a).yld i G x G' → g x (wipe σ vs) G' fun σ2 H2 => wipe σ2 vs = wipe σ vs ∧ c σ2 H2 fun b H3 =>
        if b = true then tb σ2 H3 fun y H4 => ∃ acc, H4 D = some (.lst acc) ∧ acc.length < sizeLine ∧ Nx (upd H4 D (.lst (acc ++ [y]))) else Nx H3)) : tLc (iTup K te) g c tb vs σ H Q := h
theorem c_lcL (h : te σ H fun x H1 => ∃ a, x = .ref a ∧ (∃ xs, SqL K H1 a xs) ∧ ∀ D, H1 D = none → ∃ W : Nat → Nat → Hp → Prop, (∃ m, W 0 m (upd H1 D (.lst []))) ∧ ∀ i m G, W i m G →
      ((Itl K a).stop i G ∧ Q (.ref D) G) ∨ ((Itl K a).go i G ∧ ∃ Nx : Hp → Prop, (∀ G', Nx G' → ∃ m', m' < m ∧ W (i + 1) m' G') ∧ ∀ x G', (Itl K a).yld i G x G' → g x (wipe σ vs) G' fun σ2 H2 => wipe σ2 vs = wipe σ vs ∧ c σ2 H2 fun b H3 =>
        if b = true then tb σ2 H3 fun y H4 => ∃ acc, H4 D = some (.lst acc) ∧ acc.length < sizeLine ∧ Nx (upd H4 D (.lst (acc ++ [y]))) else Nx H3)) : tLc (iList K te) g c tb vs σ H Q := h
theorem c_lcR {ta : TA} (h : ta σ H fun us H1 => ∃ j : Int, us = [.int j] ∧ -(2 ^ 62) ≤ j ∧ j < 2 ^ 62 ∧ ∀ D, H1 D = none → ∃ W : Nat → Nat → Hp → Prop, (∃ m, W 0 m (upd H1 D (.lst []))) ∧ ∀ i m G, W i m G →
      ((Itr 0 j.toNat).stop i G ∧ Q (.ref D) G) ∨ ((Itr 0 j.toNat).go i G ∧ ∃ Nx : Hp → Prop, (∀ G', Nx G' → ∃ m', m' < m ∧ W (i + 1) m' G') ∧ ∀ x G', (Itr 0 j.toNat).yld i G x G' → g x (wipe σ vs) G' fun σ2 H2 => wipe σ2 vs = wipe σ vs ∧ c σ2 H2 fun b H3 =>
        if b = true then tb σ2 H3 fun y H4 => ∃ acc, H4 D = some (.lst acc) ∧ acc.length < sizeLine ∧ Nx (upd H4 D (.lst (acc ++ [y]))) else Nx H3)) : tLc (iRng1 ta) g c tb vs σ H Q := h
theorem c_yes {R : Bool → Hp → Prop} (h : R true H) : tYes σ H R := h
theorem in_bl (b : Bool) : ∀ bs : List Bool, inV (.bl b) (bs.map V.bl) = bs.contains b
  | [] => rfl
  | x :: r => by
    have ih := in_bl b r
    unfold inV at ih ⊢
    rw [List.map_cons, List.any_cons, ih, List.contains_cons]
    congr 1
    cases b <;> cases x <;> rfl
theorem flat_bl : ∀ bs : List Bool, (bs.map V.bl).all flatV = true
  | [] => rfl
  | x :: r => by
    rw [List.map_cons, List.all_cons, flat_bl r]
    rfl
end
/-! x is True, x is False where x may be None -/
def rIsW : R2 := fun x y H Q => ∃ b : Bool, y = .bl b ∧ (x = .non ∨ ∃ a, x = .bl a) ∧ Q (.bl (decide (x = .bl b))) H
def rNotW : R2 := fun x y H Q => ∃ b : Bool, y = .bl b ∧ (x = .non ∨ ∃ a, x = .bl a) ∧ Q (.bl (!decide (x = .bl b))) H
theorem op_isW {X : Cx} : OpR X (compareOp .Is) rIsW := by
  intro pins s σ H x y v u Q I rx ry h
  obtain ⟨b, rfl, hx, q⟩ := h
  cases (show u = Value.bool b from ry)
  rcases hx with rfl | ⟨a, rfl⟩
  · cases (show v = Value.none from rx)
    exact wpAny_is_other rfl (fun z => nomatch z) ⟨.bl false, H, I, rfl, by simpa using q⟩
  · cases (show v = Value.bool a from rx)
    by_cases e : a = b
    · subst e
      exact wpAny_is_self rfl ⟨.bl true, H, I, rfl, by simpa using q⟩
    · exact wpAny_is_other rfl (fun z => e (Value.bool.inj z)) ⟨.bl false, H, I, rfl, by simpa [e] using q⟩
theorem op_notW {X : Cx} : OpR X (compareOp .IsNot) rNotW := by
  intro pins s σ H x y v u Q I rx ry h
  obtain ⟨b, rfl, hx, q⟩ := h
  cases (show u = Value.bool b from ry)
  rcases hx with rfl | ⟨a, rfl⟩
  · cases (show v = Value.none from rx)
    exact wpAny_isNot_other rfl (fun z => nomatch z) ⟨.bl true, H, I, rfl, by simpa using q⟩
  · cases (show v = Value.bool a from rx)
    by_cases e : a = b
    · subst e
      exact wpAny_isNot_self rfl ⟨.bl false, H, I, rfl, by simpa using q⟩
    · exact wpAny_isNot_other rfl (fun z => e (Value.bool.inj z)) ⟨.bl true, H, I, rfl, by simpa [e] using q⟩
theorem r_isW {x : V} {b : Bool} {H : Hp} {Q : VK} (hx : x = .non ∨ ∃ a, x = .bl a) (q : Q (.bl (decide (x = .bl b))) H) : rIsW x (.bl b) H Q := ⟨b, rfl, hx, q⟩
theorem r_notW {x : V} {b : Bool} {H : Hp} {Q : VK} (hx : x = .non ∨ ∃ a, x = .bl a) (q : Q (.bl (!decide (x = .bl b))) H) : rNotW x (.bl b) H Q := ⟨b, rfl, hx, q⟩

/-! ### more steps: slices, truths that may be None, what is no list stays -/
section
variable {K : PySem.W.Frag} {σ : L2.St} {H : Hp} {ta te : TE} {Q : VK}
theorem c_sl {r : V → Option Int → Option Int → Hp → VK → Prop} {tl th : TO} (h : te σ H fun x H1 => tl σ H1 fun l H2 => th σ H2 fun u H3 => r x l u H3 Q) : tSl r te tl th σ H Q := h
theorem c_noPart {Q : Option Int → Hp → Prop} (h : Q none H) : tNoPart σ H Q := h
theorem c_part {Q : Option Int → Hp → Prop} (h : te σ H fun x H1 => ∃ i, x = .int i ∧ Q (some i) H1) : tPart te σ H Q := h
theorem r_slL {p : Addr} {xs : List V} {lo hi : Option Int} (hx : SqL K H p xs) (h : ∀ q, H q = none → Q (.ref q) (upd H q (.lst (cutV xs lo hi)))) : rSlL K (.ref p) lo hi H Q := ⟨p, xs, rfl, hx, h⟩
theorem r_slT {p : Addr} {xs : List V} {lo hi : Option Int} (hx : SqT K H p xs) (hn : ¬ (HT.sIx xs.length 0 lo = 0 ∧ HT.sIx xs.length xs.length hi = xs.length)) (h : ∀ q, H q = none → Q (.ref q) (upd H q (.tup (cutV xs lo hi)))) : rSlT K (.ref p) lo hi H Q := ⟨p, xs, rfl, hx, hn, h⟩
theorem r_cat {p q : Addr} {xs ys : List V} (hx : H p = some (.lst xs)) (hy : H q = some (.lst ys)) (hl : xs.length + ys.length ≤ sizeLine) (h : ∀ r, H r = none → Q (.ref r) (upd H r (.lst (xs ++ ys)))) : rCat (.ref p) (.ref q) H Q := ⟨p, q, xs, ys, rfl, rfl, hx, hy, hl, h⟩
theorem r_catT {p q : Addr} {xs ys : List V} (hx : SqT K H p xs) (hy : SqT K H q ys) (hn : xs ≠ []) (hl : xs.length + ys.length ≤ sizeLine) (h1 : ys = [] → Q (.ref p) H) (h2 : ys ≠ [] → ∀ r, H r = none → Q (.ref r) (upd H r (.tup (xs ++ ys)))) : rCatT K (.ref p) (.ref q) H Q := ⟨p, q, xs, ys, rfl, rfl, hx, hy, hn, hl, h1, h2⟩
end
/-- a truth: None, or a bool -/
def tb : Option Bool → V
  | none => .non
  | some b => .bl b
theorem in_tb (x : Option Bool) : ∀ bs : List (Option Bool), inV (tb x) (bs.map tb) = bs.contains x
  | [] => rfl
  | y :: r => by
    have ih := in_tb x r
    unfold inV at ih ⊢
    rw [List.map_cons, List.any_cons, ih, List.contains_cons]
    congr 1
    rcases x with _ | x <;> rcases y with _ | y <;> first | rfl | (cases x <;> rfl) | (cases y <;> rfl) | (cases x <;> cases y <;> rfl)
theorem flat_tb : ∀ bs : List (Option Bool), (bs.map tb).all flatV = true
  | [] => rfl
  | x :: r => by
    rw [List.map_cons, List.all_cons, flat_tb r]
    cases x <;> rfl
theorem tb_or (x : Option Bool) : tb x = .non ∨ ∃ a, tb x = .bl a := by
  cases x with
  | none => exact .inl rfl
  | some b => exact .inr ⟨b, rfl⟩
theorem tb_true (x : Option Bool) : decide (tb x = .bl true) = decide (x = some true) := by
  rcases x with _ | x
  · simp [tb]
  · cases x <;> simp [tb]
/-- what is no list stays -/
def Tp (H H' : Hp) : Prop := ∀ a o, H a = some o → (∀ ys, o ≠ .lst ys) → H' a = some o
theorem Tp.refl (H : Hp) : Tp H H := fun _ _ h _ => h
theorem Tp.trans {H H1 H2 : Hp} (a : Tp H H1) (b : Tp H1 H2) : Tp H H2 := fun x o h n => b x o (a x o h n) n
theorem Tp.same {H H1 : Hp} (s : Same H H1) : Tp H H1 := fun x o h _ => s x o h
theorem Tp.ex {S : Addr} {H H1 : Hp} {xs : List V} (e : Ex S H H1) (h : H S = some (.lst xs)) : Tp H H1 := fun x o hx n => e x o (fun z => by
  subst z
  rw [h] at hx
  exact n _ (Option.some.inj hx).symm) hx
theorem Tp.lst {H H1 : Hp} {p : Addr} {xs : List V} {o : HO} (e : Tp H H1) (h : H1 p = some (.lst xs)) : Tp H (upd H1 p o) := fun x u hx n => by
  have h2 := e x u hx n
  by_cases z : x = p
  · subst z
    rw [h] at h2
    exact absurd (Option.some.inj h2).symm (n _)
  · rw [upd_ne z]
    exact h2
theorem Tp.new {H H1 : Hp} {p : Addr} {o : HO} (e : Tp H H1) (h : H1 p = none) : Tp H (upd H1 p o) := fun x u hx n => by
  have h2 := e x u hx n
  rw [upd_ne (ne_of_none h2 h)]
  exact h2
theorem Tp.tup {K : PySem.W.Frag} {H H' : Hp} {a : Addr} {xs : List V} (e : Tp H H') (h : SqT K H a xs) : SqT K H' a xs := by
  rcases h with (h | ⟨o, h⟩) | h
  · exact .inl (.inl (e _ _ h (fun _ z => nomatch z)))
  · exact .inl (.inr ⟨o, e _ _ h (fun _ z => nomatch z)⟩)
  · exact .inr h
theorem Ex.free {S : Addr} {H H' : Hp} {q : Addr} (e : Ex S H H') (n : q ≠ S) (h : H' q = none) : H q = none := by
  cases z : H q with
  | none => rfl
  | some o =>
    have := e _ _ n z
    rw [h] at this
    cases this
/-! a test's outcome said by itself -/
def tMid (t : TT) : TT := fun σ H R => ∃ M : Bool → Hp → Prop, t σ H M ∧ ∀ b H', M b H' → R b H'
theorem pt_mid {X : Cx} {e : Expr} {t : TT} (h : PT X e t) : PT X e (tMid t) := ⟨fun pins s σ H Q I ⟨M, hm, k⟩ => thn (h.run pins s σ H M I hm) fun b s' ⟨H', I', q⟩ => ⟨H', I', k b H' q⟩⟩
theorem c_mid {t : TT} {σ : L2.St} {H : Hp} {R : Bool → Hp → Prop} (p : Prop) [Decidable p] (h : t σ H fun b H' => H' = H ∧ b = decide p) (h1 : p → R true H) (h2 : ¬ p → R false H) : tMid t σ H R :=
  ⟨_, h, fun b H' ⟨e1, e2⟩ => by
    subst e1 e2
    by_cases z : p
    · rw [decide_eq_true z]
      exact h1 z
    · rw [decide_eq_false z]
      exact h2 z⟩
theorem cut_to {xs ys : List V} {r : Int} (h : r = (xs.length : Int)) : cutV (xs ++ ys) none (some r) = xs := by
  subst h
  unfold cutV
  rw [HT.sIx_none, HT.sIx_nat, List.length_append, List.drop_zero, Nat.min_eq_left (by omega), Nat.sub_zero, List.take_left']
  rfl
theorem cut_from {xs ys : List V} {r : Int} (h : r = (xs.length : Int)) : cutV (xs ++ ys) (some r) none = ys := by
  subst h
  unfold cutV
  rw [HT.sIx_none, HT.sIx_nat, List.length_append, Nat.min_eq_left (by omega), List.drop_left', List.take_of_length_le (by omega)]
  rfl
theorem new_at {H H' : Hp} {p : Addr} {o : HO} (h : H p = none) (s : Same (upd H p o) H') : H' p = some o := s _ _ upd_same
theorem old_at {H H' : Hp} {p : Addr} {o : HO} (h : H p = some o) (s : Same H H') : H' p = some o := s _ _ h

/-! ### tuples unpacked, defs in local names, what stays where S may change -/
section
variable {K : PySem.W.Frag} {σ : L2.St} {H : Hp}
theorem c_gtup {n : Nat} {u : TGs} {a : Addr} {xs : List V} {Q : L2.St → Hp → Prop} (hx : SqT K H a xs) (hn : xs.length = n) (h : u xs σ H Q) : gTup K n u (.ref a) σ H Q := ⟨a, xs, rfl, hx, hn, h⟩
theorem c_gcons {t : TG} {u : TGs} {v : V} {r : List V} {Q : L2.St → Hp → Prop} (h : t v σ H fun σ' H' => u r σ' H' Q) : gCons t u (v :: r) σ H Q := ⟨v, r, rfl, h⟩
theorem c_gnil {Q : L2.St → Hp → Prop} (h : Q σ H) : gNil [] σ H Q := ⟨rfl, h⟩
end
def Aw (S : Addr) (H : Hp) : Hp := fun a => if a = S then none else H a
section
variable {S : Addr} {H H' : Hp}
theorem Aw.of {a : Addr} {o : HO} (h : H a = some o) (n : a ≠ S) : Aw S H a = some o := by
  unfold Aw
  rw [if_neg n]
  exact h
theorem Aw.to : Same (Aw S H) H := fun a o h => by
  unfold Aw at h
  by_cases e : a = S
  · rw [if_pos e] at h
    cases h
  · rw [if_neg e] at h
    exact h
theorem Aw.ne {a : Addr} {o : HO} (h : Aw S H a = some o) : a ≠ S := fun e => by
  unfold Aw at h
  rw [if_pos e] at h
  cases h
theorem Aw.ex (e : Ex S H H') : Same (Aw S H) (Aw S H') := fun a o h => Aw.of (e a o (Aw.ne h) (Aw.to _ _ h)) (Aw.ne h)
theorem Aw.same (e : Same H H') : Same (Aw S H) (Aw S H') := fun a o h => Aw.of (e a o (Aw.to _ _ h)) (Aw.ne h)
theorem Aw.up (e : Same H H') (n : H S = none) : Same H (Aw S H') := fun a o h => Aw.of (e a o h) (ne_of_none h n)
end
theorem c_callL {σ : L2.St} {H : Hp} {i : Nat} {f : Addr} {sp : Sp} {dvs : List V} {E : XK} {t : TA} {Q : VK} (hs : σ[i]? = some (some (.ref f))) (h : t σ H fun vs H1 => sp (vs ++ dvs) H1 Q E) : tCallL i f sp dvs E t σ H Q := ⟨hs, h⟩
theorem Aw.at {S p : Addr} {H : Hp} {o : HO} : Same (Aw p (Aw S H)) (Aw p (Aw S (upd H p o))) := fun a x h => by
  have n := Aw.ne h
  refine Aw.of (Aw.of ?_ (Aw.ne (Aw.to _ _ h))) n
  rw [upd_ne n]
  exact Aw.to _ _ (Aw.to _ _ h)
theorem c_lstRg {σ : L2.St} {H : Hp} {Q : VK} {te : L2.St → Hp → (Int → Int → Hp → Prop) → Prop} (h : te σ H fun a b H1 => RgOk a b ∧ ∀ q, H1 q = none → Q (.ref q) (upd H1 q (.lst (rgV a b)))) : tLstRg te σ H Q := h
theorem c_rg1 {σ : L2.St} {H : Hp} {ta : TE} {Q : Int → Int → Hp → Prop} (h : ta σ H fun x H1 => ∃ n, x = .int n ∧ Q 0 n H1) : tRg1 ta σ H Q := h
theorem seq_ix {d : Int} {n : Nat} (h0 : 0 ≤ d) (h1 : d < n) : seqIndex? d n = some d.toNat := by
  have h2 : ¬ d < 0 := by omega
  simp [seqIndex?, h2, h0, h1]
theorem erase_map {α β : Type} (f : α → β) : ∀ (l : List α) (i : Nat), (l.map f).eraseIdx i = (l.eraseIdx i).map f
  | [], _ => rfl
  | _ :: _, 0 => rfl
  | x :: l, i + 1 => by
    rw [List.map_cons, List.eraseIdx_cons_succ, List.eraseIdx_cons_succ, List.map_cons, erase_map f l i]
theorem Aw.no {S p : Addr} {H : Hp} (h : H p = none) : Aw S H p = none := by
  unfold Aw
  split
  · rfl
  · exact h
theorem Aw.hide {S p : Addr} {H : Hp} {o : HO} (h : H p = none) : Same (Aw S H) (Aw p (Aw S (upd H p o))) := Aw.up (Aw.same (same_new (Same.refl _) h)) (Aw.no h)
theorem c_aug {σ : L2.St} {H : Hp} {i : Nat} {te : TE} {ti : TIp} {D : Ends} {x : V} (hx : σ[i]? = some (some x)) (h : te σ H fun y H1 => ti x y H1 fun z H2 => D.nx (σ.set i (some z)) H2) : tAug i te ti D σ H := ⟨x, hx, h⟩
theorem r_ipI {f : Int → Int → Int} {i j : Int} {H : Hp} {Q : VK} (h : Q (.int (f i j)) H) : ipI f (.int i) (.int j) H Q := ⟨i, j, rfl, rfl, h⟩
theorem Aw.mut {S : Addr} {H : Hp} {o : HO} : Same (Aw S H) (Aw S (upd H S o)) := fun b x hb => by
  refine Aw.of ?_ (Aw.ne hb)
  rw [upd_ne (Aw.ne hb)]
  exact Aw.to _ _ hb
/-- a new object: what stood before stands, and it stands there -/
@[elab_as_elim] theorem alc {p : Addr} {H : Hp} {P : Hp → Prop} (o : HO) (hp : H p = none) (h : ∀ H', Same H H' → H' p = some o → P H') : P (upd H p o) := h _ (same_new (Same.refl _) hp) upd_same
/-! an expression's value said by itself -/
def tMidE (t : TE) : TE := fun σ H Q => ∃ M : V → Hp → Prop, t σ H M ∧ ∀ v H', M v H' → Q v H'
theorem pe_mid {X : Cx} {e : Expr} {t : TE} (h : PE X e t) : PE X e (tMidE t) := ⟨fun pins s σ H Q I ⟨M, hm, k⟩ => thn (h.run pins s σ H M I hm) fun v s' ⟨x, H', I', r, q⟩ => ⟨x, H', I', r, k x H' q⟩⟩
theorem c_midE {te : TE} {σ : L2.St} {H : Hp} {Q : VK} (M : V → Hp → Prop) (h : te σ H M) (k : ∀ v H', M v H' → Q v H') : tMidE te σ H Q := ⟨M, h, k⟩
/-- what is new in H' -/
def Nw (H H' : Hp) : Hp := fun a => match H a with
  | none => H' a
  | some _ => none
section
variable {S : Addr} {H H' H2 : Hp}
theorem Nw.of {a : Addr} {o : HO} (h : H' a = some o) (n : H a = none) : Nw H H' a = some o := by
  unfold Nw
  rw [n]
  exact h
theorem Nw.to : Same (Nw H H') H' := fun a o h => by
  unfold Nw at h
  cases e : H a with
  | none => rw [e] at h; exact h
  | some x => rw [e] at h; cases h
theorem Nw.no {a : Addr} {o : HO} (h : Nw H H' a = some o) : H a = none := by
  unfold Nw at h
  cases e : H a with
  | none => rfl
  | some x => rw [e] at h; cases h
theorem Nw.ne {a b : Addr} {o x : HO} (h : Nw H H' a = some o) (g : H b = some x) : a ≠ b := fun z => by
  rw [z] at h
  rw [Nw.no h] at g
  cases g
theorem Nw.aw {x : HO} (g : H S = some x) : Same (Nw H H') (Aw S H') := fun a o h => Aw.of (Nw.to _ _ h) (Nw.ne h g)
end
section
variable {S : Addr} {B H H1 H' : Hp}
theorem Nw.same (e : Same H H') : Same (Nw B H) (Nw B H') := fun a o h => Nw.of (e a o (Nw.to _ _ h)) (Nw.no h)
theorem Nw.ex {x : HO} (g : B S = some x) (e : Ex S H H') : Same (Nw B H) (Nw B H') := fun a o h => Nw.of (e a o (Nw.ne h g) (Nw.to _ _ h)) (Nw.no h)
theorem Nw.up (e : ∀ a, H a = none → B a = none) : Same (Nw H H') (Nw B H') := fun a o h => Nw.of (Nw.to _ _ h) (e a (Nw.no h))
theorem Nw.at {p : Addr} {o : HO} : Same (Aw p (Nw B H)) (Aw p (Nw B (upd H p o))) := fun a x h => by
  have n := Aw.ne h
  have h2 := Aw.to _ _ h
  refine Aw.of (Nw.of ?_ (Nw.no h2)) n
  rw [upd_ne n]
  exact Nw.to _ _ h2
theorem Nw.neI {a p : Addr} {o x : HO} (h : Nw B H a = some o) (n : B p = some x) : a ≠ p := Nw.ne h n
/-- what is free now was free before -/
theorem Ex.fr {x : HO} (e : Ex S H H') (g : H' S = some x) {a : Addr} (h : H' a = none) : H a = none := by
  by_cases z : a = S
  · subst z
    rw [g] at h
    cases h
  · exact e.free z h
end

/-! ### the inner walk of a comprehension's second for -/
section
variable {X : Cx} {s : Shared} {H : Hp} {scope : Scope} {e : Env} {fp : List Addr} {tg l : Expr} {tl : TE}
theorem pi_listB (h : PE (X.blk s H scope e fp) l tl) : PI (X.blk s H scope e fp) tg l (iList X.K tl) := pi_list h
theorem pi_tupB (h : PE (X.blk s H scope e fp) l tl) : PI (X.blk s H scope e fp) tg l (iTup X.K tl) := pi_tup h
end
section
variable {X : Cx} {s : Shared} {H : Hp} {scope : Scope} {e : Env} {fp : List Addr}
theorem ix_tupB : IxR (X.blk s H scope e fp) (rIxT X.K) := ix_tup
theorem ix_listB : IxR (X.blk s H scope e fp) (rIxL X.K) := ix_list
theorem pg_tupB {es : List Expr} {k : Nat} {t : TGs} {n : Nat} {pos : Pos} (hc : X.calm = true) (h : PGs (X.blk s H scope e fp) es t)
    (hn : (assignEach es (X.blk s H scope e fp).env).length = n := by rfl) (hst : (assignEach es (X.blk s H scope e fp).env).findIdx? (·.1) = none := by rfl) : PG (X.blk s H scope e fp) (.Tuple es k pos) (gTup X.K n t) := pg_tup hc h hn hst
end

/-! ### errors of the program's own: PagesError.__init__(self, text), isinstance of a caught error that has fields -/
section
variable {X : Cx} {e : Expr} {es : List Expr} {ta : TA} {p1 p2 pos : Pos}
/-- Own.__init__(self, ..), Own a class of the program without an __init__ of its own -/
theorem pe_owninit {x : Str} {D : Addr} {pl : Sem Bool} (hg : Gl X x) (hm : X.mg x = some (.ref D)) (ga : PySem.W.specialIn X.K (.ref D) "__getattribute__" = some (some (.builtin "type.__getattribute__"))) (rd : PySem.W.readsIn X.K D (.type "type") = true)
    (vV : PySem.W.findCls X.K (.ref D) (.type "type") "__init__" = some (.val (.builtin "ValueError.__init__"))) (ha : PA X (e :: es) ta)
    (hc : eval (.Call (.Attribute (.Name x p1) "__init__" p2) (e :: es) [] pos) X.env = (do { let ov ← eval (.Name x p1) X.env; standAt p2.atName; let (f, first) ← holding [ov] (getMethod ov "__init__" pl); callWith pos f first (backTo pos (starEach (e :: es) X.env)) (backToKw pos (keywordEach [] X.env)) }) := by rfl)
    (hd : (x == ("__debug__" : Str)) = false := by decide) (he : starEach (e :: es) X.env = (false, eval e X.env) :: starEach es X.env := by rfl) (hp : (backTo pos (starEach es X.env)).any (·.1) = false := by rfl) :
    PE X (.Call (.Attribute (.Name x p1) "__init__" p2) (e :: es) [] pos) (tVeI X.K ta) := ⟨fun pins s σ H Q I h => by
  refine PySem.W.methodCall_KW (ld_glob I hg hm ?_ hd) hc
  refine PySem.W.method_cls I.kIn ga (PySem.W.cls_value (v := .builtin "ValueError.__init__") I.kIn rd vV (by decide +kernel) ?_)
  show wpAny _ _ (callWith pos (.builtin "ValueError.__init__") [] _ []) _ _ _
  exact PyProof.Rows.callWith_method1 (thn (ha.run pos pins _ σ H _ (I.tok _) h) fun us s1 w => by
    obtain ⟨vs, H1, I1, r1, a, C, ws, ev, hl, T, ea, q⟩ := w
    subst ev
    obtain ⟨u0, ur, eu, ra, rw'⟩ : ∃ u0 ur, us = u0 :: ur ∧ RelV (.ref a) u0 ∧ Vals ws ur := by
      cases r1 with
      | cons ra rw' => exact ⟨_, _, rfl, ra, rw'⟩
    subst eu
    cases (show u0 = Value.ref a from ra)
    have hn : ur.length ≤ sizeLine := by
      rw [← Paired.length rw']
      exact Nat.le_trans hl (by decide)
    exact oinit_ok T I1 ea hn fun s' J => ⟨.non, H1, J, rfl, q⟩) he hp⟩
end
/-- isinstance(e, c), e the caught error, which has fields -/
def rIsX (K : PySem.W.Frag) (D a : Addr) (cls : Value) (d : Option Addr) : List V → Hp → VK → Prop := fun xs H Q => ∃ (c : V) (cv : Value) (b : Bool) (dd : Addr) (fs : List (Str × V)),
  xs = [.ref a, c] ∧ cls = .ref D ∧ d = some dd ∧ H dd = some (.xd fs) ∧ (∀ u, RelV c u → u = cv) ∧ PySem.W.kitOne K (.ref D) cv = some b ∧ Q (.bl b) H
structure IsC (K : PySem.W.Frag) (D : Addr) : Prop where
  c : PySem.W.isClsIn K D = true
  ga : PySem.W.findIn K (.ref D) "__getattribute__" = some (some (.builtin "BaseException.__getattribute__"))
  gt : PySem.W.findIn K (.ref D) "__getattr__" = some none
  sub : PySem.W.subIn K (.ref D) (.type "BaseException") = some true
  kc : PySem.W.findIn K (.ref D) "__class__" = some (some (.builtin "object.__class__"))
  kg : PySem.W.specialIn K (.builtin "object.__class__") "__get__" = some (some (.builtin "getset_descriptor.__get__"))
  kt : PySem.W.takesIn K (.builtin "object.__class__") = some true
  ob : PySem.W.mroIn K D (.type "object") = some true
theorem call_isX {X : Cx} {a D : Addr} {oe : Obj} {cls : Value} {d : Option Addr} {pn : List (Addr × Obj)} (C : IsC X.K D) (hz : Zc cls d oe) (hf : ∃ vs, oe.data = .fields vs) : CallR (X.suite a ((a, oe) :: pn)) (.builtin "isinstance") (rIsX X.K D a cls d) := fun pins s σ H xs us Q I r h => by
  obtain ⟨c, cv, b, dd, fs, ex, e1, e2, hx, hcv, ek, q⟩ := h
  subst ex e1 e2
  obtain ⟨u1, u2, eu, rx, rt⟩ : ∃ u1 u2, us = [u1, u2] ∧ RelV (.ref a) u1 ∧ RelV c u2 := by
    cases r with
    | cons rx rr =>
      cases rr with
      | cons rt rr =>
        cases rr
        exact ⟨_, _, rfl, rx, rt⟩
  subst eu
  cases (show u1 = Value.ref a from rx)
  cases hcv _ rt
  have hg : s.heap.get? a = some oe := (I.pin (a, oe) (List.mem_append_left _ List.mem_cons_self)).1
  have hx' : ObjOk X.prog X.w H s.heap dd (.xd fs) := I.hok dd _ hx
  obtain ⟨mA, ⟨od, es, ep, hod, _⟩, _⟩ := hx'
  have J : PySem.W.InstAt s.heap a oe D (some od) := by
    obtain ⟨vs, hv⟩ := hf
    obtain ⟨oc, odd, oda, osl⟩ := oe
    obtain ⟨h1, h2⟩ := hz
    dsimp only at h1 h2 hv
    subst h1 h2 hv
    exact ⟨hg, rfl, rfl, hod⟩
  exact PySem.W.kia_one (PySem.W.kitx_exc C.c C.ga C.gt C.sub C.kc C.kg C.kt C.ob) I.kIn J ek (fun z => nomatch z) fun tk => ⟨.bl b, H, I.kept (t' := tk) fun _ _ z => z, rfl, q⟩
/-- an own class as isinstance's and except's second -/
theorem kit_own {K : PySem.W.Frag} {C D : Addr} {b : Bool} (h1 : PySem.W.isClsIn K D = true) (h2 : PySem.W.typeIn K (.ref D) = some (.type "type")) (h3 : PySem.W.subIn K (.ref C) (.ref D) = some b) (h4 : b = true ∨ C ≠ D) : PySem.W.kitOne K (.ref C) (.ref D) = some b := by
  have e : PySem.W.kitCls K (.ref C) (.ref D) = some b := by
    show (if ((PySem.W.clsIn K D).isSome && PySem.W.typeIn K (.ref D) == some (.type "type")) = true then PySem.W.subIn K (.ref C) (.ref D) else none) = some b
    rw [show (PySem.W.clsIn K D).isSome = true from h1, h2]
    exact h3
  unfold PySem.W.kitOne
  by_cases q : (Value.ref C == Value.ref D) = true
  · rw [if_pos q]
    rcases h4 with h4 | h4
    · rw [h4]
    · exact absurd (Value.ref.inj (beq_iff_eq.mp q)) h4
  · rw [if_neg q]
    exact e
theorem exm_own {K : PySem.W.Frag} {C D : Addr} {b : Bool} (h0 : PySem.W.subIn K (.ref D) (.type "BaseException") = some true) (h1 : PySem.W.isClsIn K D = true) (h2 : PySem.W.typeIn K (.ref D) = some (.type "type")) (h3 : PySem.W.subIn K (.ref C) (.ref D) = some b) : PySem.W.exmOne K (.ref C) (.ref D) = some b := by
  show (if (PySem.W.subIn K (.ref D) (.type "BaseException") == some true) = true then (if ((PySem.W.clsIn K D).isSome && PySem.W.typeIn K (.ref D) == some (.type "type")) = true then PySem.W.subIn K (.ref C) (.ref D) else none) else none) = some b
  rw [h0, show (PySem.W.clsIn K D).isSome = true from h1, h2]
  exact h3

theorem free' {H H' : Hp} {p : Addr} (h : H' p = none) (s : Same H H') : H p = none := s.free h
theorem passF {X : Cx} : Passes (L2.CX X.prog X.w) X E0 := fun _ _ _ _ _ _ _ h => by
  obtain ⟨_, _, _, _, _, _, _, _, _, _, _, _, z⟩ := h
  exact z.elim
section
variable {K : PySem.W.Frag} {σ : L2.St} {H : Hp} {D : Ends} {Q : VK} {te to : TE} {ta : TA}
theorem c_vei (h : ta σ H fun vs H1 => ∃ (a C : Addr) (ws : List V), vs = .ref a :: ws ∧ ws.length ≤ 1000 ∧ OexC K C ∧ H1 a = some (exo a C none) ∧ Q .non H1) : tVeI K ta σ H Q := h
theorem c_ost {f : Str} (h : te σ H fun y H1 => to σ H1 fun x H2 => ∃ a C : Addr, x = .ref a ∧ OexC K C ∧ PySem.W.findIn K (.ref C) f = some none ∧
  ((H2 a = some (exo a C none) ∧ ∀ dx, H2 dx = none → dx ≠ a → D.nx σ (upd (upd H2 dx (exd dx [(f, y)])) a (exo a C (some dx)))) ∨
    ∃ (dx : Addr) (fs : List (Str × V)), H2 a = some (exo a C (some dx)) ∧ H2 dx = some (exd dx fs) ∧ fs.length ≤ 900 ∧ D.nx σ (upd H2 dx (exd dx ((f, y) :: fs))))) : tOst K f to te D σ H := h
theorem c_callS {sp : Sp} {E : L2.St → XK} (h : ta σ H fun vs H1 => sp vs H1 Q (E σ)) : tCallS sp E ta σ H Q := h
theorem c_xf {a : Addr} {cls : Value} {d : Option Addr} {C : Addr} {f : Str} (h : te σ H fun x H1 => x = .ref a ∧ cls = .ref C ∧ ∃ (dd : Addr) (fs : List (Str × V)) (v : V), d = some dd ∧ H1 dd = some (.xd fs) ∧ fs.lookup f = some v ∧ Q v H1) : tXf a cls d C f te σ H Q := h
theorem c_mko {C : Addr} {sp : Sp} {dvs : List V} {R : XK} (h : ta σ H fun vs H1 => vs.length ≤ 1000 ∧ ∀ a, H1 a = none → sp (.ref a :: (vs ++ dvs)) (upd H1 a (exo a C none))
  (fun v H2 => v = .non ∧ ∃ (d : Addr) (fs : List (Str × V)), H2 a = some (exo a C (some d)) ∧ H2 d = some (exd d fs) ∧ H1 d = none ∧ R (.ref C) (some d) (upd (del H2 a) d (.xd fs))) (fun _ _ _ => False)) : tMkO C sp dvs ta σ H R := h
end
def iOr (w1 w2 : TI) : TI := fun σ H R => w1 σ H R ∨ w2 σ H R
theorem pi_or {X : Cx} {tg l : Expr} {w1 w2 : TI} (h1 : PI X tg l w1) (h2 : PI X tg l w2) : PI X tg l (iOr w1 w2) := ⟨fun pins s σ H R I h => h.elim (h1.run pins s σ H R I) (h2.run pins s σ H R I)⟩
theorem c_forA {w1 w2 : TI} {g : TG} {t : TS} {D : Ends} {σ : L2.St} {H : Hp} (h : tFor w1 g t D σ H) : tFor (iOr w1 w2) g t D σ H := Or.inl h
theorem c_forB {w1 w2 : TI} {g : TG} {t : TS} {D : Ends} {σ : L2.St} {H : Hp} (h : tFor w2 g t D σ H) : tFor (iOr w1 w2) g t D σ H := Or.inr h
/-- the error's __init__: the field is laid -/
def spErr (C : Addr) (f : Str) : Sp := fun vs H Q _ => ∃ (a : Addr) (v : V), vs = [.ref a, v] ∧ H a = some (exo a C none) ∧ ∀ dx, H dx = none → dx ≠ a → Q .non (upd (upd H dx (exd dx [(f, v)])) a (exo a C (some dx)))
/-- the heap behind C(v): the object gone again, its fields at d -/
theorem err_heap {C : Addr} {f : Str} {v : V} {H : Hp} {R : XK} (k : ∀ d H', H d = none → Same H H' → H' d = some (.xd [(f, v)]) → R (.ref C) (some d) H') {a : Addr} (ha : H a = none) :
    spErr C f [.ref a, v] (upd H a (exo a C none)) (fun x H2 => x = .non ∧ ∃ (d : Addr) (fs : List (Str × V)), H2 a = some (exo a C (some d)) ∧ H2 d = some (exd d fs) ∧ H d = none ∧ R (.ref C) (some d) (upd (del H2 a) d (.xd fs))) (fun _ _ _ => False) := by
  refine ⟨a, v, rfl, upd_same, fun dx hd ne => ⟨rfl, dx, [(f, v)], upd_same, (upd_ne ne).trans upd_same, ?_, ?_⟩⟩
  · rw [← hd, upd_ne ne]
  · have hd' : H dx = none := by rw [← hd, upd_ne ne]
    refine k dx _ hd' (fun b o hb => ?_) upd_same
    have n1 : b ≠ dx := ne_of_none hb hd'
    have n2 : b ≠ a := ne_of_none hb ha
    rw [upd_ne n1, del_ne n2, upd_ne n2, upd_ne n1, upd_ne n2]
    exact hb
/-- what may stand in a row's place -/
inductive Knd (K : PySem.W.Frag) (H : Hp) : V → Prop where
  | non : Knd K H .non
  | bl (b : Bool) : Knd K H (.bl b)
  | int (i : Int) : Knd K H (.int i)
  | str (s : Str) : Knd K H (.str s)
  | lst {a : Addr} {xs : List V} (h : SqL K H a xs) : Knd K H (.ref a)
  | tup {a : Addr} {xs : List V} (h : SqT K H a xs) : Knd K H (.ref a)
theorem Knd.same {K : PySem.W.Frag} {H H' : Hp} {v : V} (h : Knd K H v) (s : Same H H') : Knd K H' v := by
  cases h with
  | non => exact .non
  | bl b => exact .bl b
  | int i => exact .int i
  | str x => exact .str x
  | lst h => exact .lst (s.seq h)
  | tup h => exact .tup (same_tup s h)
def btw (v : V) (lo hi : Int) : Bool := match v with
  | .int i => decide (lo ≤ i) && decide (i ≤ hi)
  | _ => false
def spBetween (K : PySem.W.Frag) : Sp := fun vs H Q _ => ∃ (v : V) (lo hi : Int), vs = [v, .int lo, .int hi] ∧ Knd K H v ∧ Q (.bl (btw v lo hi)) H
theorem c_raise {C : Addr} {f : Str} {v : V} {H : Hp} {R : XK} (k : ∀ d H', H d = none → Same H H' → H' d = some (.xd [(f, v)]) → R (.ref C) (some d) H') :
    1 ≤ 1000 ∧ ∀ a, H a = none → spErr C f [.ref a, v] (upd H a (exo a C none)) (fun x H2 => x = .non ∧ ∃ (d : Addr) (fs : List (Str × V)), H2 a = some (exo a C (some d)) ∧ H2 d = some (exd d fs) ∧ H d = none ∧ R (.ref C) (some d) (upd (del H2 a) d (.xd fs))) (fun _ _ _ => False) :=
  ⟨by decide, fun _ ha => err_heap k ha⟩

/-! ### several except clauses, each with a name of its own -/
/-- a clause: the class that it names, the slot of its name, what its suite does -/
structure Clause where
  cl : Value
  at_ : Nat
  does : Addr → Value → Option Addr → TS
/-- behind a suite its name is gone -/
def Ends.off (D : Ends) (i : Nat) : Ends :=
  { nx := fun τ G => D.nx (τ.set i none) G
    rt := D.rt
    bk := fun τ G => D.bk (τ.set i none) G
    ct := fun τ G => D.ct (τ.set i none) G }
def wNamed (K : PySem.W.Frag) (W0 : WX) (D : Ends) : List Clause → WX
  | [] => W0
  | q :: qs => fun C d τ G => ∃ b : Bool, PySem.W.exmOne K C q.cl = some b ∧
      (b = true → ∀ e : Addr, G e = none → q.does e C d (Ends.off D q.at_) (τ.set q.at_ (some (.ref e))) G) ∧ (b = false → wNamed K W0 D qs C d τ G)
inductive NamedOk (X : Cx) : List ExceptHandler → List Clause → Prop
  | nil : NamedOk X [] []
  | cons {y m : Str} {c : Value} {i : Nat} {f : Addr → Value → Option Addr → TS} {st : Stmt} {sts : List Stmt} {p1 p2 : Pos} {hs : List ExceptHandler} {qs : List Clause}
      (slot : X.N[i]? = some m) (loc : X.env.kindOf m = some .local) (nm : Names X y c)
      (su : ∀ (e : Addr) (oe : Obj) (C : Value) (d : Option Addr) (pn : List (Addr × Obj)), Zc C d oe → (∃ vs, oe.data = .fields vs) → PSs (X.suite e ((e, oe) :: pn)) (st :: sts) (f e C d))
      (more : NamedOk X hs qs) : NamedOk X (.ExceptHandler (some (.Name y p1)) (some m) (st :: sts) p2 :: hs) (⟨c, i, f⟩ :: qs)
theorem ps_try_named {X : Cx} {body : List Stmt} {h1 : ExceptHandler} {hs : List ExceptHandler} {qs : List Clause} {pos : Pos} {tb : WX → TS} {W0 : WX}
    (stk : X.stack = X.env :: X.outer) (frm : X.env.frame = some X.env.locals) (nd : X.N.Nodup) (tk : Takes X W0)
    (inn : ∀ (W : WX) (pn : List (Addr × Obj)) (xe : Value → Shared → Prop), Takes (X.tr pn xe) W → PassesOwn (model X.prog X.w) X.A X.env xe → PSs (X.tr pn xe) body (tb W))
    (cls : NamedOk X (h1 :: hs) qs) : PS X (.Try body (h1 :: hs) [] [] pos) (fun D τ G => tb (wNamed X.K W0 D qs) D τ G) := by
  constructor
  intro pins s σ H D I rd
  have okX := I.ok
  have frames : X.A.frames = some (X.env :: X.outer) := okX.frames.trans (congrArg some stk)
  refine wpAny_Try_except ?_
  refine wpAny_mono ((inn (wNamed X.K W0 D qs) (X.pn ++ pins) (fun e s1 => wpAny (model X.prog X.w) X.A (noteFrame e X.env)
    (fun _ s2 => wpAny (model X.prog X.w) X.A (setFlight e none)
      (fun _ s3 => wpAny (model X.prog X.w) X.A (handleBy e X.env (h1 :: hs)) (SP X pins D) X.xe s3) X.xe s2) X.xe s1) ?caught PassesOwn.looking).run [] s σ H D (I.toTry _) rd) ?through fun _ _ z => z
  case through =>
    intro fl s1 z
    rcases fl with _ | _ | _ | u
    case next =>
      obtain ⟨τ, G, J, g⟩ := z
      exact wpAny_execs_nil ⟨τ, G, J.ofTry okX, g⟩
    case ret =>
      obtain ⟨v, τ, G, J, r, g⟩ := z
      exact ⟨v, τ, G, J.ofTry okX, r, g⟩
    all_goals
      obtain ⟨τ, G, J, g⟩ := z
      exact ⟨τ, G, J.ofTry okX, g⟩
  case caught =>
    rintro u s1 ⟨er, B, sI, pins1, τ, G, C, d, rfl, J0, low, up0, sky, free, os, ag, wish⟩
    have J1 : Inv X pins τ G sI := J0.ofTry okX
    rw [show (X.tr (X.pn ++ pins) _).stack = X.env :: X.outer from stk] at sky
    show wpAny (model X.prog X.w) X.A (noteFrame (.ref er) X.env) _ _ _
    refine Sky.land Zc.steady frames frm sky fun h3 fl3 up3 => ?_
    have up1 := up0.trans up3
    have J3 : Inv X pins τ G { s1 with heap := h3 } := J1.landed low fl3.1 up1 os ag
    obtain ⟨oe, vs, er3, kind3, data3⟩ := fl3.there
    -- the error is no frame of a def that runs
    have noFrame : er ∉ frs (X.env :: X.outer) := fun hm => by
      obtain ⟨_, o2, e2, no⟩ := fl3.2.2.1.mem hm
      cases er3.symm.trans e2
      exact no _ data3
    have notLoc : er ≠ X.env.locals := fun z => noFrame (List.mem_filterMap.mpr ⟨X.env, .head _, frm.trans (congrArg some z.symm)⟩)
    have notFs : er ∉ X.fs := fun hm => by
      obtain ⟨en, hen, q⟩ := List.mem_filterMap.mp hm
      exact noFrame (List.mem_filterMap.mpr ⟨en, .tail _ hen, q⟩)
    have S3 := J3.suite er3 data3 free notLoc notFs
    have look : PySem.W.Looks (model X.prog X.w) h3 (typeOf (.ref er)) C := fun A Q E s k q => wpAny_typeOf_ref (k _ _ er3) (kind3.1.symm ▸ q)
    clear rd
    generalize h1 :: hs = all at cls
    induction cls with
    | nil =>
      refine wpAny_handleBy_nil ?_
      obtain ⟨_, _, _, o2, v2, T, _, _, e2, _, d2, f2, _⟩ := id fl3
      unfold PySem.passOn
      refine wpAny_bind (wpAny_field e2 d2 f2 ?_)
      rw [if_neg (by simp : ¬ ((Value.ref T == Value.none) = true))]
      have out : wpAny (model X.prog X.w) X.A (setFlight (.ref er) X.env.frame)
          (fun _ s4 => wpAny (model X.prog X.w) X.A (throw (.ref er) : Sem Flow) (SP X pins D) X.xe s4) X.xe { s1 with heap := h3 } := by
        rw [frm]
        refine HandSPX.setFlight_upZ fl3 fun h4 fl4 up4 => wpAny_throw (tk _ _ ?_)
        refine ⟨er, B, sI, pins, τ, G, C, d, rfl, J1, low, up1.trans up4, ?_, free, os, ag, wish⟩
        exact .inr (.inr (by rw [stk]; exact fl4))
      first
        | exact wpAny_bind (wpAny_pure (wpAny_bind out))
        | exact wpAny_bind out
    | @cons y m c i f st sts p1 p2 hs2 qs2 slot loc nm su more ih =>
      obtain ⟨b, fits, yes, no⟩ := wish
      refine wpAny_handleBy_cons (codeAny_handlers_test ?_) (by intro q; cases q)
      have there : ∀ {Q E : Value → Shared → Prop}, Q c { s1 with heap := h3 } → wpAny (model X.prog X.w) (X.A.mark (some (.ref er))) (eval (.Name y p1) X.env) Q E { s1 with heap := h3 } := by
        intro Q E q
        rcases nm with ⟨g, dbg, hm | ⟨hm, hv, nn⟩⟩
        · exact ld_glob (X := X.suite er ((er, oe) :: (X.pn ++ pins))) S3 g hm q dbg
        · exact ld_blt (X := X.suite er ((er, oe) :: (X.pn ++ pins))) S3 g hm hv q nn dbg
      refine there ((PySem.W.exm_one (M := model X.prog X.w) J3.kIn look fits).here ?_)
      rcases b with _ | _
      · show wpAny _ X.A (handleBy (.ref er) X.env hs2) _ _ _
        exact ih (no rfl)
      · refine codeAny_handlers_suite_as ?_
        refine HandSPX.lands_againZ fl3 fun h4 fl4 up4 => ?_
        have J4 : Inv X pins τ G { s1 with heap := h4 } := J1.landed low fl4.1 (up1.trans up4) os ag
        obtain ⟨o4, v4, er4, kind4, data4⟩ := fl4.there
        refine store_ok (X := X.suite er ((er, o4) :: (X.pn ++ pins))) (v := .ref er) (J4.suite er4 data4 free notLoc notFs) nd slot (.inl loc) rfl (fun s5 S5 => ?_) (.inr loc)
        refine wpAny_mono ((su er o4 C d (X.pn ++ pins) kind4 ⟨_, data4⟩).run [] s5 _ G _ S5 (yes rfl er free)) ?_ fun _ _ z => z.elim
        intro fw s6 z
        have gone : ∀ {τ6 : L2.St} {G6 : Hp} {R : Shared → Prop}, Inv (X.suite er ((er, o4) :: (X.pn ++ pins))) [] τ6 G6 s6 → (∀ s7, Inv X pins (τ6.set i none) G6 s7 → R s7) →
            wpAny (model X.prog X.w) X.A (do bindName X.env m .none; unbindBehindTheSuite X.env m p2) (fun _ s7 => R s7) X.xe s6 := fun S6 k => gone_ok (S6.unsuite okX) nd slot loc k
        rcases fw with _ | _ | _ | u6
        case next =>
          obtain ⟨τ6, G6, S6, q6⟩ := z
          exact gone S6 fun s7 J7 => ⟨_, _, J7, q6⟩
        case ret =>
          obtain ⟨v6, τ6, G6, S6, r6, q6⟩ := z
          exact gone S6 fun s7 J7 => ⟨_, _, _, J7, r6, q6⟩
        all_goals
          obtain ⟨τ6, G6, S6, q6⟩ := z
          exact gone S6 fun s7 J7 => ⟨_, _, J7, q6⟩

/-! ### calls with keywords and instances made, where what is raised is wished for at the caller's slots -/
def tCallNS (n m : Nat) (sp : Sp) (gV : List V → List V → List V) (E : L2.St → XK) (t tk : TA) : TE := fun σ H Q => t σ H fun vs H1 => tk σ H1 fun zs H2 => vs.length = n ∧ zs.length = m ∧ sp (gV vs zs) H2 Q (E σ)
def tMakeKS (C : Addr) (n m : Nat) (sp : Sp) (gV : List V → List V → List V) (E : L2.St → XK) (t tk : TA) : TE := fun σ H Q => t σ H fun vs H1 => tk σ H1 fun zs H2 => vs.length = n ∧ zs.length = m ∧ ∀ x dx, H2 x = none → H2 dx = none → dx ≠ x →
  sp (gV (.ref x :: vs) zs) (upd (upd H2 dx (.own x)) x (.ins C dx [])) (fun v H3 => v = .non ∧ Q (.ref x) H3) (E σ)
def tMakeDS (C : Addr) (sp : Sp) (dvs : List V) (E : L2.St → XK) (t : TA) : TE := fun σ H Q => t σ H fun vs H1 => ∀ x dx, H1 x = none → H1 dx = none → dx ≠ x →
  sp (.ref x :: (vs ++ dvs)) (upd (upd H1 dx (.own x)) x (.ins C dx [])) (fun v H2 => v = .non ∧ Q (.ref x) H2) (E σ)
section
variable {X : Cx} {CX : CXT} {k n : Nat} {f C : Addr} {fd : FuncData} {ps ks : List Str} {sp : Sp} {E : L2.St → XK} {E1 : XK} {x : Str} {p pos : Pos} {e : Expr} {es : List Expr} {kws : List Keyword} {t tk : TA} {g : List Value → List Value → List Value} {gV : List V → List V → List V} {dvs : List V} {ds : List Value}
theorem run_fnNS {pins : List (Addr × Obj)} {σ : L2.St} {H : Hp} {s : Shared} {Q : VK} {us ws : List Value} {vs zs : List V} (F : FnOk X.prog X.w X.K X.mg X.base CX k f fd ps sp) (hr : Room k X.A) (hb : KBn X.K fd ps n ks g gV) (hx : PassesAt CX X σ E1)
    (I : Inv X pins σ H s) (r : Vals vs us) (rz : Vals zs ws) (l1 : vs.length = n) (l2 : zs.length = ks.length) (h : sp (gV vs zs) H Q E1) : wpAny (model X.prog X.w) X.A (call (.ref f) us (ks.zip ws)) (EP X pins σ Q) X.xe s := by
  have r2 := hb.rel r rz
  refine wpAny_call (codeAny_mono (F.run X.A X.stack s H ⟨us, ks.zip ws⟩ (g us ws) (gV vs zs) Q E1 hr I.env0 (hb.to s us ws I.kIn (r.length.symm.trans l1) (rz.length.symm.trans l2)) r2 h) fun r s' hq => ?_)
  cases r with
  | error e => exact hx pins H s e s' I hq
  | ok fl =>
    cases fl with
    | ret u => exact I.after hq
    | next => exact False.elim hq
    | brk => exact False.elim hq
    | cont => exact False.elim hq
/-- f(e, .., k = v, ..) -/
theorem pe_callNS (F : FnOk X.prog X.w X.K X.mg X.base CX k f fd ps sp) (hr : Room k X.A) (hg : Gl X x) (hm : X.mg x = some (.ref f)) (hk : PySem.W.keepIn X.K (.ref f) = true) (hb : KBn X.K fd ps n ks g gV) (hx : ∀ σ, PassesAt CX X σ (E σ))
    (ha : PA X (e :: es) t) (hkw : PK X kws tk) (hall : (backToKw pos (keywordEach kws X.env)).all (·.1.isSome) = true := by rfl) (hks : (backToKw pos (keywordEach kws X.env)).filterMap (·.1) = ks := by rfl)
    (hdb : (x == ("__debug__" : Str)) = false := by decide) (he : starEach (e :: es) X.env = (false, eval e X.env) :: starEach es X.env := by rfl)
    (hpl : ((backTo pos (starEach (e :: es) X.env)).any (·.1) || (backToKw pos (keywordEach kws X.env)).any (·.1.isNone)) = false := by rfl) :
    PE X (.Call (.Name x p) (e :: es) kws pos) (tCallNS n ks.length sp gV E t tk) := by
  refine ⟨fun pins s σ H Q I h => ?_⟩
  refine wpAny_Call_Name_kw (ld_glob I hg hm ?_ hdb)
  refine PySem.W.callWith_KW (h₀ := X.base) I.ok.mod.kin hk hall (thn (ha.run pos pins s σ H _ I h) fun us s1 ⟨vs, H1, I1, r, q⟩ => ?_) hpl he
  refine thn (hkw.run pos pins s1 σ H1 _ I1 q) fun ws s2 ⟨zs, H2, I2, rz, l1, l2, q2⟩ => ⟨I2.kIn, ?_⟩
  rw [hks]
  exact run_fnNS F hr hb (hx σ) I2 r rz l1 l2 q2
theorem run_makeKS {pins : List (Addr × Obj)} {σ : L2.St} {H : Hp} {s : Shared} {Q : VK} {us ws : List Value} {vs zs : List V} (M : Mk X.K C f) (F : FnOk X.prog X.w X.K X.mg X.base CX k f fd ps sp) (hr : Room (k + 1) X.A) (hb : KBn X.K fd ps (n + 1) ks g gV) (hx : PassesAt CX X σ E1)
    (I : Inv X pins σ H s) (r : Vals vs us) (rz : Vals zs ws) (l1 : vs.length = n) (l2 : zs.length = ks.length)
    (h : ∀ x dx, H x = none → H dx = none → dx ≠ x → sp (gV (.ref x :: vs) zs) (upd (upd H dx (.own x)) x (.ins C dx [])) (fun v H2 => v = .non ∧ Q (.ref x) H2) E1) :
    wpAny (model X.prog X.w) X.A (call (.ref C) us (ks.zip ws)) (EP X pins σ Q) X.xe s := by
  have hq := h (s.heap.objs.size + 1) s.heap.objs.size (I.hok.fresh (Nat.le_succ _)) (I.hok.fresh (Nat.le_refl _)) (Nat.ne_of_lt (Nat.lt_succ_self _))
  have I2 := Inv.made (C := C) I
  have r1 : Vals (V.ref (s.heap.objs.size + 1) :: vs) (Value.ref (s.heap.objs.size + 1) :: us) := .cons rfl r
  have r2 := hb.rel r1 rz
  have n1 : (Value.ref (s.heap.objs.size + 1) :: us).length = n + 1 := by
    rw [List.length_cons, ← r.length, l1]
  refine wpAny_call (make_map (f := f) I.kIn M.makes M.init (beq_iff_eq.mp M.fn) (codeAny_mono (F.run _ X.stack _ _ ⟨Value.ref (s.heap.objs.size + 1) :: us, ks.zip ws⟩ (g (Value.ref (s.heap.objs.size + 1) :: us) ws) _ _ E1 (hr.make C us (ks.zip ws))
    (I2.env0.make C us (ks.zip ws)) (hb.to _ (Value.ref (s.heap.objs.size + 1) :: us) ws I2.kIn n1 (rz.length.symm.trans l2)) r2 hq) fun r s' hq' => ?_))
  cases r with
  | error e => exact hx pins _ _ e s' I2 hq'
  | ok fl =>
    cases fl with
    | ret u =>
      obtain ⟨v, H', I3, rv, ev, q3⟩ := I2.after hq'
      subst ev
      exact ⟨rv, ⟨V.ref (s.heap.objs.size + 1), H', I3, rfl, q3⟩⟩
    | next => exact False.elim hq'
    | brk => exact False.elim hq'
    | cont => exact False.elim hq'
/-- C(e, .., k = v, ..) -/
theorem pe_makeKS (M : Mk X.K C f) (F : FnOk X.prog X.w X.K X.mg X.base CX k f fd ps sp) (hr : Room (k + 1) X.A) (hg : Gl X x) (hm : X.mg x = some (.ref C)) (hb : KBn X.K fd ps (n + 1) ks g gV) (hx : ∀ σ, PassesAt CX X σ (E σ)) (ha : PA X (e :: es) t) (hkw : PK X kws tk)
    (hall : (backToKw pos (keywordEach kws X.env)).all (·.1.isSome) = true := by rfl) (hks : (backToKw pos (keywordEach kws X.env)).filterMap (·.1) = ks := by rfl) (hdb : (x == ("__debug__" : Str)) = false := by decide)
    (he : starEach (e :: es) X.env = (false, eval e X.env) :: starEach es X.env := by rfl) (hpl : ((backTo pos (starEach (e :: es) X.env)).any (·.1) || (backToKw pos (keywordEach kws X.env)).any (·.1.isNone)) = false := by rfl) :
    PE X (.Call (.Name x p) (e :: es) kws pos) (tMakeKS C n ks.length sp gV E t tk) := by
  refine ⟨fun pins s σ H Q I h => ?_⟩
  refine wpAny_Call_Name_kw (ld_glob I hg hm ?_ hdb)
  refine PySem.W.callWith_KW (h₀ := X.base) I.ok.mod.kin M.kp hall (thn (ha.run pos pins s σ H _ I h) fun us s1 ⟨vs, H1, I1, r, q⟩ => ?_) hpl he
  refine thn (hkw.run pos pins s1 σ H1 _ I1 q) fun ws s2 ⟨zs, H2, I2, rz, l1, l2, q2⟩ => ⟨I2.kIn, ?_⟩
  rw [hks]
  exact run_makeKS M F hr hb (hx σ) I2 r rz l1 l2 q2
theorem run_makeDS {pins : List (Addr × Obj)} {σ : L2.St} {H : Hp} {s : Shared} {Q : VK} {us : List Value} {vs : List V} (M : Mk X.K C f) (F : FnOk X.prog X.w X.K X.mg X.base CX k f fd ps sp) (hr : Room (k + 1) X.A) (hb : Binds X.K fd ps ds) (hd : Vals dvs ds)
    (hx : PassesAt CX X σ E1) (I : Inv X pins σ H s) (r : Vals vs us)
    (h : ∀ x dx, H x = none → H dx = none → dx ≠ x → sp (.ref x :: (vs ++ dvs)) (upd (upd H dx (.own x)) x (.ins C dx [])) (fun v H2 => v = .non ∧ Q (.ref x) H2) E1) :
    wpAny (model X.prog X.w) X.A (call (.ref C) us) (EP X pins σ Q) X.xe s := by
  have hq := h (s.heap.objs.size + 1) s.heap.objs.size (I.hok.fresh (Nat.le_succ _)) (I.hok.fresh (Nat.le_refl _)) (Nat.ne_of_lt (Nat.lt_succ_self _))
  have I2 := Inv.made (C := C) I
  have r2 : Vals (V.ref (s.heap.objs.size + 1) :: (vs ++ dvs)) (Value.ref (s.heap.objs.size + 1) :: (us ++ ds)) := .cons rfl (r.append hd)
  have hl : (Value.ref (s.heap.objs.size + 1) :: us ++ ds).length = ps.length := by
    have e := r2.length
    rw [F.len _ _ _ _ hq] at e
    exact e.symm
  refine wpAny_call (make_map (f := f) I.kIn M.makes M.init (beq_iff_eq.mp M.fn) (codeAny_mono (F.run _ X.stack _ _ ⟨Value.ref (s.heap.objs.size + 1) :: us, []⟩ (Value.ref (s.heap.objs.size + 1) :: (us ++ ds)) _ _ E1 (hr.make C us [])
    (I2.env0.make C us []) (hb _ (Value.ref (s.heap.objs.size + 1) :: us) I2.kIn hl) r2 hq) fun r s' hq' => ?_))
  cases r with
  | error e => exact hx pins _ _ e s' I2 hq'
  | ok fl =>
    cases fl with
    | ret u =>
      obtain ⟨v, H', I3, rv, ev, q3⟩ := I2.after hq'
      subst ev
      exact ⟨rv, ⟨V.ref (s.heap.objs.size + 1), H', I3, rfl, q3⟩⟩
    | next => exact False.elim hq'
    | brk => exact False.elim hq'
    | cont => exact False.elim hq'
/-- C(e, ..), the rest by defaults -/
theorem pe_makeDS (M : Mk X.K C f) (F : FnOk X.prog X.w X.K X.mg X.base CX k f fd ps sp) (hr : Room (k + 1) X.A) (hg : Gl X x) (hm : X.mg x = some (.ref C)) (hb : Binds X.K fd ps ds) (hd : Vals dvs ds) (hx : ∀ σ, PassesAt CX X σ (E σ))
    (ha : PA X (e :: es) t) (hdb : (x == ("__debug__" : Str)) = false := by decide) (he : starEach (e :: es) X.env = (false, eval e X.env) :: starEach es X.env := by rfl) (hpl : (backTo pos (starEach es X.env)).any (·.1) = false := by rfl) :
    PE X (.Call (.Name x p) (e :: es) [] pos) (tMakeDS C sp dvs E t) := by
  refine ⟨fun pins s σ H Q I h => ?_⟩
  refine wpAny_Call_Name_kw (ld_glob I hg hm ?_ hdb)
  refine PySem.W.callWith_K (h₀ := X.base) I.ok.mod.kin M.kp (thn (ha.run pos pins s σ H _ I h) fun us s1 ⟨vs, H1, I1, r, q⟩ => ⟨I1.kIn, ?_⟩) he hpl
  exact run_makeDS M F hr hb hd (hx σ) I1 r q
end
/-! readings -/
section
variable {σ : L2.St} {H : Hp} {Q : VK} {n m : Nat} {sp : Sp} {gV : List V → List V → List V} {E : L2.St → XK} {t tk : TA} {C : Addr} {dvs : List V} {K : PySem.W.Frag}
theorem c_callNS (h : t σ H fun vs H1 => tk σ H1 fun zs H2 => vs.length = n ∧ zs.length = m ∧ sp (gV vs zs) H2 Q (E σ)) : tCallNS n m sp gV E t tk σ H Q := h
theorem c_callSD (h : t σ H fun vs H1 => sp (vs ++ dvs) H1 Q (E σ)) : tCallSD sp dvs E t σ H Q := h
theorem c_makeKS (h : t σ H fun vs H1 => tk σ H1 fun zs H2 => vs.length = n ∧ zs.length = m ∧ ∀ x dx, H2 x = none → H2 dx = none → dx ≠ x →
  sp (gV (.ref x :: vs) zs) (upd (upd H2 dx (.own x)) x (.ins C dx [])) (fun v H3 => v = .non ∧ Q (.ref x) H3) (E σ)) : tMakeKS C n m sp gV E t tk σ H Q := h
theorem c_makeDS (h : t σ H fun vs H1 => ∀ x dx, H1 x = none → H1 dx = none → dx ≠ x →
  sp (.ref x :: (vs ++ dvs)) (upd (upd H1 dx (.own x)) x (.ins C dx [])) (fun v H2 => v = .non ∧ Q (.ref x) H2) (E σ)) : tMakeDS C sp dvs E t σ H Q := h
theorem c_slot {ta : TE} {f : Str} (h : ta σ H fun x H1 => ∃ a C dx p vs i v, x = .ref a ∧ SlX.Slt H1 a C dx vs ∧ SlX.SCls K C ∧ SlX.Slot1 K C f p i ∧ vs[i]? = some (some v) ∧ Q v H1) : SlX.tSl K ta f σ H Q := h
theorem c_sslot {ta tv : TE} {f : Str} {D : Ends} (h : tv σ H fun y H1 => ta σ H1 fun x H2 => ∃ a C dx p vs i, x = .ref a ∧ SlX.Slt H2 a C dx vs ∧ SlX.SCls K C ∧ SlX.Slot1 K C f p i ∧ D.nx σ (SlX.slH H2 a C dx (SlX.putS i y vs))) : SlX.sSl K ta tv f D σ H := h
end
theorem pass0At {X : Cx} (σ : L2.St) : PassesAt CX0 X σ E0 := fun pins H s e s' I h => pass0 pins σ H s e s' I h
theorem passFAt {X : Cx} (σ : L2.St) : PassesAt (L2.CX X.prog X.w) X σ E0 := fun pins H s e s' I h => passF pins σ H s e s' I h
theorem c_cval {K : PySem.W.Frag} {σ : L2.St} {H : Hp} {Q : VK} {ta : TE} {f : Str} (h : ta σ H fun x H1 => ∃ C mc v u, x = .ref C ∧ ClX.CRead K C mc ∧ ClX.CVal K C mc f v u ∧ Q v H1) : ClX.tCVal K ta f σ H Q := h
theorem Slt_same {H H' : Hp} {a C dx : Addr} {vs : List (Option V)} (h : SlX.Slt H a C dx vs) (s : Same H H') : SlX.Slt H' a C dx vs := by
  rcases h with ⟨h1, h2⟩ | ⟨h1, h2⟩
  · exact .inl ⟨s _ _ h1, h2⟩
  · exact .inr ⟨s _ _ h1, s _ _ h2⟩
section
variable {X : Cx} {pn : List (Addr × Obj)} {xe : Value → Shared → Prop}
theorem ix_listT : IxR (X.tr pn xe) (rIxL X.K) := ix_list
theorem ix_tupT : IxR (X.tr pn xe) (rIxT X.K) := ix_tup
end
/-! ### errors without a field -/
def rIsN (K : PySem.W.Frag) (D a : Addr) (cls : Value) (d : Option Addr) : List V → Hp → VK → Prop := fun xs H Q => cls = .ref D ∧ d = none ∧ ∃ (c : V) (cv : Value) (b : Bool), xs = [.ref a, c] ∧ (∀ u, RelV c u → u = cv) ∧ PySem.W.kitOne K (.ref D) cv = some b ∧ Q (.bl b) H
theorem call_isN {X : Cx} {a D : Addr} {oe : Obj} {cls : Value} {d : Option Addr} {pn : List (Addr × Obj)} (C : L2.ExcC X.K D) (hz : Zc cls d oe) (hf : ∃ vs, oe.data = .fields vs) : CallR (X.suite a ((a, oe) :: pn)) (.builtin "isinstance") (rIsN X.K D a cls d) := fun pins s σ H xs us Q I r h => by
  obtain ⟨e1, e2, h⟩ := h
  subst e1 e2
  exact call_isE C hz hf pins s σ H xs us Q I r h
theorem kit_val {K : PySem.W.Frag} {C : Addr} (h : PySem.W.subIn K (.ref C) (.type "ValueError") = some true) : PySem.W.kitOne K (.ref C) (.type "ValueError") = some true := by
  have e : PySem.W.kitCls K (.ref C) (.type "ValueError") = some true := h
  unfold PySem.W.kitOne
  rw [if_neg (by intro q; cases (beq_iff_eq.mp q)), e]

/-! ### a walk by what holds ahead of each turn -/
section
variable {K : PySem.W.Frag} {a : Addr} {xs : List V} {G0 : Hp} {Qd : Hp → Prop} {B : V → Hp → (Hp → Prop) → Prop}
theorem walkL (Pv : Nat → Hp → Prop) (h0 : Pv 0 G0) (hl : ∀ i H, i ≤ xs.length → Pv i H → SqL K H a xs) (hs : ∀ i x H, xs[i]? = some x → Pv i H → B x H (Pv (i + 1))) (hd : ∀ H, Pv xs.length H → Qd H) :
    ∃ W : Nat → Nat → Hp → Prop, (∃ m, W 0 m G0) ∧ ∀ i m H, W i m H → ((Itl K a).stop i H ∧ Qd H) ∨ ((Itl K a).go i H ∧ ∃ Nx : Hp → Prop, (∀ H', Nx H' → ∃ m', m' < m ∧ W (i + 1) m' H') ∧ ∀ x H', (Itl K a).yld i H x H' → B x H' Nx) := by
  refine ⟨fun i m H => m = xs.length - i ∧ i ≤ xs.length ∧ Pv i H, ⟨xs.length, rfl, Nat.zero_le _, h0⟩, fun i m H hw => ?_⟩
  obtain ⟨rfl, hi, p⟩ := hw
  have q := hl i H hi p
  by_cases lt : i < xs.length
  · refine .inr ⟨⟨xs, xs[i], q, List.getElem?_eq_getElem lt⟩, Pv (i + 1), fun H' n => ⟨xs.length - (i + 1), by omega, rfl, lt, n⟩, fun x H' hy => ?_⟩
    obtain ⟨rfl, hx⟩ := hy
    exact hs i x H' (hx xs q) p
  · refine .inl ⟨⟨xs, q, by omega⟩, hd H ?_⟩
    have e : i = xs.length := by omega
    exact e ▸ p
theorem walkT (Pv : Nat → Hp → Prop) (h0 : Pv 0 G0) (hl : ∀ i H, i ≤ xs.length → Pv i H → SqT K H a xs) (hs : ∀ i x H, xs[i]? = some x → Pv i H → B x H (Pv (i + 1))) (hd : ∀ H, Pv xs.length H → Qd H) :
    ∃ W : Nat → Nat → Hp → Prop, (∃ m, W 0 m G0) ∧ ∀ i m H, W i m H → ((Itt K a).stop i H ∧ Qd H) ∨ ((Itt K a).go i H ∧ ∃ Nx : Hp → Prop, (∀ H', Nx H' → ∃ m', m' < m ∧ W (i + 1) m' H') ∧ ∀ x H', (Itt K a).yld i H x H' → B x H' Nx) := by
  refine ⟨fun i m H => m = xs.length - i ∧ i ≤ xs.length ∧ Pv i H, ⟨xs.length, rfl, Nat.zero_le _, h0⟩, fun i m H hw => ?_⟩
  obtain ⟨rfl, hi, p⟩ := hw
  have q := hl i H hi p
  by_cases lt : i < xs.length
  · refine .inr ⟨⟨xs, xs[i], q, List.getElem?_eq_getElem lt⟩, Pv (i + 1), fun H' n => ⟨xs.length - (i + 1), by omega, rfl, lt, n⟩, fun x H' hy => ?_⟩
    obtain ⟨rfl, hx⟩ := hy
    exact hs i x H' (hx xs q) p
  · refine .inl ⟨⟨xs, q, by omega⟩, hd H ?_⟩
    have e : i = xs.length := by omega
    exact e ▸ p
end
section
variable {σ : L2.St} {H : Hp} {Q : VK}
theorem c_lc2 {wi : TI} {g : TG} {tt : TT} {wi1 : TI} {g1 : TG} {tt1 : TT} {te : TE} {vs vs1 : List Nat} (h : wi σ H fun J H1 => ∀ D, H1 D = none → ∃ W : Nat → Nat → Hp → Prop, (∃ m, W 0 m (upd H1 D (.lst []))) ∧ ∀ i m H, W i m H →
  (J.stop i H ∧ Q (.ref D) H) ∨ (J.go i H ∧ ∃ Nx : Hp → Prop, (∀ H', Nx H' → ∃ m', m' < m ∧ W (i + 1) m' H') ∧ ∀ x H', J.yld i H x H' → g x (wipe σ vs) H' fun σ2 H2 => wipe σ2 vs = wipe σ vs ∧ tt σ2 H2 fun b H3 =>
    if b = true then wi1 σ2 H3 fun J1 H4 => ∃ W1 : Nat → Nat → Hp → Prop, (∃ m, W1 0 m H4) ∧ ∀ j k H, W1 j k H →
      (J1.stop j H ∧ Nx H) ∨ (J1.go j H ∧ ∃ Nx1 : Hp → Prop, (∀ H', Nx1 H' → ∃ k', k' < k ∧ W1 (j + 1) k' H') ∧ ∀ x H', J1.yld j H x H' → g1 x (wipe σ2 vs1) H' fun σ3 H5 => wipe σ3 vs1 = wipe σ2 vs1 ∧ tt1 σ3 H5 fun b H6 =>
        if b = true then te σ3 H6 fun y H7 => ∃ acc, H7 D = some (.lst acc) ∧ acc.length < sizeLine ∧ Nx1 (upd H7 D (.lst (acc ++ [y]))) else Nx1 H6)
    else Nx H3)) : tLc2 wi g tt wi1 g1 tt1 te vs vs1 σ H Q := h
theorem c_iTup {K : PySem.W.Frag} {tl : TE} {R : It → Hp → Prop} (h : tl σ H fun x H1 => ∃ a, x = .ref a ∧ (∃ xs, SqT K H1 a xs) ∧ R (Itt K a) H1) : iTup K tl σ H R := h
theorem c_iList {K : PySem.W.Frag} {tl : TE} {R : It → Hp → Prop} (h : tl σ H fun x H1 => ∃ a, x = .ref a ∧ (∃ xs, SqL K H1 a xs) ∧ R (Itl K a) H1) : iList K tl σ H R := h
end
theorem walkR {lo : Int} {n : Nat} {G0 : Hp} {Qd : Hp → Prop} {B : V → Hp → (Hp → Prop) → Prop} (Pv : Nat → Hp → Prop) (h0 : Pv 0 G0) (hs : ∀ i H, i < n → Pv i H → B (.int (lo + i)) H (Pv (i + 1))) (hd : ∀ H, Pv n H → Qd H) :
    ∃ W : Nat → Nat → Hp → Prop, (∃ m, W 0 m G0) ∧ ∀ i m H, W i m H → ((Itr lo n).stop i H ∧ Qd H) ∨ ((Itr lo n).go i H ∧ ∃ Nx : Hp → Prop, (∀ H', Nx H' → ∃ m', m' < m ∧ W (i + 1) m' H') ∧ ∀ x H', (Itr lo n).yld i H x H' → B x H' Nx) := by
  refine ⟨fun i m H => m = n - i ∧ i ≤ n ∧ Pv i H, ⟨n, by simp, Nat.zero_le _, h0⟩, fun i m H hw => ?_⟩
  obtain ⟨rfl, hi, p⟩ := hw
  by_cases lt : i < n
  · refine .inr ⟨lt, Pv (i + 1), fun H' q => ⟨n - (i + 1), by omega, rfl, lt, q⟩, fun x H' hy => ?_⟩
    obtain ⟨e, hx⟩ := hy
    subst e hx
    exact hs i _ lt p
  · have e : i = n := by omega
    subst e
    exact .inl ⟨Nat.le_refl _, hd H p⟩
theorem c_iRng1 {ta : TA} {σ : L2.St} {H : Hp} {R : It → Hp → Prop} (h : ta σ H fun vs H1 => ∃ j : Int, vs = [.int j] ∧ -(2 ^ 62) ≤ j ∧ j < 2 ^ 62 ∧ R (Itr 0 j.toNat) H1) : iRng1 ta σ H R := h
theorem c_rg2 {σ : L2.St} {H : Hp} {ta tb : TE} {Q : Int → Int → Hp → Prop} (h : ta σ H fun x H1 => tb σ H1 fun y H2 => ∃ i j, x = .int i ∧ y = .int j ∧ Q i j H2) : tRg2 ta tb σ H Q := h

end Y
/-! ### x in o, o an instance with an own __contains__ -/
namespace CtX
open PySem PySem.Spec PyProof.Rows L2
section
variable {prog : Program} {w : World} {A : Around} {E : Value → Shared → Prop} {s : Shared} {K : PySem.W.Frag} {x C f : Addr} {ox : Obj} {od : Option Obj}
theorem contains_own {v : Value} {Q : Bool → Shared → Prop} (X : K.In s.heap) (I : PySem.W.InstAt s.heap x ox C od) (hs : PySem.W.findIn K (.ref C) "__contains__" = some (some (.ref f))) (hf : PySem.W.typeIn K (.ref f) = some (.type "function"))
    (h : wpAny (model prog w) A (call (.ref f) [.ref x, v]) (fun r s' => ∃ b, r = .bool b ∧ Q b s') E s) : wpAny (model prog w) A (contains (.ref x) v) Q E s := by
  unfold contains
  refine wpAny_holding ?_
  show wpAny _ _ (specialOf (.ref x) "__contains__" >>= _) _ _ _
  refine wpAny_bind (wpAny_bind (I.type.here ((PySem.W.looks_findIn X hs).here ?_)))
  show wpAny _ _ (if (some (Value.ref f) == some Value.none) = true then _ else _) _ _ _
  rw [if_neg (by intro q; cases (beq_iff_eq.mp q))]
  show wpAny _ _ (callSpecialUnlessNone? (.ref x) "__contains__" [v] _ >>= _) _ _ _
  refine wpAny_bind ?_
  unfold callSpecialUnlessNone?
  refine wpAny_bind (wpAny_bind (I.type.here ((PySem.W.looks_findIn X hs).here ?_)))
  refine wpAny_holding ?_
  refine wpAny_bind ((PySem.W.bind_fn X _ hf).here ?_)
  show wpAny _ _ (if (Value.ref f == Value.none) = true then _ else _) _ _ _
  rw [if_neg (by intro q; cases (beq_iff_eq.mp q))]
  refine wpAny_bind (wpAny_mono h (fun r s' hr => ?_) fun _ _ z => z)
  obtain ⟨b, rfl, q⟩ := hr
  refine wpAny_pure ?_
  show wpAny _ _ (truthy (.bool b)) _ _ _
  exact wpAny_pure q
end
end CtX
namespace Y
open PySem PySem.Spec PyProof.Rows L2 CtX

/-! ### methods of instances with slots, where what is raised is wished for at the caller's slots -/
theorem fnr_of {P : Program} {w : World} {K : PySem.W.Frag} {mg : Str → Option Value} {base : Heap} {CX : CXT} {k : Nat} {f : Addr} {fd : FuncData} {ps : List Str} {sp : Sp} (F : FnOk P w K mg base CX k f fd ps sp) (hb : Binds K fd ps []) : FnR P w K mg base CX k f sp :=
  (FnOk.raw F hb .nil).imp fun vs H Q E h => by rw [List.append_nil]; exact h
theorem run_fnRS {X : Cx} {pins : List (Addr × Obj)} {σ : L2.St} {H : Hp} {s : Shared} {CX : CXT} {k : Nat} {f : Addr} {sp : Sp} {E : XK} {Q : VK} {us : List Value} {vs : List V} (F : FnR X.prog X.w X.K X.mg X.base CX k f sp) (hr : Room k X.A) (hx : PassesAt CX X σ E) (I : Inv X pins σ H s) (r : Vals vs us) (h : sp vs H Q E) :
    codeAny (model X.prog X.w) X.A (.call (.ref f) ⟨us, []⟩) (fun r s' => match r with | .ok (.ret v) => EP X pins σ Q v s' | .ok _ => False | .error e => X.xe e s') s := by
  refine codeAny_mono (F X.A X.stack s H us vs Q E hr I.env0 r h) fun r s' hq => ?_
  cases r with
  | error e => exact hx pins H s e s' I hq
  | ok fl =>
    cases fl with
    | ret u => exact I.after hq
    | next => exact False.elim hq
    | brk => exact False.elim hq
    | cont => exact False.elim hq
/-- o.m(e, ..) -/
def tMethS (C : Addr) (sp : Sp) (E : L2.St → XK) (ta : TE) (t : TA) : TE := fun σ H Q => ta σ H fun x H1 => ∃ a dx vs, x = .ref a ∧ SlX.Slt H1 a C dx vs ∧ t σ H1 fun ws H2 => sp (x :: ws) H2 Q (E σ)
/-- x in o -/
def rInOwn (C : Addr) (sp : Sp) (E : XK) (neg : Bool) : R2 := fun x y H Q => ∃ a dx vs, y = .ref a ∧ SlX.Slt H a C dx vs ∧ sp [y, x] H (fun z H' => ∃ b, z = .bl b ∧ Q (.bl (if neg = true then !b else b)) H') E
section
variable {X : Cx} {CX : CXT} {k : Nat} {C g : Addr} {sp : Sp} {E : L2.St → XK} {E1 : XK} {o e : Expr} {es : List Expr} {m : Str} {pos apos : Pos} {ta : TE} {t : TA}
theorem pe_methS {pl : Sem Bool} (he : PE X o ta) (c : SlX.SCls X.K C) (hm : Meth X.K C m g) (F : FnR X.prog X.w X.K X.mg X.base CX k g sp) (hr : Room k X.A) (hx : ∀ σ, PassesAt CX X σ (E σ)) (ha : PA X (e :: es) t)
    (hst : starEach (e :: es) X.env = (false, eval e X.env) :: starEach es X.env := by rfl) (hpl : (backTo pos (starEach es X.env)).any (·.1) = false := by rfl)
    (ht : eval (.Call (.Attribute o m apos) (e :: es) [] pos) X.env = (do
      let ov ← eval o X.env
      standAt apos.atName
      let (f, first) ← holding [ov] (getMethod ov m pl)
      callWith pos f first (backTo pos (starEach (e :: es) X.env)) (backToKw pos (keywordEach [] X.env))) := by rfl) :
    PE X (.Call (.Attribute o m apos) (e :: es) [] pos) (tMethS C sp E ta t) := by
  refine ⟨fun pins s σ H Q I h => ?_⟩
  refine PySem.W.methodCall_KW (pl := pl) (thn (he.run pins s σ H _ I h) fun u s1 ⟨x, H1, I1, rx, a, dx, vs, ex, hsl, q⟩ => ?_) ht
  subst ex
  obtain rfl : u = Value.ref a := rx
  refine SlX.getmethsl_ok I1 hsl c hm ?_
  refine PySem.W.callWith_K (first := [.ref a]) (h₀ := X.base) I.ok.mod.kin hm.kp (thn (ha.run pos pins s1 σ H1 _ I1 q) fun us s2 ⟨ws, H2, I2, r, q2⟩ => ⟨I2.kIn, ?_⟩) hst hpl
  exact wpAny_call (run_fnRS (us := .ref a :: us) (vs := .ref a :: ws) F hr (hx σ) I2 (.cons rfl r) q2)
theorem pe_methS0 {pl : Sem Bool} (he : PE X o ta) (c : SlX.SCls X.K C) (hm : Meth X.K C m g) (F : FnR X.prog X.w X.K X.mg X.base CX k g sp) (hr : Room k X.A) (hx : ∀ σ, PassesAt CX X σ (E σ))
    (ht : eval (.Call (.Attribute o m apos) [] [] pos) X.env = (do
      let ov ← eval o X.env
      standAt apos.atName
      let (f, first) ← holding [ov] (getMethod ov m pl)
      callWith pos f first (backTo pos (starEach [] X.env)) (backToKw pos (keywordEach [] X.env))) := by rfl) :
    PE X (.Call (.Attribute o m apos) [] [] pos) (tMethS C sp E ta tNil) := by
  refine ⟨fun pins s σ H Q I h => ?_⟩
  refine PySem.W.methodCall_KW (pl := pl) (thn (he.run pins s σ H _ I h) fun u s1 ⟨x, H1, I1, rx, a, dx, vs, ex, hsl, q⟩ => ?_) ht
  subst ex
  obtain rfl : u = Value.ref a := rx
  refine SlX.getmethsl_ok I1 hsl c hm ?_
  exact PySem.W.callWith_K0 (first := [.ref a]) I1.kIn hm.kp (wpAny_call (run_fnRS (us := [.ref a]) (vs := [.ref a]) F hr (hx σ) I1 (.cons rfl .nil) q))
theorem op_inSl (hm : Meth X.K C "__contains__" g) (F : FnR X.prog X.w X.K X.mg X.base CX k g sp) (hr : Room k X.A) (hx : Passes CX X E1) : OpR X (compareOp .In) (rInOwn C sp E1 false) := by
  intro pins s σ H x y v u Q I rx ry h
  obtain ⟨a, dx, vs, rfl, ha, q⟩ := h
  obtain rfl : u = Value.ref a := ry
  obtain ⟨sl, od, _, J, _⟩ := SlX.slt_inst I ha
  show wpAny _ _ (contains (.ref a) v >>= fun b => (pure (Value.bool b) : Sem Value)) _ _ _
  refine wpAny_bind (CtX.contains_own I.kIn J hm.at_ (beq_iff_eq.mp hm.fn) (wpAny_mono (wpAny_call (run_fnR (us := [.ref a, v]) (vs := [.ref a, x]) F hr hx I (.cons rfl (.cons rx .nil)) q)) (fun w s' z => ?_) fun _ _ x => x))
  obtain ⟨z', H', I', rz, b, ez, qz⟩ := z
  subst ez
  obtain rfl : w = Value.bool b := rz
  exact ⟨b, rfl, wpAny_pure ⟨.bl b, H', I', rfl, qz⟩⟩
theorem op_notInSl (hm : Meth X.K C "__contains__" g) (F : FnR X.prog X.w X.K X.mg X.base CX k g sp) (hr : Room k X.A) (hx : Passes CX X E1) : OpR X (compareOp .NotIn) (rInOwn C sp E1 true) := by
  intro pins s σ H x y v u Q I rx ry h
  obtain ⟨a, dx, vs, rfl, ha, q⟩ := h
  obtain rfl : u = Value.ref a := ry
  obtain ⟨sl, od, _, J, _⟩ := SlX.slt_inst I ha
  show wpAny _ _ (contains (.ref a) v >>= fun b => (pure (Value.bool (!b)) : Sem Value)) _ _ _
  refine wpAny_bind (CtX.contains_own I.kIn J hm.at_ (beq_iff_eq.mp hm.fn) (wpAny_mono (wpAny_call (run_fnR (us := [.ref a, v]) (vs := [.ref a, x]) F hr hx I (.cons rfl (.cons rx .nil)) q)) (fun w s' z => ?_) fun _ _ x => x))
  obtain ⟨z', H', I', rz, b, ez, qz⟩ := z
  subst ez
  obtain rfl : w = Value.bool b := rz
  exact ⟨b, rfl, wpAny_pure ⟨.bl (!b), H', I', rfl, qz⟩⟩
end
section
variable {σ : L2.St} {H : Hp} {Q : VK} {sp : Sp} {E : L2.St → XK} {E1 : XK} {t : TA} {C : Addr} {ta : TE} {x y : V}
theorem c_methS (h : ta σ H fun x H1 => ∃ a dx vs, x = .ref a ∧ SlX.Slt H1 a C dx vs ∧ t σ H1 fun ws H2 => sp (x :: ws) H2 Q (E σ)) : tMethS C sp E ta t σ H Q := h
theorem c_propSl (h : ta σ H fun x H1 => ∃ a dx vs, x = .ref a ∧ SlX.Slt H1 a C dx vs ∧ sp [.ref a] H1 Q E1) : SlX.tPropSl C sp E1 ta σ H Q := h
theorem r_inOwn {neg : Bool} (h : ∃ a dx vs, y = .ref a ∧ SlX.Slt H a C dx vs ∧ sp [y, x] H (fun z H' => ∃ b, z = .bl b ∧ Q (.bl (if neg = true then !b else b)) H') E1) : rInOwn C sp E1 neg x y H Q := h
end
section
variable {X : Cx} {s : Shared} {H : Hp} {scope : Scope} {e : Env} {fp : List Addr} {o : Expr} {ta : TE} {f : Str} {pos : Pos}
theorem pe_slB (he : PE (X.blk s H scope e fp) o ta) (hb : attributeBase o f (X.blk s H scope e fp).env (eval o (X.blk s H scope e fp).env) = eval o (X.blk s H scope e fp).env := by rfl) : PE (X.blk s H scope e fp) (.Attribute o f pos) (SlX.tSl X.K ta f) := SlX.pe_sl he hb
end

section Tac1
/-! ### the words: "rd" goes on as far as it can; "hp" finds what stands at an address; "t" "f" a test that is known -/
local macro_rules | `(tactic| walk_at "h0") => `(tactic| first | assumption | exact upd_same)
local macro_rules | `(tactic| walk_at "n0") => `(tactic| first
  | assumption | (apply Ne.symm; assumption) | exact ne_nn (by assumption) (by walk_at "h0") | exact ne_nn' (by assumption) (by walk_at "h0"))
local macro_rules | `(tactic| walk_at "hq") => `(tactic| first
  | assumption | exact upd_same | exact (upd_ne (by walk_at "n0")).trans (by walk_at "hq"))
local macro_rules | `(tactic| walk_at "ne") => `(tactic| first
  | assumption | (apply Ne.symm; assumption) | exact ne_nn (by assumption) (by walk_at "hq") | exact ne_nn' (by assumption) (by walk_at "hq"))
local macro_rules | `(tactic| walk_at "hp") => `(tactic| first
  | assumption
  | exact upd_same
  | exact (upd_ne (by walk_at "ne")).trans (by walk_at "hp")
  | exact same_at (by assumption) (by walk_at "hp")
  | exact ex_at (by assumption) (by walk_at "ne") (by walk_at "hp"))
local macro_rules | `(tactic| walk_at "sm") => `(tactic| first
  | assumption
  | exact Same.refl _
  | exact same_new (by walk_at "sm") (by assumption)
  | exact same_mut (by walk_at "sm") (by assumption))
local macro_rules | `(tactic| walk_at "ex") => `(tactic| first
  | assumption
  | exact Ex.refl _ _
  | exact Ex.new (by walk_at "ex") (by assumption)
  | exact Ex.mut (by walk_at "ex") (by assumption)
  | exact Ex.at (by walk_at "ex"))
local macro_rules | `(tactic| walk_at "sa") => `(tactic| first
  | assumption
  | exact seq' (by assumption) (by walk_at "sm")
  | exact tup' (by assumption) (by walk_at "sm"))
local macro_rules | `(tactic| walk_at "sq") => `(tactic| first
  | assumption
  | exact seq' (by assumption) (by walk_at "sm")
  | exact tup' (by assumption) (by walk_at "sm")
  | exact sql (by walk_at "hp")
  | exact sqt (by walk_at "hp"))
local macro_rules | `(tactic| walk_at "tt") => `(tactic| first | (simp; done) | (simp; omega))
local macro_rules | `(tactic| walk_at "tf") => `(tactic| first
  | ((with_reducible show if _ = true then _ else _); refine i_T (by walk_at "tt") ?_)
  | ((with_reducible show if _ = true then _ else _); refine i_F (by walk_at "tt") ?_))
local macro_rules | `(tactic| walk_at "ix") => `(tactic| first
  | exact ixn (j := 0) (by simp)
  | exact ixn (j := 1) (by simp)
  | exact ixn (j := 2) (by simp)
  | exact ixn (j := 3) (by simp)
  | exact ixn (j := 4) (by simp)
  | exact ixn (j := 5) (by simp)
  | exact ixn (j := 6) (by simp)
  | exact ixn (j := 7) (by simp))
local macro_rules | `(tactic| walk_at "at") => `(tactic| first
  | exact atI_nat (j := 0) (by rfl)
  | exact atI_nat (j := 1) (by rfl)
  | exact atI_nat (j := 2) (by rfl)
  | exact atI_nat (j := 3) (by rfl)
  | exact atI_nat (j := 4) (by rfl)
  | exact atI_nat (j := 5) (by rfl)
  | exact atI_nat (j := 6) (by rfl)
  | exact atI_nat (j := 7) (by rfl))
local macro_rules | `(tactic| walk_at "rd1") => `(tactic| first
  | with_reducible refine c_seq ?_
  | with_reducible refine c_asg ?_
  | ((with_reducible refine c_gname ?_); try dsimp only [List.set])
  | with_reducible refine c_ret ?_
  | with_reducible refine c_ifs ?_
  | ((with_reducible show tVar _ _ _ _); refine c_var (by rfl) ?_)
  | with_reducible refine c_c ?_
  | with_reducible refine c_op ?_
  | with_reducible refine c_un ?_
  | with_reducible refine c_test ?_
  | with_reducible refine c_B ?_
  | with_reducible refine c_CB ?_
  | with_reducible refine c_cons ?_
  | with_reducible refine c_nil ?_
  | with_reducible refine c_call ?_
  | with_reducible refine c_lst ?_
  | with_reducible refine c_tup ?_
  | with_reducible refine c_drop ?_
  | with_reducible refine c_gsub ?_
  | with_reducible refine c_BM ?_
  | with_reducible refine c_BM0 ?_
  | with_reducible refine c_and ?_
  | with_reducible refine c_or ?_
  | with_reducible refine c_not ?_
  | with_reducible refine c_andV ?_
  | with_reducible refine c_orV ?_
  | with_reducible refine c_notV ?_
  | with_reducible refine c_if ?_
  | with_reducible refine c_chain ?_
  | with_reducible refine c_next ?_
  | with_reducible refine c_retN ?_
  | with_reducible refine c_yes ?_
  | ((with_reducible show rIn _ _ (V.bl _) _ _ _); first | refine r_inL (by walk_at "sq") rfl (flat_bl _) ?_ | refine r_inL (by walk_at "sq") rfl (by rfl) ?_)
  | with_reducible refine r_I0 ?_
  | with_reducible refine r_U ?_
  | with_reducible refine r_eqI ?_
  | with_reducible refine r_neI ?_
  | with_reducible refine r_eqB ?_
  | with_reducible refine r_neB ?_
  | with_reducible refine r_eqS ?_
  | with_reducible refine r_neS ?_
  | ((with_reducible show rIxL _ _ (V.int (OfNat.ofNat _)) _ _); refine r_ixL (by walk_at "sq") (by walk_at "at") ?_)
  | ((with_reducible show rIxT _ _ (V.int (OfNat.ofNat _)) _ _); refine r_ixT (by walk_at "sq") (by walk_at "at") ?_)
  | ((with_reducible show rI CMul _ _ _ _ _); refine r_I (by first | exact .inl ⟨by omega, by omega⟩ | exact .inr ⟨by omega, by omega⟩) ?_)
  | ((with_reducible show rI CDiv _ _ _ _ _); refine r_I ⟨by omega, by omega⟩ ?_)
  | ((with_reducible show rI (fun _ _ => _) _ _ _ _ _); refine r_I (by first | assumption | omega | decide) ?_)
  | with_reducible refine r_pow18 ?_
  | with_reducible refine r_pow17 ?_
  | ((with_reducible show rSetL _ _ _ _ _); refine r_setL (by walk_at "hp") (by walk_at "ix") ?_; try dsimp only [List.set]; try simp only [upd_upd])
  | ((with_reducible show tyV _ _ _ _ ∧ _); refine ⟨.inl ⟨rfl, _, by walk_at "sq"⟩, ?_⟩)
  | ((with_reducible show rPop _ _ _ _); refine r_pop (by walk_at "hp") ?_)
  | ((with_reducible show rAppend _ _ _ _); refine r_app (by walk_at "hp") (by first | assumption | exact smallLt (by omega) | exact smallLt (by simp <;> omega)) ?_)
  | ((with_reducible show _ ≤ sizeLine ∧ _); refine ⟨small (by simp), ?_⟩)
  | ((with_reducible show V.non = V.non ∧ _); refine ⟨rfl, ?_⟩)
  | with_reducible refine iteT ?_
  | with_reducible refine iteF ?_
  | with_reducible refine ⟨_, rfl, ?_⟩
  | with_reducible refine ⟨_, _, rfl, ?_⟩
  | with_reducible refine Or.inl ⟨_, rfl, ?_⟩
  | with_reducible refine Or.inr ⟨_, rfl, ?_⟩
  | ((with_reducible show ∃ _ _, [_] = [_] ∧ _); first
    | refine ⟨_, _, rfl, Or.inl (by walk_at "sa"), ?_⟩ | refine ⟨_, _, rfl, Or.inr (by walk_at "sa"), ?_⟩
    | refine ⟨_, _, rfl, Or.inl (by exact sql (by walk_at "hp")), ?_⟩ | refine ⟨_, _, rfl, Or.inr (by exact sqt (by walk_at "hp")), ?_⟩))
local macro_rules | `(tactic| walk_at "nw") => `(tactic| (intro _ _))
local macro_rules | `(tactic| walk_at "rdn") => `(tactic| repeat (first | walk_at "rd1" | ((with_reducible show ∀ _ : Addr, _ = none → _); intro _ _)))
local macro_rules | `(tactic| walk_at "rd") => `(tactic| repeat walk_at "rd1")

def clsItem : Stmt → Nat → Stmt
  | .ClassDef (body := b) .., j => b.getD j (.Pass ⟨0, 0, 0, 0⟩)
  | s, _ => s
def topS (i : Nat) : Stmt := PySem.Challenge.pw_wholepages_k02_addresses_and_chunks.main.body.getD i (.Pass ⟨0, 0, 0, 0⟩)
abbrev s_NoPlace_init : Stmt := clsItem (topS 3) 0
abbrev N_NoPlace_init : List Str := ["self", "place"]
theorem sc_NoPlace_init : FnScope N_NoPlace_init ["self", "place"] (defScope s_NoPlace_init) := ⟨rfl, rfl, rfl, by decide +kernel, rfl, by decide +kernel, by decide +kernel⟩
abbrev s_is_between : Stmt := topS 5
abbrev N_is_between : List Str := ["value", "low", "high"]
theorem sc_is_between : FnScope N_is_between ["value", "low", "high"] (defScope s_is_between) := ⟨rfl, rfl, rfl, by decide +kernel, rfl, by decide +kernel, by decide +kernel⟩
abbrev s_check_extent : Stmt := topS 7
abbrev N_check_extent : List Str := ["value", "most"]
theorem sc_check_extent : FnScope N_check_extent ["value", "most"] (defScope s_check_extent) := ⟨rfl, rfl, rfl, by decide +kernel, rfl, by decide +kernel, by decide +kernel⟩
abbrev s_check_page : Stmt := topS 9
abbrev N_check_page : List Str := ["page", "shape"]
theorem sc_check_page : FnScope N_check_page ["page", "shape"] (defScope s_check_page) := ⟨rfl, rfl, rfl, by decide +kernel, rfl, by decide +kernel, by decide +kernel⟩
abbrev s__law_stream : Stmt := topS 11
abbrev N__law_stream : List Str := ["_law_script"]
theorem sc__law_stream : FnScope N__law_stream ["_law_script"] (defScope s__law_stream) := ⟨rfl, rfl, rfl, by decide +kernel, rfl, by decide +kernel, by decide +kernel⟩
abbrev s__law_draw : Stmt := topS 12
abbrev N__law_draw : List Str := ["_law_stream_here", "_law_many", "_law_place", "_law_cell", "_law_number"]
theorem sc__law_draw : FnScope N__law_draw ["_law_stream_here", "_law_many"] (defScope s__law_draw) := ⟨rfl, rfl, rfl, by decide +kernel, rfl, by decide +kernel, by decide +kernel⟩
abbrev s__law_sizes : Stmt := topS 13
abbrev N__law_sizes : List Str := ["_law_stream_here", "_law_pages", "_law_slots", "_law_sizes_here", "_law_most", "_law_kind"]
theorem sc__law_sizes : FnScope N__law_sizes ["_law_stream_here", "_law_pages", "_law_slots"] (defScope s__law_sizes) := ⟨rfl, rfl, rfl, by decide +kernel, rfl, by decide +kernel, by decide +kernel⟩
abbrev s__law_alike : Stmt := topS 14
abbrev N__law_alike : List Str := ["_law_told", "_law_due", "_law_left", "_law_k", "_law_pair", "_law_one", "_law_two", "_law_at"]
theorem sc__law_alike : FnScope N__law_alike ["_law_told", "_law_due"] (defScope s__law_alike) := ⟨rfl, rfl, rfl, by decide +kernel, rfl, by decide +kernel, by decide +kernel⟩
abbrev s__law_no_page : Stmt := topS 15
abbrev N__law_no_page : List Str := ["_law_stream_here", "_law_most", "_law_kind", "_law_far"]
theorem sc__law_no_page : FnScope N__law_no_page ["_law_stream_here", "_law_most"] (defScope s__law_no_page) := ⟨rfl, rfl, rfl, by decide +kernel, rfl, by decide +kernel, by decide +kernel⟩
abbrev s__law_stray : Stmt := topS 16
abbrev N__law_stray : List Str := ["_law_stream_here", "_law_pages", "_law_slots", "_law_kind", "_law_page", "_law_slot"]
theorem sc__law_stray : FnScope N__law_stray ["_law_stream_here", "_law_pages", "_law_slots"] (defScope s__law_stray) := ⟨rfl, rfl, rfl, by decide +kernel, rfl, by decide +kernel, by decide +kernel⟩
abbrev s__law_place_refused : Stmt := topS 17
abbrev N__law_place_refused : List Str := ["_law_shape", "_law_value", "_law_way", "_law_told", "e"]
theorem sc__law_place_refused : FnScope N__law_place_refused ["_law_shape", "_law_value", "_law_way"] (defScope s__law_place_refused) := ⟨rfl, rfl, rfl, by decide +kernel, rfl, by decide +kernel, by decide +kernel⟩
abbrev s__law_chunks_wrong : Stmt := topS 18
abbrev N__law_chunks_wrong : List Str := ["_law_shape", "_law_pages", "_law_group", "_law_count", "_law_walked", "_law_c", "_law_p", "_law_due_pages", "_law_told"]
theorem sc__law_chunks_wrong : FnScope N__law_chunks_wrong ["_law_shape", "_law_pages", "_law_group", "_law_count"] (defScope s__law_chunks_wrong) := ⟨rfl, rfl, rfl, by decide +kernel, rfl, by decide +kernel, by decide +kernel⟩
abbrev s_law : Stmt := topS 19
abbrev N_law : List Str := ["_law_script", "_law_stream_here", "_law_sizes_here", "_law_pages", "_law_slots", "_law_group", "_law_shape", "_law_count", "_law_due", "_law_p", "_law_s", "_law_told", "_law_address", "_law_way", "_law_value"]
theorem sc_law : FnScope N_law ["_law_script"] (defScope s_law) := ⟨rfl, rfl, rfl, by decide +kernel, rfl, by decide +kernel, by decide +kernel⟩
abbrev s_Shape_init : Stmt := clsItem (topS 8) 5
abbrev N_Shape_init : List Str := ["self", "pages", "slots", "chunk", "columns"]
theorem sc_Shape_init : FnScope N_Shape_init ["self", "pages", "slots", "chunk", "columns"] (defScope s_Shape_init) := ⟨rfl, rfl, rfl, by decide +kernel, rfl, by decide +kernel, by decide +kernel⟩
abbrev s_Shape_chunks : Stmt := clsItem (topS 8) 6
abbrev N_Shape_chunks : List Str := ["self"]
theorem sc_Shape_chunks : FnScope N_Shape_chunks ["self"] (defScope s_Shape_chunks) := ⟨rfl, rfl, rfl, by decide +kernel, rfl, by decide +kernel, by decide +kernel⟩
abbrev s_Shape_chunk_of : Stmt := clsItem (topS 8) 7
abbrev N_Shape_chunk_of : List Str := ["self", "page"]
theorem sc_Shape_chunk_of : FnScope N_Shape_chunk_of ["self", "page"] (defScope s_Shape_chunk_of) := ⟨rfl, rfl, rfl, by decide +kernel, rfl, by decide +kernel, by decide +kernel⟩
abbrev s_Shape_pages_of : Stmt := clsItem (topS 8) 8
abbrev N_Shape_pages_of : List Str := ["self", "chunk", "first"]
theorem sc_Shape_pages_of : FnScope N_Shape_pages_of ["self", "chunk"] (defScope s_Shape_pages_of) := ⟨rfl, rfl, rfl, by decide +kernel, rfl, by decide +kernel, by decide +kernel⟩
abbrev s_Shape_addresses : Stmt := clsItem (topS 8) 9
abbrev N_Shape_addresses : List Str := ["self", "page", "slot"]
theorem sc_Shape_addresses : FnScope N_Shape_addresses ["self"] (defScope s_Shape_addresses) := ⟨rfl, rfl, rfl, by decide +kernel, rfl, by decide +kernel, by decide +kernel⟩
abbrev s_Shape_contains : Stmt := clsItem (topS 8) 10
abbrev N_Shape_contains : List Str := ["self", "address", "page", "slot"]
theorem sc_Shape_contains : FnScope N_Shape_contains ["self", "address"] (defScope s_Shape_contains) := ⟨rfl, rfl, rfl, by decide +kernel, rfl, by decide +kernel, by decide +kernel⟩
structure Txt (K : PySem.W.Frag) (mg : Str → Option Value) : Type where
  a_NoPlace_init : Addr
  d_NoPlace_init : FuncData
  F_NoPlace_init : Fun K "__init__" "NoPlace.__init__" s_NoPlace_init a_NoPlace_init d_NoPlace_init
  b_NoPlace_init : Binds K d_NoPlace_init ["self", "place"] []
  a_is_between : Addr
  d_is_between : FuncData
  F_is_between : Fun K "is_between" "is_between" s_is_between a_is_between d_is_between
  b_is_between : Binds K d_is_between ["value", "low", "high"] []
  g_is_between : mg "is_between" = some (.ref a_is_between)
  a_check_extent : Addr
  d_check_extent : FuncData
  F_check_extent : Fun K "check_extent" "check_extent" s_check_extent a_check_extent d_check_extent
  b_check_extent : Binds K d_check_extent ["value", "most"] []
  g_check_extent : mg "check_extent" = some (.ref a_check_extent)
  a_check_page : Addr
  d_check_page : FuncData
  F_check_page : Fun K "check_page" "check_page" s_check_page a_check_page d_check_page
  b_check_page : Binds K d_check_page ["page", "shape"] []
  g_check_page : mg "check_page" = some (.ref a_check_page)
  a_stream : Addr
  d_stream : FuncData
  F_stream : Fun K "_law_stream" "_law_stream" s__law_stream a_stream d_stream
  b_stream : Binds K d_stream ["_law_script"] []
  g_stream : mg "_law_stream" = some (.ref a_stream)
  a_draw : Addr
  d_draw : FuncData
  F_draw : Fun K "_law_draw" "_law_draw" s__law_draw a_draw d_draw
  b_draw : Binds K d_draw ["_law_stream_here", "_law_many"] []
  g_draw : mg "_law_draw" = some (.ref a_draw)
  a_sizes : Addr
  d_sizes : FuncData
  F_sizes : Fun K "_law_sizes" "_law_sizes" s__law_sizes a_sizes d_sizes
  b_sizes : Binds K d_sizes ["_law_stream_here", "_law_pages", "_law_slots"] []
  g_sizes : mg "_law_sizes" = some (.ref a_sizes)
  a_alike : Addr
  d_alike : FuncData
  F_alike : Fun K "_law_alike" "_law_alike" s__law_alike a_alike d_alike
  b_alike : Binds K d_alike ["_law_told", "_law_due"] []
  g_alike : mg "_law_alike" = some (.ref a_alike)
  a_no_page : Addr
  d_no_page : FuncData
  F_no_page : Fun K "_law_no_page" "_law_no_page" s__law_no_page a_no_page d_no_page
  b_no_page : Binds K d_no_page ["_law_stream_here", "_law_most"] []
  g_no_page : mg "_law_no_page" = some (.ref a_no_page)
  a_stray : Addr
  d_stray : FuncData
  F_stray : Fun K "_law_stray" "_law_stray" s__law_stray a_stray d_stray
  b_stray : Binds K d_stray ["_law_stream_here", "_law_pages", "_law_slots"] []
  g_stray : mg "_law_stray" = some (.ref a_stray)
  a_place_refused : Addr
  d_place_refused : FuncData
  F_place_refused : Fun K "_law_place_refused" "_law_place_refused" s__law_place_refused a_place_refused d_place_refused
  b_place_refused : Binds K d_place_refused ["_law_shape", "_law_value", "_law_way"] []
  g_place_refused : mg "_law_place_refused" = some (.ref a_place_refused)
  a_chunks_wrong : Addr
  d_chunks_wrong : FuncData
  F_chunks_wrong : Fun K "_law_chunks_wrong" "_law_chunks_wrong" s__law_chunks_wrong a_chunks_wrong d_chunks_wrong
  b_chunks_wrong : Binds K d_chunks_wrong ["_law_shape", "_law_pages", "_law_group", "_law_count"] []
  g_chunks_wrong : mg "_law_chunks_wrong" = some (.ref a_chunks_wrong)
  a_Shape_init : Addr
  d_Shape_init : FuncData
  F_Shape_init : FunD K "__init__" "Shape.__init__" (defArgs s_Shape_init) (defBody s_Shape_init) (defScope s_Shape_init) [] [("chunk", .int (4)), ("columns", .int (2))] a_Shape_init d_Shape_init
  a_Shape_chunks : Addr
  d_Shape_chunks : FuncData
  F_Shape_chunks : Fun K "chunks" "Shape.chunks" s_Shape_chunks a_Shape_chunks d_Shape_chunks
  b_Shape_chunks : Binds K d_Shape_chunks ["self"] []
  a_Shape_chunk_of : Addr
  d_Shape_chunk_of : FuncData
  F_Shape_chunk_of : Fun K "chunk_of" "Shape.chunk_of" s_Shape_chunk_of a_Shape_chunk_of d_Shape_chunk_of
  b_Shape_chunk_of : Binds K d_Shape_chunk_of ["self", "page"] []
  a_Shape_pages_of : Addr
  d_Shape_pages_of : FuncData
  F_Shape_pages_of : Fun K "pages_of" "Shape.pages_of" s_Shape_pages_of a_Shape_pages_of d_Shape_pages_of
  b_Shape_pages_of : Binds K d_Shape_pages_of ["self", "chunk"] []
  a_Shape_addresses : Addr
  d_Shape_addresses : FuncData
  F_Shape_addresses : Fun K "addresses" "Shape.addresses" s_Shape_addresses a_Shape_addresses d_Shape_addresses
  b_Shape_addresses : Binds K d_Shape_addresses ["self"] []
  a_Shape_contains : Addr
  d_Shape_contains : FuncData
  F_Shape_contains : Fun K "__contains__" "Shape.__contains__" s_Shape_contains a_Shape_contains d_Shape_contains
  b_Shape_contains : Binds K d_Shape_contains ["self", "address"] []
  C_PagesError : Addr
  g_PagesError : mg "PagesError" = some (.ref C_PagesError)
  cB_PagesError : PySem.W.subIn K (.ref C_PagesError) (.type "BaseException") = some true
  cT_PagesError : PySem.W.typeIn K (.ref C_PagesError) = some (.type "type")
  kC_PagesError : PySem.W.keepIn K (.ref C_PagesError) = true
  is_PagesError : IsC K C_PagesError
  xf_PagesError : XfC K C_PagesError
  ie_PagesError : L2.ExcC K C_PagesError
  kv_PagesError : PySem.W.kitOne K (.ref C_PagesError) (.type "ValueError") = some true
  xF_PagesError : PySem.W.excIn K C_PagesError [.type "ValueError", .type "Exception", .type "BaseException", .type "object"] "ValueError.__new__" = true
  ga_PagesError : PySem.W.specialIn K (.ref C_PagesError) "__getattribute__" = some (some (.builtin "type.__getattribute__"))
  rd_PagesError : PySem.W.readsIn K C_PagesError (.type "type") = true
  vV_PagesError : PySem.W.findCls K (.ref C_PagesError) (.type "type") "__init__" = some (.val (.builtin "ValueError.__init__"))
  C_BadShape : Addr
  g_BadShape : mg "BadShape" = some (.ref C_BadShape)
  cB_BadShape : PySem.W.subIn K (.ref C_BadShape) (.type "BaseException") = some true
  cT_BadShape : PySem.W.typeIn K (.ref C_BadShape) = some (.type "type")
  kC_BadShape : PySem.W.keepIn K (.ref C_BadShape) = true
  is_BadShape : IsC K C_BadShape
  xf_BadShape : XfC K C_BadShape
  ie_BadShape : L2.ExcC K C_BadShape
  kv_BadShape : PySem.W.kitOne K (.ref C_BadShape) (.type "ValueError") = some true
  xF_BadShape : PySem.W.excIn K C_BadShape [.type "ValueError", .type "Exception", .type "BaseException", .type "object"] "ValueError.__new__" = true
  ga_BadShape : PySem.W.specialIn K (.ref C_BadShape) "__getattribute__" = some (some (.builtin "type.__getattribute__"))
  rd_BadShape : PySem.W.readsIn K C_BadShape (.type "type") = true
  vV_BadShape : PySem.W.findCls K (.ref C_BadShape) (.type "type") "__init__" = some (.val (.builtin "ValueError.__init__"))
  C_NoPlace : Addr
  g_NoPlace : mg "NoPlace" = some (.ref C_NoPlace)
  cB_NoPlace : PySem.W.subIn K (.ref C_NoPlace) (.type "BaseException") = some true
  cT_NoPlace : PySem.W.typeIn K (.ref C_NoPlace) = some (.type "type")
  kC_NoPlace : PySem.W.keepIn K (.ref C_NoPlace) = true
  is_NoPlace : IsC K C_NoPlace
  xf_NoPlace : XfC K C_NoPlace
  oc_NoPlace : OexC K C_NoPlace
  iC_NoPlace : PySem.W.findIn K (.ref C_NoPlace) "__init__" = some (some (.ref a_NoPlace_init))
  tI_NoPlace : PySem.W.typeIn K (.ref a_NoPlace_init) = some (.type "function")
  no_NoPlace : PySem.W.findIn K (.ref C_NoPlace) "place" = some none
  kit_PagesError_PagesError : PySem.W.kitOne K (.ref C_PagesError) (.ref C_PagesError) = some true
  te_PagesError_PagesError : PySem.W.exmOne K (.ref C_PagesError) (.ref C_PagesError) = some true
  kit_PagesError_BadShape : PySem.W.kitOne K (.ref C_PagesError) (.ref C_BadShape) = some false
  te_PagesError_BadShape : PySem.W.exmOne K (.ref C_PagesError) (.ref C_BadShape) = some false
  kit_PagesError_NoPlace : PySem.W.kitOne K (.ref C_PagesError) (.ref C_NoPlace) = some false
  te_PagesError_NoPlace : PySem.W.exmOne K (.ref C_PagesError) (.ref C_NoPlace) = some false
  kit_BadShape_PagesError : PySem.W.kitOne K (.ref C_BadShape) (.ref C_PagesError) = some true
  te_BadShape_PagesError : PySem.W.exmOne K (.ref C_BadShape) (.ref C_PagesError) = some true
  kit_BadShape_BadShape : PySem.W.kitOne K (.ref C_BadShape) (.ref C_BadShape) = some true
  te_BadShape_BadShape : PySem.W.exmOne K (.ref C_BadShape) (.ref C_BadShape) = some true
  kit_BadShape_NoPlace : PySem.W.kitOne K (.ref C_BadShape) (.ref C_NoPlace) = some false
  te_BadShape_NoPlace : PySem.W.exmOne K (.ref C_BadShape) (.ref C_NoPlace) = some false
  kit_NoPlace_PagesError : PySem.W.kitOne K (.ref C_NoPlace) (.ref C_PagesError) = some true
  te_NoPlace_PagesError : PySem.W.exmOne K (.ref C_NoPlace) (.ref C_PagesError) = some true
  kit_NoPlace_BadShape : PySem.W.kitOne K (.ref C_NoPlace) (.ref C_BadShape) = some false
  te_NoPlace_BadShape : PySem.W.exmOne K (.ref C_NoPlace) (.ref C_BadShape) = some false
  kit_NoPlace_NoPlace : PySem.W.kitOne K (.ref C_NoPlace) (.ref C_NoPlace) = some true
  te_NoPlace_NoPlace : PySem.W.exmOne K (.ref C_NoPlace) (.ref C_NoPlace) = some true
  C_Shape : Addr
  g_Shape : mg "Shape" = some (.ref C_Shape)
  sC_Shape : SlX.SCls K C_Shape
  kC_Shape : PySem.W.keepIn K (.ref C_Shape) = true
  pS_Shape_chunk : Addr
  sl_Shape_chunk : SlX.Slot1 K C_Shape "chunk" pS_Shape_chunk 0
  pS_Shape_columns : Addr
  sl_Shape_columns : SlX.Slot1 K C_Shape "columns" pS_Shape_columns 1
  pS_Shape_pages : Addr
  sl_Shape_pages : SlX.Slot1 K C_Shape "pages" pS_Shape_pages 2
  pS_Shape_slots : Addr
  sl_Shape_slots : SlX.Slot1 K C_Shape "slots" pS_Shape_slots 3
  mk_Shape : Mk K C_Shape a_Shape_init
  cr_Shape : ClX.CRead K C_Shape (.type "type")
  cu_Shape_MOST_PAGES : Value
  cv_Shape_MOST_PAGES : ClX.CVal K C_Shape (.type "type") "MOST_PAGES" (.int (16)) cu_Shape_MOST_PAGES
  cu_Shape_MOST_SLOTS : Value
  cv_Shape_MOST_SLOTS : ClX.CVal K C_Shape (.type "type") "MOST_SLOTS" (.int (8)) cu_Shape_MOST_SLOTS
  cu_Shape_MOST_CHUNK : Value
  cv_Shape_MOST_CHUNK : ClX.CVal K C_Shape (.type "type") "MOST_CHUNK" (.int (16)) cu_Shape_MOST_CHUNK
  cu_Shape_MOST_COLUMNS : Value
  cv_Shape_MOST_COLUMNS : ClX.CVal K C_Shape (.type "type") "MOST_COLUMNS" (.int (3)) cu_Shape_MOST_COLUMNS
  pp_Shape_chunks : Addr
  pa_Shape_chunks : PySem.W.findIn K (.ref C_Shape) "chunks" = some (some (.ref pp_Shape_chunks))
  pg_Shape_chunks : PySem.W.specialIn K (.ref pp_Shape_chunks) "__get__" = some (some (.builtin "property.__get__"))
  pt_Shape_chunks : PySem.W.takesIn K (.ref pp_Shape_chunks) = some true
  pr_Shape_chunks : ∃ rest, PySem.W.recIn K pp_Shape_chunks "property" = some (.ref a_Shape_chunks :: rest)
  me_Shape_chunk_of : Meth K C_Shape "chunk_of" a_Shape_chunk_of
  me_Shape_pages_of : Meth K C_Shape "pages_of" a_Shape_pages_of
  me_Shape_addresses : Meth K C_Shape "addresses" a_Shape_addresses
  me_Shape_contains : Meth K C_Shape "__contains__" a_Shape_contains
  z_abs : mg "abs" = none
  z_bool : mg "bool" = none
  z_int : mg "int" = none
  z_isinstance : mg "isinstance" = none
  z_len : mg "len" = none
  z_list : mg "list" = none
  z_min : mg "min" = none
  z_range : mg "range" = none
  z_str : mg "str" = none
  z_tuple : mg "tuple" = none
section
variable {K : PySem.W.Frag} {mg : Str → Option Value}
theorem kb_Shape_init_chunk_columns (T : Txt K mg) : ∃ mv : List Value, KBn K T.d_Shape_init ["self", "pages", "slots", "chunk", "columns"] 3 ["chunk", "columns"] (fun us ws => (fun {α : Type} (vs mz zs : List α) => vs ++ (zs ++ mz)) us mv ws) (fun vs zs => (fun {α : Type} (vs mz zs : List α) => vs ++ (zs ++ mz)) vs [] zs) := T.F_Shape_init.kbinds0 3 ["chunk", "columns"] [] (fun {α : Type} (vs mz zs : List α) => vs ++ (zs ++ mz)) (List.cons_ne_nil _ _) (by simp) (fun r1 r2 r3 => r1.append (r3.append r2)) (fun D doc pm an cdv ct us mv ws h1 h2 h3 => match us, h1, mv, h2, ws, h3 with | [_, _, _], _, [], _, [_, _], _ => rfl)
end
/-! ### the law's stream of numbers -/
/-- at S the law's stream: the copy of the script at L, a place, a number, how many draws it still gives -/
structure Strm (S L : Addr) (ns : List Int) (H : Hp) : Prop where
  at_ : ∃ (p : Nat) (n k : Int), H S = some (.lst [.ref L, .int p, .int n, .int k]) ∧ p ≤ ns.length ∧ 0 ≤ n ∧ 0 ≤ k
  lst : H L = some (.lst (ns.map V.int))
  ne : L ≠ S
  len : ns.length ≤ 63
theorem strm_at {S L : Addr} {ns : List Int} {H : Hp} {q n c : Int} (eL : H L = some (.lst (ns.map V.int))) (ne : L ≠ S) (hl : ns.length ≤ 63) (h0 : 0 ≤ q) (h1 : q ≤ ns.length) (hn : 0 ≤ n) (hc : 0 ≤ c) : Strm S L ns (upd H S (.lst [.ref L, .int q, .int n, .int c])) :=
  ⟨⟨q.toNat, n, c, by rw [upd_same, Int.toNat_of_nonneg h0], by omega, hn, hc⟩, by rw [upd_ne ne]; exact eL, ne, hl⟩
theorem Strm.new {S L : Addr} {ns : List Int} {H : Hp} {p : Addr} {o : HO} (s : Strm S L ns H) (h : H p = none) : Strm S L ns (upd H p o) := by
  obtain ⟨⟨a, b, c, e, z⟩, l, n, q⟩ := s
  exact ⟨⟨a, b, c, by rw [upd_ne (ne_of_none e h)]; exact e, z⟩, by rw [upd_ne (ne_of_none l h)]; exact l, n, q⟩
theorem Strm.upd {S L : Addr} {ns : List Int} {H : Hp} {p : Addr} {o : HO} (s : Strm S L ns H) (h1 : p ≠ S) (h2 : p ≠ L) : Strm S L ns (upd H p o) := by
  obtain ⟨⟨a, b, c, e, z⟩, l, n, q⟩ := s
  exact ⟨⟨a, b, c, by rw [upd_ne h1.symm]; exact e, z⟩, by rw [upd_ne h2.symm]; exact l, n, q⟩
theorem Strm.same {S L : Addr} {ns : List Int} {H H' : Hp} (s : Strm S L ns H) (h : Same H H') : Strm S L ns H' := by
  obtain ⟨⟨a, b, c, e, z⟩, l, n, q⟩ := s
  exact ⟨⟨a, b, c, h _ _ e, z⟩, h _ _ l, n, q⟩
theorem Strm.neS {S L : Addr} {ns : List Int} {H : Hp} {p : Addr} (s : Strm S L ns H) (h : H p = none) : p ≠ S := by
  obtain ⟨⟨a, b, c, e, z⟩, l, n, q⟩ := s
  exact (ne_of_none e h).symm
theorem Strm.neL {S L : Addr} {ns : List Int} {H : Hp} {p : Addr} (s : Strm S L ns H) (h : H p = none) : p ≠ L := by
  obtain ⟨⟨a, b, c, e, z⟩, l, n, q⟩ := s
  exact (ne_of_none l h).symm
def spStream (K : PySem.W.Frag) : Sp := fun vs H Q _ => ∃ (a : Addr) (ns : List Int), vs = [.ref a] ∧ SqL K H a (ns.map V.int) ∧ ns.length ≤ 63 ∧ ∀ S L H', H S = none → Same H H' → Strm S L ns H' → Q (.ref S) H'
def spDraw : Sp := fun vs H Q _ => ∃ (S L : Addr) (ns : List Int) (m : Int), vs = [.ref S, .int m] ∧ Strm S L ns H ∧ 0 < m ∧ m.natAbs < 2 ^ 200 ∧ ∀ r H', 0 ≤ r → r < m → Ex S H H' → Strm S L ns H' → Q (.int r) H'
theorem use_draw {S L : Addr} {ns : List Int} {m : Int} {H : Hp} {Q : VK} {E : XK} (s : Strm S L ns H) (h0 : 0 < m) (h1 : m < 10 ^ 40) (k : ∀ r H', 0 ≤ r → r < m → Ex S H H' → Strm S L ns H' → Q (.int r) H') : spDraw [.ref S, .int m] H Q E :=
  ⟨S, L, ns, m, rfl, s, h0, by omega, k⟩
section
variable {P : Program} {w : World} {K : PySem.W.Frag} {mg : Str → Option Value} {base : Heap}
theorem ok_stream (T : Txt K mg) : FnOk P w K mg base CX0 1 T.a_stream T.d_stream ["_law_script"] (spStream K) := by
  refine T.F_stream.ok sc__law_stream (fun vs H Q E h => ?_) (fun cdv A outer s H vs Q E hr h => ⟨_, (pss_one (ps_ret (pe_lst (pa_cons (pe_callTy call_list_of (by rfl) T.z_list (by decide +kernel) (pa_cons (pv 0) pa_nil)) (pa_cons pe_int (pa_cons pe_int (pa_cons pe_int pa_nil))))))), ?_⟩)
  · first | (obtain ⟨rfl, _⟩ := h; rfl) | (obtain ⟨_, rfl, _⟩ := h; rfl) | (obtain ⟨_, _, rfl, _⟩ := h; rfl) | (obtain ⟨_, _, _, rfl, _⟩ := h; rfl) | (obtain ⟨_, _, _, _, rfl, _⟩ := h; rfl) | (obtain ⟨_, _, _, _, _, rfl, _⟩ := h; rfl) | (obtain ⟨_, _, _, _, _, _, rfl, _⟩ := h; rfl) | (obtain ⟨_, _, _, _, _, _, _, rfl, _⟩ := h; rfl) | (obtain ⟨_, _, _, _, _, _, _, _, rfl, _⟩ := h; rfl) | (obtain ⟨_, _, _, _, _, _, _, _, _, rfl, _⟩ := h; rfl) | (obtain ⟨_, _, _, _, _, _, _, _, _, _, rfl, _⟩ := h; rfl) | (obtain ⟨_, _, _, _, _, _, _, _, _, _, _, rfl, _⟩ := h; rfl) | (obtain ⟨_, _, _, _, _, _, _, _, _, _, _, _, rfl, _⟩ := h; rfl) | (obtain ⟨_, _, _, _, _, _, _, _, _, _, _, _, _, rfl, _⟩ := h; rfl) | (obtain ⟨_, _, _, _, _, _, _, _, _, _, _, _, _, _, rfl, _⟩ := h; rfl)
  · obtain ⟨a, ns, rfl, hS, hl, k⟩ := h
    try dsimp only [cxOf, Cx.nox, Cx.wish]
    refine st_of (σ := [some _]) rfl ?_
    walk_at "rd"
    intro L hL
    walk_at "rd"
    intro S hs
    have hs' : H S = none := by
      by_cases e : S = L
      · rw [e, upd_same] at hs
        cases hs
      · rw [upd_ne e] at hs
        exact hs
    refine k S L _ hs' (by walk_at "sm") ⟨⟨0, 0, 0, upd_same, Nat.zero_le _, Int.le_refl _, Int.le_refl _⟩, ?_, ?_, hl⟩
    · have e : L ≠ S := ne_of_none upd_same hs
      rw [upd_ne e]
      exact upd_same
    · exact ne_of_none upd_same hs
theorem ok_draw (T : Txt K mg) : FnOk P w K mg base CX0 1 T.a_draw T.d_draw ["_law_stream_here", "_law_many"] (spDraw) := by
  refine T.F_draw.ok sc__law_draw (fun vs H Q E h => ?_) (fun cdv A outer s H vs Q E hr h => ⟨_, (Evl.pss_cut (ps_if (PW.pt (pw_and (PW.pt (pw_or (pt_cmpR op_eq (pe_ix ix_list (pv 0) pe_int (fun _ _ => rfl)) pe_int (nomark _)) (pw_or1 (pt_cmpR op_eq (pe_ix ix_list (pv 0) pe_int (fun _ _ => rfl)) pe_int (nomark _))))) (pw_and1 (pt_cmpR op_lt (pe_ix ix_list (pv 0) pe_int (fun _ _ => rfl)) (pe_callB call_len_seq (by rfl) T.z_len PySem.boot_len (pa_cons (pe_ix ix_list (pv 0) pe_int (fun _ _ => rfl)) pa_nil)) (nomark _)))))
      (pss_cons (ps_set (i := 2) sc__law_draw.nd rfl (.inl rfl) (pe_ix ix_list (pv 0) pe_int (fun _ _ => rfl)))
      (pss_cons (ps_set (i := 3) sc__law_draw.nd rfl (.inl rfl) (pe_ix ix_list (pe_ix ix_list (pv 0) pe_int (fun _ _ => rfl)) (pv 2) (fun _ _ => rfl)))
      (pss_cons (ps_set (i := 4) sc__law_draw.nd rfl (.inl rfl) (pe_op op_add (pe_op op_mul pe_int (pe_callB call_abs (by rfl) T.z_abs (by decide +kernel) (pa_cons (pv 3) pa_nil))) (pe_callTy call_int1 (by rfl) T.z_int (by decide +kernel) (pa_cons (pe_cmpR op_lt (pv 3) pe_int (nomark _)) pa_nil))))
      (pss_cons (ps_if (pt_cmpR op_lt (pv 4) (pe_op op_mul pe_int (pe_op op_pow pe_int pe_int)) (nomark _))
      (pss_cons (ps_set (i := 4) sc__law_draw.nd rfl (.inl rfl) (pe_op op_mod (pe_callTy call_int1 (by rfl) T.z_int (by decide +kernel) (pa_cons (pe_op op_add (pe_op op_mul (pv 4) pe_int) (pe_op op_mul (pe_op op_add (pe_op op_mul (pv 2) (pv 2)) pe_int) pe_int)) pa_nil)) pe_int))
      (pss_one (ps_set (i := 4) sc__law_draw.nd rfl (.inl rfl) (pe_op op_mod (pe_callTy call_int1 (by rfl) T.z_int (by decide +kernel) (pa_cons (pe_op op_add (pe_op op_add (pe_op op_mul (pe_op op_mul (pv 4) (pv 4)) pe_int) (pe_op op_mul (pv 4) pe_int)) pe_int) pa_nil)) pe_int))))
      pss_nil)
      (pss_cons (ps_asg (pe_op op_add (pv 2) pe_int) (pg_sub (pv 0) pe_int set_list))
      (pss_cons (ps_asg (pv 4) (pg_sub (pv 0) pe_int set_list))
      (pss_one (ps_asg pe_int (pg_sub (pv 0) pe_int set_list)))))))))
      pss_nil)
      (pss_cons (ps_if (pt_cmpR op_eq (pe_ix ix_list (pv 0) pe_int (fun _ _ => rfl)) pe_int (nomark _))
      (pss_one (ps_ret pe_int))
      pss_nil)
      (pss_cons (ps_set (i := 4) sc__law_draw.nd rfl (.inl rfl) (pe_ix ix_list (pv 0) pe_int (fun _ _ => rfl)))
      (pss_cons (ps_asg (pe_op op_fdivW (pv 4) (pv 1)) (pg_sub (pv 0) pe_int set_list))
      (pss_cons (ps_asg (pe_op op_sub (pe_ix ix_list (pv 0) pe_int (fun _ _ => rfl)) pe_int) (pg_sub (pv 0) pe_int set_list))
      (pss_one (ps_ret (pe_op op_mod (pe_callTy call_int1 (by rfl) T.z_int (by decide +kernel) (pa_cons (pv 4) pa_nil)) (pv 1))))))))), ?_⟩)
  · first | (obtain ⟨rfl, _⟩ := h; rfl) | (obtain ⟨_, rfl, _⟩ := h; rfl) | (obtain ⟨_, _, rfl, _⟩ := h; rfl) | (obtain ⟨_, _, _, rfl, _⟩ := h; rfl) | (obtain ⟨_, _, _, _, rfl, _⟩ := h; rfl) | (obtain ⟨_, _, _, _, _, rfl, _⟩ := h; rfl) | (obtain ⟨_, _, _, _, _, _, rfl, _⟩ := h; rfl) | (obtain ⟨_, _, _, _, _, _, _, rfl, _⟩ := h; rfl) | (obtain ⟨_, _, _, _, _, _, _, _, rfl, _⟩ := h; rfl) | (obtain ⟨_, _, _, _, _, _, _, _, _, rfl, _⟩ := h; rfl) | (obtain ⟨_, _, _, _, _, _, _, _, _, _, rfl, _⟩ := h; rfl) | (obtain ⟨_, _, _, _, _, _, _, _, _, _, _, rfl, _⟩ := h; rfl) | (obtain ⟨_, _, _, _, _, _, _, _, _, _, _, _, rfl, _⟩ := h; rfl) | (obtain ⟨_, _, _, _, _, _, _, _, _, _, _, _, _, rfl, _⟩ := h; rfl) | (obtain ⟨_, _, _, _, _, _, _, _, _, _, _, _, _, _, rfl, _⟩ := h; rfl)
  · obtain ⟨S, L, ns, m, rfl, hS, h0, h1, k⟩ := h
    try dsimp only [cxOf, Cx.nox, Cx.wish]
    refine st_of (σ := [some _, some _, none, none, none]) rfl ?_
    obtain ⟨⟨p, n, c, eS, hp, hn, hc⟩, eL, ne, hl⟩ := hS
    have hm : CDivW n m := wide_div h0 h1 (by decide) (by decide)
    refine ⟨fun σ' H' => ∃ x y z, σ' = [some (.ref S), some (.int m), x, y, z] ∧ Ex S H H' ∧ Strm S L ns H', ?_, ?_⟩
    · walk_at "rd"
      have key : ∀ H', Ex S H H' → Strm S L ns H' → (∃ x y z, [some (V.ref S), some (V.int m), none, none, none] = [some (V.ref S), some (V.int m), x, y, z] ∧ Ex S H H' ∧ Strm S L ns H') := fun H' a b => ⟨_, _, _, rfl, a, b⟩
      refine i_d (p := n = 0) (fun hz => ?_) (fun hz => ?_)
      · walk_at "rd"
        refine i_d (fun hl2 => ?_) (fun hl2 => ?_)
        · rw [List.length_map] at hl2
          have hlt : p < ns.length := by omega
          walk_at "rd"
          refine r_ixL (sql eL) (atI_nat (map_at hlt)) ?_
          generalize ns[p] = z
          walk_at "rd"
          refine i_d (fun hb => ?_) (fun hb => ?_)
          · walk_at "rd"
            exact ⟨_, _, _, rfl, Ex.at (Ex.refl _ _), strm_at eL ne hl (by omega) (by omega) (Int.emod_nonneg _ (by decide)) (by decide)⟩
          · walk_at "rd"
            exact ⟨_, _, _, rfl, Ex.at (Ex.refl _ _), strm_at eL ne hl (by omega) (by omega) (by split <;> split <;> omega) (by decide)⟩
        · walk_at "rd"
          exact key H (Ex.refl _ _) ⟨⟨p, n, c, eS, hp, hn, hc⟩, eL, ne, hl⟩
      · walk_at "rd"
        refine i_d (p := c = 0) (fun hz => ?_) (fun hz => ?_)
        · walk_at "rd"
          refine i_d (fun hl2 => ?_) (fun hl2 => ?_)
          · rw [List.length_map] at hl2
            have hlt : p < ns.length := by omega
            walk_at "rd"
            refine r_ixL (sql eL) (atI_nat (map_at hlt)) ?_
            generalize ns[p] = z
            walk_at "rd"
            refine i_d (fun hb => ?_) (fun hb => ?_)
            · walk_at "rd"
              exact ⟨_, _, _, rfl, Ex.at (Ex.refl _ _), strm_at eL ne hl (by omega) (by omega) (Int.emod_nonneg _ (by decide)) (by decide)⟩
            · walk_at "rd"
              exact ⟨_, _, _, rfl, Ex.at (Ex.refl _ _), strm_at eL ne hl (by omega) (by omega) (by split <;> split <;> omega) (by decide)⟩
          · walk_at "rd"
            exact key H (Ex.refl _ _) ⟨⟨p, n, c, eS, hp, hn, hc⟩, eL, ne, hl⟩
        · walk_at "rd"
          exact key H (Ex.refl _ _) ⟨⟨p, n, c, eS, hp, hn, hc⟩, eL, ne, hl⟩
    · rintro σ' H' ⟨x, y, z, rfl, ex, ⟨⟨p, n, c, eS, hp, hn, hc⟩, eL, ne, hl⟩⟩
      have hm : CDivW n m := wide_div h0 h1 (by decide) (by decide)
      walk_at "rd"
      refine i_d (p := c = 0) (fun hz => ?_) (fun hz => ?_)
      · walk_at "rd"
        exact k 0 H' (Int.le_refl _) h0 ex ⟨⟨p, n, c, eS, hp, hn, hc⟩, eL, ne, hl⟩
      · walk_at "rd"
        exact k _ _ (Int.emod_nonneg _ (by omega)) (Int.emod_lt_of_pos _ h0) (Ex.at ex) (strm_at eL ne hl (by omega) (by omega) (Int.ediv_nonneg hn (by omega)) (by omega))
end

/-! ### what is alike -/
mutual
/-- x and y are alike in H; n: how many looks that takes -/
inductive Al (K : PySem.W.Frag) (H : Hp) : V → V → Nat → Prop where
  | non : Al K H .non .non 1
  | bl (b : Bool) : Al K H (.bl b) (.bl b) 1
  | int (i : Int) : Al K H (.int i) (.int i) 1
  | str (s : Str) : Al K H (.str s) (.str s) 1
  | lst {a b : Addr} {xs ys : List V} {n : Nat} (h1 : SqL K H a xs) (h2 : SqL K H b ys) (h : Als K H xs ys n) : Al K H (.ref a) (.ref b) (n + 1)
  | tup {a b : Addr} {xs ys : List V} {n : Nat} (h1 : SqT K H a xs) (h2 : SqT K H b ys) (h : Als K H xs ys n) : Al K H (.ref a) (.ref b) (n + 1)
inductive Als (K : PySem.W.Frag) (H : Hp) : List V → List V → Nat → Prop where
  | nil : Als K H [] [] 0
  | cons {x y : V} {xs ys : List V} {n m : Nat} (h : Al K H x y n) (t : Als K H xs ys m) : Als K H (x :: xs) (y :: ys) (n + m)
end
section
variable {K : PySem.W.Frag} {H H' : Hp}
theorem Al.same {x y : V} {n : Nat} (h : Al K H x y n) (e : Same H H') : Al K H' x y n :=
  h.rec (motive_1 := fun x y n _ => Al K H' x y n) (motive_2 := fun xs ys n _ => Als K H' xs ys n) .non .bl .int .str (fun h1 h2 _ ih => .lst (e.seq h1) (e.seq h2) ih) (fun h1 h2 _ ih => .tup (same_tup e h1) (same_tup e h2) ih) .nil (fun _ _ a b => .cons a b)
theorem Als.same {xs ys : List V} {n : Nat} (h : Als K H xs ys n) (e : Same H H') : Als K H' xs ys n :=
  h.rec (motive_1 := fun x y n _ => Al K H' x y n) (motive_2 := fun xs ys n _ => Als K H' xs ys n) .non .bl .int .str (fun h1 h2 _ ih => .lst (e.seq h1) (e.seq h2) ih) (fun h1 h2 _ ih => .tup (same_tup e h1) (same_tup e h2) ih) .nil (fun _ _ a b => .cons a b)
theorem Als.len {xs ys : List V} {n : Nat} (h : Als K H xs ys n) : xs.length = ys.length :=
  h.rec (motive_1 := fun _ _ _ _ => True) (motive_2 := fun xs ys _ _ => xs.length = ys.length) trivial (fun _ => trivial) (fun _ => trivial) (fun _ => trivial) (fun _ _ _ _ => trivial) (fun _ _ _ _ => trivial) rfl (fun _ _ _ b => congrArg (· + 1) b)
theorem Als.app {xs ys us ws : List V} {n m : Nat} (h : Als K H xs ys n) (g : Als K H us ws m) : Als K H (xs ++ us) (ys ++ ws) (n + m) :=
  h.rec (motive_1 := fun _ _ _ _ => True) (motive_2 := fun xs ys n _ => Als K H (xs ++ us) (ys ++ ws) (n + m)) trivial (fun _ => trivial) (fun _ => trivial) (fun _ => trivial) (fun _ _ _ _ => trivial) (fun _ _ _ _ => trivial)
    (by rw [Nat.zero_add]; exact g) (fun a _ _ b => by rw [Nat.add_assoc]; exact .cons a b)
theorem Als.last {xs ys : List V} {x y : V} : ∀ {n : Nat}, Als K H (xs ++ [x]) (ys ++ [y]) n → xs.length = ys.length → ∃ m k, n = m + k ∧ Als K H xs ys m ∧ Al K H x y k := by
  induction xs generalizing ys with
  | nil =>
    intro n h hl
    cases ys with
    | cons _ _ => cases hl
    | nil =>
      cases h with
      | cons a t =>
        cases t
        exact ⟨0, _, by omega, .nil, a⟩
  | cons u us ih =>
    intro n h hl
    cases ys with
    | nil => cases hl
    | cons w ws =>
      cases h with
      | cons a t =>
        obtain ⟨m, k, e, t', l⟩ := ih t (by simpa using hl)
        exact ⟨_, k, by rw [e, Nat.add_assoc], .cons a t', l⟩
theorem Al.posI {x y : V} {n : Nat} (h : Al K H x y n) : 0 < n := by
  cases h <;> omega
theorem Als.le {xs ys : List V} {n : Nat} (h : Als K H xs ys n) : ys.length ≤ n :=
  h.rec (motive_1 := fun _ _ n _ => 0 < n) (motive_2 := fun _ ys n _ => ys.length ≤ n) (by decide) (fun _ => by decide) (fun _ => by decide) (fun _ => by decide) (fun _ _ _ _ => Nat.succ_pos _) (fun _ _ _ _ => Nat.succ_pos _) (Nat.le_refl _)
    (fun _ _ a b => by rw [List.length_cons]; omega)
theorem Al.pos {x y : V} {n : Nat} (h : Al K H x y n) : 0 < n := by
  cases h <;> omega
theorem Als.get {xs ys : List V} : ∀ {n : Nat} (i : Nat), Als K H xs ys n → i < xs.length → ∃ x y, xs[i]? = some x ∧ ys[i]? = some y := by
  intro n i h hi
  have e := h.len
  exact ⟨xs[i], ys[i]'(by omega), List.getElem?_eq_getElem hi, List.getElem?_eq_getElem (by omega)⟩
theorem Als.ints : ∀ ns : List Int, Als K H (ns.map V.int) (ns.map V.int) ns.length
  | [] => .nil
  | n :: r => by
    rw [List.length_cons, Nat.add_comm]
    exact .cons (.int n) (Als.ints r)
theorem Als.bls : ∀ ns : List Bool, Als K H (ns.map V.bl) (ns.map V.bl) ns.length
  | [] => .nil
  | n :: r => by
    rw [List.length_cons, Nat.add_comm]
    exact .cons (.bl n) (Als.bls r)
/-- the pairs that stand on the stack at l -/
inductive Prs (l : Addr) (H : Hp) : List V → List V → List V → Prop where
  | nil : Prs l H [] [] []
  | cons {p : Addr} {x y : V} {vs xs ys : List V} (h : H p = some (.lst [x, y])) (n : p ≠ l) (t : Prs l H vs xs ys) : Prs l H (.ref p :: vs) (x :: xs) (y :: ys)
theorem Prs.keep {l : Addr} {vs xs ys : List V} (h : Prs l H vs xs ys) (e : ∀ p o, p ≠ l → H p = some o → H' p = some o) : Prs l H' vs xs ys := by
  induction h with
  | nil => exact .nil
  | cons h n _ ih => exact .cons (e _ _ n h) n ih
theorem Prs.len {l : Addr} {vs xs ys : List V} (h : Prs l H vs xs ys) : vs.length = xs.length ∧ xs.length = ys.length := by
  induction h with
  | nil => exact ⟨rfl, rfl⟩
  | cons h n _ ih => exact ⟨congrArg (· + 1) ih.1, congrArg (· + 1) ih.2⟩
theorem Prs.app {l p : Addr} {x y : V} {vs xs ys : List V} (h : Prs l H vs xs ys) (hp : H p = some (.lst [x, y])) (n : p ≠ l) : Prs l H (vs ++ [.ref p]) (xs ++ [x]) (ys ++ [y]) := by
  induction h with
  | nil => exact .cons hp n .nil
  | cons h m _ ih => exact .cons h m ih
theorem Prs.last {l : Addr} {v x y : V} : ∀ {vs xs ys : List V}, Prs l H (vs ++ [v]) (xs ++ [x]) (ys ++ [y]) → vs.length = xs.length → xs.length = ys.length → ∃ p, v = .ref p ∧ H p = some (.lst [x, y]) ∧ p ≠ l ∧ Prs l H vs xs ys := by
  intro vs
  induction vs with
  | nil =>
    intro xs ys h h1 h2
    cases xs with
    | cons _ _ => cases h1
    | nil =>
      cases ys with
      | cons _ _ => cases h2
      | nil =>
        cases h with
        | cons h n t => exact ⟨_, rfl, h, n, .nil⟩
  | cons w ws ih =>
    intro xs ys h h1 h2
    cases xs with
    | nil => cases h1
    | cons u us =>
      cases ys with
      | nil => cases h2
      | cons z zs =>
        cases h with
        | cons h n t =>
          obtain ⟨p, e, hp, n', t'⟩ := ih t (by simpa using h1) (by simpa using h2)
          exact ⟨p, e, hp, n', .cons h n t'⟩
theorem snoc {l : List V} (h : l.length ≠ 0) : ∃ r v, l = r ++ [v] := by
  rcases List.eq_nil_or_concat l with e | ⟨r, v, e⟩
  · subst e
    exact absurd rfl h
  · exact ⟨r, v, by simpa using e⟩
/-! isinstance -/
theorem ty_lst {a : Addr} {xs : List V} (h : SqL K H a xs) : TyX K H (.ref a) (.type "list") := by
  rcases h with (h | ⟨o, h⟩) | ⟨o, _, _, h, c, _⟩
  · exact .base (.lst h)
  · exact .base (.frz h)
  · exact .kList h c
theorem ty_tup {a : Addr} {xs : List V} (h : SqT K H a xs) : TyX K H (.ref a) (.type "tuple") := by
  rcases h with (h | ⟨o, h⟩) | ⟨o, _, _, h, c, _⟩
  · exact .base (.tup h)
  · exact .fTuple h
  · exact .kTuple h c
theorem kit2 {t : String} {b : Bool} (h1 : kitB t "list" = some b) (h2 : b = true ∨ kitB t "tuple" = some false) : PySem.W.kitAny K (.type t) [.type "list", .type "tuple"] = some b := by
  refine kitAny_cons (kit_ty h1) (fun e => ?_) (fun e => e)
  subst e
  rcases h2 with h | h
  · cases h
  · exact kitAny_cons (kit_ty h) (fun _ => rfl) (fun e => e)
theorem kit2t {t : String} (h1 : kitB t "list" = some false) (h2 : kitB t "tuple" = some true) : PySem.W.kitAny K (.type t) [.type "list", .type "tuple"] = some true :=
  kitAny_cons (kit_ty h1) (fun _ => kitAny_cons (kit_ty h2) (fun e => nomatch e) (fun e => e)) (fun e => nomatch e)
theorem r_isi2 {x : V} {tp : Addr} {t : Value} {b : Bool} {Q : VK} (hT : H tp = some (.tup [.ty "list", .ty "tuple"])) (ty : TyX K H x t) (e : PySem.W.kitAny K t [.type "list", .type "tuple"] = some b) (q : Q (.bl b) H) : rIsiT K [x, .ref tp] H Q :=
  ⟨x, tp, _, t, _, b, rfl, hT, .cons (.ty _) (.cons (.ty _) .nil), ty, e, q⟩
theorem r_isi {x : V} {t c : String} {b : Bool} {Q : VK} (ty : TyX K H x (.type t)) (e : kitB t c = some b) (q : Q (.bl b) H) : rIsi K [x, .ty c] H Q :=
  ⟨x, _, _, _, b, rfl, .ty _, ty, kit_ty e, q⟩
theorem two_lst {x : V} {tp a : Addr} {xs : List V} {Q : VK} (hT : H tp = some (.tup [.ty "list", .ty "tuple"])) (h : SqL K H a xs) (q : Q (.bl true) H) : rIsiT K [.ref a, .ref tp] H Q := r_isi2 hT (ty_lst h) (kit2 (by decide +kernel) (.inl rfl)) q
theorem two_tup {x : V} {tp a : Addr} {xs : List V} {Q : VK} (hT : H tp = some (.tup [.ty "list", .ty "tuple"])) (h : SqT K H a xs) (q : Q (.bl true) H) : rIsiT K [.ref a, .ref tp] H Q := r_isi2 hT (ty_tup h) (kit2t (by decide +kernel) (by decide +kernel)) q
theorem two_non {tp : Addr} {Q : VK} (hT : H tp = some (.tup [.ty "list", .ty "tuple"])) (q : Q (.bl false) H) : rIsiT K [.non, .ref tp] H Q := r_isi2 hT (.base .non) (kit2 (by decide +kernel) (.inr (by decide +kernel))) q
theorem two_bl {tp : Addr} {b : Bool} {Q : VK} (hT : H tp = some (.tup [.ty "list", .ty "tuple"])) (q : Q (.bl false) H) : rIsiT K [.bl b, .ref tp] H Q := r_isi2 hT (.base (.bl b)) (kit2 (by decide +kernel) (.inr (by decide +kernel))) q
theorem two_int {tp : Addr} {b : Int} {Q : VK} (hT : H tp = some (.tup [.ty "list", .ty "tuple"])) (q : Q (.bl false) H) : rIsiT K [.int b, .ref tp] H Q := r_isi2 hT (.base (.int b)) (kit2 (by decide +kernel) (.inr (by decide +kernel))) q
theorem two_str {tp : Addr} {b : Str} {Q : VK} (hT : H tp = some (.tup [.ty "list", .ty "tuple"])) (q : Q (.bl false) H) : rIsiT K [.str b, .ref tp] H Q := r_isi2 hT (.base (.str b)) (kit2 (by decide +kernel) (.inr (by decide +kernel))) q
end
def spAlike (K : PySem.W.Frag) : Sp := fun vs H Q _ => ∃ (x y : V) (n : Nat), vs = [x, y] ∧ Al K H x y n ∧ n < 6000 ∧ ∀ H', Same H H' → Q (.bl true) H'
theorem use_alike {K : PySem.W.Frag} {x y : V} {n : Nat} {H : Hp} {Q : VK} {E : XK} (h : Al K H x y n) (hn : n < 6000) (k : ∀ H', Same H H' → Q (.bl true) H') : spAlike K [x, y] H Q E := ⟨x, y, n, rfl, h, hn, k⟩
section
variable {P : Program} {w : World} {K : PySem.W.Frag} {mg : Str → Option Value} {base : Heap}
local macro_rules | `(tactic| walk_at "isi") => `(tactic| first
  | ((with_reducible show rIsiT _ [V.non, _] _ _); refine two_non (by walk_at "hp") ?_)
  | ((with_reducible show rIsiT _ [V.bl _, _] _ _); refine two_bl (by walk_at "hp") ?_)
  | ((with_reducible show rIsiT _ [V.int _, _] _ _); refine two_int (by walk_at "hp") ?_)
  | ((with_reducible show rIsiT _ [V.str _, _] _ _); refine two_str (by walk_at "hp") ?_)
  | ((with_reducible show rIsiT _ [V.ref _, _] _ _); first | refine two_lst (x := .non) (by walk_at "hp") (by walk_at "sa") ?_ | refine two_tup (x := .non) (by walk_at "hp") (by walk_at "sa") ?_)
  | ((with_reducible show rIsi _ [V.non, _] _ _); first | refine r_isi (b := true) (.base .non) (by decide +kernel) ?_ | refine r_isi (b := false) (.base .non) (by decide +kernel) ?_)
  | ((with_reducible show rIsi _ [V.bl _, _] _ _); first | refine r_isi (b := true) (.base (.bl _)) (by decide +kernel) ?_ | refine r_isi (b := false) (.base (.bl _)) (by decide +kernel) ?_)
  | ((with_reducible show rIsi _ [V.int _, _] _ _); first | refine r_isi (b := true) (.base (.int _)) (by decide +kernel) ?_ | refine r_isi (b := false) (.base (.int _)) (by decide +kernel) ?_)
  | ((with_reducible show rIsi _ [V.str _, _] _ _); first | refine r_isi (b := true) (.base (.str _)) (by decide +kernel) ?_ | refine r_isi (b := false) (.base (.str _)) (by decide +kernel) ?_)
  | ((with_reducible show rIsi _ [V.ref _, _] _ _); first | first | refine r_isi (b := true) (ty_lst (by walk_at "sa")) (by decide +kernel) ?_ | refine r_isi (b := false) (ty_lst (by walk_at "sa")) (by decide +kernel) ?_ | first | refine r_isi (b := true) (ty_tup (by walk_at "sa")) (by decide +kernel) ?_ | refine r_isi (b := false) (ty_tup (by walk_at "sa")) (by decide +kernel) ?_))
local macro_rules | `(tactic| walk_at "go") => `(tactic| repeat (first | walk_at "rd1" | walk_at "tf" | walk_at "isi" | ((with_reducible show ∀ _ : Addr, _ = none → _); intro _ _)))
theorem ok_alike (T : Txt K mg) : FnOk P w K mg base CX0 1 T.a_alike T.d_alike ["_law_told", "_law_due"] (spAlike K) := by
  refine T.F_alike.ok sc__law_alike (fun vs H Q E h => ?_) (fun cdv A outer s H vs Q E hr h => ⟨_, (pss_cons (ps_set (i := 2) sc__law_alike.nd rfl (.inl rfl) (pe_lst (pa_cons (pe_lst (pa_cons (pv 0) (pa_cons (pv 1) pa_nil))) pa_nil)))
      (pss_cons (ps_for PassesOwn.never rfl (pi_range1 (by rfl) T.z_range (pa_cons pe_int pa_nil)) (pg_name (i := 3) sc__law_alike.nd rfl (.inl rfl))
      (pss_cons (ps_if (pt_cmpR op_eq (pe_callB call_len_seq (by rfl) T.z_len PySem.boot_len (pa_cons (pv 2) pa_nil)) pe_int (nomark _))
      (pss_one (ps_ret pe_bl))
      pss_nil)
      (pss_cons (ps_set (i := 4) sc__law_alike.nd rfl (.inl rfl) (pe_bm0 PySem.F.plainAttrs_list PySem.F.slot_list_pop PySem.F.type_list_pop mt_pop (pv 2)))
      (pss_cons (ps_set (i := 5) sc__law_alike.nd rfl (.inl rfl) (pe_ix ix_list (pv 4) pe_int (fun _ _ => rfl)))
      (pss_cons (ps_set (i := 6) sc__law_alike.nd rfl (.inl rfl) (pe_ix ix_list (pv 4) pe_int (fun _ _ => rfl)))
      (pss_one (ps_if (pt_val (pe_callB call_isiT (by rfl) T.z_isinstance (by decide +kernel) (pa_cons (pv 6) (pa_cons (pe_tup (pa_cons (pe_bltn (v := .ty "list") (by rfl) T.z_list (by decide +kernel) rfl) (pa_cons (pe_bltn (v := .ty "tuple") (by rfl) T.z_tuple (by decide +kernel) rfl) pa_nil))) pa_nil))))
      (pss_cons (ps_if (PW.pt (pw_or (pt_not (pt_val (pe_callB call_isiT (by rfl) T.z_isinstance (by decide +kernel) (pa_cons (pv 5) (pa_cons (pe_tup (pa_cons (pe_bltn (v := .ty "list") (by rfl) T.z_list (by decide +kernel) rfl) (pa_cons (pe_bltn (v := .ty "tuple") (by rfl) T.z_tuple (by decide +kernel) rfl) pa_nil))) pa_nil))))) (pw_or1 (pt_cmpR op_ne (pe_callB call_isi (by rfl) T.z_isinstance (by decide +kernel) (pa_cons (pv 5) (pa_cons (pe_bltn (v := .ty "list") (by rfl) T.z_list (by decide +kernel) rfl) pa_nil))) (pe_callB call_isi (by rfl) T.z_isinstance (by decide +kernel) (pa_cons (pv 6) (pa_cons (pe_bltn (v := .ty "list") (by rfl) T.z_list (by decide +kernel) rfl) pa_nil))) (nomark _)))))
      (pss_one (ps_ret pe_bl))
      pss_nil)
      (pss_cons (ps_if (pt_cmpR op_ne (pe_callB call_len_seq (by rfl) T.z_len PySem.boot_len (pa_cons (pv 5) pa_nil)) (pe_callB call_len_seq (by rfl) T.z_len PySem.boot_len (pa_cons (pv 6) pa_nil)) (nomark _))
      (pss_one (ps_ret pe_bl))
      pss_nil)
      (pss_one (ps_for PassesOwn.never rfl (pi_range1 (by rfl) T.z_range (pa_cons (pe_callB call_len_seq (by rfl) T.z_len PySem.boot_len (pa_cons (pv 6) pa_nil)) pa_nil)) (pg_name (i := 7) sc__law_alike.nd rfl (.inl rfl))
      (pss_one (ps_expr (pe_bm PySem.F.plainAttrs_list PySem.F.slot_list_append PySem.F.type_list_append mt_append (pv 2) (pa_cons (pe_lst (pa_cons (pe_ix ix_seq (pv 5) (pv 7) (fun _ _ => rfl)) (pa_cons (pe_ix ix_seq (pv 6) (pv 7) (fun _ _ => rfl)) pa_nil))) pa_nil))))))))
      (pss_one (ps_if (pt_cmpR op_isN (pv 6) pe_non (nomark _))
      (pss_one (ps_if (pt_cmpR op_notN (pv 5) pe_non (nomark _))
      (pss_one (ps_ret pe_bl))
      pss_nil))
      (pss_one (ps_if (pt_val (pe_callB call_isi (by rfl) T.z_isinstance (by decide +kernel) (pa_cons (pv 6) (pa_cons (pe_bltn (v := .ty "bool") (by rfl) T.z_bool (by decide +kernel) rfl) pa_nil))))
      (pss_one (ps_if (PW.pt (pw_or (pt_not (pt_val (pe_callB call_isi (by rfl) T.z_isinstance (by decide +kernel) (pa_cons (pv 5) (pa_cons (pe_bltn (v := .ty "bool") (by rfl) T.z_bool (by decide +kernel) rfl) pa_nil))))) (pw_or1 (pt_cmpR op_ne (pv 5) (pv 6) (nomark _)))))
      (pss_one (ps_ret pe_bl))
      pss_nil))
      (pss_one (ps_if (pt_val (pe_callB call_isi (by rfl) T.z_isinstance (by decide +kernel) (pa_cons (pv 6) (pa_cons (pe_bltn (v := .ty "int") (by rfl) T.z_int (by decide +kernel) rfl) pa_nil))))
      (pss_one (ps_if (PW.pt (pw_or (pt_not (pt_val (pe_callB call_isi (by rfl) T.z_isinstance (by decide +kernel) (pa_cons (pv 5) (pa_cons (pe_bltn (v := .ty "int") (by rfl) T.z_int (by decide +kernel) rfl) pa_nil))))) (pw_or (pt_val (pe_callB call_isi (by rfl) T.z_isinstance (by decide +kernel) (pa_cons (pv 5) (pa_cons (pe_bltn (v := .ty "bool") (by rfl) T.z_bool (by decide +kernel) rfl) pa_nil)))) (pw_or1 (pt_cmpR op_ne (pv 5) (pv 6) (nomark _))))))
      (pss_one (ps_ret pe_bl))
      pss_nil))
      (pss_one (ps_if (PW.pt (pw_or (pt_not (pt_val (pe_callB call_isi (by rfl) T.z_isinstance (by decide +kernel) (pa_cons (pv 5) (pa_cons (pe_bltn (v := .ty "str") (by rfl) T.z_str (by decide +kernel) rfl) pa_nil))))) (pw_or1 (pt_cmpR op_ne (pv 5) (pv 6) (nomark _)))))
      (pss_one (ps_ret pe_bl))
      pss_nil)))))))))))))))
      (pss_one (ps_ret pe_bl)))), ?_⟩)
  · first | (obtain ⟨rfl, _⟩ := h; rfl) | (obtain ⟨_, rfl, _⟩ := h; rfl) | (obtain ⟨_, _, rfl, _⟩ := h; rfl) | (obtain ⟨_, _, _, rfl, _⟩ := h; rfl) | (obtain ⟨_, _, _, _, rfl, _⟩ := h; rfl) | (obtain ⟨_, _, _, _, _, rfl, _⟩ := h; rfl) | (obtain ⟨_, _, _, _, _, _, rfl, _⟩ := h; rfl) | (obtain ⟨_, _, _, _, _, _, _, rfl, _⟩ := h; rfl) | (obtain ⟨_, _, _, _, _, _, _, _, rfl, _⟩ := h; rfl) | (obtain ⟨_, _, _, _, _, _, _, _, _, rfl, _⟩ := h; rfl) | (obtain ⟨_, _, _, _, _, _, _, _, _, _, rfl, _⟩ := h; rfl) | (obtain ⟨_, _, _, _, _, _, _, _, _, _, _, rfl, _⟩ := h; rfl) | (obtain ⟨_, _, _, _, _, _, _, _, _, _, _, _, rfl, _⟩ := h; rfl) | (obtain ⟨_, _, _, _, _, _, _, _, _, _, _, _, _, rfl, _⟩ := h; rfl) | (obtain ⟨_, _, _, _, _, _, _, _, _, _, _, _, _, _, rfl, _⟩ := h; rfl)
  · obtain ⟨x, y, N, rfl, hA, hN, k⟩ := h
    try dsimp only [cxOf, Cx.nox, Cx.wish]
    refine st_of (σ := [some _, some _, none, none, none, none, none, none]) rfl ?_
    walk_at "rd"
    intro p hp
    walk_at "rd"
    intro l hl
    have npl : p ≠ l := ne_of_none upd_same hl
    have hl0 : H l = none := by
      rw [upd_ne npl.symm] at hl
      exact hl
    walk_at "rd"
    refine c_rng1 ?_
    walk_at "rd"
    refine ⟨by decide, by decide, for_range (lo := 0) (n := 6000) (fun i σ' H' => ∃ vs xs ys n a b c d e, σ' = [some x, some y, some (.ref l), a, b, c, d, e] ∧ H' l = some (.lst vs) ∧ Prs l H' vs xs ys ∧ Als K H xs ys n ∧ n + i ≤ 5999 ∧ Same H H') ?_ ?_ ?_⟩
    · refine ⟨_, [x], [y], N, none, none, none, none, none, rfl, upd_same, .cons ((upd_ne npl).trans upd_same) npl .nil, ?_, by omega, by walk_at "sm"⟩
      exact .cons hA .nil
    · rintro i σ' H' hi ⟨vs, xs, ys, n, a, b, c, d, e, rfl, el, pr, al, hn, sm⟩
      obtain ⟨hv1, hv2⟩ := pr.len
      walk_at "rd"
      refine i_d (fun hz => ?_) (fun hz => ?_)
      · walk_at "rd"
        exact k H' sm
      · have hz' : vs.length ≠ 0 := by omega
        obtain ⟨vs, v, rfl⟩ := snoc hz'
        obtain ⟨xs, x1, rfl⟩ := snoc (l := xs) (by omega)
        obtain ⟨ys, y1, rfl⟩ := snoc (l := ys) (by omega)
        rw [List.length_append, List.length_append] at hv1
        rw [List.length_append, List.length_append] at hv2
        obtain ⟨p1, rfl, hp1, n1, pr⟩ := pr.last (by simpa using hv1) (by simpa using hv2)
        obtain ⟨m, q, rfl, als, al⟩ := al.last (by simpa using hv2)
        have pr' : Prs l (upd H' l (.lst vs)) vs xs ys := pr.keep fun p o n h => (upd_ne n).trans h
        have sm' : Same H (upd H' l (.lst vs)) := same_mut sm hl0
        have hp1' : (upd H' l (.lst vs)) p1 = some (.lst [x1, y1]) := (upd_ne n1).trans hp1
        have el' : (upd H' l (.lst vs)) l = some (.lst vs) := upd_same
        walk_at "rd"
        intro tp htp
        walk_at "rd"
        have hq := al.pos
        have hvs : vs.length ≤ 5999 := by
          have := als.le
          simp at hv1 hv2
          omega
        have fin : ∀ H2 n2 (q : Same (upd H' l (.lst vs)) H2), H2 l = some (.lst vs) → ∃ n3, n3 + (i + 1) ≤ 5999 ∧ Prs l H2 vs xs ys ∧ Als K H xs ys n3 ∧ Same H H2 := fun H2 n2 q z => ⟨m, by omega, pr'.keep fun p o _ h => q p o h, als, Same.trans sm' q⟩
        have fin : ∀ H2 (q : Same (upd H' l (.lst vs)) H2), ∃ n3, n3 + (i + 1) ≤ 5999 ∧ Prs l H2 vs xs ys ∧ Als K H xs ys n3 ∧ Same H H2 := fun H2 q => ⟨m, by omega, pr'.keep fun p o _ h => q p o h, als, Same.trans sm' q⟩
        cases al
        · walk_at "go"
          obtain ⟨n3, a1, a2, a3, a4⟩ := fin _ (same_new (Same.refl _) htp)
          exact ⟨vs, xs, ys, n3, _, _, _, _, _, rfl, by walk_at "hp", a2, a3, a1, a4⟩
        · walk_at "go"
          obtain ⟨n3, a1, a2, a3, a4⟩ := fin _ (same_new (Same.refl _) htp)
          exact ⟨vs, xs, ys, n3, _, _, _, _, _, rfl, by walk_at "hp", a2, a3, a1, a4⟩
        · walk_at "go"
          obtain ⟨n3, a1, a2, a3, a4⟩ := fin _ (same_new (Same.refl _) htp)
          exact ⟨vs, xs, ys, n3, _, _, _, _, _, rfl, by walk_at "hp", a2, a3, a1, a4⟩
        · walk_at "go"
          obtain ⟨n3, a1, a2, a3, a4⟩ := fin _ (same_new (Same.refl _) htp)
          exact ⟨vs, xs, ys, n3, _, _, _, _, _, rfl, by walk_at "hp", a2, a3, a1, a4⟩
        case lst a1 b1 xs1 ys1 n1 h1 h2 hs =>
          have hlen : xs1.length = ys1.length := hs.len
          walk_at "isi"
          walk_at "rd"
          intro tq htq
          walk_at "rd"
          walk_at "isi"
          walk_at "rd"
          walk_at "tf"
          walk_at "rd"
          walk_at "isi"
          walk_at "rd"
          walk_at "isi"
          walk_at "rd"
          walk_at "tf"
          walk_at "rd"
          refine i_n (fun hne => absurd (by omega) hne) (fun _ => ?_)
          walk_at "rd"
          with_reducible refine c_rng1 ?_
          walk_at "rd"
          have smq : Same H (upd (upd (upd H' l (.lst vs)) tp (.tup [.ty "list", .ty "tuple"])) tq (.tup [.ty "list", .ty "tuple"])) := by walk_at "sm"
          have prq : Prs l (upd (upd (upd H' l (.lst vs)) tp (.tup [.ty "list", .ty "tuple"])) tq (.tup [.ty "list", .ty "tuple"])) vs xs ys := pr'.keep fun p o _ h => (same_new (same_new (Same.refl _) htp) htq) p o h
          have elq : (upd (upd (upd H' l (.lst vs)) tp (.tup [.ty "list", .ty "tuple"])) tq (.tup [.ty "list", .ty "tuple"])) l = some (.lst vs) := by walk_at "hp"
          generalize (upd (upd (upd H' l (.lst vs)) tp (.tup [.ty "list", .ty "tuple"])) tq (.tup [.ty "list", .ty "tuple"])) = G at smq prq elq
          have hbnd : ys1.length ≤ 5999 := by
            have := hs.le
            omega
          refine ⟨by omega, by omega, for_range (lo := 0) (n := ys1.length) (fun j σ3 H3 => ∃ us e1, σ3 = [some x, some y, some (.ref l), some (.int (0 + (i : Int))), some (.ref p1), some (.ref a1), some (.ref b1), e1] ∧ H3 l = some (.lst us) ∧ us.length ≤ 5999 + j ∧ Prs l H3 us (xs ++ xs1.take j) (ys ++ ys1.take j) ∧ Same H H3) ?_ ?_ ?_⟩
          · refine ⟨vs, _, rfl, elq, by omega, ?_, smq⟩
            rw [List.take_zero, List.take_zero, List.append_nil, List.append_nil]
            exact prq
          · rintro j σ3 H3 hj ⟨us, e1, rfl, el3, hus, pr3, sm3⟩
            have hx : xs1[j]? = some (xs1[j]'(by omega)) := List.getElem?_eq_getElem _
            have hy : ys1[j]? = some (ys1[j]'(by omega)) := List.getElem?_eq_getElem _
            rw [Int.zero_add]
            walk_at "rd"
            refine .inl (r_ixL (by walk_at "sa") (atI_nat hx) ?_)
            walk_at "rd"
            refine .inl (r_ixL (by walk_at "sa") (atI_nat hy) ?_)
            walk_at "rd"
            intro q hq
            have hql : q ≠ l := (ne_of_none el3 hq).symm
            walk_at "rd"
            refine ⟨us ++ [.ref q], _, rfl, upd_same, by simp; omega, ?_, same_mut (same_new sm3 hq) hl0⟩
            rw [List.take_add_one, List.take_add_one, hx, hy]
            have pr4 : Prs l (upd (upd H3 q (.lst [xs1[j]'(by omega), ys1[j]'(by omega)])) l (.lst (us ++ [.ref q]))) us (xs ++ xs1.take j) (ys ++ ys1.take j) := pr3.keep fun p o n h => (upd_ne n).trans ((upd_ne (ne_of_none h hq)).trans h)
            have := pr4.app (p := q) ((upd_ne hql).trans upd_same) hql
            simpa [List.append_assoc] using this
          · rintro σ3 H3 ⟨us, e1, rfl, el3, hus, pr3, sm3⟩
            rw [List.take_of_length_le (by omega), List.take_of_length_le (by omega)] at pr3
            exact ⟨us, xs ++ xs1, ys ++ ys1, m + n1, _, _, _, _, _, rfl, el3, pr3, als.app hs, by omega, sm3⟩
        case tup a1 b1 xs1 ys1 n1 h1 h2 hs =>
          have hlen : xs1.length = ys1.length := hs.len
          walk_at "isi"
          walk_at "rd"
          intro tq htq
          walk_at "rd"
          walk_at "isi"
          walk_at "rd"
          walk_at "tf"
          walk_at "rd"
          walk_at "isi"
          walk_at "rd"
          walk_at "isi"
          walk_at "rd"
          walk_at "tf"
          walk_at "rd"
          refine i_n (fun hne => absurd (by omega) hne) (fun _ => ?_)
          walk_at "rd"
          with_reducible refine c_rng1 ?_
          walk_at "rd"
          have smq : Same H (upd (upd (upd H' l (.lst vs)) tp (.tup [.ty "list", .ty "tuple"])) tq (.tup [.ty "list", .ty "tuple"])) := by walk_at "sm"
          have prq : Prs l (upd (upd (upd H' l (.lst vs)) tp (.tup [.ty "list", .ty "tuple"])) tq (.tup [.ty "list", .ty "tuple"])) vs xs ys := pr'.keep fun p o _ h => (same_new (same_new (Same.refl _) htp) htq) p o h
          have elq : (upd (upd (upd H' l (.lst vs)) tp (.tup [.ty "list", .ty "tuple"])) tq (.tup [.ty "list", .ty "tuple"])) l = some (.lst vs) := by walk_at "hp"
          generalize (upd (upd (upd H' l (.lst vs)) tp (.tup [.ty "list", .ty "tuple"])) tq (.tup [.ty "list", .ty "tuple"])) = G at smq prq elq
          have hbnd : ys1.length ≤ 5999 := by
            have := hs.le
            omega
          refine ⟨by omega, by omega, for_range (lo := 0) (n := ys1.length) (fun j σ3 H3 => ∃ us e1, σ3 = [some x, some y, some (.ref l), some (.int (0 + (i : Int))), some (.ref p1), some (.ref a1), some (.ref b1), e1] ∧ H3 l = some (.lst us) ∧ us.length ≤ 5999 + j ∧ Prs l H3 us (xs ++ xs1.take j) (ys ++ ys1.take j) ∧ Same H H3) ?_ ?_ ?_⟩
          · refine ⟨vs, _, rfl, elq, by omega, ?_, smq⟩
            rw [List.take_zero, List.take_zero, List.append_nil, List.append_nil]
            exact prq
          · rintro j σ3 H3 hj ⟨us, e1, rfl, el3, hus, pr3, sm3⟩
            have hx : xs1[j]? = some (xs1[j]'(by omega)) := List.getElem?_eq_getElem _
            have hy : ys1[j]? = some (ys1[j]'(by omega)) := List.getElem?_eq_getElem _
            rw [Int.zero_add]
            walk_at "rd"
            refine .inr (.inl (r_ixT (by walk_at "sa") (atI_nat hx) ?_))
            walk_at "rd"
            refine .inr (.inl (r_ixT (by walk_at "sa") (atI_nat hy) ?_))
            walk_at "rd"
            intro q hq
            have hql : q ≠ l := (ne_of_none el3 hq).symm
            walk_at "rd"
            refine ⟨us ++ [.ref q], _, rfl, upd_same, by simp; omega, ?_, same_mut (same_new sm3 hq) hl0⟩
            rw [List.take_add_one, List.take_add_one, hx, hy]
            have pr4 : Prs l (upd (upd H3 q (.lst [xs1[j]'(by omega), ys1[j]'(by omega)])) l (.lst (us ++ [.ref q]))) us (xs ++ xs1.take j) (ys ++ ys1.take j) := pr3.keep fun p o n h => (upd_ne n).trans ((upd_ne (ne_of_none h hq)).trans h)
            have := pr4.app (p := q) ((upd_ne hql).trans upd_same) hql
            simpa [List.append_assoc] using this
          · rintro σ3 H3 ⟨us, e1, rfl, el3, hus, pr3, sm3⟩
            rw [List.take_of_length_le (by omega), List.take_of_length_le (by omega)] at pr3
            exact ⟨us, xs ++ xs1, ys ++ ys1, m + n1, _, _, _, _, _, rfl, el3, pr3, als.app hs, by omega, sm3⟩
    · rintro σ' H' ⟨vs, xs, ys, n, a, b, c, d, e, rfl, el, pr, al, hn, sm⟩
      omega
end

end Tac1
section Tac2
/-! ### the words: "rd" goes on as far as it can; "hp" finds what stands at an address; "t" "f" a test that is known -/
local macro_rules | `(tactic| walk_at "h0") => `(tactic| first | (with_reducible assumption) | with_reducible exact upd_same)
local macro_rules | `(tactic| walk_at "n0") => `(tactic| first
  | (with_reducible assumption) | (apply Ne.symm; with_reducible assumption) | exact ne_nn (by with_reducible assumption) (by walk_at "h0") | exact ne_nn' (by with_reducible assumption) (by walk_at "h0"))
local macro_rules | `(tactic| walk_at "hq") => `(tactic| first
  | (with_reducible assumption) | with_reducible exact upd_same | exact (upd_ne (by walk_at "n0")).trans (by walk_at "hq"))
local macro_rules | `(tactic| walk_at "ne") => `(tactic| first
  | (with_reducible assumption) | (apply Ne.symm; with_reducible assumption) | exact ne_nn (by with_reducible assumption) (by walk_at "hq") | exact ne_nn' (by with_reducible assumption) (by walk_at "hq"))
local macro_rules | `(tactic| walk_at "sm") => `(tactic| first
  | (with_reducible assumption)
  | with_reducible exact Same.refl _
  | exact same_new (by walk_at "sm") (by with_reducible assumption)
  | exact same_mut (by walk_at "sm") (by with_reducible assumption))
local macro_rules | `(tactic| walk_at "hp") => `(tactic| first
  | (with_reducible assumption)
  | with_reducible exact upd_same
  | exact new_at (by with_reducible assumption) (by walk_at "sm")
  | exact old_at (by with_reducible assumption) (by walk_at "sm")
  | exact (upd_ne (by walk_at "ne")).trans (by walk_at "hp")
  | exact same_at (by with_reducible assumption) (by walk_at "hp")
  | exact ex_at (by with_reducible assumption) (by walk_at "ne") (by walk_at "hp"))
local macro_rules | `(tactic| walk_at "ex") => `(tactic| first
  | (with_reducible assumption)
  | exact Ex.refl _ _
  | exact Ex.new (by walk_at "ex") (by with_reducible assumption)
  | exact Ex.mut (by walk_at "ex") (by with_reducible assumption)
  | exact Ex.at (by walk_at "ex"))
local macro_rules | `(tactic| walk_at "sa") => `(tactic| first
  | (with_reducible assumption)
  | exact seq' (by with_reducible assumption) (by walk_at "sm")
  | exact tup' (by with_reducible assumption) (by walk_at "sm"))
local macro_rules | `(tactic| walk_at "sq") => `(tactic| first
  | (with_reducible assumption)
  | exact seq' (by with_reducible assumption) (by walk_at "sm")
  | exact tup' (by with_reducible assumption) (by walk_at "sm")
  | exact sql (by walk_at "hp")
  | exact sqt (by walk_at "hp"))
local macro_rules | `(tactic| walk_at "tt") => `(tactic| first | (simp; done) | (simp; omega))
local macro_rules | `(tactic| walk_at "tf") => `(tactic| first
  | ((with_reducible show if _ = true then _ else _); refine i_T (by walk_at "tt") ?_)
  | ((with_reducible show if _ = true then _ else _); refine i_F (by walk_at "tt") ?_))
local macro_rules | `(tactic| walk_at "ix") => `(tactic| first
  | exact ixn (j := 0) (by simp)
  | exact ixn (j := 1) (by simp)
  | exact ixn (j := 2) (by simp)
  | exact ixn (j := 3) (by simp)
  | exact ixn (j := 4) (by simp)
  | exact ixn (j := 5) (by simp)
  | exact ixn (j := 6) (by simp)
  | exact ixn (j := 7) (by simp))
local macro_rules | `(tactic| walk_at "at") => `(tactic| first
  | exact atI_nat (j := 0) (by rfl)
  | exact atI_nat (j := 1) (by rfl)
  | exact atI_nat (j := 2) (by rfl)
  | exact atI_nat (j := 3) (by rfl)
  | exact atI_nat (j := 4) (by rfl)
  | exact atI_nat (j := 5) (by rfl)
  | exact atI_nat (j := 6) (by rfl)
  | exact atI_nat (j := 7) (by rfl))
local macro_rules | `(tactic| walk_at "rd1") => `(tactic| first
  | with_reducible refine c_seq ?_
  | with_reducible refine c_asg ?_
  | ((with_reducible refine c_gname ?_); try dsimp only [List.set])
  | with_reducible refine c_ret ?_
  | with_reducible refine c_ifs ?_
  | ((with_reducible show tVar _ _ _ _); refine c_var (by rfl) ?_)
  | with_reducible refine c_c ?_
  | with_reducible refine c_op ?_
  | with_reducible refine c_un ?_
  | with_reducible refine c_test ?_
  | with_reducible refine c_B ?_
  | with_reducible refine c_CB ?_
  | with_reducible refine c_cons ?_
  | with_reducible refine c_nil ?_
  | with_reducible refine c_call ?_
  | with_reducible refine c_lst ?_
  | with_reducible refine c_tup ?_
  | with_reducible refine c_drop ?_
  | with_reducible refine c_gsub ?_
  | with_reducible refine c_BM ?_
  | with_reducible refine c_BM0 ?_
  | with_reducible refine c_and ?_
  | with_reducible refine c_or ?_
  | with_reducible refine c_not ?_
  | with_reducible refine c_andV ?_
  | with_reducible refine c_orV ?_
  | with_reducible refine c_notV ?_
  | with_reducible refine c_if ?_
  | with_reducible refine c_chain ?_
  | with_reducible refine c_next ?_
  | with_reducible refine c_retN ?_
  | with_reducible refine c_yes ?_
  | ((with_reducible show rIn _ _ (V.bl _) _ _ _); first | refine r_inL (by walk_at "sq") rfl (flat_bl _) ?_ | refine r_inL (by walk_at "sq") rfl (by rfl) ?_)
  | with_reducible refine r_I0 ?_
  | with_reducible refine r_U ?_
  | with_reducible refine r_eqI ?_
  | with_reducible refine r_neI ?_
  | with_reducible refine r_eqB ?_
  | with_reducible refine r_neB ?_
  | with_reducible refine r_eqS ?_
  | with_reducible refine r_neS ?_
  | ((with_reducible show rIxL _ _ (V.int (OfNat.ofNat _)) _ _); refine r_ixL (by walk_at "sq") (by walk_at "at") ?_)
  | ((with_reducible show rIxT _ _ (V.int (OfNat.ofNat _)) _ _); refine r_ixT (by walk_at "sq") (by walk_at "at") ?_)
  | ((with_reducible show rI CMul _ _ _ _ _); refine r_I (by first | exact .inl ⟨by omega, by omega⟩ | exact .inr ⟨by omega, by omega⟩) ?_)
  | ((with_reducible show rI CDiv _ _ _ _ _); refine r_I ⟨by omega, by omega⟩ ?_)
  | ((with_reducible show rI (fun _ _ => _) _ _ _ _ _); refine r_I (by first | assumption | omega | decide) ?_)
  | with_reducible refine r_pow18 ?_
  | with_reducible refine r_pow17 ?_
  | ((with_reducible show rSetL _ _ _ _ _); refine r_setL (by walk_at "hp") (by walk_at "ix") ?_; try dsimp only [List.set]; try simp only [upd_upd])
  | ((with_reducible show tyV _ _ _ _ ∧ _); refine ⟨.inl ⟨rfl, _, by walk_at "sq"⟩, ?_⟩)
  | ((with_reducible show rPop _ _ _ _); refine r_pop (by walk_at "hp") ?_)
  | ((with_reducible show rAppend _ _ _ _); refine r_app (by walk_at "hp") (by first | assumption | exact smallLt (by omega) | exact smallLt (by simp <;> omega)) ?_)
  | ((with_reducible show _ ≤ sizeLine ∧ _); refine ⟨small (by simp), ?_⟩)
  | ((with_reducible show V.non = V.non ∧ _); refine ⟨rfl, ?_⟩)
  | with_reducible refine iteT ?_
  | with_reducible refine iteF ?_
  | with_reducible refine ⟨_, rfl, ?_⟩
  | with_reducible refine ⟨_, _, rfl, ?_⟩
  | with_reducible refine Or.inl ⟨_, rfl, ?_⟩
  | with_reducible refine Or.inr ⟨_, rfl, ?_⟩
  | ((with_reducible show ∃ _ _, [_] = [_] ∧ _); first
    | refine ⟨_, _, rfl, Or.inl (by walk_at "sa"), ?_⟩ | refine ⟨_, _, rfl, Or.inr (by walk_at "sa"), ?_⟩
    | refine ⟨_, _, rfl, Or.inl (by exact sql (by walk_at "hp")), ?_⟩ | refine ⟨_, _, rfl, Or.inr (by exact sqt (by walk_at "hp")), ?_⟩))
local macro_rules | `(tactic| walk_at "nw") => `(tactic| (intro _ _))
local macro_rules | `(tactic| walk_at "rdn") => `(tactic| repeat (first | walk_at "rd1" | ((with_reducible show ∀ _ : Addr, _ = none → _); intro _ _)))
local macro_rules | `(tactic| walk_at "rd") => `(tactic| repeat walk_at "rd1")

local macro_rules | `(tactic| walk_at "tp") => `(tactic| first
  | (with_reducible assumption)
  | with_reducible exact Tp.refl _
  | exact Tp.same (by walk_at "sm")
  | exact Tp.new (by walk_at "tp") (by with_reducible assumption)
  | exact Tp.lst (by walk_at "tp") (by walk_at "hp"))
local macro_rules | `(tactic| walk_at "rd1") => `(tactic| first
  | with_reducible refine c_sl ?_
  | with_reducible refine c_noPart ?_
  | with_reducible refine c_part ?_
  | ((with_reducible show rSlL _ _ _ _ _ _); refine r_slL (by walk_at "sq") ?_))
local macro_rules | `(tactic| walk_at "no") => `(tactic| ((with_reducible show if decide _ = true then _ else _); refine i_F (decide_eq_false (by decide +kernel)) ?_))
local macro_rules | `(tactic| walk_at "yes") => `(tactic| ((with_reducible show if decide _ = true then _ else _); refine i_T (decide_eq_true (by first | rfl | decide +kernel)) ?_))
local macro_rules | `(tactic| walk_at "wd") => `(tactic| repeat (first | walk_at "rd1" | walk_at "no" | walk_at "yes"))

local macro_rules | `(tactic| walk_at "rd1") => `(tactic| first
  | with_reducible refine c_gcons ?_
  | with_reducible refine c_gnil ?_
  | with_reducible refine r_ipI ?_
  | ((with_reducible show tAug _ _ _ _ _ _); refine c_aug (by rfl) ?_; try dsimp only [List.set])
  | ((with_reducible show gTup _ _ _ _ _ _ _); refine c_gtup (by walk_at "sq") (by rfl) ?_))

local macro_rules | `(tactic| walk_at "rd1") => `(tactic| first
  | with_reducible refine c_vei ?_
  | with_reducible refine c_ost ?_
  | with_reducible refine c_mko ?_
  | with_reducible refine c_xf ?_)
local macro_rules | `(tactic| walk_at "isi") => `(tactic| first
  | ((with_reducible show rIsiT _ [V.non, _] _ _); refine two_non (by walk_at "hp") ?_)
  | ((with_reducible show rIsiT _ [V.bl _, _] _ _); refine two_bl (by walk_at "hp") ?_)
  | ((with_reducible show rIsiT _ [V.int _, _] _ _); refine two_int (by walk_at "hp") ?_)
  | ((with_reducible show rIsiT _ [V.str _, _] _ _); refine two_str (by walk_at "hp") ?_)
  | ((with_reducible show rIsiT _ [V.ref _, _] _ _); first | refine two_lst (x := .non) (by walk_at "hp") (by walk_at "sa") ?_ | refine two_tup (x := .non) (by walk_at "hp") (by walk_at "sa") ?_)
  | ((with_reducible show rIsi _ [V.non, _] _ _); first | refine r_isi (b := true) (.base .non) (by decide +kernel) ?_ | refine r_isi (b := false) (.base .non) (by decide +kernel) ?_)
  | ((with_reducible show rIsi _ [V.bl _, _] _ _); first | refine r_isi (b := true) (.base (.bl _)) (by decide +kernel) ?_ | refine r_isi (b := false) (.base (.bl _)) (by decide +kernel) ?_)
  | ((with_reducible show rIsi _ [V.int _, _] _ _); first | refine r_isi (b := true) (.base (.int _)) (by decide +kernel) ?_ | refine r_isi (b := false) (.base (.int _)) (by decide +kernel) ?_)
  | ((with_reducible show rIsi _ [V.str _, _] _ _); first | refine r_isi (b := true) (.base (.str _)) (by decide +kernel) ?_ | refine r_isi (b := false) (.base (.str _)) (by decide +kernel) ?_)
  | ((with_reducible show rIsi _ [V.ref _, _] _ _); first | first | refine r_isi (b := true) (ty_lst (by walk_at "sa")) (by decide +kernel) ?_ | refine r_isi (b := false) (ty_lst (by walk_at "sa")) (by decide +kernel) ?_ | first | refine r_isi (b := true) (ty_tup (by walk_at "sa")) (by decide +kernel) ?_ | refine r_isi (b := false) (ty_tup (by walk_at "sa")) (by decide +kernel) ?_))
local macro_rules | `(tactic| walk_at "go") => `(tactic| repeat (first | walk_at "rd1" | walk_at "tf" | walk_at "isi"))

local macro_rules | `(tactic| walk_at "rd1") => `(tactic| first
  | with_reducible refine c_callS ?_
  | with_reducible refine c_cval ?_
  | with_reducible refine c_sslot ?_
  | with_reducible refine c_slot ?_)
local macro_rules | `(tactic| walk_at "rd1") => `(tactic| first
  | with_reducible refine c_methS ?_
  | with_reducible refine c_propSl ?_
  | with_reducible refine r_inOwn ?_)

section
variable {P : Program} {w : World} {K : PySem.W.Frag} {mg : Str → Option Value} {base : Heap}
theorem ok_is_between (T : Txt K mg) : FnOk P w K mg base CX0 1 T.a_is_between T.d_is_between ["value", "low", "high"] (spBetween K) := by
  refine T.F_is_between.ok sc_is_between (fun vs H Q E h => ?_) (fun cdv A outer s H vs Q E hr h => ⟨_, (pss_cons (ps_if (PW.pt (pw_or (pt_val (pe_callB call_isi (by rfl) T.z_isinstance (by decide +kernel) (pa_cons (pv 0) (pa_cons (pe_bltn (v := .ty "bool") (by rfl) T.z_bool (by decide +kernel) rfl) pa_nil)))) (pw_or1 (pt_not (pt_val (pe_callB call_isi (by rfl) T.z_isinstance (by decide +kernel) (pa_cons (pv 0) (pa_cons (pe_bltn (v := .ty "int") (by rfl) T.z_int (by decide +kernel) rfl) pa_nil))))))))
      (pss_one (ps_ret pe_bl))
      pss_nil)
      (pss_one (ps_ret (pe_chain op_le op_le (pv 1) (pv 0) (pv 2))))), ?_⟩)
  · first | (obtain ⟨rfl, _⟩ := h; rfl) | (obtain ⟨_, rfl, _⟩ := h; rfl) | (obtain ⟨_, _, rfl, _⟩ := h; rfl) | (obtain ⟨_, _, _, rfl, _⟩ := h; rfl) | (obtain ⟨_, _, _, _, rfl, _⟩ := h; rfl) | (obtain ⟨_, _, _, _, _, rfl, _⟩ := h; rfl) | (obtain ⟨_, _, _, _, _, _, rfl, _⟩ := h; rfl) | (obtain ⟨_, _, _, _, _, _, _, rfl, _⟩ := h; rfl) | (obtain ⟨_, _, _, _, _, _, _, _, rfl, _⟩ := h; rfl) | (obtain ⟨_, _, _, _, _, _, _, _, _, rfl, _⟩ := h; rfl) | (obtain ⟨_, _, _, _, _, _, _, _, _, _, rfl, _⟩ := h; rfl) | (obtain ⟨_, _, _, _, _, _, _, _, _, _, _, rfl, _⟩ := h; rfl) | (obtain ⟨_, _, _, _, _, _, _, _, _, _, _, _, rfl, _⟩ := h; rfl) | (obtain ⟨_, _, _, _, _, _, _, _, _, _, _, _, _, rfl, _⟩ := h; rfl) | (obtain ⟨_, _, _, _, _, _, _, _, _, _, _, _, _, _, rfl, _⟩ := h; rfl)
  · obtain ⟨v, lo, hi, rfl, hv, k⟩ := h
    try dsimp only [cxOf, Cx.nox, Cx.wish]
    refine st_of (σ := [some _, some _, some _]) rfl ?_
    cases hv with
    | non =>
      walk_at "go"
      exact k
    | bl b =>
      walk_at "go"
      exact k
    | int i =>
      walk_at "go"
      refine i_d (fun h0 => ?_) (fun h0 => ?_)
      · walk_at "rd"
        rw [show decide (i ≤ hi) = btw (.int i) lo hi by simp [btw, h0]]
        exact k
      · rw [show false = btw (.int i) lo hi by simp [btw, h0]]
        exact k
    | str x =>
      walk_at "go"
      exact k
    | lst h =>
      walk_at "go"
      exact k
    | tup h =>
      walk_at "go"
      exact k
end

/-- an extent of a shape -/
def spExt (K : PySem.W.Frag) (C : Addr) : Sp := fun vs H Q E => ∃ (v : V) (m : Int), vs = [v, .int m] ∧ Knd K H v ∧ (btw v 1 m = true → ∀ H', Same H H' → Q .non H') ∧ (btw v 1 m = false → ∀ H', Same H H' → E (.ref C) none H')
def okShape (p s c l : V) : Bool := btw p 1 16 && (btw s 1 8 && (btw c 1 16 && btw l 1 3))
/-- a shape is made -/
def spShape (K : PySem.W.Frag) (C B : Addr) : Sp := fun vs H Q E => ∃ (x dx : Addr) (p s c l : V), vs = [.ref x, p, s, c, l] ∧ H x = some (.ins C dx []) ∧ H dx = some (.own x) ∧ dx ≠ x ∧ Knd K H p ∧ Knd K H s ∧ Knd K H c ∧ Knd K H l ∧
  (okShape p s c l = true → ∀ H', (∀ a o, a ≠ x → a ≠ dx → H a = some o → H' a = some o) → SlX.Slt H' x C dx [some c, some l, some p, some s] → Q .non H') ∧ (okShape p s c l = false → ∀ H', Same H H' → E (.ref B) none H')
section
variable {P : Program} {w : World} {K : PySem.W.Frag} {mg : Str → Option Value} {base : Heap}
theorem ok_check_extent (T : Txt K mg) : FnOk P w K mg base (L2.CX P w) 3 T.a_check_extent T.d_check_extent ["value", "most"] (spExt K T.C_BadShape) := by
  refine T.F_check_extent.okX sc_check_extent (fun vs H Q E h => ?_) (fun cdv A outer s H vs Q E hr h => ⟨_, (pss_one (ps_if (pt_not (pt_val (pe_call (ok_is_between T) (hr.mono (by decide)) (by rfl) T.g_is_between T.F_is_between.kp T.b_is_between .nil pass0 (pa_cons (pv 0) (pa_cons pe_int (pa_cons (pv 1) pa_nil))))))
      (pss_one (ps_raise rfl (takes_of rfl rfl rfl rfl) (pmk_own PySem.F.excBase_ValueError T.xF_BadShape T.g_BadShape T.kC_BadShape (raises_own T.cB_BadShape T.cT_BadShape) (by rfl))))
      pss_nil)), ?_⟩)
  · first | (obtain ⟨rfl, _⟩ := h; rfl) | (obtain ⟨_, rfl, _⟩ := h; rfl) | (obtain ⟨_, _, rfl, _⟩ := h; rfl) | (obtain ⟨_, _, _, rfl, _⟩ := h; rfl) | (obtain ⟨_, _, _, _, rfl, _⟩ := h; rfl) | (obtain ⟨_, _, _, _, _, rfl, _⟩ := h; rfl) | (obtain ⟨_, _, _, _, _, _, rfl, _⟩ := h; rfl) | (obtain ⟨_, _, _, _, _, _, _, rfl, _⟩ := h; rfl) | (obtain ⟨_, _, _, _, _, _, _, _, rfl, _⟩ := h; rfl) | (obtain ⟨_, _, _, _, _, _, _, _, _, rfl, _⟩ := h; rfl) | (obtain ⟨_, _, _, _, _, _, _, _, _, _, rfl, _⟩ := h; rfl) | (obtain ⟨_, _, _, _, _, _, _, _, _, _, _, rfl, _⟩ := h; rfl) | (obtain ⟨_, _, _, _, _, _, _, _, _, _, _, _, rfl, _⟩ := h; rfl) | (obtain ⟨_, _, _, _, _, _, _, _, _, _, _, _, _, rfl, _⟩ := h; rfl) | (obtain ⟨_, _, _, _, _, _, _, _, _, _, _, _, _, _, rfl, _⟩ := h; rfl)
  · obtain ⟨v, m, rfl, hv, k1, k2⟩ := h
    try dsimp only [cxOf, Cx.nox, Cx.wish]
    refine st_of (σ := [some _, some _]) rfl ?_
    walk_at "rd"
    refine ⟨v, 1, m, rfl, hv, ?_⟩
    walk_at "rd"
    cases hb : btw v 1 m with
    | true =>
      refine i_F rfl ?_
      walk_at "rd"
      exact k1 hb _ (Same.refl _)
    | false =>
      refine i_T rfl ?_
      exact k2 hb _ (Same.refl _)
theorem ok_Shape_init (T : Txt K mg) : FnOk P w K mg base (L2.CX P w) 4 T.a_Shape_init T.d_Shape_init ["self", "pages", "slots", "chunk", "columns"] (spShape K T.C_Shape T.C_BadShape) := by
  refine T.F_Shape_init.ok sc_Shape_init (fun vs H Q E h => ?_) (fun cdv A outer s H vs Q E hr h => ⟨_, (pss_cons (ps_expr (pe_callS (ok_check_extent T) (hr.mono (by decide)) (by rfl) T.g_check_extent T.F_check_extent.kp T.b_check_extent (fun σ => passAt (takes_of rfl rfl rfl rfl) σ) (pa_cons (pv 1) (pa_cons (ClX.pe_cval (pe_glob (v := .ref T.C_Shape) rfl T.g_Shape rfl)) pa_nil))))
      (pss_cons (ps_expr (pe_callS (ok_check_extent T) (hr.mono (by decide)) (by rfl) T.g_check_extent T.F_check_extent.kp T.b_check_extent (fun σ => passAt (takes_of rfl rfl rfl rfl) σ) (pa_cons (pv 2) (pa_cons (ClX.pe_cval (pe_glob (v := .ref T.C_Shape) rfl T.g_Shape rfl)) pa_nil))))
      (pss_cons (ps_expr (pe_callS (ok_check_extent T) (hr.mono (by decide)) (by rfl) T.g_check_extent T.F_check_extent.kp T.b_check_extent (fun σ => passAt (takes_of rfl rfl rfl rfl) σ) (pa_cons (pv 3) (pa_cons (ClX.pe_cval (pe_glob (v := .ref T.C_Shape) rfl T.g_Shape rfl)) pa_nil))))
      (pss_cons (ps_expr (pe_callS (ok_check_extent T) (hr.mono (by decide)) (by rfl) T.g_check_extent T.F_check_extent.kp T.b_check_extent (fun σ => passAt (takes_of rfl rfl rfl rfl) σ) (pa_cons (pv 4) (pa_cons (ClX.pe_cval (pe_glob (v := .ref T.C_Shape) rfl T.g_Shape rfl)) pa_nil))))
      (pss_cons (SlX.ps_sl (pv 0) (pv 1))
      (pss_cons (SlX.ps_sl (pv 0) (pv 2))
      (pss_cons (SlX.ps_sl (pv 0) (pv 3))
      (pss_one (SlX.ps_sl (pv 0) (pv 4)))))))))), ?_⟩)
  · first | (obtain ⟨rfl, _⟩ := h; rfl) | (obtain ⟨_, rfl, _⟩ := h; rfl) | (obtain ⟨_, _, rfl, _⟩ := h; rfl) | (obtain ⟨_, _, _, rfl, _⟩ := h; rfl) | (obtain ⟨_, _, _, _, rfl, _⟩ := h; rfl) | (obtain ⟨_, _, _, _, _, rfl, _⟩ := h; rfl) | (obtain ⟨_, _, _, _, _, _, rfl, _⟩ := h; rfl) | (obtain ⟨_, _, _, _, _, _, _, rfl, _⟩ := h; rfl) | (obtain ⟨_, _, _, _, _, _, _, _, rfl, _⟩ := h; rfl) | (obtain ⟨_, _, _, _, _, _, _, _, _, rfl, _⟩ := h; rfl) | (obtain ⟨_, _, _, _, _, _, _, _, _, _, rfl, _⟩ := h; rfl) | (obtain ⟨_, _, _, _, _, _, _, _, _, _, _, rfl, _⟩ := h; rfl) | (obtain ⟨_, _, _, _, _, _, _, _, _, _, _, _, rfl, _⟩ := h; rfl) | (obtain ⟨_, _, _, _, _, _, _, _, _, _, _, _, _, rfl, _⟩ := h; rfl) | (obtain ⟨_, _, _, _, _, _, _, _, _, _, _, _, _, _, rfl, _⟩ := h; rfl)
  · obtain ⟨x, dx, p, s1, c, l, rfl, hx, hdx, ne, hp, hs, hc, hl, k1, k2⟩ := h
    try dsimp only [cxOf, Cx.nox, Cx.wish]
    refine st_of (σ := [some _, some _, some _, some _, some _]) rfl ?_
    walk_at "rd"
    refine ⟨T.C_Shape, _, _, _, rfl, T.cr_Shape, T.cv_Shape_MOST_PAGES, ?_⟩
    walk_at "rd"
    refine ⟨p, 16, rfl, hp, fun b1 H1 s01 => ?_, fun b1 H1 s01 => k2 (by unfold okShape; rw [b1]; rfl) H1 s01⟩
    walk_at "rd"
    refine ⟨T.C_Shape, _, _, _, rfl, T.cr_Shape, T.cv_Shape_MOST_SLOTS, ?_⟩
    walk_at "rd"
    refine ⟨s1, 8, rfl, hs.same s01, fun b2 H2 s12 => ?_, fun b2 H2 s12 => k2 (by unfold okShape; rw [b1, b2]; rfl) H2 (s01.trans s12)⟩
    walk_at "rd"
    refine ⟨T.C_Shape, _, _, _, rfl, T.cr_Shape, T.cv_Shape_MOST_CHUNK, ?_⟩
    have s02 := s01.trans s12
    walk_at "rd"
    refine ⟨c, 16, rfl, hc.same s02, fun b3 H3 s23 => ?_, fun b3 H3 s23 => k2 (by unfold okShape; rw [b1, b2, b3]; rfl) H3 (s02.trans s23)⟩
    walk_at "rd"
    refine ⟨T.C_Shape, _, _, _, rfl, T.cr_Shape, T.cv_Shape_MOST_COLUMNS, ?_⟩
    have s03 := s02.trans s23
    walk_at "rd"
    refine ⟨l, 3, rfl, hl.same s03, fun b4 H4 s34 => ?_, fun b4 H4 s34 => k2 (by unfold okShape; rw [b1, b2, b3, b4]; rfl) H4 (s03.trans s34)⟩
    have s04 := s03.trans s34
    have t0 : SlX.Slt H4 x T.C_Shape dx [] := .inl ⟨s04 _ _ hx, rfl⟩
    walk_at "rd"
    refine ⟨x, T.C_Shape, dx, _, [], 2, rfl, t0, T.sC_Shape, T.sl_Shape_pages, ?_⟩
    walk_at "rd"
    refine ⟨x, T.C_Shape, dx, _, _, 3, rfl, SlX.slH_slt ne, T.sC_Shape, T.sl_Shape_slots, ?_⟩
    rw [SlX.slH_twice ne]
    walk_at "rd"
    refine ⟨x, T.C_Shape, dx, _, _, 0, rfl, SlX.slH_slt ne, T.sC_Shape, T.sl_Shape_chunk, ?_⟩
    rw [SlX.slH_twice ne]
    walk_at "rd"
    refine ⟨x, T.C_Shape, dx, _, _, 1, rfl, SlX.slH_slt ne, T.sC_Shape, T.sl_Shape_columns, ?_⟩
    rw [SlX.slH_twice ne]
    exact k1 (by unfold okShape; rw [b1, b2, b3, b4]; rfl) _ (fun a o n1 n2 ha => (SlX.slH_ne n1 n2).trans (s04 _ _ ha)) (SlX.slH_slt ne)
end

@[elab_as_elim] theorem muc {P : Hp → Prop} (H : Hp) (p : Addr) (o : HO) (h : ∀ H', Same (Aw p H) (Aw p H') → H' p = some o → P H') : P (upd H p o) := h _ Aw.mut upd_same
theorem use_shape {K : PySem.W.Frag} {C B : Addr} {H : Hp} {p s c l : V} {Q : Addr → Hp → Prop} {E : XK} (hp : Knd K H p) (hs : Knd K H s) (hc : Knd K H c) (hl : Knd K H l) (ok : okShape p s c l = true)
    (k : ∀ x dx H', H x = none → Same H H' → SlX.Slt H' x C dx [some c, some l, some p, some s] → Q x H') :
    ∀ x dx, H x = none → H dx = none → dx ≠ x → spShape K C B [.ref x, p, s, c, l] (upd (upd H dx (.own x)) x (.ins C dx [])) (fun v H3 => v = .non ∧ Q x H3) E := fun x dx hx hdx ne => by
  have hx1 : (upd H dx (.own x)) x = none := (upd_ne ne.symm).trans hx
  have s2 : Same H (upd (upd H dx (.own x)) x (.ins C dx [])) := same_new (same_new (Same.refl _) hdx) hx1
  refine ⟨x, dx, p, s, c, l, rfl, upd_same, (upd_ne ne).trans upd_same, ne, hp.same s2, hs.same s2, hc.same s2, hl.same s2, fun _ H' fr sl => ⟨rfl, k x dx H' hx (fun a o ha => fr a o (ne_of_none ha hx) (ne_of_none ha hdx) (s2 a o ha)) sl⟩, fun bad => ?_⟩
  rw [ok] at bad
  cases bad

def spSizes (K : PySem.W.Frag) : Sp := fun vs H Q _ => ∃ (S L : Addr) (ns : List Int) (m0 m1 : Int), vs = [.ref S, .int m0, .int m1] ∧ Strm S L ns H ∧ 1 ≤ m0 ∧ m0 ≤ 16 ∧ 1 ≤ m1 ∧ m1 ≤ 16 ∧
  ∀ p (z0 z1 z2 z3 : Int) H', H p = none → Ex S H H' → Strm S L ns H' → H' p = some (.lst [.int z0, .int z1, .int z2, .int z3]) → 1 ≤ z0 → z0 ≤ m0 → 1 ≤ z1 → z1 ≤ m1 → 1 ≤ z2 → z2 ≤ 16 → 1 ≤ z3 → z3 ≤ 3 → Q (.ref p) H'
/-- what has been drawn so far -/
def SzOk (m0 m1 : Int) (us : List Int) : Prop := ∀ (j : Nat) (z m : Int), us[j]? = some z → [m0, m1, 16, 3][j]? = some m → 1 ≤ z ∧ z ≤ m
theorem SzOk.snoc {m0 m1 : Int} {us : List Int} {z m : Int} (h : SzOk m0 m1 us) (hm : [m0, m1, 16, 3][us.length]? = some m) (h1 : 1 ≤ z) (h2 : z ≤ m) : SzOk m0 m1 (us ++ [z]) := fun j y n hy hn => by
  by_cases hj : j < us.length
  · rw [List.getElem?_append_left hj] at hy
    exact h j y n hy hn
  · rw [List.getElem?_append_right (by omega)] at hy
    by_cases e : j = us.length
    · subst e
      rw [Nat.sub_self] at hy
      cases hy
      rw [hm] at hn
      cases hn
      exact ⟨h1, h2⟩
    · rw [List.getElem?_eq_none (by simp; omega)] at hy
      cases hy
section
variable {P : Program} {w : World} {K : PySem.W.Frag} {mg : Str → Option Value} {base : Heap}
theorem ok_sizes (T : Txt K mg) : FnOk P w K mg base CX0 2 T.a_sizes T.d_sizes ["_law_stream_here", "_law_pages", "_law_slots"] (spSizes K) := by
  refine T.F_sizes.ok sc__law_sizes (fun vs H Q E h => ?_) (fun cdv A outer s H vs Q E hr h => ⟨_, (pss_cons (ps_set (i := 3) sc__law_sizes.nd rfl (.inl rfl) (pe_lst pa_nil))
      (pss_cons (ps_for PassesOwn.never rfl (pi_list (pe_lst (pa_cons (pv 1) (pa_cons (pv 2) (pa_cons pe_int (pa_cons pe_int pa_nil)))))) (pg_name (i := 4) sc__law_sizes.nd rfl (.inl rfl))
      (pss_cons (ps_set (i := 5) sc__law_sizes.nd rfl (.inl rfl) (pe_call (ok_draw T) (hr.mono (by decide)) (by rfl) T.g_draw T.F_draw.kp T.b_draw .nil pass0 (pa_cons (pv 0) (pa_cons pe_int pa_nil))))
      (pss_one (ps_if (pt_cmpR op_eq (pv 5) pe_int (nomark _))
      (pss_one (ps_expr (pe_bm PySem.F.plainAttrs_list PySem.F.slot_list_append PySem.F.type_list_append mt_append (pv 3) (pa_cons (pv 4) pa_nil))))
      (pss_one (ps_if (pt_cmpR op_eq (pv 5) pe_int (nomark _))
      (pss_one (ps_expr (pe_bm PySem.F.plainAttrs_list PySem.F.slot_list_append PySem.F.type_list_append mt_append (pv 3) (pa_cons pe_int pa_nil))))
      (pss_one (ps_expr (pe_bm PySem.F.plainAttrs_list PySem.F.slot_list_append PySem.F.type_list_append mt_append (pv 3) (pa_cons (pe_op op_add pe_int (pe_call (ok_draw T) (hr.mono (by decide)) (by rfl) T.g_draw T.F_draw.kp T.b_draw .nil pass0 (pa_cons (pv 0) (pa_cons (pv 4) pa_nil)))) pa_nil))))))))))
      (pss_one (ps_ret (pv 3))))), ?_⟩)
  · first | (obtain ⟨rfl, _⟩ := h; rfl) | (obtain ⟨_, rfl, _⟩ := h; rfl) | (obtain ⟨_, _, rfl, _⟩ := h; rfl) | (obtain ⟨_, _, _, rfl, _⟩ := h; rfl) | (obtain ⟨_, _, _, _, rfl, _⟩ := h; rfl) | (obtain ⟨_, _, _, _, _, rfl, _⟩ := h; rfl) | (obtain ⟨_, _, _, _, _, _, rfl, _⟩ := h; rfl) | (obtain ⟨_, _, _, _, _, _, _, rfl, _⟩ := h; rfl) | (obtain ⟨_, _, _, _, _, _, _, _, rfl, _⟩ := h; rfl) | (obtain ⟨_, _, _, _, _, _, _, _, _, rfl, _⟩ := h; rfl) | (obtain ⟨_, _, _, _, _, _, _, _, _, _, rfl, _⟩ := h; rfl) | (obtain ⟨_, _, _, _, _, _, _, _, _, _, _, rfl, _⟩ := h; rfl) | (obtain ⟨_, _, _, _, _, _, _, _, _, _, _, _, rfl, _⟩ := h; rfl) | (obtain ⟨_, _, _, _, _, _, _, _, _, _, _, _, _, rfl, _⟩ := h; rfl) | (obtain ⟨_, _, _, _, _, _, _, _, _, _, _, _, _, _, rfl, _⟩ := h; rfl)
  · obtain ⟨S, L, ns, m0, m1, rfl, st, a0, a1, b0, b1, k⟩ := h
    try dsimp only [cxOf, Cx.nox, Cx.wish]
    refine st_of (σ := [some _, some _, some _, none, none, none]) rfl ?_
    walk_at "rd"
    refine fun p hp => alc _ hp (fun H1 s1 g1 => ?_)
    have st1 := st.same s1
    have npS := st.neS hp
    have npL := st.neL hp
    walk_at "rd"
    with_reducible refine c_forList ?_
    walk_at "rd"
    refine fun o ho => alc _ ho (fun H2 s2 g2 => ?_)
    have nop : o ≠ p := (ne_of_none g1 ho).symm
    have noS := st1.neS ho
    have st2 := st1.same s2
    walk_at "rd"
    refine ⟨⟨_, sql g2⟩, for_list (xs := [.int m0, .int m1, .int 16, .int 3]) (fun i σ G => ∃ (us : List Int) (e4 e5 : Option V), σ = [some (.ref S), some (.int m0), some (.int m1), some (.ref p), e4, e5] ∧ Strm S L ns G ∧ Ex S H G ∧ G o = some (.lst [.int m0, .int m1, .int 16, .int 3]) ∧ G p = some (.lst (us.map V.int)) ∧ us.length = i ∧ SzOk m0 m1 us) ?_ ?_ ?_ ?_⟩
    · exact ⟨[], _, _, rfl, st2, fun a o _ h => s2 _ _ (s1 _ _ h), g2, s2 _ _ g1, rfl, fun j z m h => by simp at h⟩
    · rintro i σ G _ ⟨_, _, _, _, _, _, go, _⟩
      exact sql go
    · rintro i x σ G hi ⟨us, e4, e5, rfl, stG, xG, go, gp, hul, ok⟩
      obtain ⟨m, hm, rfl, hm1, hm2⟩ : ∃ m : Int, [m0, m1, 16, 3][i]? = some m ∧ x = .int m ∧ 1 ≤ m ∧ m ≤ 16 := by
        match i, hi with
        | 0, hi => exact ⟨m0, rfl, (Option.some.inj hi).symm, a0, a1⟩
        | 1, hi => exact ⟨m1, rfl, (Option.some.inj hi).symm, b0, b1⟩
        | 2, hi => exact ⟨16, rfl, (Option.some.inj hi).symm, by decide, by decide⟩
        | 3, hi => exact ⟨3, rfl, (Option.some.inj hi).symm, by decide, by decide⟩
      have hi4 : i < 4 := (List.getElem?_eq_some_iff.mp hi).1
      have hsz : (us.map V.int).length < sizeLine := smallLt (by rw [List.length_map]; omega)
      have fin : ∀ (z : Int) (e : Option V) (G1 : Hp), Ex S G G1 → Strm S L ns G1 → 1 ≤ z → z ≤ m → ∃ (us' : List Int) (f4 f5 : Option V), [some (V.ref S), some (V.int m0), some (V.int m1), some (V.ref p), some (V.int m), e] = [some (.ref S), some (.int m0), some (.int m1), some (.ref p), f4, f5] ∧ Strm S L ns (upd G1 p (.lst (us.map V.int ++ [.int z]))) ∧ Ex S H (upd G1 p (.lst (us.map V.int ++ [.int z]))) ∧
          (upd G1 p (.lst (us.map V.int ++ [.int z]))) o = some (.lst [.int m0, .int m1, .int 16, .int 3]) ∧ (upd G1 p (.lst (us.map V.int ++ [.int z]))) p = some (.lst (us'.map V.int)) ∧ us'.length = i + 1 ∧ SzOk m0 m1 us' := by
        intro z e G1 x1 st1 h1 h2
        exact ⟨us ++ [z], _, _, rfl, st1.upd npS npL, Ex.mut (xG.trans x1) hp, (upd_ne nop).trans (x1 _ _ noS go), by rw [upd_same, List.map_append]; rfl, by simp [hul], ok.snoc (by rw [hul]; exact hm) h1 h2⟩
      walk_at "rd"
      refine use_draw stG (by decide) (by decide) (fun kd G1 k0 k1 x1 st1b => ?_)
      have gp1 := x1 _ _ npS gp
      walk_at "rd"
      refine i_d (fun e => ?_) (fun e => ?_)
      · walk_at "rd"
        exact fin m _ G1 x1 st1b hm1 (Int.le_refl _)
      walk_at "rd"
      refine i_d (fun e => ?_) (fun e => ?_)
      · walk_at "rd"
        exact fin 1 _ G1 x1 st1b (by decide) hm1
      walk_at "rd"
      refine use_draw st1b (by omega) (by omega) (fun d G2 d0 d1 x2 st2b => ?_)
      have gp2 := x2 _ _ npS gp1
      walk_at "rd"
      exact fin (1 + d) _ G2 (x1.trans x2) st2b (by omega) (by omega)
    · rintro σ G ⟨us, e4, e5, rfl, stG, xG, go, gp, hul, ok⟩
      walk_at "rd"
      match us, hul with
      | [z0, z1, z2, z3], _ =>
        obtain ⟨c0, c1⟩ := ok 0 z0 m0 rfl rfl
        obtain ⟨c2, c3⟩ := ok 1 z1 m1 rfl rfl
        obtain ⟨c4, c5⟩ := ok 2 z2 16 rfl rfl
        obtain ⟨c6, c7⟩ := ok 3 z3 3 rfl rfl
        exact k p z0 z1 z2 z3 G hp xG stG gp c0 c1 c2 c3 c4 c5 c6 c7
end

/-- a shape stands at a -/
def Shp (H : Hp) (C a : Addr) (p s c l : Int) : Prop := ∃ dx, SlX.Slt H a C dx [some (.int c), some (.int l), some (.int p), some (.int s)]
theorem Shp.same {H H' : Hp} {C a : Addr} {p s c l : Int} (h : Shp H C a p s c l) (e : Same H H') : Shp H' C a p s c l := let ⟨dx, h⟩ := h; ⟨dx, Slt_same h e⟩
def spPage (K : PySem.W.Frag) (C B : Addr) : Sp := fun vs H Q E => ∃ (a : Addr) (v : V) (p s c l : Int), vs = [v, .ref a] ∧ Shp H C a p s c l ∧ Knd K H v ∧ (btw v 0 (p - 1) = true → Q .non H) ∧ (btw v 0 (p - 1) = false → ∀ d H', H d = none → Same H H' → H' d = some (.xd [("place", v)]) → E (.ref B) (some d) H')
def spChunks (C : Addr) : Sp := fun vs H Q _ => ∃ (a : Addr) (p s c l : Int), vs = [.ref a] ∧ Shp H C a p s c l ∧ 1 ≤ p ∧ p ≤ 16 ∧ 1 ≤ c ∧ c ≤ 16 ∧ Q (.int ((p + c - 1) / c)) H
def spChunkOf (K : PySem.W.Frag) (C B : Addr) : Sp := fun vs H Q E => ∃ (a : Addr) (v : V) (p s c l : Int), vs = [.ref a, v] ∧ Shp H C a p s c l ∧ 1 ≤ p ∧ p ≤ 16 ∧ 1 ≤ c ∧ c ≤ 16 ∧ Knd K H v ∧ (∀ i, v = .int i → 0 ≤ i → i ≤ p - 1 → Q (.int (i / c)) H) ∧
  (btw v 0 (p - 1) = false → ∀ d H', H d = none → Same H H' → H' d = some (.xd [("place", v)]) → E (.ref B) (some d) H')
theorem btw_int {v : V} {lo hi : Int} (h : btw v lo hi = true) : ∃ i, v = .int i ∧ lo ≤ i ∧ i ≤ hi := by
  cases v with
  | int i =>
    simp [btw] at h
    exact ⟨i, rfl, h⟩
  | _ => cases h
def spPagesOf (K : PySem.W.Frag) (C B : Addr) : Sp := fun vs H Q E => ∃ (a : Addr) (v : V) (p s c l : Int), vs = [.ref a, v] ∧ Shp H C a p s c l ∧ 1 ≤ p ∧ p ≤ 16 ∧ 1 ≤ c ∧ c ≤ 16 ∧ Knd K H v ∧
  (∀ i, v = .int i → 0 ≤ i → i ≤ (p + c - 1) / c - 1 → ∀ q H', H q = none → Same H H' → H' q = some (.lst (rgV (i * c) (if p < i * c + c then p else i * c + c))) → Q (.ref q) H') ∧
  (btw v 0 ((p + c - 1) / c - 1) = false → ∀ d H', H d = none → Same H H' → H' d = some (.xd [("place", v)]) → E (.ref B) (some d) H')
/-- what may stand in an address's place, and whether it is one -/
inductive Adr (K : PySem.W.Frag) (H : Hp) (p s : Int) : V → Bool → Prop where
  | non : Adr K H p s .non false
  | lst {a : Addr} {xs : List V} (h : SqL K H a xs) : Adr K H p s (.ref a) false
  | odd {a : Addr} {xs : List V} (h : SqT K H a xs) (hl : xs.length ≠ 2) (hs : xs.length ≤ 100) : Adr K H p s (.ref a) false
  | two {a : Addr} {x y : V} (h : SqT K H a [x, y]) (hx : Knd K H x) (hy : Knd K H y) : Adr K H p s (.ref a) (btw x 0 (p - 1) && btw y 0 (s - 1))
def spHas (K : PySem.W.Frag) (C : Addr) : Sp := fun vs H Q _ => ∃ (a : Addr) (v : V) (p s c l : Int), vs = [.ref a, v] ∧ Shp H C a p s c l ∧ ∃ b, Adr K H p s v b ∧ Q (.bl b) H
/-- tuples of two numbers -/
def Pr2 (K : PySem.W.Frag) (H : Hp) (xs : List V) (L : List (Int × Int)) : Prop := xs.length = L.length ∧ ∀ (i : Nat) (x : V), xs[i]? = some x → ∃ (t : Addr) (z : Int × Int), x = .ref t ∧ L[i]? = some z ∧ SqT K H t [.int z.1, .int z.2]
theorem Pr2.keep {K : PySem.W.Frag} {H H' : Hp} {xs : List V} {L : List (Int × Int)} (h : Pr2 K H xs L) (e : Tp H H') : Pr2 K H' xs L := ⟨h.1, fun i p hp => let ⟨q, z, a, b, c⟩ := h.2 i p hp; ⟨q, z, a, b, e.tup c⟩⟩
theorem Pr2.snoc {K : PySem.W.Frag} {H : Hp} {xs : List V} {L : List (Int × Int)} {q : Addr} {z : Int × Int} (h : Pr2 K H xs L) (g : SqT K H q [.int z.1, .int z.2]) : Pr2 K H (xs ++ [.ref q]) (L ++ [z]) := by
  refine ⟨by simp [h.1], fun i p hp => ?_⟩
  by_cases hi : i < xs.length
  · rw [List.getElem?_append_left hi] at hp
    obtain ⟨q', z', a, b, c⟩ := h.2 i p hp
    exact ⟨q', z', a, by rw [List.getElem?_append_left (by rw [← h.1]; exact hi)]; exact b, c⟩
  · rw [List.getElem?_append_right (by omega)] at hp
    obtain ⟨rfl, rfl⟩ : i = xs.length ∧ p = .ref q := by
      rcases Nat.eq_zero_or_pos (i - xs.length) with z0 | z0
      · rw [z0] at hp
        exact ⟨by omega, (Option.some.inj hp).symm⟩
      · rw [List.getElem?_eq_none (by simp; omega)] at hp
        cases hp
    exact ⟨q, z, rfl, by rw [h.1]; simp, g⟩
def row1 (i : Int) (n : Nat) : List (Int × Int) := (List.range n).map fun (j : Nat) => (i, (j : Int))
def grid (m n : Nat) : List (Int × Int) := (List.range m).flatMap fun (i : Nat) => row1 (i : Int) n
theorem row1_succ (i : Int) (n : Nat) : row1 i (n + 1) = row1 i n ++ [(i, (n : Int))] := by simp [row1, List.range_succ]
theorem grid_succ (m n : Nat) : grid (m + 1) n = grid m n ++ row1 (m : Int) n := by simp [grid, List.range_succ, List.flatMap_append]
theorem row1_len (i : Int) (n : Nat) : (row1 i n).length = n := by simp [row1]
theorem grid_len (m n : Nat) : (grid m n).length = m * n := by
  induction m with
  | zero => simp [grid]
  | succ m ih => rw [grid_succ, List.length_append, ih, row1_len, Nat.succ_mul]
def spAddrs (K : PySem.W.Frag) (C : Addr) : Sp := fun vs H Q _ => ∃ (a : Addr) (p s c l : Int), vs = [.ref a] ∧ Shp H C a p s c l ∧ 1 ≤ p ∧ p ≤ 16 ∧ 1 ≤ s ∧ s ≤ 8 ∧ ∀ q xs H', H q = none → Same H H' → H' q = some (.lst xs) → Pr2 K H' xs (grid p.toNat s.toNat) → Q (.ref q) H'
section
variable {P : Program} {w : World} {K : PySem.W.Frag} {mg : Str → Option Value} {base : Heap}
theorem ok_NoPlace_init (T : Txt K mg) : FnOk P w K mg base CX0 1 T.a_NoPlace_init T.d_NoPlace_init ["self", "place"] (spErr T.C_NoPlace "place") := by
  refine T.F_NoPlace_init.ok sc_NoPlace_init (fun vs H Q E h => ?_) (fun cdv A outer s H vs Q E hr h => ⟨_, (pss_cons (ps_expr (pe_owninit (by rfl) T.g_PagesError T.ga_PagesError T.rd_PagesError T.vV_PagesError (pa_cons (pv 0) (pa_cons pe_str pa_nil))))
      (pss_one (ps_ost (pv 0) (pv 1)))), ?_⟩)
  · first | (obtain ⟨rfl, _⟩ := h; rfl) | (obtain ⟨_, rfl, _⟩ := h; rfl) | (obtain ⟨_, _, rfl, _⟩ := h; rfl) | (obtain ⟨_, _, _, rfl, _⟩ := h; rfl) | (obtain ⟨_, _, _, _, rfl, _⟩ := h; rfl) | (obtain ⟨_, _, _, _, _, rfl, _⟩ := h; rfl) | (obtain ⟨_, _, _, _, _, _, rfl, _⟩ := h; rfl) | (obtain ⟨_, _, _, _, _, _, _, rfl, _⟩ := h; rfl) | (obtain ⟨_, _, _, _, _, _, _, _, rfl, _⟩ := h; rfl) | (obtain ⟨_, _, _, _, _, _, _, _, _, rfl, _⟩ := h; rfl) | (obtain ⟨_, _, _, _, _, _, _, _, _, _, rfl, _⟩ := h; rfl) | (obtain ⟨_, _, _, _, _, _, _, _, _, _, _, rfl, _⟩ := h; rfl) | (obtain ⟨_, _, _, _, _, _, _, _, _, _, _, _, rfl, _⟩ := h; rfl) | (obtain ⟨_, _, _, _, _, _, _, _, _, _, _, _, _, rfl, _⟩ := h; rfl) | (obtain ⟨_, _, _, _, _, _, _, _, _, _, _, _, _, _, rfl, _⟩ := h; rfl)
  · obtain ⟨a, v, rfl, ha, k⟩ := h
    try dsimp only [cxOf, Cx.nox, Cx.wish]
    refine st_of (σ := [some _, some _]) rfl ?_
    walk_at "rd"
    refine ⟨a, T.C_NoPlace, _, rfl, by decide, T.oc_NoPlace, ha, ?_⟩
    walk_at "rd"
    exact ⟨a, _, rfl, T.oc_NoPlace, T.no_NoPlace, .inl ⟨ha, fun dx h1 h2 => k dx h1 h2⟩⟩
theorem ok_check_page (T : Txt K mg) : FnOk P w K mg base (L2.CX P w) 3 T.a_check_page T.d_check_page ["page", "shape"] (spPage K T.C_Shape T.C_NoPlace) := by
  refine T.F_check_page.okX sc_check_page (fun vs H Q E h => ?_) (fun cdv A outer s H vs Q E hr h => ⟨_, (pss_one (ps_if (pt_not (pt_val (pe_call (ok_is_between T) (hr.mono (by decide)) (by rfl) T.g_is_between T.F_is_between.kp T.b_is_between .nil pass0 (pa_cons (pv 0) (pa_cons pe_int (pa_cons (pe_op op_sub (SlX.pe_sl (pv 1)) pe_int) pa_nil))))))
      (pss_one (ps_raise rfl (takes_of rfl rfl rfl rfl) (pmk_oex T.oc_NoPlace T.iC_NoPlace T.tI_NoPlace (ok_NoPlace_init T) (hr.mono (by decide)) T.b_NoPlace_init .nil pass0 (by rfl) T.g_NoPlace (pa_cons (pv 0) pa_nil))))
      pss_nil)), ?_⟩)
  · first | (obtain ⟨rfl, _⟩ := h; rfl) | (obtain ⟨_, rfl, _⟩ := h; rfl) | (obtain ⟨_, _, rfl, _⟩ := h; rfl) | (obtain ⟨_, _, _, rfl, _⟩ := h; rfl) | (obtain ⟨_, _, _, _, rfl, _⟩ := h; rfl) | (obtain ⟨_, _, _, _, _, rfl, _⟩ := h; rfl) | (obtain ⟨_, _, _, _, _, _, rfl, _⟩ := h; rfl) | (obtain ⟨_, _, _, _, _, _, _, rfl, _⟩ := h; rfl) | (obtain ⟨_, _, _, _, _, _, _, _, rfl, _⟩ := h; rfl) | (obtain ⟨_, _, _, _, _, _, _, _, _, rfl, _⟩ := h; rfl) | (obtain ⟨_, _, _, _, _, _, _, _, _, _, rfl, _⟩ := h; rfl) | (obtain ⟨_, _, _, _, _, _, _, _, _, _, _, rfl, _⟩ := h; rfl) | (obtain ⟨_, _, _, _, _, _, _, _, _, _, _, _, rfl, _⟩ := h; rfl) | (obtain ⟨_, _, _, _, _, _, _, _, _, _, _, _, _, rfl, _⟩ := h; rfl) | (obtain ⟨_, _, _, _, _, _, _, _, _, _, _, _, _, _, rfl, _⟩ := h; rfl)
  · obtain ⟨a, v, p, s1, c, l, rfl, ⟨dx, hs⟩, hv, k1, k2⟩ := h
    try dsimp only [cxOf, Cx.nox, Cx.wish]
    refine st_of (σ := [some _, some _]) rfl ?_
    walk_at "rd"
    refine ⟨a, T.C_Shape, dx, _, _, 2, _, rfl, hs, T.sC_Shape, T.sl_Shape_pages, rfl, ?_⟩
    walk_at "rd"
    refine ⟨v, 0, p - 1, rfl, hv, ?_⟩
    walk_at "rd"
    cases hb : btw v 0 (p - 1) with
    | true =>
      refine i_F rfl ?_
      walk_at "rd"
      exact k1 hb
    | false =>
      refine i_T rfl ?_
      refine c_mko ?_
      walk_at "rd"
      exact c_raise (k2 hb)
theorem ok_Shape_chunks (T : Txt K mg) : FnOk P w K mg base CX0 1 T.a_Shape_chunks T.d_Shape_chunks ["self"] (spChunks T.C_Shape) := by
  refine T.F_Shape_chunks.ok sc_Shape_chunks (fun vs H Q E h => ?_) (fun cdv A outer s H vs Q E hr h => ⟨_, (pss_one (ps_ret (pe_op op_fdivW (pe_op op_sub (pe_op op_add (SlX.pe_sl (pv 0)) (SlX.pe_sl (pv 0))) pe_int) (SlX.pe_sl (pv 0))))), ?_⟩)
  · first | (obtain ⟨rfl, _⟩ := h; rfl) | (obtain ⟨_, rfl, _⟩ := h; rfl) | (obtain ⟨_, _, rfl, _⟩ := h; rfl) | (obtain ⟨_, _, _, rfl, _⟩ := h; rfl) | (obtain ⟨_, _, _, _, rfl, _⟩ := h; rfl) | (obtain ⟨_, _, _, _, _, rfl, _⟩ := h; rfl) | (obtain ⟨_, _, _, _, _, _, rfl, _⟩ := h; rfl) | (obtain ⟨_, _, _, _, _, _, _, rfl, _⟩ := h; rfl) | (obtain ⟨_, _, _, _, _, _, _, _, rfl, _⟩ := h; rfl) | (obtain ⟨_, _, _, _, _, _, _, _, _, rfl, _⟩ := h; rfl) | (obtain ⟨_, _, _, _, _, _, _, _, _, _, rfl, _⟩ := h; rfl) | (obtain ⟨_, _, _, _, _, _, _, _, _, _, _, rfl, _⟩ := h; rfl) | (obtain ⟨_, _, _, _, _, _, _, _, _, _, _, _, rfl, _⟩ := h; rfl) | (obtain ⟨_, _, _, _, _, _, _, _, _, _, _, _, _, rfl, _⟩ := h; rfl) | (obtain ⟨_, _, _, _, _, _, _, _, _, _, _, _, _, _, rfl, _⟩ := h; rfl)
  · obtain ⟨a, p, s1, c, l, rfl, ⟨dx, hs⟩, p1, p2, c1, c2, k⟩ := h
    try dsimp only [cxOf, Cx.nox, Cx.wish]
    refine st_of (σ := [some _]) rfl ?_
    walk_at "rd"
    refine ⟨a, T.C_Shape, dx, _, _, 2, _, rfl, hs, T.sC_Shape, T.sl_Shape_pages, rfl, ?_⟩
    walk_at "rd"
    refine ⟨a, T.C_Shape, dx, _, _, 0, _, rfl, hs, T.sC_Shape, T.sl_Shape_chunk, rfl, ?_⟩
    walk_at "rd"
    refine ⟨a, T.C_Shape, dx, _, _, 0, _, rfl, hs, T.sC_Shape, T.sl_Shape_chunk, rfl, ?_⟩
    walk_at "rd"
    refine r_I (wide_div (b := 5) (by omega) (by omega) (by decide) (by decide)) ?_
    exact k
theorem ok_Shape_chunk_of (T : Txt K mg) : FnOk P w K mg base (L2.CX P w) 4 T.a_Shape_chunk_of T.d_Shape_chunk_of ["self", "page"] (spChunkOf K T.C_Shape T.C_NoPlace) := by
  refine T.F_Shape_chunk_of.okX sc_Shape_chunk_of (fun vs H Q E h => ?_) (fun cdv A outer s H vs Q E hr h => ⟨_, (pss_cons (ps_expr (pe_callS (ok_check_page T) (hr.mono (by decide)) (by rfl) T.g_check_page T.F_check_page.kp T.b_check_page (fun σ => passAt (takes_of rfl rfl rfl rfl) σ) (pa_cons (pv 1) (pa_cons (pv 0) pa_nil))))
      (pss_one (ps_ret (pe_op op_fdivW (pv 1) (SlX.pe_sl (pv 0)))))), ?_⟩)
  · first | (obtain ⟨rfl, _⟩ := h; rfl) | (obtain ⟨_, rfl, _⟩ := h; rfl) | (obtain ⟨_, _, rfl, _⟩ := h; rfl) | (obtain ⟨_, _, _, rfl, _⟩ := h; rfl) | (obtain ⟨_, _, _, _, rfl, _⟩ := h; rfl) | (obtain ⟨_, _, _, _, _, rfl, _⟩ := h; rfl) | (obtain ⟨_, _, _, _, _, _, rfl, _⟩ := h; rfl) | (obtain ⟨_, _, _, _, _, _, _, rfl, _⟩ := h; rfl) | (obtain ⟨_, _, _, _, _, _, _, _, rfl, _⟩ := h; rfl) | (obtain ⟨_, _, _, _, _, _, _, _, _, rfl, _⟩ := h; rfl) | (obtain ⟨_, _, _, _, _, _, _, _, _, _, rfl, _⟩ := h; rfl) | (obtain ⟨_, _, _, _, _, _, _, _, _, _, _, rfl, _⟩ := h; rfl) | (obtain ⟨_, _, _, _, _, _, _, _, _, _, _, _, rfl, _⟩ := h; rfl) | (obtain ⟨_, _, _, _, _, _, _, _, _, _, _, _, _, rfl, _⟩ := h; rfl) | (obtain ⟨_, _, _, _, _, _, _, _, _, _, _, _, _, _, rfl, _⟩ := h; rfl)
  · obtain ⟨a, v, p, s1, c, l, rfl, hs, p1, p2, c1, c2, hv, k1, k2⟩ := h
    obtain ⟨dx, hx⟩ := id hs
    try dsimp only [cxOf, Cx.nox, Cx.wish]
    refine st_of (σ := [some _, some _]) rfl ?_
    walk_at "rd"
    refine ⟨a, v, p, s1, c, l, rfl, hs, hv, fun hb => ?_, fun hb => k2 hb⟩
    walk_at "rd"
    refine ⟨a, T.C_Shape, dx, _, _, 0, _, rfl, hx, T.sC_Shape, T.sl_Shape_chunk, rfl, ?_⟩
    walk_at "rd"
    obtain ⟨i, rfl, i0, i1⟩ := btw_int hb
    refine r_I (wide_div (b := 5) (by omega) (by omega) (by decide) (by decide)) ?_
    exact k1 i rfl i0 i1
theorem ok_Shape_pages_of (T : Txt K mg) : FnOk P w K mg base (L2.CX P w) 4 T.a_Shape_pages_of T.d_Shape_pages_of ["self", "chunk"] (spPagesOf K T.C_Shape T.C_NoPlace) := by
  refine T.F_Shape_pages_of.okX sc_Shape_pages_of (fun vs H Q E h => ?_) (fun cdv A outer s H vs Q E hr h => ⟨_, (pss_cons (ps_if (pt_not (pt_val (pe_call (ok_is_between T) (hr.mono (by decide)) (by rfl) T.g_is_between T.F_is_between.kp T.b_is_between .nil pass0 (pa_cons (pv 1) (pa_cons pe_int (pa_cons (pe_op op_sub (SlX.pe_propSl (E := E0) (pv 0) T.sC_Shape T.pa_Shape_chunks T.pg_Shape_chunks T.pt_Shape_chunks T.pr_Shape_chunks (fnr_of (ok_Shape_chunks T) T.b_Shape_chunks) (hr.mono (by decide)) (fun _ _ _ _ h => h.elim)) pe_int) pa_nil))))))
      (pss_one (ps_raise rfl (takes_of rfl rfl rfl rfl) (pmk_oex T.oc_NoPlace T.iC_NoPlace T.tI_NoPlace (ok_NoPlace_init T) (hr.mono (by decide)) T.b_NoPlace_init .nil pass0 (by rfl) T.g_NoPlace (pa_cons (pv 1) pa_nil))))
      pss_nil)
      (pss_cons (ps_set (i := 2) sc_Shape_pages_of.nd rfl (.inl rfl) (pe_op op_mul (pv 1) (SlX.pe_sl (pv 0))))
      (pss_one (ps_ret (pe_listRg rfl (by rfl) T.z_list (prg_2 (by rfl) T.z_range (pv 2) (pe_callB (call_min2 rfl) (by rfl) T.z_min (by decide +kernel) (pa_cons (pe_op op_add (pv 2) (SlX.pe_sl (pv 0))) (pa_cons (SlX.pe_sl (pv 0)) pa_nil))))))))), ?_⟩)
  · first | (obtain ⟨rfl, _⟩ := h; rfl) | (obtain ⟨_, rfl, _⟩ := h; rfl) | (obtain ⟨_, _, rfl, _⟩ := h; rfl) | (obtain ⟨_, _, _, rfl, _⟩ := h; rfl) | (obtain ⟨_, _, _, _, rfl, _⟩ := h; rfl) | (obtain ⟨_, _, _, _, _, rfl, _⟩ := h; rfl) | (obtain ⟨_, _, _, _, _, _, rfl, _⟩ := h; rfl) | (obtain ⟨_, _, _, _, _, _, _, rfl, _⟩ := h; rfl) | (obtain ⟨_, _, _, _, _, _, _, _, rfl, _⟩ := h; rfl) | (obtain ⟨_, _, _, _, _, _, _, _, _, rfl, _⟩ := h; rfl) | (obtain ⟨_, _, _, _, _, _, _, _, _, _, rfl, _⟩ := h; rfl) | (obtain ⟨_, _, _, _, _, _, _, _, _, _, _, rfl, _⟩ := h; rfl) | (obtain ⟨_, _, _, _, _, _, _, _, _, _, _, _, rfl, _⟩ := h; rfl) | (obtain ⟨_, _, _, _, _, _, _, _, _, _, _, _, _, rfl, _⟩ := h; rfl) | (obtain ⟨_, _, _, _, _, _, _, _, _, _, _, _, _, _, rfl, _⟩ := h; rfl)
  · obtain ⟨a, v, p, s1, c, l, rfl, hs, p1, p2, c1, c2, hv, k1, k2⟩ := h
    obtain ⟨dx, hx⟩ := id hs
    try dsimp only [cxOf, Cx.nox, Cx.wish]
    refine st_of (σ := [some _, some _, none]) rfl ?_
    walk_at "rd"
    refine ⟨a, dx, _, rfl, hx, a, p, s1, c, l, rfl, hs, p1, p2, c1, c2, ?_⟩
    walk_at "rd"
    refine ⟨v, 0, _, rfl, hv, ?_⟩
    walk_at "rd"
    cases hb : btw v 0 ((p + c - 1) / c - 1) with
    | false =>
      refine i_T rfl ?_
      refine c_mko ?_
      walk_at "rd"
      exact c_raise (k2 hb)
    | true =>
      refine i_F rfl ?_
      obtain ⟨i, rfl, i0, i1⟩ := btw_int hb
      have i31 : i ≤ 31 := by
        have := Int.ediv_le_self c (show 0 ≤ p + c - 1 by omega)
        omega
      have m0 : 0 ≤ i * c := Int.mul_nonneg i0 (by omega)
      have m1 : i * c ≤ 31 * 16 := Int.mul_le_mul i31 c2 (by omega) (by decide)
      walk_at "rd"
      refine ⟨a, T.C_Shape, dx, _, _, 0, _, rfl, hx, T.sC_Shape, T.sl_Shape_chunk, rfl, ?_⟩
      walk_at "rd"
      refine c_lstRg ?_
      refine c_rg2 ?_
      walk_at "rd"
      refine ⟨a, T.C_Shape, dx, _, _, 0, _, rfl, hx, T.sC_Shape, T.sl_Shape_chunk, rfl, ?_⟩
      walk_at "rd"
      refine ⟨a, T.C_Shape, dx, _, _, 2, _, rfl, hx, T.sC_Shape, T.sl_Shape_pages, rfl, ?_⟩
      walk_at "rd"
      refine ⟨_, _, rfl, rfl, RgOk.of_le m0 (by split <;> omega) (by omega) (by split <;> omega), fun q hq => alc _ hq (fun G1 r1 g1 => ?_)⟩
      exact k1 i rfl i0 i1 q G1 hq r1 g1
theorem ok_Shape_contains (T : Txt K mg) : FnOk P w K mg base CX0 2 T.a_Shape_contains T.d_Shape_contains ["self", "address"] (spHas K T.C_Shape) := by
  refine T.F_Shape_contains.ok sc_Shape_contains (fun vs H Q E h => ?_) (fun cdv A outer s H vs Q E hr h => ⟨_, (pss_cons (ps_if (PW.pt (pw_or (pt_not (pt_val (pe_callB call_isi (by rfl) T.z_isinstance (by decide +kernel) (pa_cons (pv 1) (pa_cons (pe_bltn (v := .ty "tuple") (by rfl) T.z_tuple (by decide +kernel) rfl) pa_nil))))) (pw_or1 (pt_cmpR op_ne (pe_callB call_len_seq (by rfl) T.z_len PySem.boot_len (pa_cons (pv 1) pa_nil)) pe_int (nomark _)))))
      (pss_one (ps_ret pe_bl))
      pss_nil)
      (pss_cons (ps_asg (pv 1) (pg_tup (by rfl) (pgs_cons (pg_name (i := 2) sc_Shape_contains.nd rfl (.inl rfl)) (pgs_cons (pg_name (i := 3) sc_Shape_contains.nd rfl (.inl rfl)) pgs_nil))))
      (pss_one (ps_ret (pe_and (pe_call (ok_is_between T) (hr.mono (by decide)) (by rfl) T.g_is_between T.F_is_between.kp T.b_is_between .nil pass0 (pa_cons (pv 2) (pa_cons pe_int (pa_cons (pe_op op_sub (SlX.pe_sl (pv 0)) pe_int) pa_nil)))) (pe_one (pe_call (ok_is_between T) (hr.mono (by decide)) (by rfl) T.g_is_between T.F_is_between.kp T.b_is_between .nil pass0 (pa_cons (pv 3) (pa_cons pe_int (pa_cons (pe_op op_sub (SlX.pe_sl (pv 0)) pe_int) pa_nil)))))))))), ?_⟩)
  · first | (obtain ⟨rfl, _⟩ := h; rfl) | (obtain ⟨_, rfl, _⟩ := h; rfl) | (obtain ⟨_, _, rfl, _⟩ := h; rfl) | (obtain ⟨_, _, _, rfl, _⟩ := h; rfl) | (obtain ⟨_, _, _, _, rfl, _⟩ := h; rfl) | (obtain ⟨_, _, _, _, _, rfl, _⟩ := h; rfl) | (obtain ⟨_, _, _, _, _, _, rfl, _⟩ := h; rfl) | (obtain ⟨_, _, _, _, _, _, _, rfl, _⟩ := h; rfl) | (obtain ⟨_, _, _, _, _, _, _, _, rfl, _⟩ := h; rfl) | (obtain ⟨_, _, _, _, _, _, _, _, _, rfl, _⟩ := h; rfl) | (obtain ⟨_, _, _, _, _, _, _, _, _, _, rfl, _⟩ := h; rfl) | (obtain ⟨_, _, _, _, _, _, _, _, _, _, _, rfl, _⟩ := h; rfl) | (obtain ⟨_, _, _, _, _, _, _, _, _, _, _, _, rfl, _⟩ := h; rfl) | (obtain ⟨_, _, _, _, _, _, _, _, _, _, _, _, _, rfl, _⟩ := h; rfl) | (obtain ⟨_, _, _, _, _, _, _, _, _, _, _, _, _, _, rfl, _⟩ := h; rfl)
  · obtain ⟨a, v, p, s1, c, l, rfl, hs, hv⟩ := h
    obtain ⟨dx, hx⟩ := id hs
    try dsimp only [cxOf, Cx.nox, Cx.wish]
    refine st_of (σ := [some _, some _, none, none]) rfl ?_
    obtain ⟨b, ha, k⟩ := hv
    cases ha with
    | non =>
      walk_at "go"
      exact k
    | lst h =>
      walk_at "go"
      exact k
    | odd h hl2 hs2 =>
      walk_at "go"
      exact k
    | two h h1 h2 =>
      walk_at "go"
      rename_i t x y
      refine ⟨a, T.C_Shape, dx, _, _, 2, _, rfl, hx, T.sC_Shape, T.sl_Shape_pages, rfl, ?_⟩
      walk_at "go"
      refine ⟨_, 0, p - 1, rfl, h1, ?_⟩
      walk_at "go"
      cases hb : btw x 0 (p - 1) with
      | false =>
        rw [hb, Bool.false_and] at k
        refine i_F rfl ?_
        exact k
      | true =>
        rw [hb, Bool.true_and] at k
        refine i_T rfl ?_
        walk_at "rd"
        refine ⟨a, T.C_Shape, dx, _, _, 3, _, rfl, hx, T.sC_Shape, T.sl_Shape_slots, rfl, ?_⟩
        walk_at "rd"
        exact ⟨_, 0, s1 - 1, rfl, h2, k⟩
theorem ok_Shape_addresses (T : Txt K mg) : FnOk P w K mg base CX0 1 T.a_Shape_addresses T.d_Shape_addresses ["self"] (spAddrs K T.C_Shape) := by
  refine T.F_Shape_addresses.ok sc_Shape_addresses (fun vs H Q E h => ?_) (fun cdv A outer s H vs Q E hr h => ⟨_, (pss_one (ps_ret (pe_lc2 (own := [("page", 1), ("slot", 2)]) (vs1 := [2]) (g := gName 1) (g1 := gName 2) (tt := tYes) (tt1 := tYes) rfl sc_Shape_addresses.nd (pi_range1 (by rfl) T.z_range (pa_cons (SlX.pe_sl (pv 0)) pa_nil)) (blkOk_by (own := [("page", 1), ("slot", 2)]) (N := N_Shape_addresses) (sc := defScope s_Shape_addresses) (by decide +kernel)) (by decide) (fun _ _ _ _ _ => pg_name (i := 1) sc_Shape_addresses.nd rfl (Or.inl rfl)) (fun _ _ _ _ _ => pts_nil) (fun _ _ _ _ _ => (pi_range1 (by rfl) T.z_range (pa_cons (pe_slB (pv 0)) pa_nil))) (fun _ _ _ _ _ => pg_name (i := 2) sc_Shape_addresses.nd rfl (Or.inl rfl)) (fun _ _ _ _ _ => pts_nil) (fun _ _ _ _ _ => (pe_tup (pa_cons (pv 1) (pa_cons (pv 2) pa_nil))))))), ?_⟩)
  · first | (obtain ⟨rfl, _⟩ := h; rfl) | (obtain ⟨_, rfl, _⟩ := h; rfl) | (obtain ⟨_, _, rfl, _⟩ := h; rfl) | (obtain ⟨_, _, _, rfl, _⟩ := h; rfl) | (obtain ⟨_, _, _, _, rfl, _⟩ := h; rfl) | (obtain ⟨_, _, _, _, _, rfl, _⟩ := h; rfl) | (obtain ⟨_, _, _, _, _, _, rfl, _⟩ := h; rfl) | (obtain ⟨_, _, _, _, _, _, _, rfl, _⟩ := h; rfl) | (obtain ⟨_, _, _, _, _, _, _, _, rfl, _⟩ := h; rfl) | (obtain ⟨_, _, _, _, _, _, _, _, _, rfl, _⟩ := h; rfl) | (obtain ⟨_, _, _, _, _, _, _, _, _, _, rfl, _⟩ := h; rfl) | (obtain ⟨_, _, _, _, _, _, _, _, _, _, _, rfl, _⟩ := h; rfl) | (obtain ⟨_, _, _, _, _, _, _, _, _, _, _, _, rfl, _⟩ := h; rfl) | (obtain ⟨_, _, _, _, _, _, _, _, _, _, _, _, _, rfl, _⟩ := h; rfl) | (obtain ⟨_, _, _, _, _, _, _, _, _, _, _, _, _, _, rfl, _⟩ := h; rfl)
  · obtain ⟨a, p, s1, c, l, rfl, hs, p1, p2, c1, c2, k⟩ := h
    obtain ⟨dx, hx⟩ := id hs
    try dsimp only [cxOf, Cx.nox, Cx.wish]
    refine st_of (σ := [some _, none, none]) rfl ?_
    walk_at "rd"
    refine c_lc2 ?_
    refine c_iRng1 ?_
    walk_at "rd"
    refine ⟨a, T.C_Shape, dx, _, _, 2, _, rfl, hx, T.sC_Shape, T.sl_Shape_pages, rfl, ?_⟩
    walk_at "rd"
    refine ⟨by omega, by omega, fun D hD => walkR (lo := 0) (n := p.toNat) (fun i G => Same H G ∧ ∃ xs, G D = some (.lst xs) ∧ Pr2 K G xs (grid i s1.toNat)) ?_ ?_ ?_⟩
    · exact ⟨same_new (Same.refl _) hD, [], upd_same, rfl, fun i x h => by simp at h⟩
    · rintro i G hi ⟨sG, xs, gD, pr⟩
      walk_at "rd"
      refine ⟨rfl, ?_⟩
      walk_at "rd"
      refine c_iRng1 ?_
      walk_at "rd"
      have hxG := Slt_same hx sG
      refine ⟨a, T.C_Shape, dx, _, _, 3, _, rfl, hxG, T.sC_Shape, T.sl_Shape_slots, rfl, ?_⟩
      walk_at "rd"
      refine ⟨by omega, by omega, walkR (lo := 0) (n := s1.toNat) (fun j G3 => Same H G3 ∧ ∃ xs, G3 D = some (.lst xs) ∧ Pr2 K G3 xs (grid i s1.toNat ++ row1 (i : Int) j)) ?_ ?_ ?_⟩
      · exact ⟨sG, xs, gD, by simpa [row1] using pr⟩
      · rintro j G3 hj ⟨s3, ys, gD3, pr3⟩
        walk_at "rd"
        refine ⟨rfl, ?_⟩
        walk_at "rd"
        refine fun t ht => alc _ ht (fun G4 s4 g4 => ?_)
        have hlen : ys.length ≤ 200 := by
          rw [pr3.1, List.length_append, grid_len, row1_len]
          have h1 : i * s1.toNat ≤ 16 * 8 := Nat.mul_le_mul (by omega) (by omega)
          omega
        have pr4 : Pr2 K G4 (ys ++ [.ref t]) (grid i s1.toNat ++ row1 (i : Int) (j + 1)) := by
          rw [row1_succ, ← List.append_assoc]
          exact (pr3.keep (.same s4)).snoc (sqt (by simpa using g4))
        exact ⟨ys, s4 _ _ gD3, smallLt (by omega), same_mut (s3.trans s4) hD, _, upd_same, pr4.keep (Tp.lst (Tp.refl _) (s4 _ _ gD3))⟩
      · rintro G3 ⟨s3, ys, gD3, pr3⟩
        rw [← grid_succ] at pr3
        exact ⟨s3, ys, gD3, pr3⟩
    · rintro G ⟨sG, xs, gD, pr⟩
      exact k D xs G hD sG gD pr
end

/-- a value that is no page (chunk) -/
def spNoPage (K : PySem.W.Frag) : Sp := fun vs H Q _ => ∃ (S L : Addr) (ns : List Int) (m : Int), vs = [.ref S, .int m] ∧ Strm S L ns H ∧ 1 ≤ m ∧ m ≤ 16 ∧
  ∀ v n H', Ex S H H' → Strm S L ns H' → Al K (Nw H H') v v n → n ≤ 4 → btw v 0 (m - 1) = false → Q v H'
theorem al_knd {K : PySem.W.Frag} {H : Hp} {v : V} {n : Nat} (h : Al K H v v n) : Knd K H v := by
  cases h with
  | non => exact .non
  | bl b => exact .bl b
  | int i => exact .int i
  | str s => exact .str s
  | lst h1 h2 h => exact .lst h1
  | tup h1 h2 h => exact .tup h1
def spStray (K : PySem.W.Frag) : Sp := fun vs H Q _ => ∃ (S L : Addr) (ns : List Int) (p s : Int), vs = [.ref S, .int p, .int s] ∧ Strm S L ns H ∧ 1 ≤ p ∧ p ≤ 16 ∧ 1 ≤ s ∧ s ≤ 8 ∧
  ∀ v b H', Ex S H H' → Strm S L ns H' → Adr K H' p s v b → b = false → Q v H'
def spPlaceRef (K : PySem.W.Frag) (C : Addr) : Sp := fun vs H Q _ => ∃ (a : Addr) (v : V) (w p s c l : Int), vs = [.ref a, v, .int w] ∧ Shp H C a p s c l ∧ 1 ≤ p ∧ p ≤ 16 ∧ 1 ≤ c ∧ c ≤ 16 ∧ Knd K H v ∧ (w = 0 → btw v 0 (p - 1) = false) ∧ (w ≠ 0 → btw v 0 ((p + c - 1) / c - 1) = false) ∧
  ∀ q H', H q = none → Same H H' → H' q = some (.lst [v, .bl true, .bl false]) → Q (.ref q) H'
section
variable {P : Program} {w : World} {K : PySem.W.Frag} {mg : Str → Option Value} {base : Heap}
theorem ok_no_page (T : Txt K mg) : FnOk P w K mg base CX0 2 T.a_no_page T.d_no_page ["_law_stream_here", "_law_most"] (spNoPage K) := by
  refine T.F_no_page.ok sc__law_no_page (fun vs H Q E h => ?_) (fun cdv A outer s H vs Q E hr h => ⟨_, (pss_cons (ps_set (i := 2) sc__law_no_page.nd rfl (.inl rfl) (pe_call (ok_draw T) (hr.mono (by decide)) (by rfl) T.g_draw T.F_draw.kp T.b_draw .nil pass0 (pa_cons (pv 0) (pa_cons pe_int pa_nil))))
      (pss_cons (ps_set (i := 3) sc__law_no_page.nd rfl (.inl rfl) (pe_op op_mul (pe_call (ok_draw T) (hr.mono (by decide)) (by rfl) T.g_draw T.F_draw.kp T.b_draw .nil pass0 (pa_cons (pv 0) (pa_cons (pe_op op_pow pe_int pe_int) pa_nil))) (pe_call (ok_draw T) (hr.mono (by decide)) (by rfl) T.g_draw T.F_draw.kp T.b_draw .nil pass0 (pa_cons (pv 0) (pa_cons pe_int pa_nil)))))
      (pss_cons (ps_if (pt_cmpR op_eq (pv 2) pe_int (nomark _))
      (pss_one (ps_ret (pv 1)))
      pss_nil)
      (pss_cons (ps_if (pt_cmpR op_eq (pv 2) pe_int (nomark _))
      (pss_one (ps_ret (pe_op op_sub (pe_un un_neg pe_int) (pv 3))))
      pss_nil)
      (pss_cons (ps_if (pt_cmpR op_eq (pv 2) pe_int (nomark _))
      (pss_one (ps_ret (pe_op op_add (pe_op op_add (pv 1) pe_int) (pv 3))))
      pss_nil)
      (pss_cons (ps_if (pt_cmpR op_eq (pv 2) pe_int (nomark _))
      (pss_one (ps_ret pe_bl))
      pss_nil)
      (pss_cons (ps_if (pt_cmpR op_eq (pv 2) pe_int (nomark _))
      (pss_one (ps_ret pe_non))
      pss_nil)
      (pss_cons (ps_if (pt_cmpR op_eq (pv 2) pe_int (nomark _))
      (pss_one (ps_ret pe_str))
      pss_nil)
      (pss_cons (ps_if (pt_cmpR op_eq (pv 2) pe_int (nomark _))
      (pss_one (ps_ret (pe_lst (pa_cons pe_int pa_nil))))
      pss_nil)
      (pss_one (ps_ret (pe_tup (pa_cons pe_int (pa_cons pe_int pa_nil)))))))))))))), ?_⟩)
  · first | (obtain ⟨rfl, _⟩ := h; rfl) | (obtain ⟨_, rfl, _⟩ := h; rfl) | (obtain ⟨_, _, rfl, _⟩ := h; rfl) | (obtain ⟨_, _, _, rfl, _⟩ := h; rfl) | (obtain ⟨_, _, _, _, rfl, _⟩ := h; rfl) | (obtain ⟨_, _, _, _, _, rfl, _⟩ := h; rfl) | (obtain ⟨_, _, _, _, _, _, rfl, _⟩ := h; rfl) | (obtain ⟨_, _, _, _, _, _, _, rfl, _⟩ := h; rfl) | (obtain ⟨_, _, _, _, _, _, _, _, rfl, _⟩ := h; rfl) | (obtain ⟨_, _, _, _, _, _, _, _, _, rfl, _⟩ := h; rfl) | (obtain ⟨_, _, _, _, _, _, _, _, _, _, rfl, _⟩ := h; rfl) | (obtain ⟨_, _, _, _, _, _, _, _, _, _, _, rfl, _⟩ := h; rfl) | (obtain ⟨_, _, _, _, _, _, _, _, _, _, _, _, rfl, _⟩ := h; rfl) | (obtain ⟨_, _, _, _, _, _, _, _, _, _, _, _, _, rfl, _⟩ := h; rfl) | (obtain ⟨_, _, _, _, _, _, _, _, _, _, _, _, _, _, rfl, _⟩ := h; rfl)
  · obtain ⟨S, L, ns, m, rfl, st, m1, m2, k⟩ := h
    try dsimp only [cxOf, Cx.nox, Cx.wish]
    refine st_of (σ := [some _, some _, none, none]) rfl ?_
    walk_at "rd"
    refine use_draw st (by decide) (by decide) (fun kd H1 k0 k1 xa sta => ?_)
    walk_at "rd"
    refine use_draw sta (by decide) (by decide) (fun fr H2 f0 f1 xb stb => ?_)
    walk_at "rd"
    refine use_draw stb (by decide) (by decide) (fun fs H3 g0 g1 xc stc => ?_)
    have x3 := (xa.trans xb).trans xc
    have n0 : 0 ≤ fr * fs := Int.mul_nonneg f0 g0
    have out : ∀ v n, Al K (Nw H H3) v v n → n ≤ 4 → btw v 0 (m - 1) = false → Q v H3 := fun v n h1 h2 h3 => k v n H3 x3 stc h1 h2 h3
    walk_at "rd"
    refine i_d (fun e => ?_) (fun e0 => ?_)
    · walk_at "rd"
      exact out _ 1 (.int _) (by decide) (by simp [btw]; omega)
    walk_at "rd"
    refine i_d (fun e => ?_) (fun e1 => ?_)
    · walk_at "rd"
      exact out _ 1 (.int _) (by decide) (by simp [btw]; omega)
    walk_at "rd"
    refine i_d (fun e => ?_) (fun e2 => ?_)
    · walk_at "rd"
      exact out _ 1 (.int _) (by decide) (by simp [btw]; omega)
    walk_at "rd"
    refine i_d (fun e => ?_) (fun e3 => ?_)
    · walk_at "rd"
      exact out _ 1 (.bl _) (by decide) rfl
    walk_at "rd"
    refine i_d (fun e => ?_) (fun e4 => ?_)
    · walk_at "rd"
      exact out _ 1 .non (by decide) rfl
    walk_at "rd"
    refine i_d (fun e => ?_) (fun e5 => ?_)
    · walk_at "rd"
      exact out _ 1 (.str _) (by decide) rfl
    walk_at "rd"
    refine i_d (fun e => ?_) (fun e6 => ?_)
    · walk_at "rd"
      refine fun q hq => alc _ hq (fun G r1 g1 => ?_)
      have gN : (Nw H G) q = _ := Nw.of g1 (x3.free (stc.neS hq) hq)
      exact k _ _ G (x3.trans (fun a o _ h => r1 a o h)) (stc.same r1) (.lst (sql gN) (sql gN) (.cons (.int _) .nil)) (by decide) rfl
    walk_at "rd"
    refine fun q hq => alc _ hq (fun G r1 g1 => ?_)
    have gN : (Nw H G) q = _ := Nw.of g1 (x3.free (stc.neS hq) hq)
    exact k _ _ G (x3.trans (fun a o _ h => r1 a o h)) (stc.same r1) (.tup (sqt gN) (sqt gN) (.cons (.int _) (.cons (.int _) .nil))) (by decide) rfl
theorem ok_stray (T : Txt K mg) : FnOk P w K mg base CX0 2 T.a_stray T.d_stray ["_law_stream_here", "_law_pages", "_law_slots"] (spStray K) := by
  refine T.F_stray.ok sc__law_stray (fun vs H Q E h => ?_) (fun cdv A outer s H vs Q E hr h => ⟨_, (pss_cons (ps_set (i := 3) sc__law_stray.nd rfl (.inl rfl) (pe_call (ok_draw T) (hr.mono (by decide)) (by rfl) T.g_draw T.F_draw.kp T.b_draw .nil pass0 (pa_cons (pv 0) (pa_cons pe_int pa_nil))))
      (pss_cons (ps_set (i := 4) sc__law_stray.nd rfl (.inl rfl) (pe_call (ok_draw T) (hr.mono (by decide)) (by rfl) T.g_draw T.F_draw.kp T.b_draw .nil pass0 (pa_cons (pv 0) (pa_cons (pv 1) pa_nil))))
      (pss_cons (ps_set (i := 5) sc__law_stray.nd rfl (.inl rfl) (pe_call (ok_draw T) (hr.mono (by decide)) (by rfl) T.g_draw T.F_draw.kp T.b_draw .nil pass0 (pa_cons (pv 0) (pa_cons (pv 2) pa_nil))))
      (pss_cons (ps_if (pt_cmpR op_eq (pv 3) pe_int (nomark _))
      (pss_one (ps_ret (pe_tup (pa_cons (pv 1) (pa_cons (pv 5) pa_nil)))))
      pss_nil)
      (pss_cons (ps_if (pt_cmpR op_eq (pv 3) pe_int (nomark _))
      (pss_one (ps_ret (pe_tup (pa_cons (pv 4) (pa_cons (pv 2) pa_nil)))))
      pss_nil)
      (pss_cons (ps_if (pt_cmpR op_eq (pv 3) pe_int (nomark _))
      (pss_one (ps_ret (pe_tup (pa_cons (pe_op op_sub (pe_un un_neg pe_int) (pv 4)) (pa_cons (pv 5) pa_nil)))))
      pss_nil)
      (pss_cons (ps_if (pt_cmpR op_eq (pv 3) pe_int (nomark _))
      (pss_one (ps_ret (pe_tup (pa_cons (pv 4) (pa_cons (pe_op op_sub (pe_un un_neg pe_int) (pv 5)) pa_nil)))))
      pss_nil)
      (pss_cons (ps_if (pt_cmpR op_eq (pv 3) pe_int (nomark _))
      (pss_one (ps_ret (pe_tup (pa_cons (pv 4) (pa_cons (pv 5) (pa_cons pe_int pa_nil))))))
      pss_nil)
      (pss_cons (ps_if (pt_cmpR op_eq (pv 3) pe_int (nomark _))
      (pss_one (ps_ret (pe_lst (pa_cons (pv 4) (pa_cons (pv 5) pa_nil)))))
      pss_nil)
      (pss_cons (ps_if (pt_cmpR op_eq (pv 3) pe_int (nomark _))
      (pss_one (ps_ret (pe_tup (pa_cons (pv 4) (pa_cons pe_non pa_nil)))))
      pss_nil)
      (pss_cons (ps_if (pt_cmpR op_eq (pv 3) pe_int (nomark _))
      (pss_one (ps_ret (pe_ix ix_list (pe_lst (pa_cons (pe_tup (pa_cons (pv 4) (pa_cons pe_bl pa_nil))) (pa_cons (pe_tup (pa_cons pe_bl (pa_cons (pv 5) pa_nil))) pa_nil))) (pe_op op_mod (pe_callTy call_int1 (by rfl) T.z_int (by decide +kernel) (pa_cons (pv 5) pa_nil)) pe_int) (fun _ _ => rfl))))
      pss_nil)
      (pss_one (ps_ret pe_non))))))))))))), ?_⟩)
  · first | (obtain ⟨rfl, _⟩ := h; rfl) | (obtain ⟨_, rfl, _⟩ := h; rfl) | (obtain ⟨_, _, rfl, _⟩ := h; rfl) | (obtain ⟨_, _, _, rfl, _⟩ := h; rfl) | (obtain ⟨_, _, _, _, rfl, _⟩ := h; rfl) | (obtain ⟨_, _, _, _, _, rfl, _⟩ := h; rfl) | (obtain ⟨_, _, _, _, _, _, rfl, _⟩ := h; rfl) | (obtain ⟨_, _, _, _, _, _, _, rfl, _⟩ := h; rfl) | (obtain ⟨_, _, _, _, _, _, _, _, rfl, _⟩ := h; rfl) | (obtain ⟨_, _, _, _, _, _, _, _, _, rfl, _⟩ := h; rfl) | (obtain ⟨_, _, _, _, _, _, _, _, _, _, rfl, _⟩ := h; rfl) | (obtain ⟨_, _, _, _, _, _, _, _, _, _, _, rfl, _⟩ := h; rfl) | (obtain ⟨_, _, _, _, _, _, _, _, _, _, _, _, rfl, _⟩ := h; rfl) | (obtain ⟨_, _, _, _, _, _, _, _, _, _, _, _, _, rfl, _⟩ := h; rfl) | (obtain ⟨_, _, _, _, _, _, _, _, _, _, _, _, _, _, rfl, _⟩ := h; rfl)
  · obtain ⟨S, L, ns, p, s1, rfl, st, p1, p2, q1, q2, k⟩ := h
    try dsimp only [cxOf, Cx.nox, Cx.wish]
    refine st_of (σ := [some _, some _, some _, none, none, none]) rfl ?_
    walk_at "rd"
    refine use_draw st (by decide) (by decide) (fun kd H1 k0 k1 xa sta => ?_)
    walk_at "rd"
    refine use_draw sta (by omega) (by omega) (fun pg H2 f0 f1 xb stb => ?_)
    walk_at "rd"
    refine use_draw stb (by omega) (by omega) (fun sl H3 g0 g1 xc stc => ?_)
    have x3 := (xa.trans xb).trans xc
    have two : ∀ (G : Hp) (q : Addr) (x y : V), Same H3 G → G q = some (.tup [x, y]) → Knd K G x → Knd K G y → (btw x 0 (p - 1) && btw y 0 (s1 - 1)) = false → Q (.ref q) G := fun G q x y r1 g1 hx hy hb => k _ _ G (x3.trans (fun a o _ h => r1 a o h)) (stc.same r1) (.two (sqt g1) hx hy) hb
    walk_at "rd"
    refine i_d (fun e => ?_) (fun e0 => ?_)
    · walk_at "rd"
      refine fun q hq => alc _ hq (fun G r1 g1 => ?_)
      exact two G q _ _ r1 g1 (.int _) (.int _) (by simp [btw]; omega)
    walk_at "rd"
    refine i_d (fun e => ?_) (fun e1 => ?_)
    · walk_at "rd"
      refine fun q hq => alc _ hq (fun G r1 g1 => ?_)
      exact two G q _ _ r1 g1 (.int _) (.int _) (by simp [btw]; omega)
    walk_at "rd"
    refine i_d (fun e => ?_) (fun e2 => ?_)
    · walk_at "rd"
      refine fun q hq => alc _ hq (fun G r1 g1 => ?_)
      exact two G q _ _ r1 g1 (.int _) (.int _) (by simp [btw]; omega)
    walk_at "rd"
    refine i_d (fun e => ?_) (fun e3 => ?_)
    · walk_at "rd"
      refine fun q hq => alc _ hq (fun G r1 g1 => ?_)
      exact two G q _ _ r1 g1 (.int _) (.int _) (by simp [btw]; omega)
    walk_at "rd"
    refine i_d (fun e => ?_) (fun e4 => ?_)
    · walk_at "rd"
      refine fun q hq => alc _ hq (fun G r1 g1 => ?_)
      exact k _ _ G (x3.trans (fun a o _ h => r1 a o h)) (stc.same r1) (.odd (sqt g1) (by simp) (by simp)) rfl
    walk_at "rd"
    refine i_d (fun e => ?_) (fun e5 => ?_)
    · walk_at "rd"
      refine fun q hq => alc _ hq (fun G r1 g1 => ?_)
      exact k _ _ G (x3.trans (fun a o _ h => r1 a o h)) (stc.same r1) (.lst (sql g1)) rfl
    walk_at "rd"
    refine i_d (fun e => ?_) (fun e6 => ?_)
    · walk_at "rd"
      refine fun q hq => alc _ hq (fun G r1 g1 => ?_)
      exact two G q _ _ r1 g1 (.int _) .non (by simp [btw])
    walk_at "rd"
    refine i_d (fun e => ?_) (fun e7 => ?_)
    · walk_at "rd"
      refine fun q1 h1 => alc _ h1 (fun G1 r1 g1 => ?_)
      walk_at "rd"
      refine fun q2 h2 => alc _ h2 (fun G2 r2 g2 => ?_)
      walk_at "rd"
      refine fun q3 h3 => alc _ h3 (fun G3 r3 g3 => ?_)
      walk_at "rd"
      obtain hm | hm : sl % 2 = 0 ∨ sl % 2 = 1 := by omega
      · rw [hm]
        walk_at "rd"
        exact two G3 q1 _ _ ((r1.trans r2).trans r3) (r3 _ _ (r2 _ _ g1)) (.int _) (.bl _) (by simp [btw])
      · rw [hm]
        walk_at "rd"
        exact two G3 q2 _ _ ((r1.trans r2).trans r3) (r3 _ _ g2) (.bl _) (.int _) (by simp [btw])
    walk_at "rd"
    exact k _ _ H3 x3 stc .non rfl
theorem ok_place_refused (T : Txt K mg) : FnOk P w K mg base CX0 6 T.a_place_refused T.d_place_refused ["_law_shape", "_law_value", "_law_way"] (spPlaceRef K T.C_Shape) := by
  refine T.F_place_refused.ok sc__law_place_refused (fun vs H Q E h => ?_) (fun cdv A outer s H vs Q E hr h => ⟨_, (pss_cons (ps_set (i := 3) sc__law_place_refused.nd rfl (.inl rfl) (pe_lst pa_nil))
      (pss_cons (ps_try_as (i := 4) rfl rfl sc__law_place_refused.nd rfl rfl ⟨rfl, by decide, .inl T.g_NoPlace⟩ takes0 (fun W pn xe tk po => (pss_one (ps_if (pt_cmpR op_eq (pv 2) pe_int (nomark _))
      (pss_one (ps_expr (pe_methS (pv 0) T.sC_Shape T.me_Shape_chunk_of (fnr_of (ok_Shape_chunk_of T) T.b_Shape_chunk_of) (hr.mono (by decide)) (fun σ => passAt tk σ) (pa_cons (pv 1) pa_nil))))
      (pss_one (ps_expr (pe_methS (pv 0) T.sC_Shape T.me_Shape_pages_of (fnr_of (ok_Shape_pages_of T) T.b_Shape_pages_of) (hr.mono (by decide)) (fun σ => passAt tk σ) (pa_cons (pv 1) pa_nil)))))))
      (fun a oe cls d pn hz hf => (pss_one (ps_set (i := 3) sc__law_place_refused.nd rfl (.inl rfl) (pe_lst (pa_cons (pe_xf T.xf_NoPlace T.no_NoPlace hz hf (pv 4)) (pa_cons (pe_callB (call_isX T.is_NoPlace hz hf) (by rfl) T.z_isinstance (by decide +kernel) (pa_cons (pv 4) (pa_cons (pe_glob (v := .ref T.C_PagesError) rfl T.g_PagesError rfl) pa_nil))) (pa_cons (pe_callB (call_isX T.is_NoPlace hz hf) (by rfl) T.z_isinstance (by decide +kernel) (pa_cons (pv 4) (pa_cons (pe_glob (v := .ref T.C_BadShape) rfl T.g_BadShape rfl) pa_nil))) pa_nil))))))))
      (pss_one (ps_ret (pv 3))))), ?_⟩)
  · first | (obtain ⟨rfl, _⟩ := h; rfl) | (obtain ⟨_, rfl, _⟩ := h; rfl) | (obtain ⟨_, _, rfl, _⟩ := h; rfl) | (obtain ⟨_, _, _, rfl, _⟩ := h; rfl) | (obtain ⟨_, _, _, _, rfl, _⟩ := h; rfl) | (obtain ⟨_, _, _, _, _, rfl, _⟩ := h; rfl) | (obtain ⟨_, _, _, _, _, _, rfl, _⟩ := h; rfl) | (obtain ⟨_, _, _, _, _, _, _, rfl, _⟩ := h; rfl) | (obtain ⟨_, _, _, _, _, _, _, _, rfl, _⟩ := h; rfl) | (obtain ⟨_, _, _, _, _, _, _, _, _, rfl, _⟩ := h; rfl) | (obtain ⟨_, _, _, _, _, _, _, _, _, _, rfl, _⟩ := h; rfl) | (obtain ⟨_, _, _, _, _, _, _, _, _, _, _, rfl, _⟩ := h; rfl) | (obtain ⟨_, _, _, _, _, _, _, _, _, _, _, _, rfl, _⟩ := h; rfl) | (obtain ⟨_, _, _, _, _, _, _, _, _, _, _, _, _, rfl, _⟩ := h; rfl) | (obtain ⟨_, _, _, _, _, _, _, _, _, _, _, _, _, _, rfl, _⟩ := h; rfl)
  · obtain ⟨a, v, w0, p, s1, c, l, rfl, hs, p1, p2, c1, c2, hv, b1, b2, k⟩ := h
    try dsimp only [cxOf, Cx.nox, Cx.wish]
    refine st_of (σ := [some _, some _, some _, none, none]) rfl ?_
    walk_at "rd"
    refine fun l0 hl0 => alc _ hl0 (fun H1 r1 g1 => ?_)
    have hs1 := hs.same r1
    walk_at "rd"
    refine i_d (fun e => ?_) (fun e => ?_)
    · obtain ⟨dx, hx⟩ := id hs1
      walk_at "rd"
      refine ⟨a, dx, _, rfl, hx, ?_⟩
      walk_at "rd"
      refine ⟨a, v, p, s1, c, l, rfl, hs1, p1, p2, c1, c2, hv.same r1, fun i e0 i0 i1 => ?_, fun _ d H2 hd r2 hxd => ?_⟩
      · have z := b1 e
        rw [e0] at z
        simp [btw] at z
        omega
      · refine ⟨true, T.te_NoPlace_NoPlace, fun _ a0 h0 => ?_, fun q => Bool.noConfusion q⟩
        dsimp only [List.set]
        walk_at "rd"
        refine ⟨rfl, rfl, d, _, v, rfl, hxd, rfl, ?_⟩
        walk_at "rd"
        refine ⟨_, _, true, d, _, rfl, rfl, rfl, hxd, (fun u r => r), T.kit_NoPlace_PagesError, ?_⟩
        walk_at "rd"
        refine ⟨_, _, false, d, _, rfl, rfl, rfl, hxd, (fun u r => r), T.kit_NoPlace_BadShape, ?_⟩
        walk_at "rd"
        refine fun q hq => alc _ hq (fun G r3 g3 => ?_)
        walk_at "rd"
        exact k q G ((r1.trans r2).free hq) ((r1.trans r2).trans r3) g3
    · obtain ⟨dx, hx⟩ := id hs1
      walk_at "rd"
      refine ⟨a, dx, _, rfl, hx, ?_⟩
      walk_at "rd"
      refine ⟨a, v, p, s1, c, l, rfl, hs1, p1, p2, c1, c2, hv.same r1, fun i e0 i0 i1 => ?_, fun _ d H2 hd r2 hxd => ?_⟩
      · have z := b2 e
        rw [e0] at z
        simp [btw] at z
        omega
      · refine ⟨true, T.te_NoPlace_NoPlace, fun _ a0 h0 => ?_, fun q => Bool.noConfusion q⟩
        dsimp only [List.set]
        walk_at "rd"
        refine ⟨rfl, rfl, d, _, v, rfl, hxd, rfl, ?_⟩
        walk_at "rd"
        refine ⟨_, _, true, d, _, rfl, rfl, rfl, hxd, (fun u r => r), T.kit_NoPlace_PagesError, ?_⟩
        walk_at "rd"
        refine ⟨_, _, false, d, _, rfl, rfl, rfl, hxd, (fun u r => r), T.kit_NoPlace_BadShape, ?_⟩
        walk_at "rd"
        refine fun q hq => alc _ hq (fun G r3 g3 => ?_)
        walk_at "rd"
        exact k q G ((r1.trans r2).free hq) ((r1.trans r2).trans r3) g3
end

/-! ### pages of chunks -/
theorem rgV_succ {a b : Int} (h : a ≤ b) : rgV a (b + 1) = rgV a b ++ [.int b] := by
  unfold rgV
  rw [show (b + 1 - a).toNat = (b - a).toNat + 1 by omega, List.range_succ, List.map_append]
  simp only [List.map_cons, List.map_nil]
  rw [show a + ((b - a).toNat : Int) = b by omega]
theorem rgV_nil {a b : Int} (h : b ≤ a) : rgV a b = [] := by
  unfold rgV
  rw [show (b - a).toNat = 0 by omega]
  rfl
theorem rgV_app {a : Int} (h0 : 0 ≤ a) : ∀ n : Nat, rgV 0 a ++ rgV a (a + n) = rgV 0 (a + n)
  | 0 => by
    rw [show a + ((0 : Nat) : Int) = a by omega, rgV_nil (Int.le_refl a), List.append_nil]
  | n + 1 => by
    rw [show a + ((n + 1 : Nat) : Int) = (a + n) + 1 by omega, rgV_succ (by omega), rgV_succ (by omega), ← List.append_assoc, rgV_app h0 n]
def mn (a b : Int) : Int := if b < a then b else a
theorem div_is {i c g : Int} (hg : 0 < g) : i / g = c ↔ c * g ≤ i ∧ i < c * g + g := by
  have h1 := Int.le_ediv_iff_mul_le (a := c) (b := i) hg
  have h2 := Int.ediv_lt_iff_lt_mul (a := i) (b := c + 1) hg
  rw [show (c + 1) * g = c * g + g by rw [Int.add_mul, Int.one_mul]] at h2
  omega
theorem pg_step {c g : Int} (hg : 0 < g) (i : Nat) : rgV (c * g) (mn (c * g + g) ((i + 1 : Nat) : Int)) = rgV (c * g) (mn (c * g + g) (i : Int)) ++ (if (i : Int) / g = c then [.int (i : Int)] else []) := by
  have h := div_is (i := (i : Int)) (c := c) hg
  generalize c * g = m at h ⊢
  unfold mn
  by_cases e : (i : Int) / g = c
  · obtain ⟨h1, h2⟩ := h.mp e
    rw [if_pos e]
    by_cases z : ((i + 1 : Nat) : Int) < m + g
    · rw [if_pos z, if_pos h2, show ((i + 1 : Nat) : Int) = (i : Int) + 1 by omega, rgV_succ h1]
    · rw [if_neg z, if_pos h2, show m + g = (i : Int) + 1 by omega, rgV_succ h1]
  · rw [if_neg e, List.append_nil]
    have h3 : ¬ (m ≤ (i : Int) ∧ (i : Int) < m + g) := fun q => e (h.mpr q)
    by_cases z : (i : Int) < m
    · rw [rgV_nil (by split <;> omega), rgV_nil (by split <;> omega)]
    · rw [if_neg (by omega), if_neg (by omega)]
theorem als_ints {K : PySem.W.Frag} {H : Hp} : ∀ {xs : List V}, (∀ x ∈ xs, ∃ i, x = V.int i) → Als K H xs xs xs.length
  | [], _ => .nil
  | x :: xs, h => by
    obtain ⟨i, rfl⟩ := h x List.mem_cons_self
    rw [List.length_cons, Nat.add_comm]
    exact .cons (.int i) (als_ints fun y hy => h y (List.mem_cons_of_mem _ hy))
theorem rg_ints {a b : Int} : ∀ x ∈ rgV a b, ∃ i, x = V.int i := fun x hx => by
  unfold rgV at hx
  obtain ⟨j, _, rfl⟩ := List.mem_map.mp hx
  exact ⟨_, rfl⟩
@[elab_as_elim] theorem mus {H0 H : Hp} {p : Addr} {P : Hp → Prop} (o : HO) (s : Same H0 H) (h : H0 p = none) (k : ∀ H', Same H0 H' → P H') : P (upd H p o) := k _ (same_mut s h)
def dInts (n : Nat) : PyData := .list ((List.range n).map fun i => PyData.int (0 + (i : Nat)))
theorem dInts_shaped : ∀ n : Nat, n ≤ 16 → SeqAt.shaped (dInts n) = true := by
  have h : (List.range 17).all (fun n => SeqAt.shaped (dInts n)) = true := by decide +kernel
  intro n hn
  exact List.all_eq_true.mp h n (List.mem_range.mpr (by omega))
theorem dpAll_map {K : PySem.W.Frag} {H : Hp} {α : Type} {f : α → V} {g : α → PyData} (h : ∀ x, Dp K H (f x) (g x)) : ∀ l : List α, DpAll K H (l.map f) (l.map g)
  | [] => .nil
  | x :: l => .cons (h x) (dpAll_map h l)
theorem dp_rg {K : PySem.W.Frag} {H : Hp} {a : Addr} {n : Int} (h : SqL K H a (rgV 0 n)) : Dp K H (.ref a) (dInts (n - 0).toNat) := .lst h (dpAll_map (fun i => .int _) _)
def spWrong (K : PySem.W.Frag) (C : Addr) : Sp := fun vs H Q _ => ∃ (a : Addr) (p s g l n : Int), vs = [.ref a, .int p, .int g, .int n] ∧ Shp H C a p s g l ∧ 1 ≤ p ∧ p ≤ 16 ∧ 1 ≤ g ∧ g ≤ 16 ∧ n = (p + g - 1) / g ∧ ∀ H', Same H H' → Q (.bl false) H'
section
variable {P : Program} {w : World} {K : PySem.W.Frag} {mg : Str → Option Value} {base : Heap}
theorem ok_chunks_wrong (T : Txt K mg) : FnOk P w K mg base CX0 6 T.a_chunks_wrong T.d_chunks_wrong ["_law_shape", "_law_pages", "_law_group", "_law_count"] (spWrong K T.C_Shape) := by
  refine T.F_chunks_wrong.ok sc__law_chunks_wrong (fun vs H Q E h => ?_) (fun cdv A outer s H vs Q E hr h => ⟨_, (pss_cons (ps_set (i := 4) sc__law_chunks_wrong.nd rfl (.inl rfl) (pe_lst pa_nil))
      (pss_cons (ps_for PassesOwn.never rfl (pi_range1 (by rfl) T.z_range (pa_cons (pv 3) pa_nil)) (pg_name (i := 5) sc__law_chunks_wrong.nd rfl (.inr rfl))
      (pss_cons (ps_setLc (i := 7) (own := [("_law_p", 6)]) (g := gName 6) rfl sc__law_chunks_wrong.nd rfl rfl (sw_true rfl rfl rfl (by decide +kernel)) (pi_range1 (by rfl) T.z_range (pa_cons (pv 1) pa_nil)) (blkOk_by (own := [("_law_p", 6)]) (N := N__law_chunks_wrong) (sc := defScope s__law_chunks_wrong) (by decide +kernel)) (fun _ _ _ _ _ => pg_name (i := 6) sc__law_chunks_wrong.nd rfl (Or.inl rfl)) (fun _ _ _ _ _ => pts_one (pt_cmpR op_eq (pe_op op_fdivW (pv 6) (pv 2)) (pv 5) (nomark _))) (fun _ _ _ _ _ => (pv 6)))
      (pss_cons (ps_set (i := 8) sc__law_chunks_wrong.nd rfl (.inl rfl) (pe_methS (pv 0) T.sC_Shape T.me_Shape_pages_of (fnr_of (ok_Shape_pages_of T) T.b_Shape_pages_of) (hr.mono (by decide)) passFAt (pa_cons (pv 5) pa_nil)))
      (pss_cons (ps_if (pt_not (pt_val (pe_call (ok_alike T) (hr.mono (by decide)) (by rfl) T.g_alike T.F_alike.kp T.b_alike .nil pass0 (pa_cons (pv 8) (pa_cons (pv 7) pa_nil)))))
      (pss_one (ps_ret pe_bl))
      pss_nil)
      (pss_cons (ps_expr (pe_bm PySem.F.plainAttrs_list PySem.F.slot_list_append PySem.F.type_list_append mt_append (pv 8) (pa_cons (pv 1) pa_nil)))
      (pss_cons (ps_if (pt_not (pt_val (pe_call (ok_alike T) (hr.mono (by decide)) (by rfl) T.g_alike T.F_alike.kp T.b_alike .nil pass0 (pa_cons (pe_methS (pv 0) T.sC_Shape T.me_Shape_pages_of (fnr_of (ok_Shape_pages_of T) T.b_Shape_pages_of) (hr.mono (by decide)) passFAt (pa_cons (pv 5) pa_nil)) (pa_cons (pv 7) pa_nil)))))
      (pss_one (ps_ret pe_bl))
      pss_nil)
      (pss_one (ps_set (i := 4) sc__law_chunks_wrong.nd rfl (.inl rfl) (pe_op op_cat (pv 4) (pv 7))))))))))
      (pss_cons (ps_for PassesOwn.never rfl (pi_range1 (by rfl) T.z_range (pa_cons (pv 1) pa_nil)) (pg_name (i := 6) sc__law_chunks_wrong.nd rfl (.inl rfl))
      (pss_one (ps_if (pt_not (pt_val (pe_call (ok_alike T) (hr.mono (by decide)) (by rfl) T.g_alike T.F_alike.kp T.b_alike .nil pass0 (pa_cons (pe_methS (pv 0) T.sC_Shape T.me_Shape_chunk_of (fnr_of (ok_Shape_chunk_of T) T.b_Shape_chunk_of) (hr.mono (by decide)) passFAt (pa_cons (pv 6) pa_nil)) (pa_cons (pe_op op_fdivW (pv 6) (pv 2)) pa_nil)))))
      (pss_one (ps_ret pe_bl))
      pss_nil)))
      (pss_one (ps_ret (pe_cmpR (op_neD hr.units) (pv 4) (pe_listRg rfl (by rfl) T.z_list (prg_1 (by rfl) T.z_range (pv 1))) (nomark _))))))), ?_⟩)
  · first | (obtain ⟨rfl, _⟩ := h; rfl) | (obtain ⟨_, rfl, _⟩ := h; rfl) | (obtain ⟨_, _, rfl, _⟩ := h; rfl) | (obtain ⟨_, _, _, rfl, _⟩ := h; rfl) | (obtain ⟨_, _, _, _, rfl, _⟩ := h; rfl) | (obtain ⟨_, _, _, _, _, rfl, _⟩ := h; rfl) | (obtain ⟨_, _, _, _, _, _, rfl, _⟩ := h; rfl) | (obtain ⟨_, _, _, _, _, _, _, rfl, _⟩ := h; rfl) | (obtain ⟨_, _, _, _, _, _, _, _, rfl, _⟩ := h; rfl) | (obtain ⟨_, _, _, _, _, _, _, _, _, rfl, _⟩ := h; rfl) | (obtain ⟨_, _, _, _, _, _, _, _, _, _, rfl, _⟩ := h; rfl) | (obtain ⟨_, _, _, _, _, _, _, _, _, _, _, rfl, _⟩ := h; rfl) | (obtain ⟨_, _, _, _, _, _, _, _, _, _, _, _, rfl, _⟩ := h; rfl) | (obtain ⟨_, _, _, _, _, _, _, _, _, _, _, _, _, rfl, _⟩ := h; rfl) | (obtain ⟨_, _, _, _, _, _, _, _, _, _, _, _, _, _, rfl, _⟩ := h; rfl)
  · obtain ⟨a, p, s1, g, l, n, rfl, hs, p1, p2, g1, g2, hn, k⟩ := h
    try dsimp only [cxOf, Cx.nox, Cx.wish]
    refine st_of (σ := [some _, some _, some _, some _, none, none, none, none, none]) rfl ?_
    have n0 : 1 ≤ n := by
      have := (Int.le_ediv_iff_mul_le (a := 1) (b := p + g - 1) (show 0 < g by omega)).mpr (by omega)
      omega
    have n1 : n ≤ 31 := by
      have := Int.ediv_le_self g (show 0 ≤ p + g - 1 by omega)
      omega
    walk_at "rd"
    refine fun W0 hW0 => alc _ hW0 (fun H1 r1 gw => ?_)
    walk_at "rd"
    with_reducible refine c_rng1 ?_
    walk_at "rd"
    refine ⟨by omega, by omega, for_range (lo := 0) (n := n.toNat) (fun i σ G => ∃ (W : Addr) (e5 e6 e7 e8 : Option V), σ = [some (.ref a), some (.int p), some (.int g), some (.int n), some (.ref W), e5, e6, e7, e8] ∧ Same H G ∧ G W = some (.lst (rgV 0 (mn (i * g) p)))) ?_ ?_ ?_⟩
    · exact ⟨W0, _, _, _, _, rfl, r1, by rw [rgV_nil (by unfold mn; split <;> omega)]; exact gw⟩
    · rintro i σ G hi ⟨W, e5, e6, e7, e8, rfl, rG, gW⟩
      have im : 0 ≤ (i : Int) * g := Int.mul_nonneg (by omega) (by omega)
      have ip : (i : Int) * g < p := by
        have h1 := (Int.le_ediv_iff_mul_le (a := (i : Int) + 1) (b := p + g - 1) (show 0 < g by omega)).mp (by omega)
        rw [Int.add_mul, Int.one_mul] at h1
        omega
      rw [show (0 : Int) + (i : Int) = i by omega]
      walk_at "rd"
      with_reducible refine c_lcR ?_
      walk_at "rd"
      refine ⟨by omega, by omega, fun D hD => lc_range (lo := 0) (n := p.toNat) (fun j G2 => Same G G2 ∧ G2 D = some (.lst (rgV ((i : Int) * g) (mn ((i : Int) * g + g) (j : Int))))) ?_ ?_ ?_⟩
      · exact ⟨same_new (Same.refl _) hD, by rw [rgV_nil (by unfold mn; split <;> omega)]; exact upd_same⟩
      · rintro j G2 hj ⟨r2, gD⟩
        rw [show (0 : Int) + (j : Int) = j by omega, pg_step (by omega) j]
        walk_at "rd"
        refine ⟨rfl, ?_⟩
        walk_at "rd"
        refine r_I (wide_div (b := 5) (by omega) (by omega) (by decide) (by decide)) ?_
        walk_at "rd"
        have hsz : (rgV ((i : Int) * g) (mn ((i : Int) * g + g) (j : Int))).length < sizeLine := smallLt (by rw [rgV_length]; unfold mn; split <;> omega)
        refine i_d (fun e => ?_) (fun e => ?_)
        · walk_at "rd"
          rw [if_pos e]
          first
          | exact ⟨_, gD, hsz, same_mut r2 hD, upd_same⟩
          | exact ⟨gD, hsz, same_mut r2 hD, upd_same⟩
        · rw [if_neg e, List.append_nil]
          exact ⟨r2, gD⟩
      rintro G2 ⟨r2, gD⟩
      rw [Int.toNat_of_nonneg (by omega)] at gD
      have dl : (rgV ((i : Int) * g) (mn ((i : Int) * g + g) p)).length ≤ 16 := by rw [rgV_length]; unfold mn; split <;> omega
      have dl2 : (rgV ((i : Int) * g) (if p < (i : Int) * g + g then p else (i : Int) * g + g)).length ≤ 16 := dl
      have good : btw (.int (i : Int)) 0 ((p + g - 1) / g - 1) = true := by simp [btw]; omega
      have rGG := rG.trans r2
      have hs2 := hs.same rGG
      obtain ⟨dx2, hx2⟩ := id hs2
      walk_at "rd"
      refine ⟨a, dx2, _, rfl, hx2, ?_⟩
      walk_at "rd"
      refine ⟨a, .int (i : Int), p, s1, g, l, rfl, hs2, p1, p2, g1, g2, .int _, fun i' e _ _ t1 G3 ht1 r3 gt1 => ?_, fun hb => by rw [good] at hb; cases hb⟩
      cases e
      have gD3 := r3 _ _ gD
      walk_at "rd"
      refine use_alike (.lst (sql gt1) (sql gD3) (als_ints rg_ints)) (by omega) (fun G4 r4 => ?_)
      have gt4 := r4 _ _ gt1
      have hsz : (rgV ((i : Int) * g) (if p < (i : Int) * g + g then p else (i : Int) * g + g)).length < sizeLine := smallLt (Nat.lt_of_le_of_lt dl (by decide))
      walk_at "rd"
      walk_at "tf"
      walk_at "rd"
      refine mus (H0 := G2) _ (r3.trans r4) ht1 (fun G5 r5 => ?_)
      have hs5 := hs2.same r5
      obtain ⟨dx5, hx5⟩ := id hs5
      walk_at "rd"
      refine ⟨a, dx5, _, rfl, hx5, ?_⟩
      walk_at "rd"
      refine ⟨a, .int (i : Int), p, s1, g, l, rfl, hs5, p1, p2, g1, g2, .int _, fun i' e _ _ t2 G6 ht2 r6 gt2 => ?_, fun hb => by rw [good] at hb; cases hb⟩
      cases e
      have gD6 := r6 _ _ (r5 _ _ gD)
      walk_at "rd"
      refine use_alike (.lst (sql gt2) (sql gD6) (als_ints rg_ints)) (by omega) (fun G7 r7 => ?_)
      have r27 := (r5.trans r6).trans r7
      have gW7 := (r2.trans r27) _ _ gW
      have gD7 := r27 _ _ gD
      walk_at "rd"
      walk_at "tf"
      walk_at "rd"
      refine r_cat gW7 gD7 (small (by rw [rgV_length]; unfold mn; split <;> omega)) (fun W2 hW2 => alc _ hW2 (fun G8 r8 g8 => ?_))
      walk_at "rd"
      refine ⟨W2, _, _, _, _, rfl, (rGG.trans r27).trans r8, ?_⟩
      rw [g8, show mn ((i : Int) * g) p = (i : Int) * g by unfold mn; split <;> omega, show ((i + 1 : Nat) : Int) * g = (i : Int) * g + g by rw [show ((i + 1 : Nat) : Int) = (i : Int) + 1 by omega, Int.add_mul, Int.one_mul]]
      have key := rgV_app im (mn ((i : Int) * g + g) p - (i : Int) * g).toNat
      rw [show (i : Int) * g + ((mn ((i : Int) * g + g) p - (i : Int) * g).toNat : Int) = mn ((i : Int) * g + g) p by unfold mn; split <;> omega] at key
      rw [key]
    · rintro σ G ⟨W, e5, e6, e7, e8, rfl, rG, gW⟩
      have hnp : p ≤ n * g := by
        have := (div_is (i := p + g - 1) (c := n) (show 0 < g by omega)).mp hn.symm
        omega
      rw [Int.toNat_of_nonneg (by omega), show mn (n * g) p = p by unfold mn; split <;> omega] at gW
      walk_at "rd"
      with_reducible refine c_rng1 ?_
      walk_at "rd"
      refine ⟨by omega, by omega, for_range (lo := 0) (n := p.toNat) (fun j σ G2 => ∃ (e5 e6 e7 e8 : Option V), σ = [some (.ref a), some (.int p), some (.int g), some (.int n), some (.ref W), e5, e6, e7, e8] ∧ Same G G2) ?_ ?_ ?_⟩
      · exact ⟨_, _, _, _, rfl, Same.refl _⟩
      · rintro j σ G2 hj ⟨f5, f6, f7, f8, rfl, r2⟩
        rw [show (0 : Int) + (j : Int) = j by omega]
        have hs2 := hs.same (rG.trans r2)
        obtain ⟨dx2, hx2⟩ := id hs2
        walk_at "rd"
        refine ⟨a, dx2, _, rfl, hx2, ?_⟩
        walk_at "rd"
        refine ⟨a, .int (j : Int), p, s1, g, l, rfl, hs2, p1, p2, g1, g2, .int _, fun i' e _ _ => ?_, fun hb => ?_⟩
        · cases e
          walk_at "rd"
          refine r_I (wide_div (b := 5) (by omega) (by omega) (by decide) (by decide)) ?_
          walk_at "rd"
          refine use_alike (.int _) (by decide) (fun G3 r3 => ?_)
          walk_at "rd"
          walk_at "tf"
          walk_at "rd"
          exact ⟨_, _, _, _, rfl, r2.trans r3⟩
        · simp [btw] at hb
          omega
      · rintro σ G2 ⟨f5, f6, f7, f8, rfl, r2⟩
        have gW2 := r2 _ _ gW
        walk_at "rd"
        refine c_lstRg ?_
        walk_at "rd"
        refine c_rg1 ?_
        walk_at "rd"
        refine ⟨RgOk.of_le (by decide) (by omega) (by decide) (by omega), fun q hq => alc _ hq (fun G3 r3 g3 => ?_)⟩
        have sh := dInts_shaped (p - 0).toNat (by omega)
        refine ⟨dInts _, dInts _, dp_rg (sql (r3 _ _ gW2)), dp_rg (sql g3), sh, sh, ?_⟩
        rw [show PyData.eqv (dInts (p - 0).toNat) (dInts (p - 0).toNat) = true from SeqAt.eqv_refl _ (SeqAt.canLay_of_shaped sh)]
        exact k G3 ((rG.trans r2).trans r3)
end

def spLaw (K : PySem.W.Frag) : Sp := fun vs H Q _ => ∃ (a : Addr) (ns : List Int), vs = [.ref a] ∧ SqL K H a (ns.map V.int) ∧ ns.length ≤ 63 ∧ ∀ H', Q (.bl true) H'
theorem Shp.aw {H : Hp} {C a S : Addr} {p s c l : Int} {xs : List V} (h : Shp H C a p s c l) (hS : H S = some (.lst xs)) : Shp (Aw S H) C a p s c l := by
  obtain ⟨dx, h⟩ := h
  refine ⟨dx, ?_⟩
  rcases h with ⟨_, h2⟩ | ⟨h1, h2⟩
  · cases h2
  · refine .inr ⟨Aw.of h1 (fun z => ?_), Aw.of h2 (fun z => ?_)⟩
    · rw [z, hS] at h1
      unfold SlX.SlO at h1
      cases h1
    · rw [z, hS] at h2
      cases h2
theorem grid_mem {m n : Nat} {z : Int × Int} (h : z ∈ grid m n) : 0 ≤ z.1 ∧ z.1 < m ∧ 0 ≤ z.2 ∧ z.2 < n := by
  unfold grid at h
  obtain ⟨i, hi, h⟩ := List.mem_flatMap.mp h
  unfold row1 at h
  obtain ⟨j, hj, rfl⟩ := List.mem_map.mp h
  have := List.mem_range.mp hi
  have := List.mem_range.mp hj
  exact ⟨by omega, by omega, by omega, by omega⟩
theorem als_pr2 {K : PySem.W.Frag} {H : Hp} : ∀ {L : List (Int × Int)} {xs ys : List V}, Pr2 K H xs L → Pr2 K H ys L → ∃ n, n ≤ 3 * L.length ∧ Als K H xs ys n
  | [], xs, ys, h, g => by
    have h1 := h.1
    have g1 := g.1
    rw [List.length_nil, List.length_eq_zero_iff] at h1 g1
    rw [h1, g1]
    exact ⟨0, Nat.le_refl _, .nil⟩
  | z :: L, xs, ys, h, g => by
    match xs, ys, h, g with
    | [], _, h, _ => exact absurd h.1 (by simp)
    | _ :: _, [], _, g => exact absurd g.1 (by simp)
    | x :: xs, y :: ys, h, g =>
      have h2 : Pr2 K H xs L := ⟨by simpa using h.1, fun i p hp => by
        obtain ⟨t, w, a, b, c⟩ := h.2 (i + 1) p (by simpa using hp)
        exact ⟨t, w, a, by simpa using b, c⟩⟩
      have g2 : Pr2 K H ys L := ⟨by simpa using g.1, fun i p hp => by
        obtain ⟨t, w, a, b, c⟩ := g.2 (i + 1) p (by simpa using hp)
        exact ⟨t, w, a, by simpa using b, c⟩⟩
      obtain ⟨n, hn, al⟩ := als_pr2 h2 g2
      obtain ⟨t, w, rfl, b, c⟩ := h.2 0 x rfl
      obtain ⟨t', w', rfl, b', c'⟩ := g.2 0 y rfl
      cases (show z = w by simpa using b)
      cases (show z = w' by simpa using b')
      exact ⟨3 + n, by rw [List.length_cons]; omega, .cons (.tup c c' (.cons (.int _) (.cons (.int _) .nil))) al⟩
@[elab_as_elim] theorem mus2 {H0 H : Hp} {p : Addr} {P : Hp → Prop} (o : HO) (s : Same H0 H) (h : H0 p = none) (k : ∀ H', Same H0 H' → H' p = some o → P H') : P (upd H p o) := k _ (same_mut s h) upd_same
section
variable {P : Program} {w : World} {K : PySem.W.Frag} {mg : Str → Option Value} {base : Heap}
theorem ok_law {f : Addr} {fd : FuncData} (F : Fun K "law" "law" s_law f fd) (T : Txt K mg) : FnOk P w K mg base CX0 7 f fd ["_law_script"] (spLaw K) := by
  refine F.ok sc_law (fun vs H Q E h => ?_) (fun cdv A outer s H vs Q E hr h => ⟨_, (pss_cons (ps_set (i := 1) sc_law.nd rfl (.inl rfl) (pe_call (ok_stream T) (hr.mono (by decide)) (by rfl) T.g_stream T.F_stream.kp T.b_stream .nil pass0 (pa_cons (pv 0) pa_nil)))
      (pss_cons (ps_set (i := 2) sc_law.nd rfl (.inl rfl) (pe_call (ok_sizes T) (hr.mono (by decide)) (by rfl) T.g_sizes T.F_sizes.kp T.b_sizes .nil pass0 (pa_cons (pv 1) (pa_cons pe_int (pa_cons pe_int pa_nil)))))
      (pss_cons (ps_set (i := 3) sc_law.nd rfl (.inl rfl) (pe_ix ix_list (pv 2) pe_int (fun _ _ => rfl)))
      (pss_cons (ps_set (i := 4) sc_law.nd rfl (.inl rfl) (pe_ix ix_list (pv 2) pe_int (fun _ _ => rfl)))
      (pss_cons (ps_set (i := 5) sc_law.nd rfl (.inl rfl) (pe_ix ix_list (pv 2) pe_int (fun _ _ => rfl)))
      (pss_cons (ps_set (i := 6) sc_law.nd rfl (.inl rfl) (pe_makeKS T.mk_Shape (ok_Shape_init T) (hr.mono (by decide)) (by rfl) T.g_Shape (kb_Shape_init_chunk_columns T).choose_spec passFAt (pa_cons (pv 3) (pa_cons (pv 4) pa_nil)) (pk_cons (pv 5) (pk_cons (pe_ix ix_list (pv 2) pe_int (fun _ _ => rfl)) pk_nil))))
      (pss_cons (ps_set (i := 7) sc_law.nd rfl (.inl rfl) (pe_op op_fdivW (pe_op op_sub (pe_op op_add (pv 3) (pv 5)) pe_int) (pv 5)))
      (pss_cons (ps_set (i := 8) sc_law.nd rfl (.inl rfl) (pe_lst pa_nil))
      (pss_cons (ps_for PassesOwn.never rfl (pi_range1 (by rfl) T.z_range (pa_cons (pv 3) pa_nil)) (pg_name (i := 9) sc_law.nd rfl (.inl rfl))
      (pss_one (ps_for PassesOwn.never rfl (pi_range1 (by rfl) T.z_range (pa_cons (pv 4) pa_nil)) (pg_name (i := 10) sc_law.nd rfl (.inl rfl))
      (pss_one (ps_expr (pe_bm PySem.F.plainAttrs_list PySem.F.slot_list_append PySem.F.type_list_append mt_append (pv 8) (pa_cons (pe_tup (pa_cons (pv 9) (pa_cons (pv 10) pa_nil))) pa_nil)))))))
      (pss_cons (ps_if (PW.pt (pw_or (pt_not (pt_val (pe_call (ok_alike T) (hr.mono (by decide)) (by rfl) T.g_alike T.F_alike.kp T.b_alike .nil pass0 (pa_cons (SlX.pe_propSl (E := E0) (pv 6) T.sC_Shape T.pa_Shape_chunks T.pg_Shape_chunks T.pt_Shape_chunks T.pr_Shape_chunks (fnr_of (ok_Shape_chunks T) T.b_Shape_chunks) (hr.mono (by decide)) (fun _ _ _ _ h => h.elim)) (pa_cons (pv 7) pa_nil))))) (pw_or1 (pt_not (pt_val (pe_call (ok_alike T) (hr.mono (by decide)) (by rfl) T.g_alike T.F_alike.kp T.b_alike .nil pass0 (pa_cons (pe_methS0 (pv 6) T.sC_Shape T.me_Shape_addresses (fnr_of (ok_Shape_addresses T) T.b_Shape_addresses) (hr.mono (by decide)) pass0At) (pa_cons (pv 8) pa_nil))))))))
      (pss_one (ps_ret pe_bl))
      pss_nil)
      (pss_cons (ps_set (i := 11) sc_law.nd rfl (.inl rfl) (pe_methS0 (pv 6) T.sC_Shape T.me_Shape_addresses (fnr_of (ok_Shape_addresses T) T.b_Shape_addresses) (hr.mono (by decide)) pass0At))
      (pss_cons (ps_expr (pe_bm PySem.F.plainAttrs_list PySem.F.slot_list_append PySem.F.type_list_append mt_append (pv 11) (pa_cons (pe_tup (pa_cons (pv 3) (pa_cons (pv 4) pa_nil))) pa_nil)))
      (pss_cons (ps_asg pe_non (pg_sub (pv 11) pe_int set_list))
      (pss_cons (ps_if (PW.pt (pw_or (pt_not (pt_val (pe_call (ok_alike T) (hr.mono (by decide)) (by rfl) T.g_alike T.F_alike.kp T.b_alike .nil pass0 (pa_cons (pe_methS0 (pv 6) T.sC_Shape T.me_Shape_addresses (fnr_of (ok_Shape_addresses T) T.b_Shape_addresses) (hr.mono (by decide)) pass0At) (pa_cons (pv 8) pa_nil))))) (pw_or1 (pt_val (pe_call (ok_chunks_wrong T) (hr.mono (by decide)) (by rfl) T.g_chunks_wrong T.F_chunks_wrong.kp T.b_chunks_wrong .nil pass0 (pa_cons (pv 6) (pa_cons (pv 3) (pa_cons (pv 5) (pa_cons (pv 7) pa_nil)))))))))
      (pss_one (ps_ret pe_bl))
      pss_nil)
      (pss_cons (ps_for PassesOwn.never rfl (pi_list (pv 8)) (pg_name (i := 12) sc_law.nd rfl (.inl rfl))
      (pss_one (ps_if (pt_cmpR (op_notInSl T.me_Shape_contains (fnr_of (ok_Shape_contains T) T.b_Shape_contains) (hr.mono (by decide)) pass0) (pv 12) (pv 6) (by rfl))
      (pss_one (ps_ret pe_bl))
      pss_nil)))
      (pss_cons (ps_for PassesOwn.never rfl (pi_range1 (by rfl) T.z_range (pa_cons pe_int pa_nil)) (pg_name (i := 13) sc_law.nd rfl (.inl rfl))
      (pss_cons (ps_set (i := 14) sc_law.nd rfl (.inl rfl) (pe_call (ok_no_page T) (hr.mono (by decide)) (by rfl) T.g_no_page T.F_no_page.kp T.b_no_page .nil pass0 (pa_cons (pv 1) (pa_cons (pe_ix ix_list (pe_lst (pa_cons (pv 3) (pa_cons (pv 7) pa_nil))) (pv 13) (fun _ _ => rfl)) pa_nil))))
      (pss_one (ps_if (pt_not (pt_val (pe_call (ok_alike T) (hr.mono (by decide)) (by rfl) T.g_alike T.F_alike.kp T.b_alike .nil pass0 (pa_cons (pe_call (ok_place_refused T) (hr.mono (by decide)) (by rfl) T.g_place_refused T.F_place_refused.kp T.b_place_refused .nil pass0 (pa_cons (pv 6) (pa_cons (pv 14) (pa_cons (pv 13) pa_nil)))) (pa_cons (pe_lst (pa_cons (pv 14) (pa_cons pe_bl (pa_cons pe_bl pa_nil)))) pa_nil)))))
      (pss_one (ps_ret pe_bl))
      pss_nil))))
      (pss_one (ps_ret (pe_cmpR (op_notInSl T.me_Shape_contains (fnr_of (ok_Shape_contains T) T.b_Shape_contains) (hr.mono (by decide)) pass0) (pe_call (ok_stray T) (hr.mono (by decide)) (by rfl) T.g_stray T.F_stray.kp T.b_stray .nil pass0 (pa_cons (pv 1) (pa_cons (pv 3) (pa_cons (pv 4) pa_nil)))) (pv 6) (by rfl)))))))))))))))))))), ?_⟩)
  · first | (obtain ⟨rfl, _⟩ := h; rfl) | (obtain ⟨_, rfl, _⟩ := h; rfl) | (obtain ⟨_, _, rfl, _⟩ := h; rfl) | (obtain ⟨_, _, _, rfl, _⟩ := h; rfl) | (obtain ⟨_, _, _, _, rfl, _⟩ := h; rfl) | (obtain ⟨_, _, _, _, _, rfl, _⟩ := h; rfl) | (obtain ⟨_, _, _, _, _, _, rfl, _⟩ := h; rfl) | (obtain ⟨_, _, _, _, _, _, _, rfl, _⟩ := h; rfl) | (obtain ⟨_, _, _, _, _, _, _, _, rfl, _⟩ := h; rfl) | (obtain ⟨_, _, _, _, _, _, _, _, _, rfl, _⟩ := h; rfl) | (obtain ⟨_, _, _, _, _, _, _, _, _, _, rfl, _⟩ := h; rfl) | (obtain ⟨_, _, _, _, _, _, _, _, _, _, _, rfl, _⟩ := h; rfl) | (obtain ⟨_, _, _, _, _, _, _, _, _, _, _, _, rfl, _⟩ := h; rfl) | (obtain ⟨_, _, _, _, _, _, _, _, _, _, _, _, _, rfl, _⟩ := h; rfl) | (obtain ⟨_, _, _, _, _, _, _, _, _, _, _, _, _, _, rfl, _⟩ := h; rfl)
  · obtain ⟨a, ns, rfl, hS, hl, k⟩ := h
    try dsimp only [cxOf, Cx.nox, Cx.wish]
    refine st_of (σ := [some _, none, none, none, none, none, none, none, none, none, none, none, none, none, none]) rfl ?_
    walk_at "rd"
    refine ⟨a, ns, rfl, hS, hl, fun S L H1 _ _ st1 => ?_⟩
    walk_at "rd"
    refine ⟨S, L, ns, 16, 8, rfl, st1, by decide, by decide, by decide, by decide, fun z p s g l H2 hz x2 st2 gz a0 b0 a1 b1 a2 b2 a3 b3 => ?_⟩
    have qz : SqL K H2 z [.int p, .int s, .int g, .int l] := sql gz
    have ok : okShape (.int p) (.int s) (.int g) (.int l) = true := by simp [okShape, btw]; omega
    have n0 : 1 ≤ (p + g - 1) / g := (Int.le_ediv_iff_mul_le (a := 1) (b := p + g - 1) (show 0 < g by omega)).mpr (by omega)
    have n1 : (p + g - 1) / g ≤ 16 := by
      have h1 := Int.ediv_lt_iff_lt_mul (a := p + g - 1) (b := p + 1) (show 0 < g by omega)
      have h2 : p * 1 ≤ p * g := Int.mul_le_mul_of_nonneg_left (by omega) (by omega)
      rw [Int.add_mul, Int.one_mul] at h1
      have := h1.mpr (by omega)
      omega
    walk_at "rd"
    refine c_makeKS ?_
    walk_at "rd"
    refine ⟨rfl, rfl, use_shape (.int _) (.int _) (.int _) (.int _) ok (fun X dX H3 hX r3 slX => ?_)⟩
    have st3 := st2.same r3
    have shX : Shp H3 T.C_Shape X p s g l := ⟨dX, slX⟩
    walk_at "rd"
    refine r_I (wide_div (b := 5) (by omega) (by omega) (by decide) (by decide)) ?_
    walk_at "rd"
    refine fun D hD => alc _ hD (fun H4 r4 gD => ?_)
    walk_at "rd"
    have gl : (grid p.toNat s.toNat).length ≤ 128 := by
      rw [grid_len]
      exact Nat.mul_le_mul (show p.toNat ≤ 16 by omega) (show s.toNat ≤ 8 by omega)
    with_reducible refine c_rng1 ?_
    walk_at "rd"
    refine ⟨by omega, by omega, for_range (lo := 0) (n := p.toNat) (fun i σ G => ∃ (xs : List V) (e9 e10 : Option V), σ = [some (.ref a), some (.ref S), some (.ref z), some (.int p), some (.int s), some (.int g), some (.ref X), some (.int ((p + g - 1) / g)), some (.ref D), e9, e10, none, none, none, none] ∧ Same H3 G ∧ G D = some (.lst xs) ∧ Pr2 K G xs (grid i s.toNat)) ?_ ?_ ?_⟩
    · exact ⟨[], _, _, rfl, r4, gD, rfl, fun i x h => by simp at h⟩
    · rintro i σ G hi ⟨xs, e9, e10, rfl, rG, gX, pr⟩
      rw [show (0 : Int) + (i : Int) = i by omega]
      walk_at "rd"
      with_reducible refine c_rng1 ?_
      walk_at "rd"
      refine ⟨by omega, by omega, for_range (lo := 0) (n := s.toNat) (fun j σ G3 => ∃ (ys : List V) (e10 : Option V), σ = [some (.ref a), some (.ref S), some (.ref z), some (.int p), some (.int s), some (.int g), some (.ref X), some (.int ((p + g - 1) / g)), some (.ref D), some (.int (i : Int)), e10, none, none, none, none] ∧ Same H3 G3 ∧ G3 D = some (.lst ys) ∧ Pr2 K G3 ys (grid i s.toNat ++ row1 (i : Int) j)) ?_ ?_ ?_⟩
      · exact ⟨xs, _, rfl, rG, gX, by simpa [row1] using pr⟩
      · rintro j σ G3 hj ⟨ys, e10, rfl, r3', gY, pr3⟩
        rw [show (0 : Int) + (j : Int) = j by omega]
        have hlen : ys.length < sizeLine := smallLt (by
          rw [pr3.1, List.length_append, grid_len, row1_len]
          have h1 : i * s.toNat ≤ 16 * 8 := Nat.mul_le_mul (by omega) (by omega)
          omega)
        walk_at "rd"
        refine fun t ht => alc _ ht (fun G4 r5 g4 => ?_)
        have gY4 := r5 _ _ gY
        have pr4 : Pr2 K G4 (ys ++ [.ref t]) (grid i s.toNat ++ row1 (i : Int) (j + 1)) := by
          rw [row1_succ, ← List.append_assoc]
          exact (pr3.keep (.same r5)).snoc (sqt (by simpa using g4))
        walk_at "rd"
        exact ⟨_, _, rfl, same_mut (r3'.trans r5) hD, upd_same, pr4.keep (Tp.lst (Tp.refl _) gY4)⟩
      · rintro σ G3 ⟨ys, e10, rfl, r3', gY, pr3⟩
        rw [← grid_succ] at pr3
        exact ⟨ys, _, _, rfl, r3', gY, pr3⟩
    · rintro σ G ⟨ds, e9, e10, rfl, rG, gX, prD⟩
      have shG := shX.same rG
      have stG := st3.same rG
      obtain ⟨dG, hxG⟩ := id shG
      walk_at "rd"
      refine ⟨X, dG, _, rfl, hxG, X, p, s, g, l, rfl, shG, by omega, by omega, by omega, by omega, ?_⟩
      walk_at "rd"
      refine use_alike (.int _) (by decide) (fun G1 r1 => ?_)
      walk_at "rd"
      walk_at "tf"
      have sh1 := shG.same r1
      obtain ⟨d1, hx1⟩ := id sh1
      walk_at "rd"
      refine ⟨X, d1, _, rfl, hx1, ?_⟩
      walk_at "rd"
      refine ⟨X, p, s, g, l, rfl, sh1, by omega, by omega, by omega, by omega, fun q xs G2 hq r2 gq prq => ?_⟩
      have gD2 := r2 _ _ (r1 _ _ gX)
      obtain ⟨m, hm, al⟩ := als_pr2 prq (prD.keep (Tp.same (r1.trans r2)))
      walk_at "rd"
      refine use_alike (.lst (sql gq) (sql gD2) al) (by omega) (fun G3 r3 => ?_)
      walk_at "rd"
      walk_at "tf"
      have sh3 := sh1.same (r2.trans r3)
      obtain ⟨d3, hx3⟩ := id sh3
      walk_at "rd"
      refine ⟨X, d3, _, rfl, hx3, ?_⟩
      walk_at "rd"
      refine ⟨X, p, s, g, l, rfl, sh3, by omega, by omega, by omega, by omega, fun t0 ys G4 ht0 r4 gt prt => ?_⟩
      have hys : ys.length < sizeLine := smallLt (by rw [prt.1]; omega)
      walk_at "rd"
      refine fun tq htq => alc _ htq (fun G5 r5 g5 => ?_)
      have gt5 := r5 _ _ gt
      walk_at "rd"
      refine mus2 (H0 := G3) _ (r4.trans r5) ht0 (fun G6 r6 g6 => ?_)
      walk_at "rd"
      have sh6 := sh3.same r6
      obtain ⟨d6, hx6⟩ := id sh6
      refine ⟨X, d6, _, rfl, hx6, ?_⟩
      walk_at "rd"
      refine ⟨X, p, s, g, l, rfl, sh6, by omega, by omega, by omega, by omega, fun q7 zs G7 hq7 r7 gq7 prq7 => ?_⟩
      have gD7 := r7 _ _ (r6 _ _ (r3 _ _ gD2))
      obtain ⟨m7, hm7, al7⟩ := als_pr2 prq7 (prD.keep (Tp.same (r1.trans (r2.trans (r3.trans (r6.trans r7))))))
      walk_at "rd"
      refine use_alike (.lst (sql gq7) (sql gD7) al7) (by omega) (fun G8 r8 => ?_)
      walk_at "rd"
      walk_at "tf"
      have sh8 := sh6.same (r7.trans r8)
      walk_at "rd"
      refine ⟨X, p, s, g, l, _, rfl, sh8, by omega, by omega, by omega, by omega, rfl, fun G9 r9 => ?_⟩
      walk_at "rd"
      have sh9 := sh8.same r9
      have gD9 := r9 _ _ (r8 _ _ gD7)
      have rA := r1.trans (r2.trans (r3.trans (r6.trans (r7.trans (r8.trans r9)))))
      have pr9 := prD.keep (Tp.same rA)
      have st9 := stG.same rA
      clear al al7
      with_reducible refine c_forList ?_
      walk_at "rd"
      refine ⟨⟨_, sql gD9⟩, for_list (xs := ds) (fun i σ G' => ∃ e12 : Option V, σ = [some (.ref a), some (.ref S), some (.ref z), some (.int p), some (.int s), some (.int g), some (.ref X), some (.int ((p + g - 1) / g)), some (.ref D), e9, e10, some (.ref t0), e12, none, none] ∧ Same G9 G') ?_ ?_ ?_ ?_⟩
      · exact ⟨_, rfl, Same.refl _⟩
      · rintro i σ G' hi ⟨e12, rfl, r10⟩
        exact sql (r10 _ _ gD9)
      · rintro i x σ G' hx ⟨e12, rfl, r10⟩
        obtain ⟨t, w, rfl, hw, ht⟩ := (pr9.keep (Tp.same r10)).2 i x hx
        have gm := grid_mem (List.mem_of_getElem? hw)
        have shG' := sh9.same r10
        obtain ⟨dG', hxG'⟩ := id shG'
        walk_at "rd"
        refine ⟨X, dG', _, rfl, hxG', X, _, p, s, g, l, rfl, shG', true, ?_, ?_⟩
        · have := Adr.two (p := p) (s := s) ht (.int w.1) (.int w.2)
          rwa [show (btw (.int w.1) 0 (p - 1) && btw (.int w.2) 0 (s - 1)) = true by simp [btw]; omega] at this
        · walk_at "rd"
          walk_at "tf"
          walk_at "rd"
          first
          | exact r10
          | exact ⟨_, rfl, r10⟩
      · rintro σ G' ⟨e12, rfl, r10⟩
        have st10 := st9.same r10
        have sh10 := sh9.same r10
        walk_at "rd"
        with_reducible refine c_rng1 ?_
        walk_at "rd"
        refine ⟨by omega, by omega, for_range (lo := 0) (n := 2) (fun j σ G2 => ∃ e13 e14 : Option V, σ = [some (.ref a), some (.ref S), some (.ref z), some (.int p), some (.int s), some (.int g), some (.ref X), some (.int ((p + g - 1) / g)), some (.ref D), e9, e10, some (.ref t0), e12, e13, e14] ∧ Strm S L ns G2 ∧ Shp G2 T.C_Shape X p s g l) ?_ ?_ ?_⟩
        · exact ⟨_, _, rfl, st10, sh10⟩
        · rintro j σ G2 hj ⟨e13, e14, rfl, stJ, shJ⟩
          rw [show (0 : Int) + (j : Int) = j by omega]
          walk_at "rd"
          refine fun pl hpl => alc _ hpl (fun G3 r3' g3 => ?_)
          have stK := stJ.same r3'
          have shK := shJ.same r3'
          obtain ⟨w, hw, w1, w2, w3, w4⟩ : ∃ w : Int, atI [V.int p, V.int ((p + g - 1) / g)] (j : Int) = some (.int w) ∧ 1 ≤ w ∧ w ≤ 16 ∧ (j = 0 → w = p) ∧ (j ≠ 0 → w = (p + g - 1) / g) := by
            obtain rfl | rfl : j = 0 ∨ j = 1 := by omega
            · exact ⟨p, rfl, by omega, by omega, fun _ => rfl, fun h => absurd rfl h⟩
            · exact ⟨_, rfl, by omega, by omega, fun h => absurd h (by omega), fun _ => rfl⟩
          walk_at "rd"
          refine r_ixL (sql g3) hw ?_
          walk_at "rd"
          refine ⟨S, L, ns, w, rfl, stK, w1, w2, fun v n G4 x4 st4 al4 n4 bw => ?_⟩
          obtain ⟨qS, nS, kS, gS, _, _, _⟩ := stK.at_
          have sh4 := ((shK.aw gS).same (Aw.ex x4)).same Aw.to
          have al4' := al4.same Nw.to
          walk_at "rd"
          refine ⟨X, v, (j : Int), p, s, g, l, rfl, sh4, by omega, by omega, by omega, by omega, al_knd al4', fun h0 => ?_, fun h0 => ?_, fun q5 G5 hq5 r5' g5 => ?_⟩
          · rw [← w3 (by omega)]
            exact bw
          · rw [← w4 (by omega)]
            exact bw
          walk_at "rd"
          refine fun l6 hl6 => alc _ hl6 (fun G6 r6' g6 => ?_)
          have g56 := r6' _ _ g5
          walk_at "rd"
          refine use_alike (.lst (sql g56) (sql g6) (.cons (al4'.same (r5'.trans r6')) (.cons (.bl true) (.cons (.bl false) .nil)))) (by omega) (fun G7 r7' => ?_)
          have stE := st4.same (r5'.trans (r6'.trans r7'))
          have shE := sh4.same (r5'.trans (r6'.trans r7'))
          walk_at "rd"
          walk_at "tf"
          walk_at "rd"

          exact ⟨stE, shE⟩
        · rintro σ G2 ⟨e13, e14, rfl, stJ, shJ⟩
          walk_at "rd"
          refine ⟨S, L, ns, p, s, rfl, stJ, by omega, by omega, by omega, by omega, fun v b G3 x3 st3' ad hb => ?_⟩
          subst hb
          obtain ⟨qS, nS, kS, gS, _, _, _⟩ := stJ.at_
          have sh11 := ((shJ.aw gS).same (Aw.ex x3)).same Aw.to
          obtain ⟨d11, hx11⟩ := id sh11
          walk_at "rd"
          refine ⟨X, d11, _, rfl, hx11, X, _, p, s, g, l, rfl, sh11, false, ad, ?_⟩
          exact ⟨_, rfl, k _⟩
end
end Tac2
theorem all_mk {l : PySem.W.OpenLaw} {w : World} {K : PySem.W.Frag} {h : Heap} {mg : Str → Option Value} {fa : Addr} (X : K.In h) (G : h.Ns mainGlobals mg) (hfa : mg "law" = some (.ref fa))
    {C_PagesError : Addr}
    {C_BadShape : Addr}
    {C_NoPlace : Addr}
    {nm_NoPlace q_NoPlace : Str} {NS_NoPlace : Addr} {bs_NoPlace : List Value} {sn_NoPlace : List Str} {sb_NoPlace : List Value} {ab_NoPlace : Bool} {co_NoPlace : Option Bool} {dd_NoPlace : Option Addr} {m0_NoPlace m1_NoPlace m2_NoPlace m3_NoPlace m5_NoPlace : Option Value}
    {C_Shape : Addr}
    {pS_Shape_chunk : Addr}
    {pS_Shape_columns : Addr}
    {pS_Shape_pages : Addr}
    {pS_Shape_slots : Addr}
    {ct_Shape_MOST_PAGES : Tok}
    {ct_Shape_MOST_SLOTS : Tok}
    {ct_Shape_MOST_CHUNK : Tok}
    {ct_Shape_MOST_COLUMNS : Tok}
    {f0 : Addr} {od0 an0 : Option Addr} {sl0 : Array (Option Value)} {oc0 kV0 dc0 pm0 cd0 ct0 : Value}
    {f1 : Addr} {od1 an1 : Option Addr} {sl1 : Array (Option Value)} {oc1 kV1 dc1 pm1 cd1 ct1 : Value}
    {f2 : Addr} {od2 an2 : Option Addr} {sl2 : Array (Option Value)} {oc2 kV2 dc2 pm2 cd2 ct2 : Value}
    {f3 : Addr} {od3 an3 : Option Addr} {sl3 : Array (Option Value)} {oc3 kV3 dc3 pm3 cd3 ct3 : Value}
    {f4 : Addr} {od4 an4 : Option Addr} {sl4 : Array (Option Value)} {oc4 kV4 dc4 pm4 cd4 ct4 : Value}
    {f5 : Addr} {od5 an5 : Option Addr} {sl5 : Array (Option Value)} {oc5 kV5 dc5 pm5 cd5 ct5 : Value}
    {f6 : Addr} {od6 an6 : Option Addr} {sl6 : Array (Option Value)} {oc6 kV6 dc6 pm6 cd6 ct6 : Value}
    {f7 : Addr} {od7 an7 : Option Addr} {sl7 : Array (Option Value)} {oc7 kV7 dc7 pm7 cd7 ct7 : Value}
    {f8 : Addr} {od8 an8 : Option Addr} {sl8 : Array (Option Value)} {oc8 kV8 dc8 pm8 cd8 ct8 : Value}
    {f9 : Addr} {od9 an9 : Option Addr} {sl9 : Array (Option Value)} {oc9 kV9 dc9 pm9 cd9 ct9 : Value}
    {f10 : Addr} {od10 an10 : Option Addr} {sl10 : Array (Option Value)} {oc10 kV10 dc10 pm10 cd10 ct10 : Value}
    {f11 : Addr} {od11 an11 : Option Addr} {sl11 : Array (Option Value)} {oc11 kV11 dc11 pm11 cd11 ct11 : Value}
    {f12 : Addr} {od12 an12 : Option Addr} {sl12 : Array (Option Value)} {oc12 kV12 dc12 pm12 cd12 ct12 : Value}
    {f13 : Addr} {od13 an13 : Option Addr} {sl13 : Array (Option Value)} {oc13 dc13 pm13 cd13 ct13 : Value}
    {kd13 : Addr}
    {kt13_0 : Tok}
    {kt13_1 : Tok}
    {f14 : Addr} {od14 an14 : Option Addr} {sl14 : Array (Option Value)} {oc14 kV14 dc14 pm14 cd14 ct14 : Value}
    {pp14 : Addr} {rs14 : List Value}
    {f15 : Addr} {od15 an15 : Option Addr} {sl15 : Array (Option Value)} {oc15 kV15 dc15 pm15 cd15 ct15 : Value}
    {f16 : Addr} {od16 an16 : Option Addr} {sl16 : Array (Option Value)} {oc16 kV16 dc16 pm16 cd16 ct16 : Value}
    {f17 : Addr} {od17 an17 : Option Addr} {sl17 : Array (Option Value)} {oc17 kV17 dc17 pm17 cd17 ct17 : Value}
    {f18 : Addr} {od18 an18 : Option Addr} {sl18 : Array (Option Value)} {oc18 kV18 dc18 pm18 cd18 ct18 : Value}
    (gC_PagesError : PySem.W.nsIn K mainGlobals "PagesError" = some (some (.ref C_PagesError)))
    (gC_BadShape : PySem.W.nsIn K mainGlobals "BadShape" = some (some (.ref C_BadShape)))
    (gC_NoPlace : PySem.W.nsIn K mainGlobals "NoPlace" = some (some (.ref C_NoPlace)))
    (kgC : PySem.W.specialIn K (.builtin "object.__class__") "__get__" = some (some (.builtin "getset_descriptor.__get__")))
    (ktC : PySem.W.takesIn K (.builtin "object.__class__") = some true)
    (ga_PagesError : PySem.W.findIn K (.ref C_PagesError) "__getattribute__" = some (some (.builtin "BaseException.__getattribute__")))
    (gt_PagesError : PySem.W.findIn K (.ref C_PagesError) "__getattr__" = some none)
    (sub_PagesError : PySem.W.subIn K (.ref C_PagesError) (.type "BaseException") = some true)
    (kc_PagesError : PySem.W.findIn K (.ref C_PagesError) "__class__" = some (some (.builtin "object.__class__")))
    (ob_PagesError : PySem.W.mroIn K C_PagesError (.type "object") = some true)
    (cI_PagesError : PySem.W.isClsIn K C_PagesError = true)
    (cT_PagesError : PySem.W.typeIn K (.ref C_PagesError) = some (.type "type"))
    (hd_PagesError : PySem.W.hasDictIn K C_PagesError = true)
    (kC_PagesError : PySem.W.keepIn K (.ref C_PagesError) = true)
    (sv_PagesError : PySem.W.subIn K (.ref C_PagesError) (.type "ValueError") = some true)
    (xF_PagesError : PySem.W.excIn K C_PagesError [.type "ValueError", .type "Exception", .type "BaseException", .type "object"] "ValueError.__new__" = true)
    (sg_PagesError : PySem.W.specialIn K (.ref C_PagesError) "__getattribute__" = some (some (.builtin "type.__getattribute__")))
    (rd_PagesError : PySem.W.readsIn K C_PagesError (.type "type") = true)
    (vV_PagesError : PySem.W.findCls K (.ref C_PagesError) (.type "type") "__init__" = some (.val (.builtin "ValueError.__init__")))
    (su_PagesError_PagesError : PySem.W.subIn K (.ref C_PagesError) (.ref C_PagesError) = some true)
    (su_PagesError_BadShape : PySem.W.subIn K (.ref C_PagesError) (.ref C_BadShape) = some false)
    (su_PagesError_NoPlace : PySem.W.subIn K (.ref C_PagesError) (.ref C_NoPlace) = some false)
    (ga_BadShape : PySem.W.findIn K (.ref C_BadShape) "__getattribute__" = some (some (.builtin "BaseException.__getattribute__")))
    (gt_BadShape : PySem.W.findIn K (.ref C_BadShape) "__getattr__" = some none)
    (sub_BadShape : PySem.W.subIn K (.ref C_BadShape) (.type "BaseException") = some true)
    (kc_BadShape : PySem.W.findIn K (.ref C_BadShape) "__class__" = some (some (.builtin "object.__class__")))
    (ob_BadShape : PySem.W.mroIn K C_BadShape (.type "object") = some true)
    (cI_BadShape : PySem.W.isClsIn K C_BadShape = true)
    (cT_BadShape : PySem.W.typeIn K (.ref C_BadShape) = some (.type "type"))
    (hd_BadShape : PySem.W.hasDictIn K C_BadShape = true)
    (kC_BadShape : PySem.W.keepIn K (.ref C_BadShape) = true)
    (sv_BadShape : PySem.W.subIn K (.ref C_BadShape) (.type "ValueError") = some true)
    (xF_BadShape : PySem.W.excIn K C_BadShape [.type "ValueError", .type "Exception", .type "BaseException", .type "object"] "ValueError.__new__" = true)
    (sg_BadShape : PySem.W.specialIn K (.ref C_BadShape) "__getattribute__" = some (some (.builtin "type.__getattribute__")))
    (rd_BadShape : PySem.W.readsIn K C_BadShape (.type "type") = true)
    (vV_BadShape : PySem.W.findCls K (.ref C_BadShape) (.type "type") "__init__" = some (.val (.builtin "ValueError.__init__")))
    (su_BadShape_PagesError : PySem.W.subIn K (.ref C_BadShape) (.ref C_PagesError) = some true)
    (su_BadShape_BadShape : PySem.W.subIn K (.ref C_BadShape) (.ref C_BadShape) = some true)
    (su_BadShape_NoPlace : PySem.W.subIn K (.ref C_BadShape) (.ref C_NoPlace) = some false)
    (ga_NoPlace : PySem.W.findIn K (.ref C_NoPlace) "__getattribute__" = some (some (.builtin "BaseException.__getattribute__")))
    (gt_NoPlace : PySem.W.findIn K (.ref C_NoPlace) "__getattr__" = some none)
    (sub_NoPlace : PySem.W.subIn K (.ref C_NoPlace) (.type "BaseException") = some true)
    (kc_NoPlace : PySem.W.findIn K (.ref C_NoPlace) "__class__" = some (some (.builtin "object.__class__")))
    (ob_NoPlace : PySem.W.mroIn K C_NoPlace (.type "object") = some true)
    (cI_NoPlace : PySem.W.isClsIn K C_NoPlace = true)
    (cT_NoPlace : PySem.W.typeIn K (.ref C_NoPlace) = some (.type "type"))
    (hd_NoPlace : PySem.W.hasDictIn K C_NoPlace = true)
    (kC_NoPlace : PySem.W.keepIn K (.ref C_NoPlace) = true)
    (xL_NoPlace : K.lookup C_NoPlace = some (excClassObj nm_NoPlace q_NoPlace C_NoPlace NS_NoPlace bs_NoPlace [.ref C_PagesError, .type "ValueError", .type "Exception", .type "BaseException", .type "object"] true sn_NoPlace sb_NoPlace ab_NoPlace co_NoPlace dd_NoPlace m0_NoPlace m1_NoPlace m2_NoPlace m3_NoPlace m5_NoPlace "ValueError.__new__"))
    (sa_NoPlace : PySem.W.findIn K (.ref C_NoPlace) "__setattr__" = some (some (.builtin "object.__setattr__")))
    (no_NoPlace : PySem.W.findIn K (.ref C_NoPlace) "place" = some none)
    (su_NoPlace_PagesError : PySem.W.subIn K (.ref C_NoPlace) (.ref C_PagesError) = some true)
    (su_NoPlace_BadShape : PySem.W.subIn K (.ref C_NoPlace) (.ref C_BadShape) = some false)
    (su_NoPlace_NoPlace : PySem.W.subIn K (.ref C_NoPlace) (.ref C_NoPlace) = some true)
    (gC_Shape : PySem.W.nsIn K mainGlobals "Shape" = some (some (.ref C_Shape)))
    (pgc_Shape : PySem.W.plainGet K C_Shape Str.empty = true)
    (icc_Shape : PySem.W.isClsIn K C_Shape = true)
    (poc_Shape : PySem.W.plainOver K C_Shape = true)
    (sac_Shape : PySem.W.findIn K (.ref C_Shape) "__setattr__" = some (some (.builtin "object.__setattr__")))
    (kpc_Shape : PySem.W.keepIn K (.ref C_Shape) = true)
    (mkc_Shape : PySem.W.makesIn K C_Shape = true)
    (s1_Shape_chunk : PySem.W.findIn K (.ref C_Shape) "chunk" = some (some (.ref pS_Shape_chunk)))
    (s2_Shape_chunk : PySem.W.specialIn K (.ref pS_Shape_chunk) "__get__" = some (some (.builtin "member_descriptor.__get__")))
    (s3_Shape_chunk : PySem.W.takesIn K (.ref pS_Shape_chunk) = some true)
    (s4_Shape_chunk : PySem.W.typeIn K (.ref pS_Shape_chunk) = some (.type "member_descriptor"))
    (s5_Shape_chunk : PySem.W.slotIn K pS_Shape_chunk C_Shape = some 0)
    (s1_Shape_columns : PySem.W.findIn K (.ref C_Shape) "columns" = some (some (.ref pS_Shape_columns)))
    (s2_Shape_columns : PySem.W.specialIn K (.ref pS_Shape_columns) "__get__" = some (some (.builtin "member_descriptor.__get__")))
    (s3_Shape_columns : PySem.W.takesIn K (.ref pS_Shape_columns) = some true)
    (s4_Shape_columns : PySem.W.typeIn K (.ref pS_Shape_columns) = some (.type "member_descriptor"))
    (s5_Shape_columns : PySem.W.slotIn K pS_Shape_columns C_Shape = some 1)
    (s1_Shape_pages : PySem.W.findIn K (.ref C_Shape) "pages" = some (some (.ref pS_Shape_pages)))
    (s2_Shape_pages : PySem.W.specialIn K (.ref pS_Shape_pages) "__get__" = some (some (.builtin "member_descriptor.__get__")))
    (s3_Shape_pages : PySem.W.takesIn K (.ref pS_Shape_pages) = some true)
    (s4_Shape_pages : PySem.W.typeIn K (.ref pS_Shape_pages) = some (.type "member_descriptor"))
    (s5_Shape_pages : PySem.W.slotIn K pS_Shape_pages C_Shape = some 2)
    (s1_Shape_slots : PySem.W.findIn K (.ref C_Shape) "slots" = some (some (.ref pS_Shape_slots)))
    (s2_Shape_slots : PySem.W.specialIn K (.ref pS_Shape_slots) "__get__" = some (some (.builtin "member_descriptor.__get__")))
    (s3_Shape_slots : PySem.W.takesIn K (.ref pS_Shape_slots) = some true)
    (s4_Shape_slots : PySem.W.typeIn K (.ref pS_Shape_slots) = some (.type "member_descriptor"))
    (s5_Shape_slots : PySem.W.slotIn K pS_Shape_slots C_Shape = some 3)
    (rdc_Shape : PySem.W.readsIn K C_Shape (.type "type") = true)
    (sgc_Shape : PySem.W.specialIn K (.ref C_Shape) "__getattribute__" = some (some (.builtin "type.__getattribute__")))
    (cv_Shape_MOST_PAGES : PySem.W.findCls K (.ref C_Shape) (.type "type") "MOST_PAGES" = some (.val (.int (16) ct_Shape_MOST_PAGES)))
    (cv_Shape_MOST_SLOTS : PySem.W.findCls K (.ref C_Shape) (.type "type") "MOST_SLOTS" = some (.val (.int (8) ct_Shape_MOST_SLOTS)))
    (cv_Shape_MOST_CHUNK : PySem.W.findCls K (.ref C_Shape) (.type "type") "MOST_CHUNK" = some (.val (.int (16) ct_Shape_MOST_CHUNK)))
    (cv_Shape_MOST_COLUMNS : PySem.W.findCls K (.ref C_Shape) (.type "type") "MOST_COLUMNS" = some (.val (.int (3) ct_Shape_MOST_COLUMNS)))
    (a0 : PySem.W.findIn K (.ref C_NoPlace) "__init__" = some (some (.ref f0)))
    (t0 : PySem.W.typeIn K (.ref f0) = some (.type "function"))
    (l0 : K.lookup f0 = some ⟨oc0, od0, .func (PySem.W.fnOf "__init__" "NoPlace.__init__" (defArgs s_NoPlace_init) (defBody s_NoPlace_init) (defScope s_NoPlace_init) .none kV0 dc0 pm0 an0 cd0 ct0), sl0⟩)
    (c0 : PySem.W.codeIn K cd0 "NoPlace.__init__" = true)
    (k0 : PySem.W.keepIn K (.ref f0) = true)
    (a1 : PySem.W.nsIn K mainGlobals "is_between" = some (some (.ref f1)))
    (l1 : K.lookup f1 = some ⟨oc1, od1, .func (PySem.W.fnOf "is_between" "is_between" (defArgs s_is_between) (defBody s_is_between) (defScope s_is_between) .none kV1 dc1 pm1 an1 cd1 ct1), sl1⟩)
    (c1 : PySem.W.codeIn K cd1 "is_between" = true)
    (k1 : PySem.W.keepIn K (.ref f1) = true)
    (a2 : PySem.W.nsIn K mainGlobals "check_extent" = some (some (.ref f2)))
    (l2 : K.lookup f2 = some ⟨oc2, od2, .func (PySem.W.fnOf "check_extent" "check_extent" (defArgs s_check_extent) (defBody s_check_extent) (defScope s_check_extent) .none kV2 dc2 pm2 an2 cd2 ct2), sl2⟩)
    (c2 : PySem.W.codeIn K cd2 "check_extent" = true)
    (k2 : PySem.W.keepIn K (.ref f2) = true)
    (a3 : PySem.W.nsIn K mainGlobals "check_page" = some (some (.ref f3)))
    (l3 : K.lookup f3 = some ⟨oc3, od3, .func (PySem.W.fnOf "check_page" "check_page" (defArgs s_check_page) (defBody s_check_page) (defScope s_check_page) .none kV3 dc3 pm3 an3 cd3 ct3), sl3⟩)
    (c3 : PySem.W.codeIn K cd3 "check_page" = true)
    (k3 : PySem.W.keepIn K (.ref f3) = true)
    (a4 : PySem.W.nsIn K mainGlobals "_law_stream" = some (some (.ref f4)))
    (l4 : K.lookup f4 = some ⟨oc4, od4, .func (PySem.W.fnOf "_law_stream" "_law_stream" (defArgs s__law_stream) (defBody s__law_stream) (defScope s__law_stream) .none kV4 dc4 pm4 an4 cd4 ct4), sl4⟩)
    (c4 : PySem.W.codeIn K cd4 "_law_stream" = true)
    (k4 : PySem.W.keepIn K (.ref f4) = true)
    (a5 : PySem.W.nsIn K mainGlobals "_law_draw" = some (some (.ref f5)))
    (l5 : K.lookup f5 = some ⟨oc5, od5, .func (PySem.W.fnOf "_law_draw" "_law_draw" (defArgs s__law_draw) (defBody s__law_draw) (defScope s__law_draw) .none kV5 dc5 pm5 an5 cd5 ct5), sl5⟩)
    (c5 : PySem.W.codeIn K cd5 "_law_draw" = true)
    (k5 : PySem.W.keepIn K (.ref f5) = true)
    (a6 : PySem.W.nsIn K mainGlobals "_law_sizes" = some (some (.ref f6)))
    (l6 : K.lookup f6 = some ⟨oc6, od6, .func (PySem.W.fnOf "_law_sizes" "_law_sizes" (defArgs s__law_sizes) (defBody s__law_sizes) (defScope s__law_sizes) .none kV6 dc6 pm6 an6 cd6 ct6), sl6⟩)
    (c6 : PySem.W.codeIn K cd6 "_law_sizes" = true)
    (k6 : PySem.W.keepIn K (.ref f6) = true)
    (a7 : PySem.W.nsIn K mainGlobals "_law_alike" = some (some (.ref f7)))
    (l7 : K.lookup f7 = some ⟨oc7, od7, .func (PySem.W.fnOf "_law_alike" "_law_alike" (defArgs s__law_alike) (defBody s__law_alike) (defScope s__law_alike) .none kV7 dc7 pm7 an7 cd7 ct7), sl7⟩)
    (c7 : PySem.W.codeIn K cd7 "_law_alike" = true)
    (k7 : PySem.W.keepIn K (.ref f7) = true)
    (a8 : PySem.W.nsIn K mainGlobals "_law_no_page" = some (some (.ref f8)))
    (l8 : K.lookup f8 = some ⟨oc8, od8, .func (PySem.W.fnOf "_law_no_page" "_law_no_page" (defArgs s__law_no_page) (defBody s__law_no_page) (defScope s__law_no_page) .none kV8 dc8 pm8 an8 cd8 ct8), sl8⟩)
    (c8 : PySem.W.codeIn K cd8 "_law_no_page" = true)
    (k8 : PySem.W.keepIn K (.ref f8) = true)
    (a9 : PySem.W.nsIn K mainGlobals "_law_stray" = some (some (.ref f9)))
    (l9 : K.lookup f9 = some ⟨oc9, od9, .func (PySem.W.fnOf "_law_stray" "_law_stray" (defArgs s__law_stray) (defBody s__law_stray) (defScope s__law_stray) .none kV9 dc9 pm9 an9 cd9 ct9), sl9⟩)
    (c9 : PySem.W.codeIn K cd9 "_law_stray" = true)
    (k9 : PySem.W.keepIn K (.ref f9) = true)
    (a10 : PySem.W.nsIn K mainGlobals "_law_place_refused" = some (some (.ref f10)))
    (l10 : K.lookup f10 = some ⟨oc10, od10, .func (PySem.W.fnOf "_law_place_refused" "_law_place_refused" (defArgs s__law_place_refused) (defBody s__law_place_refused) (defScope s__law_place_refused) .none kV10 dc10 pm10 an10 cd10 ct10), sl10⟩)
    (c10 : PySem.W.codeIn K cd10 "_law_place_refused" = true)
    (k10 : PySem.W.keepIn K (.ref f10) = true)
    (a11 : PySem.W.nsIn K mainGlobals "_law_chunks_wrong" = some (some (.ref f11)))
    (l11 : K.lookup f11 = some ⟨oc11, od11, .func (PySem.W.fnOf "_law_chunks_wrong" "_law_chunks_wrong" (defArgs s__law_chunks_wrong) (defBody s__law_chunks_wrong) (defScope s__law_chunks_wrong) .none kV11 dc11 pm11 an11 cd11 ct11), sl11⟩)
    (c11 : PySem.W.codeIn K cd11 "_law_chunks_wrong" = true)
    (k11 : PySem.W.keepIn K (.ref f11) = true)
    (a12 : PySem.W.nsIn K mainGlobals "law" = some (some (.ref f12)))
    (l12 : K.lookup f12 = some ⟨oc12, od12, .func (PySem.W.fnOf "law" "law" (defArgs s_law) (defBody s_law) (defScope s_law) .none kV12 dc12 pm12 an12 cd12 ct12), sl12⟩)
    (c12 : PySem.W.codeIn K cd12 "law" = true)
    (k12 : PySem.W.keepIn K (.ref f12) = true)
    (a13 : PySem.W.findIn K (.ref C_Shape) "__init__" = some (some (.ref f13)))
    (fn13 : PySem.W.isFn K (.ref f13) = true)
    (l13 : K.lookup f13 = some ⟨oc13, od13, .func (PySem.W.fnOf "__init__" "Shape.__init__" (defArgs s_Shape_init) (defBody s_Shape_init) (defScope s_Shape_init) .none (.ref kd13) dc13 pm13 an13 cd13 ct13), sl13⟩)
    (kn13_0 : PySem.W.nsIn K kd13 "chunk" = some (some (.int (4) kt13_0)))
    (kn13_1 : PySem.W.nsIn K kd13 "columns" = some (some (.int (2) kt13_1)))
    (c13 : PySem.W.codeIn K cd13 "Shape.__init__" = true)
    (k13 : PySem.W.keepIn K (.ref f13) = true)
    (pa14 : PySem.W.findIn K (.ref C_Shape) "chunks" = some (some (.ref pp14)))
    (a14 : PySem.W.recIn K pp14 "property" = some (.ref f14 :: rs14))
    (pg14 : PySem.W.specialIn K (.ref pp14) "__get__" = some (some (.builtin "property.__get__")))
    (pt14 : PySem.W.takesIn K (.ref pp14) = some true)
    (l14 : K.lookup f14 = some ⟨oc14, od14, .func (PySem.W.fnOf "chunks" "Shape.chunks" (defArgs s_Shape_chunks) (defBody s_Shape_chunks) (defScope s_Shape_chunks) .none kV14 dc14 pm14 an14 cd14 ct14), sl14⟩)
    (c14 : PySem.W.codeIn K cd14 "Shape.chunks" = true)
    (k14 : PySem.W.keepIn K (.ref f14) = true)
    (a15 : PySem.W.findIn K (.ref C_Shape) "chunk_of" = some (some (.ref f15)))
    (fn15 : PySem.W.isFn K (.ref f15) = true)
    (l15 : K.lookup f15 = some ⟨oc15, od15, .func (PySem.W.fnOf "chunk_of" "Shape.chunk_of" (defArgs s_Shape_chunk_of) (defBody s_Shape_chunk_of) (defScope s_Shape_chunk_of) .none kV15 dc15 pm15 an15 cd15 ct15), sl15⟩)
    (c15 : PySem.W.codeIn K cd15 "Shape.chunk_of" = true)
    (k15 : PySem.W.keepIn K (.ref f15) = true)
    (a16 : PySem.W.findIn K (.ref C_Shape) "pages_of" = some (some (.ref f16)))
    (fn16 : PySem.W.isFn K (.ref f16) = true)
    (l16 : K.lookup f16 = some ⟨oc16, od16, .func (PySem.W.fnOf "pages_of" "Shape.pages_of" (defArgs s_Shape_pages_of) (defBody s_Shape_pages_of) (defScope s_Shape_pages_of) .none kV16 dc16 pm16 an16 cd16 ct16), sl16⟩)
    (c16 : PySem.W.codeIn K cd16 "Shape.pages_of" = true)
    (k16 : PySem.W.keepIn K (.ref f16) = true)
    (a17 : PySem.W.findIn K (.ref C_Shape) "addresses" = some (some (.ref f17)))
    (fn17 : PySem.W.isFn K (.ref f17) = true)
    (l17 : K.lookup f17 = some ⟨oc17, od17, .func (PySem.W.fnOf "addresses" "Shape.addresses" (defArgs s_Shape_addresses) (defBody s_Shape_addresses) (defScope s_Shape_addresses) .none kV17 dc17 pm17 an17 cd17 ct17), sl17⟩)
    (c17 : PySem.W.codeIn K cd17 "Shape.addresses" = true)
    (k17 : PySem.W.keepIn K (.ref f17) = true)
    (a18 : PySem.W.findIn K (.ref C_Shape) "__contains__" = some (some (.ref f18)))
    (fn18 : PySem.W.isFn K (.ref f18) = true)
    (l18 : K.lookup f18 = some ⟨oc18, od18, .func (PySem.W.fnOf "__contains__" "Shape.__contains__" (defArgs s_Shape_contains) (defBody s_Shape_contains) (defScope s_Shape_contains) .none kV18 dc18 pm18 an18 cd18 ct18), sl18⟩)
    (c18 : PySem.W.codeIn K cd18 "Shape.__contains__" = true)
    (k18 : PySem.W.keepIn K (.ref f18) = true)
    (z_abs : PySem.W.nsIn K mainGlobals "abs" = some none)
    (z_bool : PySem.W.nsIn K mainGlobals "bool" = some none)
    (z_int : PySem.W.nsIn K mainGlobals "int" = some none)
    (z_isinstance : PySem.W.nsIn K mainGlobals "isinstance" = some none)
    (z_len : PySem.W.nsIn K mainGlobals "len" = some none)
    (z_list : PySem.W.nsIn K mainGlobals "list" = some none)
    (z_min : PySem.W.nsIn K mainGlobals "min" = some none)
    (z_range : PySem.W.nsIn K mainGlobals "range" = some none)
    (z_str : PySem.W.nsIn K mainGlobals "str" = some none)
    (z_tuple : PySem.W.nsIn K mainGlobals "tuple" = some none) :
    ∃ fd : FuncData, (∀ (s : Shared) (v : Value), BindsTo s fd ⟨[v], []⟩ [("_law_script", v)]) ∧ ∀ base : Heap, K.In base → base.Ns mainGlobals mg → FnOk l.prog w K mg base CX0 7 fa fd ["_law_script"] (spLaw K) := by
  have e := hfa.symm.trans (PySem.W.mg_of X G a12)
  cases e
  have F0 := fun_mk (st := s_NoPlace_init) l0 c0 k0
  have b0 := F0.binds (ps := ["self", "place"]) fun _ _ _ _ _ _ us hl => match us, hl with | [_, _], _ => rfl
  have F1 := fun_mk (st := s_is_between) l1 c1 k1
  have b1 := F1.binds (ps := ["value", "low", "high"]) fun _ _ _ _ _ _ us hl => match us, hl with | [_, _, _], _ => rfl
  have F2 := fun_mk (st := s_check_extent) l2 c2 k2
  have b2 := F2.binds (ps := ["value", "most"]) fun _ _ _ _ _ _ us hl => match us, hl with | [_, _], _ => rfl
  have F3 := fun_mk (st := s_check_page) l3 c3 k3
  have b3 := F3.binds (ps := ["page", "shape"]) fun _ _ _ _ _ _ us hl => match us, hl with | [_, _], _ => rfl
  have F4 := fun_mk (st := s__law_stream) l4 c4 k4
  have b4 := F4.binds (ps := ["_law_script"]) fun _ _ _ _ _ _ us hl => match us, hl with | [_], _ => rfl
  have F5 := fun_mk (st := s__law_draw) l5 c5 k5
  have b5 := F5.binds (ps := ["_law_stream_here", "_law_many"]) fun _ _ _ _ _ _ us hl => match us, hl with | [_, _], _ => rfl
  have F6 := fun_mk (st := s__law_sizes) l6 c6 k6
  have b6 := F6.binds (ps := ["_law_stream_here", "_law_pages", "_law_slots"]) fun _ _ _ _ _ _ us hl => match us, hl with | [_, _, _], _ => rfl
  have F7 := fun_mk (st := s__law_alike) l7 c7 k7
  have b7 := F7.binds (ps := ["_law_told", "_law_due"]) fun _ _ _ _ _ _ us hl => match us, hl with | [_, _], _ => rfl
  have F8 := fun_mk (st := s__law_no_page) l8 c8 k8
  have b8 := F8.binds (ps := ["_law_stream_here", "_law_most"]) fun _ _ _ _ _ _ us hl => match us, hl with | [_, _], _ => rfl
  have F9 := fun_mk (st := s__law_stray) l9 c9 k9
  have b9 := F9.binds (ps := ["_law_stream_here", "_law_pages", "_law_slots"]) fun _ _ _ _ _ _ us hl => match us, hl with | [_, _, _], _ => rfl
  have F10 := fun_mk (st := s__law_place_refused) l10 c10 k10
  have b10 := F10.binds (ps := ["_law_shape", "_law_value", "_law_way"]) fun _ _ _ _ _ _ us hl => match us, hl with | [_, _, _], _ => rfl
  have F11 := fun_mk (st := s__law_chunks_wrong) l11 c11 k11
  have b11 := F11.binds (ps := ["_law_shape", "_law_pages", "_law_group", "_law_count"]) fun _ _ _ _ _ _ us hl => match us, hl with | [_, _, _, _], _ => rfl
  have F12 := fun_mk (st := s_law) l12 c12 k12
  have F13 : FunD K "__init__" "Shape.__init__" (defArgs s_Shape_init) (defBody s_Shape_init) (defScope s_Shape_init) [] [("chunk", .int (4)), ("columns", .int (2))] f13 _ := ⟨⟨_, _, _, _, _, _, _, _, _, _, rfl, l13, c13, .inl ⟨rfl, rfl⟩, .inr ⟨_, rfl, by
      intro q hq
      simp only [List.mem_cons, List.not_mem_nil, or_false] at hq
      rcases hq with hq | hq
      · subst hq; exact ⟨_, kn13_0, ⟨_, rfl⟩⟩
      · subst hq; exact ⟨_, kn13_1, ⟨_, rfl⟩⟩⟩⟩, k13⟩
  have F14 := fun_mk (st := s_Shape_chunks) l14 c14 k14
  have b14 := F14.binds (ps := ["self"]) fun _ _ _ _ _ _ us hl => match us, hl with | [_], _ => rfl
  have F15 := fun_mk (st := s_Shape_chunk_of) l15 c15 k15
  have b15 := F15.binds (ps := ["self", "page"]) fun _ _ _ _ _ _ us hl => match us, hl with | [_, _], _ => rfl
  have F16 := fun_mk (st := s_Shape_pages_of) l16 c16 k16
  have b16 := F16.binds (ps := ["self", "chunk"]) fun _ _ _ _ _ _ us hl => match us, hl with | [_, _], _ => rfl
  have F17 := fun_mk (st := s_Shape_addresses) l17 c17 k17
  have b17 := F17.binds (ps := ["self"]) fun _ _ _ _ _ _ us hl => match us, hl with | [_], _ => rfl
  have F18 := fun_mk (st := s_Shape_contains) l18 c18 k18
  have b18 := F18.binds (ps := ["self", "address"]) fun _ _ _ _ _ _ us hl => match us, hl with | [_, _], _ => rfl
  have T : Txt K mg := { a_NoPlace_init := _, d_NoPlace_init := _, F_NoPlace_init := F0, b_NoPlace_init := b0, iC_NoPlace := a0, tI_NoPlace := t0, no_NoPlace := no_NoPlace, oc_NoPlace := { cls := ⟨_, _, _, _, _, _, _, _, _, _, _, _, _, _, _, xL_NoPlace, by rfl⟩, sa := sa_NoPlace, exC := sub_NoPlace, tyC := cT_NoPlace, kC := kC_NoPlace }, a_is_between := _, d_is_between := _, F_is_between := F1, b_is_between := b1, g_is_between := PySem.W.mg_of X G a1, a_check_extent := _, d_check_extent := _, F_check_extent := F2, b_check_extent := b2, g_check_extent := PySem.W.mg_of X G a2, a_check_page := _, d_check_page := _, F_check_page := F3, b_check_page := b3, g_check_page := PySem.W.mg_of X G a3, a_stream := _, d_stream := _, F_stream := F4, b_stream := b4, g_stream := PySem.W.mg_of X G a4, a_draw := _, d_draw := _, F_draw := F5, b_draw := b5, g_draw := PySem.W.mg_of X G a5, a_sizes := _, d_sizes := _, F_sizes := F6, b_sizes := b6, g_sizes := PySem.W.mg_of X G a6, a_alike := _, d_alike := _, F_alike := F7, b_alike := b7, g_alike := PySem.W.mg_of X G a7, a_no_page := _, d_no_page := _, F_no_page := F8, b_no_page := b8, g_no_page := PySem.W.mg_of X G a8, a_stray := _, d_stray := _, F_stray := F9, b_stray := b9, g_stray := PySem.W.mg_of X G a9, a_place_refused := _, d_place_refused := _, F_place_refused := F10, b_place_refused := b10, g_place_refused := PySem.W.mg_of X G a10, a_chunks_wrong := _, d_chunks_wrong := _, F_chunks_wrong := F11, b_chunks_wrong := b11, g_chunks_wrong := PySem.W.mg_of X G a11, a_Shape_init := _, d_Shape_init := _, F_Shape_init := F13, mk_Shape := ⟨mkc_Shape, a13, fn13, kpc_Shape⟩, a_Shape_chunks := _, d_Shape_chunks := _, F_Shape_chunks := F14, b_Shape_chunks := b14, pp_Shape_chunks := _, pa_Shape_chunks := pa14, pg_Shape_chunks := pg14, pt_Shape_chunks := pt14, pr_Shape_chunks := ⟨_, a14⟩, a_Shape_chunk_of := _, d_Shape_chunk_of := _, F_Shape_chunk_of := F15, b_Shape_chunk_of := b15, me_Shape_chunk_of := ⟨a15, fn15, k15⟩, a_Shape_pages_of := _, d_Shape_pages_of := _, F_Shape_pages_of := F16, b_Shape_pages_of := b16, me_Shape_pages_of := ⟨a16, fn16, k16⟩, a_Shape_addresses := _, d_Shape_addresses := _, F_Shape_addresses := F17, b_Shape_addresses := b17, me_Shape_addresses := ⟨a17, fn17, k17⟩, a_Shape_contains := _, d_Shape_contains := _, F_Shape_contains := F18, b_Shape_contains := b18, me_Shape_contains := ⟨a18, fn18, k18⟩, C_Shape := _, g_Shape := PySem.W.mg_of X G gC_Shape, sC_Shape := ⟨pgc_Shape, icc_Shape, poc_Shape, sac_Shape⟩, kC_Shape := kpc_Shape, pS_Shape_chunk := _, sl_Shape_chunk := ⟨s1_Shape_chunk, s2_Shape_chunk, s3_Shape_chunk, s4_Shape_chunk, s5_Shape_chunk, by decide⟩, pS_Shape_columns := _, sl_Shape_columns := ⟨s1_Shape_columns, s2_Shape_columns, s3_Shape_columns, s4_Shape_columns, s5_Shape_columns, by decide⟩, pS_Shape_pages := _, sl_Shape_pages := ⟨s1_Shape_pages, s2_Shape_pages, s3_Shape_pages, s4_Shape_pages, s5_Shape_pages, by decide⟩, pS_Shape_slots := _, sl_Shape_slots := ⟨s1_Shape_slots, s2_Shape_slots, s3_Shape_slots, s4_Shape_slots, s5_Shape_slots, by decide⟩, cr_Shape := ⟨rdc_Shape, sgc_Shape⟩, cu_Shape_MOST_PAGES := _, cv_Shape_MOST_PAGES := ⟨cv_Shape_MOST_PAGES, ⟨_, rfl⟩⟩, cu_Shape_MOST_SLOTS := _, cv_Shape_MOST_SLOTS := ⟨cv_Shape_MOST_SLOTS, ⟨_, rfl⟩⟩, cu_Shape_MOST_CHUNK := _, cv_Shape_MOST_CHUNK := ⟨cv_Shape_MOST_CHUNK, ⟨_, rfl⟩⟩, cu_Shape_MOST_COLUMNS := _, cv_Shape_MOST_COLUMNS := ⟨cv_Shape_MOST_COLUMNS, ⟨_, rfl⟩⟩, C_PagesError := _, g_PagesError := PySem.W.mg_of X G gC_PagesError, cB_PagesError := sub_PagesError, cT_PagesError := cT_PagesError, kC_PagesError := kC_PagesError, is_PagesError := { c := cI_PagesError, ga := ga_PagesError, gt := gt_PagesError, sub := sub_PagesError, kc := kc_PagesError, kg := kgC, kt := ktC, ob := ob_PagesError }, xf_PagesError := ⟨ga_PagesError, gt_PagesError, sub_PagesError, hd_PagesError⟩, ie_PagesError := ⟨ga_PagesError, gt_PagesError, sub_PagesError, hd_PagesError, kc_PagesError, kgC, ktC, ob_PagesError⟩, kv_PagesError := kit_val sv_PagesError, xF_PagesError := xF_PagesError, ga_PagesError := sg_PagesError, rd_PagesError := rd_PagesError, vV_PagesError := vV_PagesError, kit_PagesError_PagesError := kit_own cI_PagesError cT_PagesError su_PagesError_PagesError (.inl rfl), te_PagesError_PagesError := exm_own sub_PagesError cI_PagesError cT_PagesError su_PagesError_PagesError, kit_PagesError_BadShape := kit_own cI_BadShape cT_BadShape su_PagesError_BadShape (.inr fun z => by rw [← z, su_PagesError_PagesError] at su_PagesError_BadShape; cases su_PagesError_BadShape), te_PagesError_BadShape := exm_own sub_BadShape cI_BadShape cT_BadShape su_PagesError_BadShape, kit_PagesError_NoPlace := kit_own cI_NoPlace cT_NoPlace su_PagesError_NoPlace (.inr fun z => by rw [← z, su_PagesError_PagesError] at su_PagesError_NoPlace; cases su_PagesError_NoPlace), te_PagesError_NoPlace := exm_own sub_NoPlace cI_NoPlace cT_NoPlace su_PagesError_NoPlace, C_BadShape := _, g_BadShape := PySem.W.mg_of X G gC_BadShape, cB_BadShape := sub_BadShape, cT_BadShape := cT_BadShape, kC_BadShape := kC_BadShape, is_BadShape := { c := cI_BadShape, ga := ga_BadShape, gt := gt_BadShape, sub := sub_BadShape, kc := kc_BadShape, kg := kgC, kt := ktC, ob := ob_BadShape }, xf_BadShape := ⟨ga_BadShape, gt_BadShape, sub_BadShape, hd_BadShape⟩, ie_BadShape := ⟨ga_BadShape, gt_BadShape, sub_BadShape, hd_BadShape, kc_BadShape, kgC, ktC, ob_BadShape⟩, kv_BadShape := kit_val sv_BadShape, xF_BadShape := xF_BadShape, ga_BadShape := sg_BadShape, rd_BadShape := rd_BadShape, vV_BadShape := vV_BadShape, kit_BadShape_PagesError := kit_own cI_PagesError cT_PagesError su_BadShape_PagesError (.inl rfl), te_BadShape_PagesError := exm_own sub_PagesError cI_PagesError cT_PagesError su_BadShape_PagesError, kit_BadShape_BadShape := kit_own cI_BadShape cT_BadShape su_BadShape_BadShape (.inl rfl), te_BadShape_BadShape := exm_own sub_BadShape cI_BadShape cT_BadShape su_BadShape_BadShape, kit_BadShape_NoPlace := kit_own cI_NoPlace cT_NoPlace su_BadShape_NoPlace (.inr fun z => by rw [← z, su_BadShape_BadShape] at su_BadShape_NoPlace; cases su_BadShape_NoPlace), te_BadShape_NoPlace := exm_own sub_NoPlace cI_NoPlace cT_NoPlace su_BadShape_NoPlace, C_NoPlace := _, g_NoPlace := PySem.W.mg_of X G gC_NoPlace, cB_NoPlace := sub_NoPlace, cT_NoPlace := cT_NoPlace, kC_NoPlace := kC_NoPlace, is_NoPlace := { c := cI_NoPlace, ga := ga_NoPlace, gt := gt_NoPlace, sub := sub_NoPlace, kc := kc_NoPlace, kg := kgC, kt := ktC, ob := ob_NoPlace }, xf_NoPlace := ⟨ga_NoPlace, gt_NoPlace, sub_NoPlace, hd_NoPlace⟩, kit_NoPlace_PagesError := kit_own cI_PagesError cT_PagesError su_NoPlace_PagesError (.inl rfl), te_NoPlace_PagesError := exm_own sub_PagesError cI_PagesError cT_PagesError su_NoPlace_PagesError, kit_NoPlace_BadShape := kit_own cI_BadShape cT_BadShape su_NoPlace_BadShape (.inr fun z => by rw [← z, su_NoPlace_NoPlace] at su_NoPlace_BadShape; cases su_NoPlace_BadShape), te_NoPlace_BadShape := exm_own sub_BadShape cI_BadShape cT_BadShape su_NoPlace_BadShape, kit_NoPlace_NoPlace := kit_own cI_NoPlace cT_NoPlace su_NoPlace_NoPlace (.inl rfl), te_NoPlace_NoPlace := exm_own sub_NoPlace cI_NoPlace cT_NoPlace su_NoPlace_NoPlace, z_abs := PySem.W.mg_none_of X G z_abs, z_bool := PySem.W.mg_none_of X G z_bool, z_int := PySem.W.mg_none_of X G z_int, z_isinstance := PySem.W.mg_none_of X G z_isinstance, z_len := PySem.W.mg_none_of X G z_len, z_list := PySem.W.mg_none_of X G z_list, z_min := PySem.W.mg_none_of X G z_min, z_range := PySem.W.mg_none_of X G z_range, z_str := PySem.W.mg_none_of X G z_str, z_tuple := PySem.W.mg_none_of X G z_tuple }
  exact ⟨PySem.W.fnOf "law" "law" (defArgs s_law) (defBody s_law) (defScope s_law) .none kV12 dc12 pm12 an12 cd12 ct12, fun s v => .of_eq rfl, fun base _ _ => ok_law F12 T⟩
end Y
open PySem PySem.W PyProof.Rows
set_option maxHeartbeats 0 in
theorem PySem.Challenge.cw_wholepages_k02_addresses_and_chunks_holds : PySem.Challenge.rw_wholepages_k02_addresses_and_chunks.Holds := by
  w_on; o_law; k_head; (case hw => w_witness2)
  k_fill
  refine L2.walk_of (l := PySem.Challenge.rw_wholepages_k02_addresses_and_chunks) (n := 63) (k := 7) (x := "_law_script") (CX := fun _ => L2.CX0) (sp := fun w => Y.spLaw _) rfl (by decide) rfl ⟨rfl, by decide, by decide⟩ (fun w h Y => PySem.W.kIn_of Y) ?F (fun _ _ a ns hl _ hS => ⟨a, ns, rfl, hS, hl, fun _ => rfl⟩) (fun _ _ _ _ _ h => h)
  case F =>
    intro w mg fa h KX G hmg
    refine' Y.all_mk KX G hmg ?gC_PagesError ?gC_BadShape ?gC_NoPlace ?kgC ?ktC ?ga_PagesError ?gt_PagesError ?sub_PagesError ?kc_PagesError ?ob_PagesError ?cI_PagesError ?cT_PagesError ?hd_PagesError ?kC_PagesError ?sv_PagesError ?xF_PagesError ?sg_PagesError ?rd_PagesError ?vV_PagesError ?su_PagesError_PagesError ?su_PagesError_BadShape ?su_PagesError_NoPlace ?ga_BadShape ?gt_BadShape ?sub_BadShape ?kc_BadShape ?ob_BadShape ?cI_BadShape ?cT_BadShape ?hd_BadShape ?kC_BadShape ?sv_BadShape ?xF_BadShape ?sg_BadShape ?rd_BadShape ?vV_BadShape ?su_BadShape_PagesError ?su_BadShape_BadShape ?su_BadShape_NoPlace ?ga_NoPlace ?gt_NoPlace ?sub_NoPlace ?kc_NoPlace ?ob_NoPlace ?cI_NoPlace ?cT_NoPlace ?hd_NoPlace ?kC_NoPlace ?xL_NoPlace ?sa_NoPlace ?no_NoPlace ?su_NoPlace_PagesError ?su_NoPlace_BadShape ?su_NoPlace_NoPlace ?gC_Shape ?pgc_Shape ?icc_Shape ?poc_Shape ?sac_Shape ?kpc_Shape ?mkc_Shape ?s1_Shape_chunk ?s2_Shape_chunk ?s3_Shape_chunk ?s4_Shape_chunk ?s5_Shape_chunk ?s1_Shape_columns ?s2_Shape_columns ?s3_Shape_columns ?s4_Shape_columns ?s5_Shape_columns ?s1_Shape_pages ?s2_Shape_pages ?s3_Shape_pages ?s4_Shape_pages ?s5_Shape_pages ?s1_Shape_slots ?s2_Shape_slots ?s3_Shape_slots ?s4_Shape_slots ?s5_Shape_slots ?rdc_Shape ?sgc_Shape ?cv_Shape_MOST_PAGES ?cv_Shape_MOST_SLOTS ?cv_Shape_MOST_CHUNK ?cv_Shape_MOST_COLUMNS ?a0 ?t0 ?l0 ?c0 ?k0 ?a1 ?l1 ?c1 ?k1 ?a2 ?l2 ?c2 ?k2 ?a3 ?l3 ?c3 ?k3 ?a4 ?l4 ?c4 ?k4 ?a5 ?l5 ?c5 ?k5 ?a6 ?l6 ?c6 ?k6 ?a7 ?l7 ?c7 ?k7 ?a8 ?l8 ?c8 ?k8 ?a9 ?l9 ?c9 ?k9 ?a10 ?l10 ?c10 ?k10 ?a11 ?l11 ?c11 ?k11 ?a12 ?l12 ?c12 ?k12 ?a13 ?fn13 ?l13 ?kn13_0 ?kn13_1 ?c13 ?k13 ?pa14 ?a14 ?pg14 ?pt14 ?l14 ?c14 ?k14 ?a15 ?fn15 ?l15 ?c15 ?k15 ?a16 ?fn16 ?l16 ?c16 ?k16 ?a17 ?fn17 ?l17 ?c17 ?k17 ?a18 ?fn18 ?l18 ?c18 ?k18 ?z_abs ?z_bool ?z_int ?z_isinstance ?z_len ?z_list ?z_min ?z_range ?z_str ?z_tuple
    (case gC_PagesError => k_is); (case gC_BadShape => k_is); (case gC_NoPlace => k_is); (case kgC => k_is); (case ktC => k_is); (case ga_PagesError => k_is); (case gt_PagesError => k_is); (case sub_PagesError => k_is); (case kc_PagesError => k_is); (case ob_PagesError => k_is); (case cI_PagesError => k_is); (case cT_PagesError => k_is); (case hd_PagesError => k_is); (case kC_PagesError => k_is); (case sv_PagesError => k_is); (case xF_PagesError => k_exc); (case sg_PagesError => k_is); (case rd_PagesError => k_is); (case vV_PagesError => k_is); (case su_PagesError_PagesError => k_is); (case su_PagesError_BadShape => k_is); (case su_PagesError_NoPlace => k_is); (case ga_BadShape => k_is); (case gt_BadShape => k_is); (case sub_BadShape => k_is); (case kc_BadShape => k_is); (case ob_BadShape => k_is); (case cI_BadShape => k_is); (case cT_BadShape => k_is); (case hd_BadShape => k_is); (case kC_BadShape => k_is); (case sv_BadShape => k_is); (case xF_BadShape => k_exc); (case sg_BadShape => k_is); (case rd_BadShape => k_is); (case vV_BadShape => k_is); (case su_BadShape_PagesError => k_is); (case su_BadShape_BadShape => k_is); (case su_BadShape_NoPlace => k_is); (case ga_NoPlace => k_is); (case gt_NoPlace => k_is); (case sub_NoPlace => k_is); (case kc_NoPlace => k_is); (case ob_NoPlace => k_is); (case cI_NoPlace => k_is); (case cT_NoPlace => k_is); (case hd_NoPlace => k_is); (case kC_NoPlace => k_is); (case xL_NoPlace => k_is); (case sa_NoPlace => k_is); (case no_NoPlace => k_is); (case su_NoPlace_PagesError => k_is); (case su_NoPlace_BadShape => k_is); (case su_NoPlace_NoPlace => k_is); (case gC_Shape => k_is); (case pgc_Shape => k_is); (case icc_Shape => k_is); (case poc_Shape => k_is); (case sac_Shape => k_is); (case kpc_Shape => k_is); (case mkc_Shape => k_is); (case s1_Shape_chunk => k_is); (case s2_Shape_chunk => k_is); (case s3_Shape_chunk => k_is); (case s4_Shape_chunk => k_is); (case s5_Shape_chunk => k_is); (case s1_Shape_columns => k_is); (case s2_Shape_columns => k_is); (case s3_Shape_columns => k_is); (case s4_Shape_columns => k_is); (case s5_Shape_columns => k_is); (case s1_Shape_pages => k_is); (case s2_Shape_pages => k_is); (case s3_Shape_pages => k_is); (case s4_Shape_pages => k_is); (case s5_Shape_pages => k_is); (case s1_Shape_slots => k_is); (case s2_Shape_slots => k_is); (case s3_Shape_slots => k_is); (case s4_Shape_slots => k_is); (case s5_Shape_slots => k_is); (case rdc_Shape => k_is); (case sgc_Shape => k_is); (case cv_Shape_MOST_PAGES => k_is); (case cv_Shape_MOST_SLOTS => k_is); (case cv_Shape_MOST_CHUNK => k_is); (case cv_Shape_MOST_COLUMNS => k_is); (case a0 => k_is); (case t0 => k_is); (case l0 => k_is); (case c0 => k_is); (case k0 => k_is); (case a1 => k_is); (case l1 => k_is); (case c1 => k_is); (case k1 => k_is); (case a2 => k_is); (case l2 => k_is); (case c2 => k_is); (case k2 => k_is); (case a3 => k_is); (case l3 => k_is); (case c3 => k_is); (case k3 => k_is); (case a4 => k_is); (case l4 => k_is); (case c4 => k_is); (case k4 => k_is); (case a5 => k_is); (case l5 => k_is); (case c5 => k_is); (case k5 => k_is); (case a6 => k_is); (case l6 => k_is); (case c6 => k_is); (case k6 => k_is); (case a7 => k_is); (case l7 => k_is); (case c7 => k_is); (case k7 => k_is); (case a8 => k_is); (case l8 => k_is); (case c8 => k_is); (case k8 => k_is); (case a9 => k_is); (case l9 => k_is); (case c9 => k_is); (case k9 => k_is); (case a10 => k_is); (case l10 => k_is); (case c10 => k_is); (case k10 => k_is); (case a11 => k_is); (case l11 => k_is); (case c11 => k_is); (case k11 => k_is); (case a12 => k_is); (case l12 => k_is); (case c12 => k_is); (case k12 => k_is); (case a13 => k_is); (case fn13 => k_is); (case l13 => k_is); (case kn13_0 => k_is); (case kn13_1 => k_is); (case c13 => k_is); (case k13 => k_is); (case pa14 => k_is); (case a14 => k_is); (case pg14 => k_is); (case pt14 => k_is); (case l14 => k_is); (case c14 => k_is); (case k14 => k_is); (case a15 => k_is); (case fn15 => k_is); (case l15 => k_is); (case c15 => k_is); (case k15 => k_is); (case a16 => k_is); (case fn16 => k_is); (case l16 => k_is); (case c16 => k_is); (case k16 => k_is); (case a17 => k_is); (case fn17 => k_is); (case l17 => k_is); (case c17 => k_is); (case k17 => k_is); (case a18 => k_is); (case fn18 => k_is); (case l18 => k_is); (case c18 => k_is); (case k18 => k_is); (case z_abs => k_is); (case z_bool => k_is); (case z_int => k_is); (case z_isinstance => k_is); (case z_len => k_is); (case z_list => k_is); (case z_min => k_is); (case z_range => k_is); (case z_str => k_is); (case z_tuple => k_is)

