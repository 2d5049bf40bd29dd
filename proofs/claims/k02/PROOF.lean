import PyProof.Rows.All
import Wide.All
import OpenK.AllK
import Wide.FinOn
import HandS.ForMost
import HandS.IsInst
import HandS.Exc
import HandS.TryOnly
import HandS.ExcOwn
import HandS.WordsExc
import HandS.CallSlots
import HandS.Defaults
import HandS.MakeKw
import HandS.MakeKwOnly
import HandS.Wide
import HandS.WideBits
import HandS.Gcd
import HandS.HotCalls
import HandS.ExcInit
import HandS.ExcField
import HandS.OwnEq
import HandS.TupAny
import HandS.Style
import HandS.Hot
import HandS.ExcCtx
import PySem.Challenge.RW_greatestnext_k02_fractions
set_option Elab.async false
set_option linter.all false
set_option maxRecDepth 100000
set_option maxHeartbeats 4000000
set_option exponentiation.threshold 5000
/-! Readings brought to a plain form: loops folded, calls by kinds. -/
namespace Rd
open PySem PySem.Spec PyProof.Rows L2
/-- a loop whose iterator has come -/
def Loop (J : It) (g : TG) (tb : TS) (D : Ends) (σ : L2.St) (H : Hp) : Prop := tFor (fun _ H1 R => R J H1) g tb D σ H
theorem tFor_rng1 {ta : TA} {g : TG} {tb : TS} {D : Ends} {σ : L2.St} {H : Hp} : tFor (iRng1 ta) g tb D σ H = ta σ H (fun vs H1 => ∃ j : Int, vs = [.int j] ∧ -(2 ^ 62) ≤ j ∧ j < 2 ^ 62 ∧ Loop (Itr 0 j.toNat) g tb D σ H1) := rfl
theorem tFor_rng2 {ta : TA} {g : TG} {tb : TS} {D : Ends} {σ : L2.St} {H : Hp} : tFor (iRng2 ta) g tb D σ H = ta σ H (fun vs H1 => ∃ i j : Int, vs = [.int i, .int j] ∧ (-(2 ^ 62) ≤ i ∧ i < 2 ^ 62 ∧ -(2 ^ 62) ≤ j ∧ j < 2 ^ 62) ∧ Loop (Itr i (j - i).toNat) g tb D σ H1) := rfl
theorem tFor_list {K : PySem.W.Frag} {tl : TE} {g : TG} {tb : TS} {D : Ends} {σ : L2.St} {H : Hp} : tFor (iList K tl) g tb D σ H = tl σ H (fun x H1 => ∃ a, x = .ref a ∧ (∃ xs, SqL K H1 a xs) ∧ Loop (Itl K a) g tb D σ H1) := rfl
theorem tFor_tup {K : PySem.W.Frag} {tl : TE} {g : TG} {tb : TS} {D : Ends} {σ : L2.St} {H : Hp} : tFor (iTup K tl) g tb D σ H = tl σ H (fun x H1 => ∃ a, x = .ref a ∧ (∃ xs, SqT K H1 a xs) ∧ Loop (Itt K a) g tb D σ H1) := rfl
theorem loop_rng {lo : Int} {n : Nat} {g : TG} {tb : TS} {D : Ends} {σ : L2.St} {H : Hp} (Pv : Nat → L2.St → Hp → Prop) (h0 : Pv 0 σ H)
    (hs : ∀ i σ H, i < n → Pv i σ H → g (.int (lo + i)) σ H fun σ2 H2 => tb { D with nx := Pv (i + 1), ct := Pv (i + 1), bk := D.nx } σ2 H2) (hd : ∀ σ H, Pv n σ H → D.nx σ H) : Loop (Itr lo n) g tb D σ H := for_range Pv h0 hs hd
theorem loop_list {K : PySem.W.Frag} {a : Addr} {xs : List V} {g : TG} {tb : TS} {D : Ends} {σ : L2.St} {H : Hp} (Pv : Nat → L2.St → Hp → Prop) (h0 : Pv 0 σ H) (hl : ∀ i σ H, i ≤ xs.length → Pv i σ H → SqL K H a xs)
    (hs : ∀ i x σ H, xs[i]? = some x → Pv i σ H → g x σ H fun σ2 H2 => tb { D with nx := Pv (i + 1), ct := Pv (i + 1), bk := D.nx } σ2 H2) (hd : ∀ σ H, Pv xs.length σ H → D.nx σ H) : Loop (Itl K a) g tb D σ H := for_list Pv h0 hl hs hd
/-- a comprehension whose iterator has come -/
def LcL (J : It) (g : TG) (tt : TT) (te : TE) (vs : List Nat) (σ : L2.St) (H : Hp) (Q : VK) : Prop := tLc (fun _ H1 R => R J H1) g tt te vs σ H Q
theorem tLc_list {K : PySem.W.Frag} {tl : TE} {g : TG} {tt : TT} {te : TE} {vs : List Nat} {σ : L2.St} {H : Hp} {Q : VK} : tLc (iList K tl) g tt te vs σ H Q = tl σ H (fun x H1 => ∃ a, x = .ref a ∧ (∃ xs, SqL K H1 a xs) ∧ LcL (Itl K a) g tt te vs σ H1 Q) := rfl
theorem tLc_tup {K : PySem.W.Frag} {tl : TE} {g : TG} {tt : TT} {te : TE} {vs : List Nat} {σ : L2.St} {H : Hp} {Q : VK} : tLc (iTup K tl) g tt te vs σ H Q = tl σ H (fun x H1 => ∃ a, x = .ref a ∧ (∃ xs, SqT K H1 a xs) ∧ LcL (Itt K a) g tt te vs σ H1 Q) := rfl
theorem tLc_rng1 {ta : TA} {g : TG} {tt : TT} {te : TE} {vs : List Nat} {σ : L2.St} {H : Hp} {Q : VK} : tLc (iRng1 ta) g tt te vs σ H Q = ta σ H (fun ws H1 => ∃ j : Int, ws = [.int j] ∧ -(2 ^ 62) ≤ j ∧ j < 2 ^ 62 ∧ LcL (Itr 0 j.toNat) g tt te vs σ H1 Q) := rfl
/-- a turn of a comprehension: the element's value is appended at D -/
def LcTurn (te : TE) (tt : TT) (D : Addr) (σw σ2 : L2.St) (vs : List Nat) (H2 : Hp) (R : Hp → Prop) : Prop := wipe σ2 vs = σw ∧ tt σ2 H2 fun b H3 =>
  if b = true then te σ2 H3 fun y H4 => ∃ acc, H4 D = some (.lst acc) ∧ acc.length < sizeLine ∧ R (upd H4 D (.lst (acc ++ [y]))) else R H3
theorem lcl_list {K : PySem.W.Frag} {a : Addr} {xs : List V} {g : TG} {tt : TT} {te : TE} {vs : List Nat} {σ : L2.St} {H : Hp} {Q : VK} (Pv : Addr → Nat → Hp → Prop) (h0 : ∀ D, H D = none → Pv D 0 (upd H D (.lst []))) (hl : ∀ D i H1, i ≤ xs.length → Pv D i H1 → SqL K H1 a xs)
    (hs : ∀ D i x H1, xs[i]? = some x → Pv D i H1 → g x (wipe σ vs) H1 fun σ2 H2 => LcTurn te tt D (wipe σ vs) σ2 vs H2 (Pv D (i + 1))) (hd : ∀ D H1, H D = none → Pv D xs.length H1 → Q (.ref D) H1) : LcL (Itl K a) g tt te vs σ H Q :=
  fun D hD => lc_list (Pv D) (h0 D hD) (hl D) (hs D) fun H1 p => hd D H1 hD p
theorem lcl_rng {lo : Int} {n : Nat} {g : TG} {tt : TT} {te : TE} {vs : List Nat} {σ : L2.St} {H : Hp} {Q : VK} (Pv : Addr → Nat → Hp → Prop) (h0 : ∀ D, H D = none → Pv D 0 (upd H D (.lst [])))
    (hs : ∀ D i H1, i < n → Pv D i H1 → g (.int (lo + i)) (wipe σ vs) H1 fun σ2 H2 => LcTurn te tt D (wipe σ vs) σ2 vs H2 (Pv D (i + 1))) (hd : ∀ D H1, H D = none → Pv D n H1 → Q (.ref D) H1) : LcL (Itr lo n) g tt te vs σ H Q :=
  fun D hD => lc_range (Pv D) (h0 D hD) (hs D) fun H1 p => hd D H1 hD p
section
variable {X : Cx}
theorem CallR.imp {f : Value} {r r' : List V → Hp → VK → Prop} (h : CallR X f r) (i : ∀ xs H Q, r' xs H Q → r xs H Q) : CallR X f r' := fun pins s σ H xs us Q I v q => h pins s σ H xs us Q I v (i _ _ _ q)
def rLenL (K : PySem.W.Frag) : List V → Hp → VK → Prop := fun xs H Q => ∃ p ys, xs = [.ref p] ∧ SqL K H p ys ∧ Q (.int ys.length) H
def rLenT (K : PySem.W.Frag) : List V → Hp → VK → Prop := fun xs H Q => ∃ p ys, xs = [.ref p] ∧ SqT K H p ys ∧ Q (.int ys.length) H
def rIntI : List V → Hp → VK → Prop := fun xs H Q => ∃ i, xs = [.int i] ∧ Q (.int i) H
theorem call_lenL : CallR X (.builtin "len") (rLenL X.K) := CallR.imp call_len_seq fun xs H Q ⟨p, ys, e, h, q⟩ => ⟨p, ys, e, .inl h, q⟩
theorem call_lenT : CallR X (.builtin "len") (rLenT X.K) := CallR.imp call_len_seq fun xs H Q ⟨p, ys, e, h, q⟩ => ⟨p, ys, e, .inr h, q⟩
theorem call_intI : CallR X (.type "int") rIntI := CallR.imp call_int1 fun xs H Q ⟨i, e, q⟩ => .inl ⟨i, e, q⟩
end
/-- an item of a list that stands in H by itself -/
def rIxH : R2 := fun x y H Q => ∃ p xs i v, x = .ref p ∧ y = .int i ∧ H p = some (.lst xs) ∧ atI xs i = some v ∧ Q v H
theorem ixH {X : Cx} : IxR X rIxH := fun value slice pins s σ H x y v u Q I rx ry ⟨p, xs, i, z, e1, e2, h, e3, q⟩ hs => ix_list value slice pins s σ H x y v u Q I rx ry ⟨p, xs, i, z, e1, e2, SqL.of h, e3, q⟩ hs
theorem at0 {α : Type} {x : α} {xs : List α} : atI (x :: xs) 0 = some x := atI_nat (j := 0) rfl
theorem at1 {α : Type} {x y : α} {xs : List α} : atI (x :: y :: xs) 1 = some y := atI_nat (j := 1) rfl
theorem at2 {α : Type} {x y z : α} {xs : List α} : atI (x :: y :: z :: xs) 2 = some z := atI_nat (j := 2) rfl
theorem at3 {α : Type} {x y z u : α} {xs : List α} : atI (x :: y :: z :: u :: xs) 3 = some u := atI_nat (j := 3) rfl
theorem ixN40 : ixN 4 0 = some 0 := rfl
theorem ixN41 : ixN 4 1 = some 1 := rfl
theorem ixN42 : ixN 4 2 = some 2 := rfl
theorem ixN43 : ixN 4 3 = some 3 := rfl
theorem scal_ii (a b : Int) : scal (V.int a) (V.int b) = true := rfl
/-- a loop over a range whose break and end meet in Pe -/
theorem loop_rngC {lo : Int} {n : Nat} {g : TG} {tb : TS} {D : Ends} {σ : L2.St} {H : Hp} (Pe : L2.St → Hp → Prop) (Pv : Nat → L2.St → Hp → Prop) (h0 : Pv 0 σ H)
    (hs : ∀ (bk : L2.St → Hp → Prop), (∀ σ H, Pe σ H → bk σ H) → ∀ i σ H, i < n → Pv i σ H → g (.int (lo + i)) σ H fun σ2 H2 => tb { D with nx := Pv (i + 1), ct := Pv (i + 1), bk := bk } σ2 H2)
    (hd : ∀ σ H, Pv n σ H → Pe σ H) (he : ∀ σ H, Pe σ H → D.nx σ H) : Loop (Itr lo n) g tb D σ H := loop_rng Pv h0 (hs D.nx he) fun σ H p => he σ H (hd σ H p)
theorem loop_listC {K : PySem.W.Frag} {a : Addr} {xs : List V} {g : TG} {tb : TS} {D : Ends} {σ : L2.St} {H : Hp} (Pe : L2.St → Hp → Prop) (Pv : Nat → L2.St → Hp → Prop) (h0 : Pv 0 σ H) (hl : ∀ i σ H, i ≤ xs.length → Pv i σ H → SqL K H a xs)
    (hs : ∀ (bk : L2.St → Hp → Prop), (∀ σ H, Pe σ H → bk σ H) → ∀ i x σ H, xs[i]? = some x → Pv i σ H → g x σ H fun σ2 H2 => tb { D with nx := Pv (i + 1), ct := Pv (i + 1), bk := bk } σ2 H2)
    (hd : ∀ σ H, Pv xs.length σ H → Pe σ H) (he : ∀ σ H, Pe σ H → D.nx σ H) : Loop (Itl K a) g tb D σ H := loop_list Pv h0 hl (hs D.nx he) fun σ H p => he σ H (hd σ H p)
theorem ite_true_of {c : Bool} {A B : Prop} (hc : c = true) (h : A) : if c = true then A else B := by
  rw [if_pos hc]; exact h
theorem ite_false_of {c : Bool} {A B : Prop} (hc : c = false) (h : B) : if c = true then A else B := by
  rw [hc, if_neg Bool.false_ne_true]; exact h
end Rd
/-! Rules of our own over the hand layer: an own operator, an own ==, // by any divisor, classes made within a try, a method called by keywords. -/
namespace Own
open PySem PySem.Spec PyProof.Rows L2
abbrev St := L2.St
section
variable {X : Cx} {CX : CXT} {k n : Nat} {f C : Addr} {fd : FuncData} {ps : List Str} {sp : Sp}
/-- // by a divisor of any sign below 2 ^ 9000 in size -/
def CDivM (_ j : Int) : Prop := j ≠ 0 ∧ j.natAbs.log2 < 9000
theorem op_fdivWN : OpR X (binaryOp .FloorDiv) (rI CDivM fun i j => .int (i.fdiv j)) := opI fun i j _ _ _ _ _ hc q =>
  floordiv_int hc.1 q (.inl (PyProof.noPylong_of_log2 hc.2))
/-- x op y by the class's own method: x and y are instances of the class at C -/
def rOwn (C : Addr) (sp : Sp) (E : XK) : R2 := fun x y H Q => ∃ a b dx dy fs gs, x = .ref a ∧ y = .ref b ∧ H a = some (.ins C dx fs) ∧ H b = some (.ins C dy gs) ∧ sp [.ref a, .ref b] H Q E
theorem op_own {op : Operator} {E : XK} (F : FnOk X.prog X.w X.K X.mg X.base CX n f fd ps sp) (hr : Room n X.A) (hsf : PySem.W.selfFirst X.K C = true) (hs : PySem.W.findIn X.K (.ref C) (PySem.dunder op.info.2) = some (some (.ref f)))
    (hf : PySem.W.isFn X.K (.ref f) = true) (hb : Binds X.K fd ps []) (hx : Passes CX X E) : OpR X (binaryOp op) (rOwn C sp E) := by
  intro pins s σ H x y u v Q I rx ry h
  obtain ⟨a, b, dx, dy, fs, gs, rfl, rfl, ha, hb', hq⟩ := h
  cases rx
  cases ry
  obtain ⟨mA, J, _⟩ := ins_get I.hok ha
  obtain ⟨mB, J', _⟩ := ins_get I.hok hb'
  obtain ⟨od, J, _⟩ := J.look
  obtain ⟨od', J', _⟩ := J'.look
  obtain ⟨m, hF⟩ := I.fr
  refine PySem.W.binop_K hF I.ok.mod.kin J J'.type hsf hs hf ?_
  refine wpAny_mono (run_fn (us := [.ref a, .ref b]) (vs := [.ref a, .ref b]) F hr hb .nil hx I (.cons rfl (.cons rfl .nil)) (by rw [List.append_nil]; exact hq)) (fun u s' z => ?_) fun _ _ e => e
  obtain ⟨v', H', I', rv, q⟩ := id z
  cases u <;> first
    | exact z
    | (exfalso; cases v' <;> first | (cases rv; done) | (obtain ⟨_, rv⟩ := rv; cases rv))
/-- x == y by the class's own method: x is an instance of the class at C, y of any type that is not below it -/
def rOwnEq (K : PySem.W.Frag) (C : Addr) (sp : Sp) (E : XK) : R2 := fun x y H Q => ∃ a dx fs t, x = .ref a ∧ H a = some (.ins C dx fs) ∧ TyX K H y t ∧ PySem.W.notFirst K C t = true ∧ sp [.ref a, y] H Q E
theorem op_eqOwn {E : XK} (F : FnOk X.prog X.w X.K X.mg X.base CX n f fd ps sp) (hr : Room n X.A) (hs : PySem.W.findIn X.K (.ref C) "__eq__" = some (some (.ref f)))
    (hf : PySem.W.isFn X.K (.ref f) = true) (hb : Binds X.K fd ps []) (hx : Passes CX X E) : OpR X (compareOp .Eq) (rOwnEq X.K C sp E) := by
  intro pins s σ H x y u v Q I rx ry h
  obtain ⟨a, dx, fs, t, rfl, ha, ty, hn, hq⟩ := h
  cases rx
  obtain ⟨mA, J, _⟩ := ins_get I.hok ha
  obtain ⟨od, J, _⟩ := J.look
  obtain ⟨m, hF⟩ := I.fr
  obtain ⟨P, Z, p, hne⟩ := kit_of I ry ty
  refine PySem.W.cmp_K (op := .Eq) hr.units0 hF I.ok.mod.kin J (Z.ty _ _ I.kIn p) hn hs hf ?_
  refine wpAny_mono (run_fn (us := [.ref a, v]) (vs := [.ref a, y]) F hr hb .nil hx I (.cons rfl (.cons ry .nil)) (by rw [List.append_nil]; exact hq)) (fun u s' z => ?_) fun _ _ e => e
  obtain ⟨v', H', I', rv, q⟩ := id z
  cases u <;> first
    | exact z
    | (exfalso; cases v' <;> first | (cases rv; done) | (obtain ⟨_, rv⟩ := rv; cases rv))
end

/-! ### within a try: what is raised is wished for at the slots -/
/-- a new instance of C, its __init__ a def of one promise (ws: its values behind self, as they are bound) -/
theorem made_at {X : Cx} {CX : CXT} {k : Nat} {f C : Addr} {fd : FuncData} {ps : List Str} {sp : Sp} {E : XK} {pins : List (Addr × Obj)} {σ : St} {H : Hp} {s : Shared} {Q : VK} {us rest : List Value} {kw : List (Str × Value)} {zs : List V} (M : Mk X.K C f) (F : FnOk X.prog X.w X.K X.mg X.base CX k f fd ps sp) (hr : Room (k + 1) X.A)
    (hx : PassesAt CX X σ E) (I : Inv X pins σ H s) (r : Vals zs rest) (bd : ∀ (s' : Shared) (y : Value), X.K.In s'.heap → (y :: rest).length = ps.length → BindsTo s' fd ⟨y :: us, kw⟩ (ps.zip (y :: rest)))
    (h : ∀ x dx, H x = none → H dx = none → dx ≠ x → sp (.ref x :: zs) (upd (upd H dx (.own x)) x (.ins C dx [])) (fun v H2 => v = .non ∧ Q (.ref x) H2) E) :
    wpAny (model X.prog X.w) X.A (call (.ref C) us kw) (EP X pins σ Q) X.xe s := by
  have at1 := I.hok.fresh (Nat.le_succ s.heap.objs.size)
  have q := h (s.heap.objs.size + 1) s.heap.objs.size at1 (I.hok.fresh (Nat.le_refl _)) (Nat.ne_of_lt (Nat.lt_succ_self _))
  have J := Inv.made (C := C) I
  have args : Vals (V.ref (s.heap.objs.size + 1) :: zs) (Value.ref (s.heap.objs.size + 1) :: rest) := .cons rfl r
  have b := bd _ (Value.ref (s.heap.objs.size + 1)) J.kIn (args.length.symm.trans (F.len _ _ _ _ q))
  refine wpAny_call (make_map (f := f) I.kIn M.makes M.init (beq_iff_eq.mp M.fn) (codeAny_mono (F.run _ X.stack _ _ ⟨Value.ref (s.heap.objs.size + 1) :: us, kw⟩ _ _ _ E (hr.make C us kw) (J.env0.make C us kw) b args q) ?_))
  rintro (e | fl) s' z
  · exact hx pins _ _ e s' J z
  · cases fl with
    | ret u =>
      obtain ⟨v, H', I3, rv, ev, q3⟩ := J.after z
      subst ev
      exact ⟨rv, V.ref (s.heap.objs.size + 1), H', I3, rfl, q3⟩
    | next => exact z.elim
    | brk => exact z.elim
    | cont => exact z.elim
section
variable {X : Cx} {CX : CXT} {k : Nat} {f C : Addr} {fd : FuncData} {ps ks : List Str} {sp : Sp} {E : St → XK} {dvs : List V} {ds : List Value} {x m : Str} {p pos apos : Pos} {e o : Expr} {es : List Expr} {kws : List Keyword} {ta : TE} {t tk : TA}
/-- C(e, ..) -/
def tMakeS (C : Addr) (sp : Sp) (dvs : List V) (E : St → XK) (t : TA) : TE := fun σ H Q => t σ H fun vs H1 => ∀ x dx, H1 x = none → H1 dx = none → dx ≠ x →
  sp (.ref x :: (vs ++ dvs)) (upd (upd H1 dx (.own x)) x (.ins C dx [])) (fun v H2 => v = .non ∧ Q (.ref x) H2) (E σ)
theorem pe_makeS (M : Mk X.K C f) (F : FnOk X.prog X.w X.K X.mg X.base CX k f fd ps sp) (hr : Room (k + 1) X.A) (hg : Gl X x) (hm : X.mg x = some (.ref C)) (hb : Binds X.K fd ps ds) (hd : Vals dvs ds) (hx : ∀ σ, PassesAt CX X σ (E σ))
    (ha : PA X (e :: es) t) (hdb : (x == ("__debug__" : Str)) = false := by decide) (he : starEach (e :: es) X.env = (false, eval e X.env) :: starEach es X.env := by rfl) (hpl : (backTo pos (starEach es X.env)).any (·.1) = false := by rfl) :
    PE X (.Call (.Name x p) (e :: es) [] pos) (tMakeS C sp dvs E t) :=
  ⟨fun pins s σ H Q I h => wpAny_Call_Name_kw (ld_glob I hg hm (PySem.W.callWith_K (h₀ := X.base) I.ok.mod.kin M.kp (thn (ha.run pos pins s σ H _ I h) fun us s1 ⟨vs, H1, I1, r, q⟩ =>
    ⟨I1.kIn, made_at M F hr (hx σ) I1 (r.append hd) (fun s' y X' l => hb s' (y :: us) X' l) q⟩) he hpl) hdb)⟩
/-- C(k = v, ..) -/
def tMakeKS (C : Addr) (m : Nat) (sp : Sp) (gV : List V → List V → List V) (E : St → XK) (tk : TA) : TE := fun σ H Q => tk σ H fun zs H2 => zs.length = m ∧ ∀ x dx, H2 x = none → H2 dx = none → dx ≠ x →
  sp (gV [.ref x] zs) (upd (upd H2 dx (.own x)) x (.ins C dx [])) (fun v H3 => v = .non ∧ Q (.ref x) H3) (E σ)
/-- the keywords' order is told by g: self stands first -/
theorem pe_makeKS {g : List Value → List Value → List Value} {gV : List V → List V → List V} {g' : List Value → List Value} {gV' : List V → List V} (M : Mk X.K C f) (F : FnOk X.prog X.w X.K X.mg X.base CX k f fd ps sp) (hr : Room (k + 1) X.A) (hg : Gl X x) (hm : X.mg x = some (.ref C)) (hb : KBn X.K fd ps 1 ks g gV)
    (hg1 : ∀ y ws, g [y] ws = y :: g' ws) (hg2 : ∀ y zs, gV [y] zs = y :: gV' zs) (hx : ∀ σ, PassesAt CX X σ (E σ)) (hkw : PK X kws tk)
    (hall : (backToKw pos (keywordEach kws X.env)).all (·.1.isSome) = true := by rfl) (hks : (backToKw pos (keywordEach kws X.env)).filterMap (·.1) = ks := by rfl) (hdb : (x == ("__debug__" : Str)) = false := by decide)
    (hpl : ((backTo pos (starEach [] X.env)).any (·.1) || (backToKw pos (keywordEach kws X.env)).any (·.1.isNone)) = false := by rfl) :
    PE X (.Call (.Name x p) [] kws pos) (tMakeKS C ks.length sp gV E tk) := by
  refine ⟨fun pins s σ H Q I h => wpAny_Call_Name_kw (ld_glob I hg hm (PySem.W.callWith_KW0 (h₀ := X.base) I.ok.mod.kin M.kp hall (thn (hkw.run pos pins s σ H _ I h) ?_) hpl) hdb)⟩
  rintro ws s2 ⟨zs, H2, I2, rz, lz, q⟩
  rw [hks]
  have rr := hb.rel (vs := [V.non]) (us := [Value.none]) (.cons rfl .nil) rz
  rw [hg1, hg2] at rr
  cases rr with
  | cons _ rest =>
    refine ⟨I2.kIn, made_at (us := []) M F hr (hx σ) I2 rest (fun s' y X' _ => ?_) fun x dx a b c => ?_⟩
    · have z := hb.to s' [y] ws X' rfl (rz.length.symm.trans lz)
      rwa [hg1] at z
    · have z := q x dx a b c
      rwa [hg2] at z
/-- o.m(e, ..) -/
def tMethS (C : Addr) (m : Str) (sp : Sp) (E : St → XK) (ta : TE) (t : TA) : TE := fun σ H Q => ta σ H fun x H1 => ∃ a dx fs, x = .ref a ∧ H1 a = some (.ins C dx fs) ∧ fs.lookup m = none ∧ t σ H1 fun vs H2 => sp (x :: vs) H2 Q (E σ)
theorem pe_methS {pl : Sem Bool} (he : PE X o ta) (c : Cls X.K C) (hm : Meth X.K C m f) (F : FnOk X.prog X.w X.K X.mg X.base CX k f fd ps sp) (hr : Room k X.A) (hb : Binds X.K fd ps []) (hx : ∀ σ, PassesAt CX X σ (E σ)) (ha : PA X (e :: es) t)
    (hst : starEach (e :: es) X.env = (false, eval e X.env) :: starEach es X.env := by rfl) (hpl : (backTo pos (starEach es X.env)).any (·.1) = false := by rfl)
    (ht : eval (.Call (.Attribute o m apos) (e :: es) [] pos) X.env = (do
      let ov ← eval o X.env
      standAt apos.atName
      let (f, first) ← holding [ov] (getMethod ov m pl)
      callWith pos f first (backTo pos (starEach (e :: es) X.env)) (backToKw pos (keywordEach [] X.env))) := by rfl) :
    PE X (.Call (.Attribute o m apos) (e :: es) [] pos) (tMethS C m sp E ta t) := by
  refine ⟨fun pins s σ H Q I h => PySem.W.methodCall_KW (pl := pl) (thn (he.run pins s σ H _ I h) ?_) ht⟩
  rintro u s1 ⟨x, H1, I1, rx, a, dx, fs, rfl, ea, l, q⟩
  obtain rfl : u = Value.ref a := rx
  refine getmeth_ok I1 ea c hm l (PySem.W.callWith_K (first := [.ref a]) (h₀ := X.base) I.ok.mod.kin hm.kp (thn (ha.run pos pins s1 σ H1 _ I1 q) ?_) hst hpl)
  rintro us s2 ⟨vs, H2, I2, r, q2⟩
  exact ⟨I2.kIn, run_fnS (us := .ref a :: us) (vs := .ref a :: vs) F hr hb (hx σ) I2 (.cons rfl r) q2⟩
end
end Own
/-! A list comprehension within a def that runs while an exception is handled. -/
namespace OwnHot
open PySem PySem.Spec PyProof.Rows L2 L2H HotX
section
variable {prog : Program} {w : World} {A : Around} {E : Value → Shared → Prop} {s : Shared}
/-- what stands behind an iterator's last item: a StopIteration, taken by the one who asked -/
theorem stop_hot {α : Type} {Qa : α → Shared → Prop} {t : Sem α} {k : Value → Sem α} (et : t = newExc (.type "StopIteration") [] >>= k) (ek : ∀ a, k (.ref a) = raiseNew (.ref a)) {x1 : Addr} {Q : Option Value → Shared → Prop} (hot : HotAt A x1 s.heap)
    (hQ : ∀ h', (∀ b o, s.heap.get? b = some o → h'.get? b = some o) → Q none { s with heap := h' }) :
    wpAny (model prog w) A.in1 t Qa (fun e s' => wpAny (model prog w) A (do let b ← isInstance e (.type "StopIteration"); if b = true then pure none else throw e) Q E s') s := by
  obtain ⟨hh, o1, vs1, g1, d1, c1⟩ := hot
  rw [et]
  refine wpAny_bind ?_
  simp only [newExc, newTuple]
  refine wpAny_bind (wpAny_newObj_type ?_ (by size_fits))
  refine wpAny_bind (m := firstArgMember _ _) (wpAny_of_eq (a := Value.none) (by first | rfl | (simp only [firstArgMember]; rfl)) ?_)
  refine wpAny_newObj_type ?_ (by size_fits)
  rw [ek]
  refine raiseNew_hot ⟨hh, o1, vs1, Heap.get?_push_of_some _ (Heap.get?_push_of_some _ g1), d1, c1⟩ (Nat.ne_of_lt (Heap.lt_size (Heap.get?_push_of_some _ g1))) (Heap.get?_push_size _ rfl) rfl (by first | (simp; done) | (simp; omega) | (simp only [Array.size_append]; simp; omega)) ?_
  refine wpAny_bind (wpAny_isInstance (T := "StopIteration") (b := true) ⟨_, Heap.get?_update_self _ (Heap.get?_push_size _ rfl) rfl, rfl⟩ isSubtype_stop (wpAny_pure (hQ _ fun b o e => ?_)))
  rw [Heap.get?_update_other _ _ (Nat.ne_of_gt (Heap.lt_size (Heap.get?_push_of_some _ e)))]
  exact Heap.get?_push_of_some _ (Heap.get?_push_of_some _ e)
theorem list_end {it l x1 : Addr} {i : Nat} {items : Array Value} {Q : Option Value → Shared → Prop} (hot : HotAt A x1 s.heap) (ne : x1 ≠ it) (hit : s.heap.IsListIter it l i) (hl : s.heap.IsList l items) (hx : items[i]? = none)
    (hQ : ∀ h', Heap.ExtBut it s.heap h' → Q none { s with heap := h' }) : wpAny (model prog w) A (pyNext (.ref it)) Q E s := by
  obtain ⟨o, ho, hc, hd⟩ := id hit
  obtain ⟨ol, hol, _, nl, hdl⟩ := hl
  unfold pyNext
  refine wpAny_bind (wpAny_attempt (wpAny_callSpecial?_slot (name := Str.ofString "__next__") hit.typeIs slot_listiter_next (wpAny_call_entry slot_listiter_next hit.typeIs entry_listiter_next ?_ (args_listiter_next _))))
  show wpAny _ _ (field (.ref it) 0 >>= _) _ _ s
  refine wpAny_bind (wpAny_field ho hd (x := .ref l) rfl ?_)
  rw [if_neg (show ¬ ((Value.ref l == Value.none) = true) from Bool.false_ne_true)]
  refine wpAny_bind (wpAny_field ho hd (x := .int i 0) rfl (wpAny_bind (wpAny_seqItems hol hdl ?_)))
  simp only [Int.toNat_natCast, hx]
  refine wpAny_bind (wpAny_rule (wpAny_bind (wpAny_setField ho hd (by simp) ?_)))
  obtain ⟨hh, o1, vs1, g1, d1, c1⟩ := hot
  refine stop_hot (k := fun e => raiseNew e) rfl (fun _ => rfl) ⟨hh, o1, vs1, (Heap.get?_update_other _ _ ne.symm).trans g1, d1, c1⟩ fun h' kp => hQ h' fun b ob hb e => kp b ob ((Heap.get?_update_other _ _ (Ne.symm hb)).trans e)
theorem tuple_end {it l x1 : Addr} {i : Nat} {items : Array Value} {Q : Option Value → Shared → Prop} (hot : HotAt A x1 s.heap) (ne : x1 ≠ it) (hit : s.heap.IsTupleIter it l i) (hl : s.heap.IsTuple l items) (hx : items[i]? = none)
    (hQ : ∀ h', Heap.ExtBut it s.heap h' → Q none { s with heap := h' }) : wpAny (model prog w) A (pyNext (.ref it)) Q E s := by
  obtain ⟨o, ho, hc, hd⟩ := id hit
  obtain ⟨ol, hol, _, nl, hdl⟩ := hl
  unfold pyNext
  refine wpAny_bind (wpAny_attempt (wpAny_callSpecial?_slot (name := Str.ofString "__next__") hit.typeIs F.slot_tuple_iterator_next (wpAny_call_entry F.slot_tuple_iterator_next hit.typeIs F.entry_tuple_iterator_next ?_ (F.args_tuple_iterator_next_1 _))))
  show wpAny _ _ (field (.ref it) 0 >>= _) _ _ s
  refine wpAny_bind (wpAny_field ho hd (x := .ref l) rfl ?_)
  rw [if_neg (show ¬ ((Value.ref l == Value.none) = true) from Bool.false_ne_true)]
  refine wpAny_bind (wpAny_field ho hd (x := .int i 0) rfl (wpAny_bind (wpAny_seqItems hol hdl ?_)))
  simp only [Int.toNat_natCast, hx]
  refine wpAny_bind (wpAny_rule (wpAny_bind (wpAny_setField ho hd (by simp) ?_)))
  obtain ⟨hh, o1, vs1, g1, d1, c1⟩ := hot
  refine stop_hot (k := fun e => raiseNew e) rfl (fun _ => rfl) ⟨hh, o1, vs1, (Heap.get?_update_other _ _ ne.symm).trans g1, d1, c1⟩ fun h' kp => hQ h' fun b ob hb e => kp b ob ((Heap.get?_update_other _ _ (Ne.symm hb)).trans e)
end
/-! ### walks -/
section
variable {P : Program} {w : World} {K : PySem.W.Frag} {tg : Expr}
theorem hot_of {X : Cx} {pins : List (Addr × Obj)} {σ : L2.St} {H : Hp} {s : Shared} {it : Addr} (hc : HotC X) (I : Inv X pins σ H s) (hf : FpOk X pins H it) : ∃ x1, HotAt X.A x1 s.heap ∧ x1 ≠ it := by
  obtain ⟨p, ⟨hh, v1, e1, c1⟩, hp⟩ := hc
  exact ⟨p.1, ⟨hh, p.2, v1, (I.pin p (List.mem_append_left _ hp)).1, e1, c1⟩, hf.2.2.2.2.2 p (List.mem_append_left _ hp)⟩
theorem turnL (a it : Addr) : TurnH P w K tg (Itl K a) [it] it (fun i h => h.IsListIter it a i) :=
  let T : Turn P w K tg (Itl K a) [it] it (fun i h => h.IsListIter it a i) := turn_list a it
  { mem := T.mem, obj := T.obj, keep := T.keep, self := T.self
    item := fun X hP hw hK hc i pins s σ H E I hf st ⟨xs, x, hq, hx⟩ => by
      subst hP hw hK
      obtain ⟨f0, f1, f2, f3, f4, f5⟩ := hf it (List.mem_singleton.mpr rfl)
      obtain ⟨its, rv, p, _⟩ := I.list hq
      obtain ⟨u, hu, ru⟩ := rv.get hx
      refine wpAny_pyNext_list_item st p.isList (x := u) (by simpa using hu) fun h' st' sb => ?_
      have I1 := I.turned (t' := s.toks) (fun b o hb e => (sb.2 b hb).trans e) f0 f1 f3 f4 f5
      obtain ⟨o, e, c, d⟩ := id st'
      exact ⟨u, rfl, go_of (s := { s with heap := h' }) e c d (by decide) ⟨x, H, I1, ru, ⟨rfl, fun ys hy => (congrArg (·[i]?) (I.list_inj hy hq)).trans hx⟩, st', fun b hb => (hf b hb).1⟩⟩
    done := fun X hP hw hK hc i pins s σ H E I hf st ⟨xs, hq, hx⟩ => by
      subst hP hw hK
      have ff := hf it (List.mem_singleton.mpr rfl)
      obtain ⟨f0, f1, f2, f3, f4, f5⟩ := id ff
      obtain ⟨its, rv, p, _⟩ := I.list hq
      obtain ⟨x1, hot, ne⟩ := hot_of hc I ff
      have hl := rv.length
      exact list_end hot ne st p.isList (by simp; omega) fun h' eb => ⟨rfl, I.turned (t' := s.toks) (fun b o hb e => eb b o hb e) f0 f1 f3 f4 f5⟩ }
theorem turnT (a it : Addr) : TurnH P w K tg (Itt K a) [it] it (fun i h => h.IsTupleIter it a i) :=
  let T : Turn P w K tg (Itt K a) [it] it (fun i h => h.IsTupleIter it a i) := turn_tuple a it
  { mem := T.mem, obj := T.obj, keep := T.keep, self := T.self
    item := fun X hP hw hK hc i pins s σ H E I hf st ⟨xs, x, hq, hx⟩ => by
      subst hP hw hK
      obtain ⟨f0, f1, f2, f3, f4, f5⟩ := hf it (List.mem_singleton.mpr rfl)
      obtain ⟨its, rv, p, _⟩ := I.tuple hq
      obtain ⟨u, hu, ru⟩ := rv.get hx
      refine wpAny_pyNext_tuple_item st (show s.heap.IsTuple a its.toArray from p) (x := u) (by simpa using hu) fun h' st' sb => ?_
      have I1 := I.turned (t' := s.toks) (fun b o hb e => (sb.2 b hb).trans e) f0 f1 f3 f4 f5
      obtain ⟨o, e, c, d⟩ := id st'
      exact ⟨u, rfl, go_of (s := { s with heap := h' }) e c d (by decide) ⟨x, H, I1, ru, ⟨rfl, fun ys hy => (congrArg (·[i]?) (I.tuple_inj hy hq)).trans hx⟩, st', fun b hb => (hf b hb).1⟩⟩
    done := fun X hP hw hK hc i pins s σ H E I hf st ⟨xs, hq, hx⟩ => by
      subst hP hw hK
      have ff := hf it (List.mem_singleton.mpr rfl)
      obtain ⟨f0, f1, f2, f3, f4, f5⟩ := id ff
      obtain ⟨its, rv, p, _⟩ := I.tuple hq
      obtain ⟨x1, hot, ne⟩ := hot_of hc I ff
      have hl := rv.length
      exact tuple_end hot ne st (show s.heap.IsTuple a its.toArray from p) (by simp; omega) fun h' eb => ⟨rfl, I.turned (t' := s.toks) (fun b o hb e => eb b o hb e) f0 f1 f3 f4 f5⟩ }
end
section
variable {X : Cx} {tg l : Expr} {tl : TE}
theorem pi_listH (hl : PE X l tl) : PIH X tg l (iList X.K tl) := ⟨fun pins s σ H R I h => thn (hl.run pins s σ H _ I h) fun v s1 ⟨x, H1, I1, r1, a, e, ⟨xs, hq⟩, q⟩ => by
  subst e
  cases r1
  obtain ⟨its, rv, p, _⟩ := I1.list hq
  exact wpAny_pyIter_list p.isList ⟨s1.heap.objs.size, [s1.heap.objs.size], _, _, H1, rfl, I1.kept (t' := s1.toks) fun b o e => Heap.get?_push_of_some _ e, turnL a _, ⟨_, Heap.get?_push_size _ rfl, rfl, rfl⟩, fun b hb => by
    rw [List.mem_singleton.mp hb]
    exact I1.fpOk (Nat.le_refl _) (I1.hok.fresh (Nat.le_refl _)), q⟩⟩
theorem pi_tupH (hl : PE X l tl) : PIH X tg l (iTup X.K tl) := ⟨fun pins s σ H R I h => thn (hl.run pins s σ H _ I h) fun v s1 ⟨x, H1, I1, r1, a, e, ⟨xs, hq⟩, q⟩ => by
  subst e
  cases r1
  obtain ⟨its, rv, p, _⟩ := I1.tuple hq
  exact wpAny_pyIter_tuple (show s1.heap.IsTuple a its.toArray from p) ⟨s1.heap.objs.size, [s1.heap.objs.size], _, _, H1, rfl, I1.kept (t' := s1.toks) fun b o e => Heap.get?_push_of_some _ e, turnT a _, ⟨_, Heap.get?_push_size _ rfl, rfl, rfl⟩, fun b hb => by
    rw [List.mem_singleton.mp hb]
    exact I1.fpOk (Nat.le_refl _) (I1.hok.fresh (Nat.le_refl _)), q⟩⟩
end
/-! ### the block -/
/-- a comprehension's block whose pins stay -/
abbrev blkP (X : Cx) (s : Shared) (H : Hp) (scope : Scope) (cenv : Env) (fp : List Addr) : Cx := { X.blk s H scope cenv fp with pn := X.pn }
theorem toP {X : Cx} {s0 : Shared} {H0 : Hp} {scope : Scope} {cenv : Env} {fp : List Addr} {pins : List (Addr × Obj)} {σ : L2.St} {H : Hp} {s : Shared} (I : Inv (X.blk s0 H0 scope cenv fp) pins σ H s)
    (hp : ∀ p ∈ X.pn, s.heap.get? p.1 = some p.2 ∧ H p.1 = none ∧ p.1 ≠ cenv.locals ∧ p.1 ∉ frs X.stack ∧ ∀ v, p.2.data ≠ .cell v) : Inv (blkP X s0 H0 scope cenv fp) pins σ H s :=
  let o := I.ok
  { ok := ⟨o.mod, o.kind, o.glob, o.blt, o.above, o.inj, o.has, o.cab, o.hd, o.frames, o.stk, o.exf, o.bs, o.bsz, o.noex, o.exfs, o.funs, o.frf⟩
    os := I.os, bare := I.bare, base := I.base, loc := I.loc, cell := I.cell, free := I.free, freeC := I.freeC, hok := I.hok, len := I.len
    pin := fun p h => (List.mem_append.mp h).elim (hp p) fun h => I.pin p (List.mem_append_right _ h) }
/-- [elt for target in iter], an exception being handled -/
theorem pe_lcH {X : Cx} {elt tg iter : Expr} {scope : Scope} {own : List (Str × Nat)} {pos : Pos} {wi : TI} {g : TG} {te : TE} (hc : HotC X) (hN : X.N.Nodup) (hi : PIH X tg iter wi) (ok : BlkOk X.N X.env.scope scope own)
    (hg : ∀ (s : Shared) (H : Hp) (C : Addr) (cl : List (Str × Addr)) (fp : List Addr), PG (blkP X s H scope (compEnvC scope cl C X.env) fp) tg g)
    (he : ∀ (s : Shared) (H : Hp) (C : Addr) (cl : List (Str × Addr)) (fp : List Addr), PE (blkP X s H scope (compEnvC scope cl C X.env) fp) elt te) (hs : ∀ x, foldedSetIterable iter X.env x = pure x := by intro _; rfl) :
    PE X (.ListComp elt [⟨tg, iter, [], 0⟩] scope pos) (tLc wi g tYes te (own.map (·.2))) := by
  refine ⟨fun pins s σ H Q I h => ?_⟩
  have free : ∀ y ∈ scope.names, y.2 = .free → ∃ c, X.env.cells.lookup y.1 = some c := fun y hy e => I.ok.has _ ((ok.free y hy e).imp (fun k => k) fun k => k)
  rw [eval_ListComp]
  refine wpAny_comprehension_free (use := none) rfl hs (closure_ok free) ok.kind (fun y hy e => (ok.uniq y hy).trans (congrArg some e)) (thn (hi.run pins s σ H _ I h) fun _ s1 h1 => thn h1 fun _ s2 ⟨it, fp, tn, J, H2, e, I2, T, st2, f2, q⟩ => ?_)
  subst e
  refine wpAny_newObj_type (newEnv_comp ?_) (Nat.zero_le sizeLine)
  -- the new list stands at D
  obtain ⟨W, ⟨m0, w0⟩, turn⟩ := q _ (I2.hok.fresh (Nat.le_refl s2.heap.objs.size))
  have I3 : Inv X pins σ (upd H2 s2.heap.objs.size (.lst [])) { s2 with heap := s2.heap.push { cls := .type "list", data := .seq ([] : List Value).toArray } } :=
    I2.laid (t' := s2.toks) (fun b o e => Heap.get?_push_of_some _ e) (Nat.le_refl _) ⟨Nat.zero_le _, [], 0, .nil, Heap.get?_push_size _ rfl⟩
  have below : ∀ b ∈ fp, b < s2.heap.objs.size := fun b hb => by
    obtain ⟨o, e, _⟩ := T.obj _ _ st2 b hb
    exact Heap.lt_size e
  have f3 : ∀ b ∈ fp, FpOk X pins (upd H2 s2.heap.objs.size (.lst [])) b ∧ b < ({ s2 with heap := s2.heap.push { cls := .type "list", data := .seq ([] : List Value).toArray } } : Shared).heap.objs.size := fun b hb =>
    ⟨⟨(upd_ne (Nat.ne_of_lt (below b hb))).trans (f2 b hb).1, (f2 b hb).2⟩, by rw [Heap.size_push]; exact Nat.lt_succ_of_lt (below b hb)⟩
  have st3 : tn 0 ({ s2 with heap := s2.heap.push { cls := .type "list", data := .seq ([] : List Value).toArray } } : Shared).heap := T.keep _ _ _ st2 fun b _ o e => Heap.get?_push_of_some _ e
  generalize hD : s2.heap.objs.size = D at turn I3 f3 st3 w0 ⊢
  generalize hs3 : ({ s2 with heap := s2.heap.push { cls := .type "list", data := .seq ([] : List Value).toArray } } : Shared) = s3 at I3 f3 st3
  have B0 := block_start I3 ok hN f3
  have pg := hg s3 (upd H2 D (.lst [])) s3.heap.objs.size (cellsFrom (s3.heap.objs.size + 1) scope.names (cloFrom X.env.cells scope.names [])) fp
  have pe := he s3 (upd H2 D (.lst [])) s3.heap.objs.size (cellsFrom (s3.heap.objs.size + 1) scope.names (cloFrom X.env.cells scope.names [])) fp
  show codeAny _ _ (.compStart (.ListComp elt [⟨tg, iter, [], 0⟩] scope pos) 0 (.ref it) (.ref D) (compEnvC scope (cellsFrom (s3.heap.objs.size + 1) scope.names (cloFrom X.env.cells scope.names [])) s3.heap.objs.size X.env)) (compPost (model X.prog X.w) X.A X.xe none (EP X pins σ Q) (.ref D) s3.heap.objs.size) { s3 with heap := pushCells (s3.heap.push { cls := .type "dict", data := .dict #[] }) scope.names }
  have cL : (compEnvC scope (cellsFrom (s3.heap.objs.size + 1) scope.names (cloFrom X.env.cells scope.names [])) s3.heap.objs.size X.env).locals = s3.heap.objs.size := rfl
  generalize compEnvC scope (cellsFrom (s3.heap.objs.size + 1) scope.names (cloFrom X.env.cells scope.names [])) s3.heap.objs.size X.env = ce at B0 pg pe cL ⊢
  have B := toP B0 fun p hp => by
    obtain ⟨g1, g2, g3, g4, g5⟩ := I3.pin p (List.mem_append_left _ hp)
    exact ⟨pushCells_keeps _ _ _ _ (Heap.get?_push_of_some _ g1), g2, by rw [cL]; exact Nat.ne_of_lt (Heap.lt_size g1), fun hm => (List.mem_cons.mp (I3.stkSub p.1 hm)).elim g3 g4, g5⟩
  have st4 : tn 0 ({ s3 with heap := pushCells (s3.heap.push { cls := .type "dict", data := .dict #[] }) scope.names } : Shared).heap := T.keep _ _ _ st3 fun b _ o e => pushCells_keeps _ _ _ _ (Heap.get?_push_of_some _ e)
  generalize ({ s3 with heap := pushCells (s3.heap.push { cls := .type "dict", data := .dict #[] }) scope.names } : Shared) = s4 at B st4 ⊢
  have fpk : ∀ {σ' : L2.St} {H' : Hp} {s' : Shared}, Inv (blkP X s3 (upd H2 D (.lst [])) scope ce fp) [] σ' H' s' → (∀ b ∈ fp, H' b = none) → ∀ b ∈ fp, FpOk (blkP X s3 (upd H2 D (.lst [])) scope ce fp) [] H' b := fun I' hn b hb =>
    ⟨hn b hb, (I'.ok.exf b hb).1, I'.ok.exfs b hb, .inl hb, (I'.ok.exf b hb).2, fun p hp => (f3 b hb).1.2.2.2.2.2 p (List.mem_append_left _ (by rw [List.append_nil] at hp; exact hp))⟩
  have L : codeAny (model X.prog X.w) X.A (.compLoop (.ListComp elt [⟨tg, iter, [], 0⟩] scope pos) 0 (.ref it) (.ref D) ce) (compPost (model X.prog X.w) X.A X.xe none (EP X pins σ Q) (.ref D) s3.heap.objs.size) s4 := by
    refine compLoop_any (fun n s' => ∃ i H', Inv (blkP X s3 (upd H2 D (.lst [])) scope ce fp) [] (wipe σ (own.map (·.2))) H' s' ∧ tn i s'.heap ∧ (∀ b ∈ fp, H' b = none) ∧ W i n H') ?_ m0 ⟨0, _, B, st4, fun b hb => (f3 b hb).1.1, w0⟩
    rintro n s5 ⟨i, H5, I5, st5, n5, w5⟩
    rcases turn i n H5 w5 with ⟨stop, done⟩ | ⟨go, Nx, next, step⟩
    · refine thnF (T.done (blkP X s3 (upd H2 D (.lst [])) scope ce fp) rfl rfl rfl hc i [] s5 _ H5 (fun _ _ => False) I5 (fpk I5 n5) st5 stop) fun r s6 ⟨hr, I6⟩ => ?_
      subst hr
      obtain ⟨m, hn, _⟩ := I6.loc
      have hn : s6.heap.Ns ce.locals m := hn
      have nC : H5 ce.locals = none := I6.free
      rw [cL] at hn nC
      obtain ⟨f0, f1, f2', f4, f5, f6⟩ := I3.fpOk (H' := H5) (Nat.le_refl _) nC
      have I7 : Inv X pins σ H5 s6 := I3.call' (ch := fp) I6.os I6.base I6.hok I6.bare fun b hb =>
        let ⟨_, a1, a2, a3, a4, a5⟩ := (f3 b hb).1
        ⟨a3, a1, a4, a5⟩
      exact ⟨m, hn, fun h' sb => ⟨.ref D, H5, I7.turned (t' := s6.toks) (fun b o hb e => (sb.2 b hb).trans e) f0 f1 f4 f5 f6, rfl, done⟩⟩
    · refine thnF (T.item (blkP X s3 (upd H2 D (.lst [])) scope ce fp) rfl rfl rfl hc i [] s5 _ H5 (fun _ _ => False) I5 (fpk I5 n5) st5 go) fun r s6 ⟨u, hr, h6⟩ => ?_
      subst hr
      refine thnF h6 fun _ s7 ⟨x, H7, I7, r7, y7, st7, n7⟩ => ?_
      refine thnF (pg.run _ s7 _ H7 x u _ (I7.pinned (fpk I7 n7) (T.obj _ _ st7)) r7 (step x H7 y7)) fun _ s8 ⟨σ8, H8, I8, hw, q8⟩ => ?_
      refine wpAny_tests_nil ?_
      have q8 : te σ8 H8 fun y H4 => ∃ acc, H4 D = some (.lst acc) ∧ acc.length < sizeLine ∧ Nx (upd H4 D (.lst (acc ++ [y]))) := q8
      refine thnF (pe.run _ s8 σ8 H8 _ I8 q8) fun z s9 ⟨yv, H9, I9, r9, acc, hD9, hz9, nx⟩ => ?_
      refine app_ok (X := blkP X s3 (upd H2 D (.lst [])) scope ce fp) I9 hD9 hz9 r9 fun s10 I10 => ?_
      obtain ⟨m', hm, w'⟩ := next _ nx
      have kept : ∀ b ∈ fp, ∀ o, s7.heap.get? b = some o → s10.heap.get? b = some o ∧ (upd H9 D (.lst (acc ++ [yv]))) b = none := fun b hb o e =>
        let z := I10.pin (b, o) (List.mem_append_right _ (List.mem_append_right _ (mem_pinsAt hb e)))
        ⟨z.1, z.2.1⟩
      refine ⟨m', hm, i + 1, _, (I10.unpinned (pins := [])).weak (by rw [← hw, wipe_length]) (fun j v e => ?_), T.keep _ _ _ st7 fun b hb o e => (kept b hb o e).1, fun b hb => ?_, w'⟩
      · rw [← hw] at e
        exact (wipe_some e).1
      · obtain ⟨o, e, _⟩ := T.obj _ _ st7 b hb
        exact (kept b hb o e).2
  exact codeAny_compStart_list L (T.self X.A 0 _ _ _ st4 L)
end OwnHot
/-! Own exceptions with a known context: what is raised by an own class, told so that a suite may call defs. -/
namespace OwnExN
open PySem PySem.Spec PyProof.Rows L2
section
variable {X : Cx} {CX : CXT} {x : Str} {C fI : Addr} {k : Nat} {fd : FuncData} {ps : List Str} {sp : Sp} {e : Expr} {es : List Expr} {ta : TA} {p pos : Pos}
/-- an own exception's call, its __init__ a def of one promise: what stands behind it -/
theorem raised_new {pins : List (Addr × Obj)} {σ : L2.St} {H1 : Hp} {s1 : Shared} {us : List Value} {vs : List V} {Q : XK} (T : OexC X.K C) (iC : PySem.W.findIn X.K (.ref C) "__init__" = some (some (.ref fI))) (tI : PySem.W.typeIn X.K (.ref fI) = some (.type "function"))
    (F1 : FnOk X.prog X.w X.K X.mg X.base CX k fI fd ps sp) (hr : Room (k + 1) X.A) (hb : Binds X.K fd ps []) (hx : Passes CX X (fun _ _ _ => False)) (I1 : Inv X pins σ H1 s1) (r1 : Vals vs us) (hz : vs.length ≤ 1000)
    (h : ∀ a, H1 a = none → sp (.ref a :: vs) (upd H1 a (exo a C none)) (fun v H2 => v = .non ∧ ∃ (d : Addr) (fs : List (Str × V)), H2 a = some (exo a C (some d)) ∧ H2 d = some (exd d fs) ∧ H1 d = none ∧ Q (.ref C) (some d) (upd (del H2 a) d (.xd fs))) (fun _ _ _ => False)) :
    wpAny (model X.prog X.w) X.A (call (.ref C) us) (L2N.MkP X pins σ Q) X.xe s1 := by
  obtain ⟨_, _, _, _, bm, _, _, _, _, _, _, _, _, _, _, inK, bmOk⟩ := T.cls
  have small : us.length ≤ sizeLine := Nat.le_trans (Nat.le_of_eq (Paired.length r1).symm) (Nat.le_trans hz (by decide))
  cases s1 with | mk hp g dr tk os =>
  -- the address of the new exception; what it promises there
  have q := h (hp.objs.size + 1) (I1.hok.fresh (Nat.le_succ _))
  have args : Vals (V.ref (hp.objs.size + 1) :: vs) (Value.ref (hp.objs.size + 1) :: us) := .cons rfl r1
  have J := I1.laid (t' := tk) (a := hp.objs.size + 1) (o := exo (hp.objs.size + 1) C none) (h' := (hp.push (PySem.W.kdv_tup us)).push (PySem.HandSPX.excO C hp.objs.size)) (fun b o z => Heap.get?_push_of_some _ (Heap.get?_push_of_some _ z)) (Nat.le_succ _) (exo_ok (by heap_get))
  have bd := hb _ (Value.ref (hp.objs.size + 1) :: us) J.kIn (by rw [List.append_nil]; exact args.length.symm.trans (F1.len _ _ _ _ q))
  rw [List.append_nil] at bd
  refine wpAny_call (PySem.HandSPX.call_own F.excBase_ValueError (PySem.HandSPX.refsVE_contains · bm bmOk) (I1.kIn _ _ inK) (PySem.W.looks_findIn I1.kIn iC) (fun self => PySem.W.bind_fn I1.kIn self tI) small ?_)
  refine codeAny_mono (F1.run _ X.stack _ _ ⟨Value.ref (hp.objs.size + 1) :: us, []⟩ _ _ _ (fun _ _ _ => False) (hr.make C us []) (J.env0.make C us []) bd args q) ?_
  rintro (er | fl) s' z
  · exact hx pins σ _ _ er s' J z
  · cases fl with
    | ret u =>
      obtain ⟨v, H2, o1, o2, o3, o4, rv, ev, d, fs, m1, m2, m3, fin⟩ := z
      subst ev
      cases s' with | mk h2 g2 d2 t2 os' =>
      obtain ⟨t0, G, JG, kG, nG, at2, free⟩ := mk_end0 (d2 := d2) (t2 := t2) I1 (Nat.le_succ _) (fun b o z => Heap.get?_push_of_some _ (Heap.get?_push_of_some _ z)) o3 o4 o1 o2 m1 m2 m3
      exact ⟨rv, hp.objs.size + 1, _, _, ⟨G, g2, d2, t2, os'⟩, _, .ref C, some d, rfl, JG, kG, nG, at2, ⟨rfl, rfl, fun vs hv => by cases hv; rfl⟩, rfl, rfl, free, rfl, o2, raises_own T.exC T.tyC, fin⟩
    | next => exact z.elim
    | brk => exact z.elim
    | cont => exact z.elim
theorem pmk_oexN (T : OexC X.K C) (iC : PySem.W.findIn X.K (.ref C) "__init__" = some (some (.ref fI))) (tI : PySem.W.typeIn X.K (.ref fI) = some (.type "function"))
    (F1 : FnOk X.prog X.w X.K X.mg X.base CX k fI fd ps sp) (hr : Room (k + 1) X.A) (hb : Binds X.K fd ps []) (hx : Passes CX X (fun _ _ _ => False)) (hg : Gl X x) (hm : X.mg x = some (.ref C)) (ha : PA X (e :: es) ta)
    (hdb : (x == ("__debug__" : Str)) = false := by decide) (he : starEach (e :: es) X.env = (false, eval e X.env) :: starEach es X.env := by rfl) (hpl : (backTo pos (starEach es X.env)).any (·.1) = false := by rfl) :
    L2N.PMk X (.Call (.Name x p) (e :: es) [] pos) (tMkO C sp [] ta) := fun pins s σ H Q I h =>
  wpAny_Call_Name_kw (ld_glob I hg hm (PySem.W.callWith_K (h₀ := X.base) I.ok.mod.kin T.kC (thn (ha.run pos pins s σ H _ I h) fun us s1 ⟨vs, H1, I1, r1, hz, q1⟩ => ⟨I1.kIn, raised_new T iC tI F1 hr hb hx I1 r1 hz fun a n => by
    have z := q1 a n
    rw [List.append_nil] at z
    exact z⟩) he hpl) hdb)
end
theorem passN {X : Cx} : Passes (L2N.CX X.prog X.w) X E0 := fun _ _ _ _ _ _ _ h => by
  obtain ⟨_, _, _, _, _, _, _, _, _, _, _, _, z⟩ := h
  exact z.elim
theorem takesN0 {X : Cx} : L2N.Takes X (fun _ _ _ _ => False) := fun _ _ x => by
  obtain ⟨_, _, _, _, _, _, _, _, _, _, _, _, _, _, _, _, z⟩ := x
  exact z.elim
/-- the rule of a def that may raise, the exception's context known -/
theorem okN {P : Program} {w : World} {K : PySem.W.Frag} {mg : Str → Option Value} {base : Heap} {x qual : Str} {st : Stmt} {f : Addr} {fd : FuncData} {N ps : List Str} {k : Nat} {sp : Sp} (F : Fun K x qual st f fd) (S : FnScope N ps (defScope st)) (len : ∀ vs H Q E, sp vs H Q E → vs.length = ps.length)
    (hbody : ∀ (cdv : Value) (A : Around) (outer : List Env) (s : Shared) (H : Hp) (vs : List V) (Q : VK) (E : XK), Room k (A.deeper (envOfC qual (defScope st) s.heap.objs.size f cdv)) → sp vs H Q E →
      ∃ t, PSs (cxOf (L2N.CX P w) P w K mg base N qual (defScope st) f cdv A outer s H E) (defBody st) t ∧ t { nx := fun _ H' => Q .non H', rt := Q } (L2.start N vs) H) : FnOk P w K mg base (L2N.CX P w) (k + 1) f fd ps sp :=
  match F.ex with
  | ⟨_, _, _, _, _, _, _, _, _, e, lk, hcd⟩ => e ▸ fn_of (e ▸ lk) hcd S len fun A outer s H vs Q E hr hsp => hbody _ A outer s H vs Q E hr hsp
end OwnExN
namespace K02
open PySem PySem.Spec PyProof.Rows L2
def topS (i : Nat) : Stmt := PySem.Challenge.pw_greatestnext_k02_fractions.main.body.getD i (.Pass ⟨0, 0, 0, 0⟩)
abbrev s_InvalidFraction_init : Stmt := inClass (topS 3) 0
abbrev s_is_whole : Stmt := topS 5
abbrev s_Frac_init : Stmt := inClass (topS 10) 0
abbrev s_Frac_add : Stmt := inClass (topS 10) 1
abbrev s_Frac_sub : Stmt := inClass (topS 10) 2
abbrev s_Frac_mul : Stmt := inClass (topS 10) 3
abbrev s_Frac_eq : Stmt := inClass (topS 10) 4
abbrev s_Frac_is_below : Stmt := inClass (topS 10) 5
abbrev s_Frac_divided_by : Stmt := inClass (topS 10) 6
abbrev s_law_box : Stmt := topS 12
abbrev s_law_draw : Stmt := topS 13
abbrev s_law_gcd : Stmt := topS 14
abbrev s_law_low : Stmt := topS 15
abbrev s_law_number : Stmt := topS 16
abbrev s_law_signed : Stmt := topS 17
abbrev s_law_terms : Stmt := topS 18
abbrev s_law_second : Stmt := topS 19
abbrev s_law_is : Stmt := topS 20
abbrev s_law_truth : Stmt := topS 21
abbrev s_law_wrong : Stmt := topS 22
abbrev s_law_kind : Stmt := topS 23
abbrev s_law_refused : Stmt := topS 24
abbrev s_law_not_divided : Stmt := topS 25
abbrev s_law_bad : Stmt := topS 26
abbrev s_law_pair : Stmt := topS 27
abbrev s_law_all : Stmt := topS 28
abbrev s_law : Stmt := topS 29
structure Ad where
  C_Frac : Addr
  C_InvalidFraction : Addr
  C_NextError : Addr
  a_InvalidFraction_init : Addr
  a_is_whole : Addr
  a_Frac_init : Addr
  a_Frac_add : Addr
  a_Frac_sub : Addr
  a_Frac_mul : Addr
  a_Frac_eq : Addr
  a_Frac_is_below : Addr
  a_Frac_divided_by : Addr
  a_law_box : Addr
  a_law_draw : Addr
  a_law_gcd : Addr
  a_law_low : Addr
  a_law_number : Addr
  a_law_signed : Addr
  a_law_terms : Addr
  a_law_second : Addr
  a_law_is : Addr
  a_law_truth : Addr
  a_law_wrong : Addr
  a_law_kind : Addr
  a_law_refused : Addr
  a_law_not_divided : Addr
  a_law_bad : Addr
  a_law_pair : Addr
  a_law_all : Addr
  a_law : Addr
  d_InvalidFraction_init : FuncData
  d_is_whole : FuncData
  d_Frac_init : FuncData
  d_Frac_add : FuncData
  d_Frac_sub : FuncData
  d_Frac_mul : FuncData
  d_Frac_eq : FuncData
  d_Frac_is_below : FuncData
  d_Frac_divided_by : FuncData
  d_law_box : FuncData
  d_law_draw : FuncData
  d_law_gcd : FuncData
  d_law_low : FuncData
  d_law_number : FuncData
  d_law_signed : FuncData
  d_law_terms : FuncData
  d_law_second : FuncData
  d_law_is : FuncData
  d_law_truth : FuncData
  d_law_wrong : FuncData
  d_law_kind : FuncData
  d_law_refused : FuncData
  d_law_not_divided : FuncData
  d_law_bad : FuncData
  d_law_pair : FuncData
  d_law_all : FuncData
  d_law : FuncData
structure Txt (K : PySem.W.Frag) (mg : Str → Option Value) (a : Ad) : Prop where
  mg_Frac : mg "Frac" = some (.ref a.C_Frac)
  mg_InvalidFraction : mg "InvalidFraction" = some (.ref a.C_InvalidFraction)
  mg_NextError : mg "NextError" = some (.ref a.C_NextError)
  cl_Frac : Cls K a.C_Frac
  na_Frac_num : NoAttr K a.C_Frac "num"
  na_Frac_den : NoAttr K a.C_Frac "den"
  cg_Frac : PySem.W.findIn K (.ref a.C_Frac) "__class__" = some (some (.builtin "object.__class__"))
  mr_Frac : PySem.W.mroIn K a.C_Frac (.type "object") = some true
  sf_Frac : PySem.W.selfFirst K a.C_Frac = true
  cget : PySem.W.specialIn K (.builtin "object.__class__") "__get__" = some (some (.builtin "getset_descriptor.__get__"))
  ctk : PySem.W.takesIn K (.builtin "object.__class__") = some true
  fn_InvalidFraction_init : Fun K "__init__" "InvalidFraction.__init__" s_InvalidFraction_init a.a_InvalidFraction_init a.d_InvalidFraction_init
  b_InvalidFraction_init : Binds K a.d_InvalidFraction_init ["self", "value"] []
  mg_is_whole : mg "is_whole" = some (.ref a.a_is_whole)
  fn_is_whole : Fun K "is_whole" "is_whole" s_is_whole a.a_is_whole a.d_is_whole
  b_is_whole : Binds K a.d_is_whole ["value"] []
  fn_Frac_init : FunD K "__init__" "Frac.__init__" (defArgs s_Frac_init) (defBody s_Frac_init) (defScope s_Frac_init) [.int 1] [] a.a_Frac_init a.d_Frac_init
  mt_Frac_init : Meth K a.C_Frac "__init__" a.a_Frac_init
  fn_Frac_add : Fun K "__add__" "Frac.__add__" s_Frac_add a.a_Frac_add a.d_Frac_add
  b_Frac_add : Binds K a.d_Frac_add ["self", "other"] []
  mt_Frac_add : Meth K a.C_Frac "__add__" a.a_Frac_add
  fn_Frac_sub : Fun K "__sub__" "Frac.__sub__" s_Frac_sub a.a_Frac_sub a.d_Frac_sub
  b_Frac_sub : Binds K a.d_Frac_sub ["self", "other"] []
  mt_Frac_sub : Meth K a.C_Frac "__sub__" a.a_Frac_sub
  fn_Frac_mul : Fun K "__mul__" "Frac.__mul__" s_Frac_mul a.a_Frac_mul a.d_Frac_mul
  b_Frac_mul : Binds K a.d_Frac_mul ["self", "other"] []
  mt_Frac_mul : Meth K a.C_Frac "__mul__" a.a_Frac_mul
  fn_Frac_eq : Fun K "__eq__" "Frac.__eq__" s_Frac_eq a.a_Frac_eq a.d_Frac_eq
  b_Frac_eq : Binds K a.d_Frac_eq ["self", "other"] []
  mt_Frac_eq : Meth K a.C_Frac "__eq__" a.a_Frac_eq
  fn_Frac_is_below : Fun K "is_below" "Frac.is_below" s_Frac_is_below a.a_Frac_is_below a.d_Frac_is_below
  b_Frac_is_below : Binds K a.d_Frac_is_below ["self", "other"] []
  mt_Frac_is_below : Meth K a.C_Frac "is_below" a.a_Frac_is_below
  fn_Frac_divided_by : Fun K "divided_by" "Frac.divided_by" s_Frac_divided_by a.a_Frac_divided_by a.d_Frac_divided_by
  b_Frac_divided_by : Binds K a.d_Frac_divided_by ["self", "other"] []
  mt_Frac_divided_by : Meth K a.C_Frac "divided_by" a.a_Frac_divided_by
  mg_law_box : mg "_law_box" = some (.ref a.a_law_box)
  fn_law_box : Fun K "_law_box" "_law_box" s_law_box a.a_law_box a.d_law_box
  b_law_box : Binds K a.d_law_box ["script"] []
  mg_law_draw : mg "_law_draw" = some (.ref a.a_law_draw)
  fn_law_draw : Fun K "_law_draw" "_law_draw" s_law_draw a.a_law_draw a.d_law_draw
  b_law_draw : Binds K a.d_law_draw ["box", "limit"] []
  mg_law_gcd : mg "_law_gcd" = some (.ref a.a_law_gcd)
  fn_law_gcd : Fun K "_law_gcd" "_law_gcd" s_law_gcd a.a_law_gcd a.d_law_gcd
  b_law_gcd : Binds K a.d_law_gcd ["one", "two"] []
  mg_law_low : mg "_law_low" = some (.ref a.a_law_low)
  fn_law_low : Fun K "_law_low" "_law_low" s_law_low a.a_law_low a.d_law_low
  b_law_low : Binds K a.d_law_low ["num", "den"] []
  mg_law_number : mg "_law_number" = some (.ref a.a_law_number)
  fn_law_number : Fun K "_law_number" "_law_number" s_law_number a.a_law_number a.d_law_number
  b_law_number : Binds K a.d_law_number ["box", "least"] []
  mg_law_signed : mg "_law_signed" = some (.ref a.a_law_signed)
  fn_law_signed : Fun K "_law_signed" "_law_signed" s_law_signed a.a_law_signed a.d_law_signed
  b_law_signed : Binds K a.d_law_signed ["box", "number"] []
  mg_law_terms : mg "_law_terms" = some (.ref a.a_law_terms)
  fn_law_terms : Fun K "_law_terms" "_law_terms" s_law_terms a.a_law_terms a.d_law_terms
  b_law_terms : Binds K a.d_law_terms ["box"] []
  mg_law_second : mg "_law_second" = some (.ref a.a_law_second)
  fn_law_second : Fun K "_law_second" "_law_second" s_law_second a.a_law_second a.d_law_second
  b_law_second : Binds K a.d_law_second ["box", "first"] []
  mg_law_is : mg "_law_is" = some (.ref a.a_law_is)
  fn_law_is : Fun K "_law_is" "_law_is" s_law_is a.a_law_is a.d_law_is
  b_law_is : Binds K a.d_law_is ["actual", "num", "den"] []
  mg_law_truth : mg "_law_truth" = some (.ref a.a_law_truth)
  fn_law_truth : Fun K "_law_truth" "_law_truth" s_law_truth a.a_law_truth a.d_law_truth
  b_law_truth : Binds K a.d_law_truth ["actual", "due"] []
  mg_law_wrong : mg "_law_wrong" = some (.ref a.a_law_wrong)
  fn_law_wrong : Fun K "_law_wrong" "_law_wrong" s_law_wrong a.a_law_wrong a.d_law_wrong
  b_law_wrong : Binds K a.d_law_wrong ["box", "first"] []
  mg_law_kind : mg "_law_kind" = some (.ref a.a_law_kind)
  fn_law_kind : Fun K "_law_kind" "_law_kind" s_law_kind a.a_law_kind a.d_law_kind
  b_law_kind : Binds K a.d_law_kind ["value"] []
  mg_law_refused : mg "_law_refused" = some (.ref a.a_law_refused)
  fn_law_refused : Fun K "_law_refused" "_law_refused" s_law_refused a.a_law_refused a.d_law_refused
  b_law_refused : Binds K a.d_law_refused ["num", "den", "shape"] []
  mg_law_not_divided : mg "_law_not_divided" = some (.ref a.a_law_not_divided)
  fn_law_not_divided : Fun K "_law_not_divided" "_law_not_divided" s_law_not_divided a.a_law_not_divided a.d_law_not_divided
  b_law_not_divided : Binds K a.d_law_not_divided ["one", "other"] []
  mg_law_bad : mg "_law_bad" = some (.ref a.a_law_bad)
  fn_law_bad : Fun K "_law_bad" "_law_bad" s_law_bad a.a_law_bad a.d_law_bad
  b_law_bad : Binds K a.d_law_bad ["box", "first"] []
  mg_law_pair : mg "_law_pair" = some (.ref a.a_law_pair)
  fn_law_pair : Fun K "_law_pair" "_law_pair" s_law_pair a.a_law_pair a.d_law_pair
  b_law_pair : Binds K a.d_law_pair ["one", "two", "first", "second"] []
  mg_law_all : mg "_law_all" = some (.ref a.a_law_all)
  fn_law_all : Fun K "_law_all" "_law_all" s_law_all a.a_law_all a.d_law_all
  b_law_all : Binds K a.d_law_all ["script"] []
  mg_law : mg "law" = some (.ref a.a_law)
  fn_law : Fun K "law" "law" s_law a.a_law a.d_law
  b_law : Binds K a.d_law ["script"] []
  mk_Frac : Mk K a.C_Frac a.a_Frac_init
  op_Frac_Add : PySem.W.findIn K (.ref a.C_Frac) (PySem.dunder (Operator.info .Add).2) = some (some (.ref a.a_Frac_add))
  op_Frac_Sub : PySem.W.findIn K (.ref a.C_Frac) (PySem.dunder (Operator.info .Sub).2) = some (some (.ref a.a_Frac_sub))
  op_Frac_Mult : PySem.W.findIn K (.ref a.C_Frac) (PySem.dunder (Operator.info .Mult).2) = some (some (.ref a.a_Frac_mul))
  ex_InvalidFraction : OexC K a.C_InvalidFraction
  xf_InvalidFraction : XfC K a.C_InvalidFraction
  xm_InvalidFraction : PySem.W.exmOne K (.ref a.C_InvalidFraction) (.ref a.C_InvalidFraction) = some true
  na_InvalidFraction_value : PySem.W.findIn K (.ref a.C_InvalidFraction) "value" = some none
  xi_InvalidFraction : PySem.W.findIn K (.ref a.C_InvalidFraction) "__init__" = some (some (.ref a.a_InvalidFraction_init))
  ti_InvalidFraction : PySem.W.typeIn K (.ref a.a_InvalidFraction_init) = some (.type "function")
  no_isinstance : mg "isinstance" = none
  no_int : mg "int" = none
  no_bool : mg "bool" = none
  no_range : mg "range" = none
  no_len : mg "len" = none
  no_abs : mg "abs" = none
  no_max : mg "max" = none
  no_str : mg "str" = none
  no_list : mg "list" = none
  no_tuple : mg "tuple" = none
  mg_gcd : mg "gcd" = some (.builtin "math.gcd")
  kit_F_F : PySem.W.kitOne K (.ref a.C_Frac) (.ref a.C_Frac) = some true
  kit_F_int : PySem.W.kitOne K (.ref a.C_Frac) (.type "int") = some false
  kit_none_F : PySem.W.kitOne K (.type "NoneType") (.ref a.C_Frac) = some false
  kit_bool_F : PySem.W.kitOne K (.type "bool") (.ref a.C_Frac) = some false
  kit_int_F : PySem.W.kitOne K (.type "int") (.ref a.C_Frac) = some false
  kit_str_F : PySem.W.kitOne K (.type "str") (.ref a.C_Frac) = some false
  kit_list_F : PySem.W.kitOne K (.type "list") (.ref a.C_Frac) = some false
  kit_tuple_F : PySem.W.kitOne K (.type "tuple") (.ref a.C_Frac) = some false
  nf_F : PySem.W.notFirst K a.C_Frac (.ref a.C_Frac) = true
  nf_none : PySem.W.notFirst K a.C_Frac (.type "NoneType") = true
  nf_bool : PySem.W.notFirst K a.C_Frac (.type "bool") = true
  nf_int : PySem.W.notFirst K a.C_Frac (.type "int") = true
  nf_str : PySem.W.notFirst K a.C_Frac (.type "str") = true
  nf_list : PySem.W.notFirst K a.C_Frac (.type "list") = true
  nf_tuple : PySem.W.notFirst K a.C_Frac (.type "tuple") = true
end K02
namespace K02
open PySem PySem.Spec PyProof.Rows L2 Own OwnExN
/-! ### a fraction's fields -/
theorem nd_ne : ¬ (("num" : Str) = "den") := by decide +kernel
def ff (n d : Int) : List (Str × V) := putF "den" (.int d) (putF "num" (.int n) [])
theorem ff_num (n d : Int) : (ff n d).lookup ("num" : Str) = some (.int n) := by
  unfold ff
  rw [lookup_putF, if_neg nd_ne, lookup_putF, if_pos rfl]
theorem ff_den (n d : Int) : (ff n d).lookup ("den" : Str) = some (.int d) := by
  unfold ff
  rw [lookup_putF, if_pos rfl]
theorem ff_no (n d : Int) {m : Str} (h1 : ¬ m = "den") (h2 : ¬ m = "num") : (ff n d).lookup m = none := by
  unfold ff
  rw [lookup_putF, if_neg h1, lookup_putF, if_neg h2]
  all_goals rfl
/-! ### values by their kinds -/
inductive Tg | non | bl | int | str | lst | tup | fr
  deriving DecidableEq
inductive Ty (C : Addr) (H : Hp) : V → Tg → Prop
  | non : Ty C H .non .non
  | bl (b : Bool) : Ty C H (.bl b) .bl
  | int (i : Int) : Ty C H (.int i) .int
  | str (x : Str) : Ty C H (.str x) .str
  | lst {p : Addr} {xs : List V} (h : H p = some (.lst xs)) : Ty C H (.ref p) .lst
  | tup {p : Addr} {xs : List V} (h : H p = some (.tup xs)) : Ty C H (.ref p) .tup
  | fr {p dx : Addr} {fs : List (Str × V)} (h : H p = some (.ins C dx fs)) : Ty C H (.ref p) .fr
theorem Ty.same {C : Addr} {H H' : Hp} {v : V} {g : Tg} (e : Same H H') (t : Ty C H v g) : Ty C H' v g := by
  cases t with
  | non => exact .non
  | bl b => exact .bl b
  | int i => exact .int i
  | str x => exact .str x
  | lst h => exact .lst (e _ _ h)
  | tup h => exact .tup (e _ _ h)
  | fr h => exact .fr (e _ _ h)
def tyv (C : Addr) : Tg → Value
  | .non => .type "NoneType"
  | .bl => .type "bool"
  | .int => .type "int"
  | .str => .type "str"
  | .lst => .type "list"
  | .tup => .type "tuple"
  | .fr => .ref C
def isB (g : Tg) : Tg → Bool
  | .int => decide (g = .int) || decide (g = .bl)
  | c => decide (g = c)
def clv (C : Addr) : Tg → V
  | .non => .ty "NoneType"
  | .bl => .ty "bool"
  | .int => .ty "int"
  | .str => .ty "str"
  | .lst => .ty "list"
  | .tup => .ty "tuple"
  | .fr => .ref C
section
variable {P : Program} {w : World} {K : PySem.W.Frag} {mg : Str → Option Value} {base : Heap} {a : Ad}
theorem Ty.x (T : Txt K mg a) {H : Hp} {v : V} {g : Tg} (t : Ty a.C_Frac H v g) : TyX K H v (tyv a.C_Frac g) := by
  cases t with
  | non => exact .base .non
  | bl b => exact .base (.bl b)
  | int i => exact .base (.int i)
  | str x => exact .base (.str x)
  | lst h => exact .base (.lst h)
  | tup h => exact .base (.tup h)
  | fr h => exact .base (.ins h T.cl_Frac T.cg_Frac T.cget T.ctk T.mr_Frac)
theorem Ty.nf (T : Txt K mg a) (g : Tg) : PySem.W.notFirst K a.C_Frac (tyv a.C_Frac g) = true := by
  cases g with
  | non => exact T.nf_none
  | bl => exact T.nf_bool
  | int => exact T.nf_int
  | str => exact T.nf_str
  | lst => exact T.nf_list
  | tup => exact T.nf_tuple
  | fr => exact T.nf_F
/-- isinstance with one of the classes -/
def rIs (C : Addr) (c : Tg) : List V → Hp → VK → Prop := fun xs H Q => ∃ v g, xs = [v, clv C c] ∧ Ty C H v g ∧ Q (.bl (isB g c)) H
theorem kit_frac (T : Txt K mg a) (g : Tg) : PySem.W.kitOne K (tyv a.C_Frac g) (.ref a.C_Frac) = some (isB g .fr) := by
  cases g with
  | non => exact T.kit_none_F
  | bl => exact T.kit_bool_F
  | int => exact T.kit_int_F
  | str => exact T.kit_str_F
  | lst => exact T.kit_list_F
  | tup => exact T.kit_tuple_F
  | fr => exact T.kit_F_F
theorem call_isF {X : Cx} (T : Txt X.K mg a) : CallR X (.builtin "isinstance") (rIs a.C_Frac .fr) := Rd.CallR.imp call_isi fun xs H Q ⟨v, g, e, t, q⟩ => ⟨v, .ref a.C_Frac, tyv a.C_Frac g, .ref a.C_Frac, isB g .fr, e, .own _, t.x T, kit_frac T g, q⟩
theorem kit_by (T : Txt K mg a) (g c : Tg) (h1 : c ≠ .fr) (h2 : c ≠ .non) (h3 : g = .fr → c = .int) : ∃ n : String, clv a.C_Frac c = .ty n ∧ PySem.W.kitOne K (tyv a.C_Frac g) (.type n) = some (isB g c) := by
  cases c with
  | fr => exact absurd rfl h1
  | non => exact absurd rfl h2
  | int =>
    refine ⟨"int", rfl, ?_⟩
    cases g with
    | fr => exact T.kit_F_int
    | non => exact kit_ty (by decide +kernel)
    | bl => exact kit_ty (by decide +kernel)
    | int => exact kit_ty (by decide +kernel)
    | str => exact kit_ty (by decide +kernel)
    | lst => exact kit_ty (by decide +kernel)
    | tup => exact kit_ty (by decide +kernel)
  | bl =>
    refine ⟨"bool", rfl, ?_⟩
    cases g with
    | fr => exact absurd (h3 rfl) (by decide)
    | non => exact kit_ty (by decide +kernel)
    | bl => exact kit_ty (by decide +kernel)
    | int => exact kit_ty (by decide +kernel)
    | str => exact kit_ty (by decide +kernel)
    | lst => exact kit_ty (by decide +kernel)
    | tup => exact kit_ty (by decide +kernel)
  | str =>
    refine ⟨"str", rfl, ?_⟩
    cases g with
    | fr => exact absurd (h3 rfl) (by decide)
    | non => exact kit_ty (by decide +kernel)
    | bl => exact kit_ty (by decide +kernel)
    | int => exact kit_ty (by decide +kernel)
    | str => exact kit_ty (by decide +kernel)
    | lst => exact kit_ty (by decide +kernel)
    | tup => exact kit_ty (by decide +kernel)
  | lst =>
    refine ⟨"list", rfl, ?_⟩
    cases g with
    | fr => exact absurd (h3 rfl) (by decide)
    | non => exact kit_ty (by decide +kernel)
    | bl => exact kit_ty (by decide +kernel)
    | int => exact kit_ty (by decide +kernel)
    | str => exact kit_ty (by decide +kernel)
    | lst => exact kit_ty (by decide +kernel)
    | tup => exact kit_ty (by decide +kernel)
  | tup =>
    refine ⟨"tuple", rfl, ?_⟩
    cases g with
    | fr => exact absurd (h3 rfl) (by decide)
    | non => exact kit_ty (by decide +kernel)
    | bl => exact kit_ty (by decide +kernel)
    | int => exact kit_ty (by decide +kernel)
    | str => exact kit_ty (by decide +kernel)
    | lst => exact kit_ty (by decide +kernel)
    | tup => exact kit_ty (by decide +kernel)
/-- .. with a built-in one (of an own instance only int is asked) -/
def rIsB (C : Addr) (c : Tg) : List V → Hp → VK → Prop := fun xs H Q => ∃ v g, xs = [v, clv C c] ∧ Ty C H v g ∧ (g = .fr → c = .int) ∧ Q (.bl (isB g c)) H
theorem call_isB {X : Cx} (T : Txt X.K mg a) (c : Tg) (h1 : c ≠ .fr := by decide) (h2 : c ≠ .non := by decide) : CallR X (.builtin "isinstance") (rIsB a.C_Frac c) := Rd.CallR.imp call_isi fun xs H Q ⟨v, g, e, t, h3, q⟩ => by
  obtain ⟨n, e1, k⟩ := kit_by T g c h1 h2 h3
  exact ⟨v, .ty n, tyv a.C_Frac g, .type n, isB g c, by rw [e, e1], .ty n, t.x T, k, q⟩
end
end K02
namespace K02
open PySem PySem.Spec PyProof.Rows L2 Own OwnExN
theorem ff_eq (n d : Int) : ff n d = [(("num" : Str), V.int n), (("den" : Str), V.int d)] := by
  show (if ("num" : Str) = "den" then [(("num" : Str), V.int d)] else (("num" : Str), V.int n) :: putF "den" (V.int d) []) = [(("num" : Str), V.int n), (("den" : Str), V.int d)]
  rw [if_neg nd_ne]
  all_goals rfl
theorem ff_inj {n d n' d' : Int} : (ff n d = ff n' d') = (n = n' ∧ d = d') := by
  rw [ff_eq, ff_eq]
  simp
theorem PE.imp {X : Cx} {e : Expr} {t t' : TE} (h : PE X e t) (i : ∀ σ H Q, t' σ H Q → t σ H Q) : PE X e t' := ⟨fun pins s σ H Q I q => h.run pins s σ H Q I (i σ H Q q)⟩
def tNum (C : Addr) (te : TE) : TE := fun σ H Q => te σ H fun x H1 => ∃ p dx n d, x = .ref p ∧ H1 p = some (.ins C dx (ff n d)) ∧ Q (.int n) H1
def tDen (C : Addr) (te : TE) : TE := fun σ H Q => te σ H fun x H1 => ∃ p dx n d, x = .ref p ∧ H1 p = some (.ins C dx (ff n d)) ∧ Q (.int d) H1
local macro_rules | `(tactic| walk_at "rd") => `(tactic| simp only [tSeq, tAsg, tOp, tUn, tVar, gName, gSub, rIxL, rIxT, rSetL, tC, rI0, rI, rU, rEq, rNe, tCons, tNil, tCB, tLst, tTup, tIfS, tAnd, tOr, tNot, tAndV, tOrV, tNotV, tTest, tB, tIf, tRet, tDrop, tNext, tBreak, tCont, tCall, tMake, tMkO, sFld, tOst, tNum, tDen, tNever, tBits, rIs, rIsB, clv, isB, rGcd,
  Rd.tFor_rng1, Rd.tFor_rng2, Rd.tFor_list, Rd.tFor_tup, Rd.tLc_list, Rd.tLc_tup, Rd.tLc_rng1, Rd.LcTurn, tYes, wipe, Rd.rLenL, Rd.rLenT, Rd.rIntI, Rd.rIxH, Rd.at0, Rd.at1, Rd.at2, Rd.at3, Rd.ixN40, Rd.ixN41, Rd.ixN42, Rd.ixN43, Rd.scal_ii, cxOf,
  List.length_cons, List.length_nil, List.length_map, List.map_cons, List.map_nil, upd_same, decide_eq_true_eq, decide_true, decide_false, if_true, if_false, Bool.false_eq_true, Bool.not_true, Bool.not_false, HO.lst.injEq, HO.ins.injEq, ff_inj, List.set_cons_zero, List.set_cons_succ, List.getElem?_cons_zero, List.getElem?_cons_succ, List.append_nil, List.nil_append, List.cons_append, Option.some.injEq, V.ref.injEq, V.int.injEq, V.bl.injEq, List.cons.injEq, exists_eq_left', exists_and_left, exists_eq_left, true_and, and_true, and_self, and_assoc, implies_true, reduceCtorEq, Nat.reduceAdd])

section
variable {P : Program} {w : World} {K : PySem.W.Frag} {mg : Str → Option Value} {base : Heap} {a : Ad}
/-- the sign of the divisor on the greatest common divisor -/
def gS (n d : Int) : Int := if d < 0 then -((Nat.gcd n.natAbs d.natAbs : Nat) : Int) else ((Nat.gcd n.natAbs d.natAbs : Nat) : Int)
def LN (n d : Int) : Int := n.fdiv (gS n d)
def LD (n d : Int) : Int := d.fdiv (gS n d)
abbrev Big (x : Int) : Prop := x.natAbs < 2 ^ 4000
theorem gcd_pos {n d : Int} (h : d ≠ 0) : 0 < Nat.gcd n.natAbs d.natAbs := Nat.gcd_pos_of_pos_right _ (by omega)
theorem gcd_le {n d : Int} (h : d ≠ 0) : Nat.gcd n.natAbs d.natAbs ≤ d.natAbs := Nat.le_of_dvd (by omega) (Nat.gcd_dvd_right _ _)
theorem gS_div {n d : Int} (h : d ≠ 0) (hb : Big d) : CDivM n (gS n d) := by
  have p := gcd_pos (n := n) h
  have l := gcd_le (n := n) h
  have e : (gS n d).natAbs = Nat.gcd n.natAbs d.natAbs := by
    unfold gS
    split
    · rw [Int.natAbs_neg, Int.natAbs_natCast]
    · rw [Int.natAbs_natCast]
  refine ⟨by omega, ?_⟩
  rw [e]
  have z : Nat.log2 (Nat.gcd n.natAbs d.natAbs) < 4000 := PySem.Flt.log2_lt_of (by decide) (Nat.lt_of_le_of_lt l hb)
  omega
/-! ### InvalidFraction.__init__ -/
def spIv (C : Addr) : Sp := fun vs H Q _ => ∃ (p : Addr) (v : V), vs = [.ref p, v] ∧ H p = some (exo p C none) ∧ ∀ d, H d = none → d ≠ p → Q .non (upd (upd H d (exd d [("value", v)])) p (exo p C (some d)))
theorem sc_InvalidFraction_init : FnScope ["self", "value"] ["self", "value"] (defScope s_InvalidFraction_init) := ⟨rfl, rfl, rfl, by decide +kernel, rfl, by decide +kernel, by decide +kernel⟩
theorem ok_InvalidFraction_init (T : Txt K mg a) : FnOk P w K mg base CX0 1 a.a_InvalidFraction_init a.d_InvalidFraction_init ["self", "value"] (spIv a.C_InvalidFraction) := by
  refine T.fn_InvalidFraction_init.ok sc_InvalidFraction_init (fun vs H Q E h => ?_) (fun cdv A outer s H vs Q E hr h => ?_)
  · obtain ⟨p, v, rfl, _⟩ := h
    rfl
  · obtain ⟨p, v, rfl, hp, k⟩ := h
    refine ⟨_, (pss_one (ps_ost (pv 0) (pv 1))), ?_⟩
    refine ⟨_, rfl, _, rfl, p, _, rfl, T.ex_InvalidFraction, T.na_InvalidFraction_value, .inl ⟨hp, fun dx hd hne => k dx hd hne⟩⟩
/-- a made error: its dict d is new -/
theorem iv_made {C x : Addr} {v : V} {H1 : Hp} {E : XK} (hx : H1 x = none) (k : ∀ d H', H1 d = none → H' d = some (.xd [("value", v)]) → Same H1 H' → E (.ref C) (some d) H') :
    spIv C [.ref x, v] (upd H1 x (exo x C none)) (fun v' H2 => v' = .non ∧ ∃ d, H2 x = some (exo x C (some d)) ∧ ∃ fs, H2 d = some (exd d fs) ∧ H1 d = none ∧ E (.ref C) (some d) (upd (del H2 x) d (.xd fs))) (fun _ _ _ => False) := by
  refine ⟨x, v, rfl, upd_same, fun d hd hne => ?_⟩
  rw [upd_ne hne] at hd
  refine ⟨rfl, d, upd_same, _, (upd_ne hne).trans upd_same, hd, k d _ hd upd_same fun b o e => ?_⟩
  have nd : b ≠ d := ne_of_none e hd
  have nx : b ≠ x := ne_of_none e hx
  rw [upd_ne nd, del_ne nx, upd_ne nx, upd_ne nd, upd_ne nx]
  exact e
/-! ### is_whole -/
def spWhole (C : Addr) : Sp := fun vs H Q _ => ∃ (v : V) (g : Tg), vs = [v] ∧ Ty C H v g ∧ Q (.bl (decide (g = .int))) H
theorem sc_is_whole : FnScope ["value"] ["value"] (defScope s_is_whole) := ⟨rfl, rfl, rfl, by decide +kernel, rfl, by decide +kernel, by decide +kernel⟩
theorem ok_is_whole (T : Txt K mg a) : FnOk P w K mg base CX0 1 a.a_is_whole a.d_is_whole ["value"] (spWhole a.C_Frac) := by
  refine T.fn_is_whole.ok sc_is_whole (fun vs H Q E h => ?_) (fun cdv A outer s H vs Q E hr h => ?_)
  · obtain ⟨v, g, rfl, _⟩ := h
    rfl
  · obtain ⟨v, g, rfl, t, k⟩ := h
    refine ⟨_, (pss_one (ps_ret (pe_and (pe_callB (call_isB T .int) (by rfl) T.no_isinstance (by decide +kernel) (pa_cons (pv 0) (pa_cons (pe_bltn (v := .ty "int") (u := .type "int") (by rfl) T.no_int (by decide +kernel) rfl) pa_nil))) (pe_one (pe_not (pe_callB (call_isB T .bl) (by rfl) T.no_isinstance (by decide +kernel) (pa_cons (pv 0) (pa_cons (pe_bltn (v := .ty "bool") (u := .type "bool") (by rfl) T.no_bool (by decide +kernel) rfl) pa_nil)))))))), ?_⟩
    show (_ : TS) _ [some v] H
    walk_at "rd"
    refine ⟨g, t, ?_⟩
    cases g with
    | int => exact iteT ⟨.int, t, by decide, k⟩
    | bl => exact iteT ⟨.bl, t, by decide, k⟩
    | non => exact iteF k
    | str => exact iteF k
    | lst => exact iteF k
    | tup => exact iteF k
    | fr => exact iteF k
/-! ### Frac.__init__ -/
def good (v1 v2 : V) : Prop := ∃ n d : Int, v1 = .int n ∧ v2 = .int d ∧ d ≠ 0
def spFrac (C IV : Addr) : Sp := fun vs H Q E => ∃ (p dx : Addr) (v1 v2 : V) (g1 g2 : Tg), vs = [.ref p, v1, v2] ∧ H p = some (.ins C dx []) ∧ Ty C H v1 g1 ∧ Ty C H v2 g2 ∧
  (∀ n d : Int, v1 = .int n → v2 = .int d → d ≠ 0 → Big n ∧ Big d ∧ ∀ H', H' p = some (.ins C dx (ff (LN n d) (LD n d))) → (∀ b, b ≠ p → H' b = H b) → Q .non H') ∧
  (¬ good v1 v2 → ∀ (t d : Addr) (H' : Hp), H t = none → H d = none → H' t = some (.tup [v1, v2]) → H' d = some (.xd [("value", .ref t)]) → Same H H' → E (.ref IV) (some d) H')
theorem sc_Frac_init : FnScope ["self", "num", "den", "common"] ["self", "num", "den"] (defScope s_Frac_init) := ⟨rfl, rfl, rfl, by decide +kernel, rfl, by decide +kernel, by decide +kernel⟩
theorem ok_Frac_init (T : Txt K mg a) : FnOk P w K mg base (L2N.CX P w) 3 a.a_Frac_init a.d_Frac_init ["self", "num", "den"] (spFrac a.C_Frac a.C_InvalidFraction) := by
  refine T.fn_Frac_init.ok sc_Frac_init (fun vs H Q E h => ?_) (fun cdv A outer s H vs Q E hr h => ?_)
  · obtain ⟨p, dx, v1, v2, g1, g2, rfl, _⟩ := h
    rfl
  · obtain ⟨p, dx, v1, v2, g1, g2, rfl, hp, t1, t2, kok, kbad⟩ := h
    refine ⟨_, (pss_cons (ps_if (PW.pt (pw_or (pt_not (pt_val (pe_call (ok_is_whole T) (hr.mono (by decide)) (by rfl) T.mg_is_whole T.fn_is_whole.kp T.b_is_whole .nil pass0 (pa_cons (pv 1) pa_nil)))) (pw_or (pt_not (pt_val (pe_call (ok_is_whole T) (hr.mono (by decide)) (by rfl) T.mg_is_whole T.fn_is_whole.kp T.b_is_whole .nil pass0 (pa_cons (pv 2) pa_nil)))) (pw_or1 (pt_cmpR op_eq (pv 2) pe_int (nomark _)))))) (pss_one (L2N.ps_raise rfl (L2N.takes_of rfl rfl rfl rfl) (pmk_oexN T.ex_InvalidFraction T.xi_InvalidFraction T.ti_InvalidFraction (ok_InvalidFraction_init T) (hr.mono (by decide)) T.b_InvalidFraction_init pass0 (by rfl) T.mg_InvalidFraction (pa_cons (pe_tup (pa_cons (pv 1) (pa_cons (pv 2) pa_nil))) pa_nil)))) pss_nil)
      (pss_cons (ps_set (i := 3) sc_Frac_init.nd rfl (Or.inl rfl) (pe_callBfun cr_gcd (by rfl) T.mg_gcd (pa_cons (pv 1) (pa_cons (pv 2) pa_nil))))
      (pss_cons (ps_if (pt_cmpR op_lt (pv 2) pe_int (nomark _)) (pss_one (ps_set (i := 3) sc_Frac_init.nd rfl (Or.inl rfl) (pe_un un_neg (pv 3)))) pss_nil)
      (pss_cons (ps_fld (pv 0) (pe_op op_fdivWN (pv 1) (pv 3)) rfl)
      (pss_one (ps_fld (pv 0) (pe_op op_fdivWN (pv 2) (pv 3)) rfl)))))), ?_⟩
    show (_ : TS) _ [some (V.ref p), some v1, some v2, none] H
    walk_at "rd"
    have bad : ¬ good v1 v2 → ∀ (t x : Addr), H t = none → upd H t (.tup [v1, v2]) x = none → ∀ (d : Addr) (H' : Hp), upd H t (.tup [v1, v2]) d = none → H' d = some (.xd [("value", .ref t)]) → Same (upd H t (.tup [v1, v2])) H' → E (.ref a.C_InvalidFraction) (some d) H' := fun hg t x ht _ d H' hd e s =>
      kbad hg t d H' ht (by rw [upd_ne (fun z => by rw [z, upd_same] at hd; cases hd)] at hd; exact hd) (s _ _ upd_same) e fun b o z => s b o (by rw [upd_ne (ne_of_none z ht)]; exact z)
    refine ⟨v1, g1, rfl, t1, _, rfl, ite2 (fun h => ⟨by decide, fun t ht => ⟨by decide, fun x hx => iv_made hx (bad (fun ⟨n, d, e1, _⟩ => ?_) t x ht hx)⟩⟩) fun h => ?_⟩
    · subst e1
      cases t1
      simp at h
    refine ⟨v2, g2, rfl, t2, _, rfl, ite2 (fun h => ⟨by decide, fun t ht => ⟨by decide, fun x hx => iv_made hx (bad (fun ⟨n, d, _, e2, _⟩ => ?_) t x ht hx)⟩⟩) fun h' => ?_⟩
    · subst e2
      cases t2
      simp at h
    have i1 : g1 = .int := by simpa using h
    have i2 : g2 = .int := by simpa using h'
    subst i1 i2
    cases t1 with
    | int n =>
    cases t2 with
    | int d =>
    walk_at "rd"
    refine ite2 (fun h0 => ⟨by decide, fun t ht => ⟨by decide, fun x hx => iv_made hx (bad (fun ⟨n', d', _, e2, e3⟩ => ?_) t x ht hx)⟩⟩) fun h0 => ?_
    · cases e2
      exact e3 h0
    obtain ⟨bn, bd, k⟩ := kok n d rfl rfl h0
    have gd := gS_div (n := n) h0 bd
    refine ite2 (fun hn => ?_) (fun hn => ?_)
    · have e : gS n d = -((Nat.gcd n.natAbs d.natAbs : Nat) : Int) := if_pos hn
      rw [e] at gd
      refine ⟨gd, _, _, _, hp, T.cl_Frac, T.na_Frac_num, (by show 0 < 1000; decide), gd, T.cl_Frac, T.na_Frac_den, (by show 1 < 1000; decide), k _ ?_ fun b hb => by rw [upd_ne hb, upd_ne hb]⟩
      rw [upd_same]
      unfold ff LN LD
      rw [e]
    · have e : gS n d = ((Nat.gcd n.natAbs d.natAbs : Nat) : Int) := if_neg hn
      rw [e] at gd
      refine ⟨gd, _, _, _, hp, T.cl_Frac, T.na_Frac_num, (by show 0 < 1000; decide), gd, T.cl_Frac, T.na_Frac_den, (by show 1 < 1000; decide), k _ ?_ fun b hb => by rw [upd_ne hb, upd_ne hb]⟩
      rw [upd_same]
      unfold ff LN LD
      rw [e]
/-! ### how Frac is called -/
theorem b3 (T : Txt K mg a) : Binds K a.d_Frac_init ["self", "num", "den"] [] := by
  obtain ⟨ds, v, b⟩ := T.fn_Frac_init.binds1 (ps := ["self", "num", "den"]) 3 1 (by decide) rfl fun Tt kV doc pm an cdv ct us its hu hi => match us, its, hu, hi with | [_, _, _], [_], _, _ => ⟨_, rfl, by first | rfl | with_unfolding_all rfl | kernel_rfl⟩
  cases v
  exact b
theorem b2 (T : Txt K mg a) : ∃ ds, Vals [.int 1] ds ∧ Binds K a.d_Frac_init ["self", "num", "den"] ds :=
  T.fn_Frac_init.binds1 2 0 (by decide) rfl fun Tt kV doc pm an cdv ct us its hu hi => match us, its, hu, hi with | [_, _], [_], _, _ => ⟨_, rfl, by first | rfl | with_unfolding_all rfl | kernel_rfl⟩
def g2 {α : Type} (us _ ws : List α) : List α := us ++ ws.reverse
theorem kb2 (T : Txt K mg a) : ∃ its : List Value, KBn K a.d_Frac_init ["self", "num", "den"] 1 ["den", "num"] (fun us ws => g2 us its ws) (fun vs zs => g2 vs [.int 1] zs) :=
  T.fn_Frac_init.kbindsD 1 ["den", "num"] g2 (by decide) (fun r1 _ r2 => r1.append r2.reverse) fun Tt kV doc pm an cdv ct us its ws hu hi hw => match us, its, ws, hu, hi, hw with | [_], [_], [_, _], _, _, _ => ⟨_, rfl, by first | rfl | with_unfolding_all rfl | kernel_rfl⟩
def g1 {α : Type} (us ds ws : List α) : List α := us ++ (ws ++ ds)
theorem kb1 (T : Txt K mg a) : ∃ its : List Value, KBn K a.d_Frac_init ["self", "num", "den"] 1 ["num"] (fun us ws => g1 us its ws) (fun vs zs => g1 vs [.int 1] zs) :=
  T.fn_Frac_init.kbindsD 1 ["num"] g1 (by decide) (fun r1 r2 r3 => r1.append (r3.append r2)) fun Tt kV doc pm an cdv ct us its ws hu hi hw => match us, its, ws, hu, hi, hw with | [_], [_], [_], _, _, _ => ⟨_, rfl, by first | rfl | with_unfolding_all rfl | kernel_rfl⟩
end
end K02
namespace K02
open PySem PySem.Spec PyProof.Rows L2 Own OwnExN
local macro_rules | `(tactic| walk_at "rd") => `(tactic| simp only [tSeq, tAsg, tOp, tUn, tVar, gName, gSub, rIxL, rIxT, rSetL, tC, rI0, rI, rU, rEq, rNe, tCons, tNil, tCB, tLst, tTup, tIfS, tAnd, tOr, tNot, tAndV, tOrV, tNotV, tTest, tB, tIf, tRet, tDrop, tNext, tBreak, tCont, tCall, tMake, tMkO, sFld, tOst, tNum, tDen, tNever, tBits, rIs, rIsB, clv, isB, rGcd,
  Rd.tFor_rng1, Rd.tFor_rng2, Rd.tFor_list, Rd.tFor_tup, Rd.tLc_list, Rd.tLc_tup, Rd.tLc_rng1, Rd.LcTurn, tYes, wipe, Rd.rLenL, Rd.rLenT, Rd.rIntI, Rd.rIxH, Rd.at0, Rd.at1, Rd.at2, Rd.at3, Rd.ixN40, Rd.ixN41, Rd.ixN42, Rd.ixN43, Rd.scal_ii, cxOf,
  List.length_cons, List.length_nil, List.length_map, List.map_cons, List.map_nil, upd_same, decide_eq_true_eq, decide_true, decide_false, if_true, if_false, Bool.false_eq_true, Bool.not_true, Bool.not_false, HO.lst.injEq, HO.ins.injEq, ff_inj, List.set_cons_zero, List.set_cons_succ, List.getElem?_cons_zero, List.getElem?_cons_succ, List.append_nil, List.nil_append, List.cons_append, Option.some.injEq, V.ref.injEq, V.int.injEq, V.bl.injEq, List.cons.injEq, exists_eq_left', exists_and_left, exists_eq_left, true_and, and_true, and_self, and_assoc, implies_true, reduceCtorEq, Nat.reduceAdd])

section
variable {P : Program} {w : World} {K : PySem.W.Frag} {mg : Str → Option Value} {base : Heap} {a : Ad}
theorem pe_num {X : Cx} {e : Expr} {te : TE} {pos : Pos} (T : Txt X.K mg a) (he : PE X e te) (hb : attributeBase e "num" X.env (eval e X.env) = eval e X.env := by rfl) : PE X (.Attribute e "num" pos) (tNum a.C_Frac te) :=
  ⟨fun pins s σ H Q I h => attr_of hb (thn (he.run pins s σ H _ I h) fun u s1 ⟨x, H1, I1, rx, p, dx, n, d, ex, ea, q⟩ => by
    subst ex
    cases rx
    exact getattr_ok I1 ea T.cl_Frac T.na_Frac_num (ff_num n d) fun u' s2 I2 ru => ⟨_, H1, I2, ru, q⟩)⟩
theorem pe_den {X : Cx} {e : Expr} {te : TE} {pos : Pos} (T : Txt X.K mg a) (he : PE X e te) (hb : attributeBase e "den" X.env (eval e X.env) = eval e X.env := by rfl) : PE X (.Attribute e "den" pos) (tDen a.C_Frac te) :=
  ⟨fun pins s σ H Q I h => attr_of hb (thn (he.run pins s σ H _ I h) fun u s1 ⟨x, H1, I1, rx, p, dx, n, d, ex, ea, q⟩ => by
    subst ex
    cases rx
    exact getattr_ok I1 ea T.cl_Frac T.na_Frac_den (ff_den n d) fun u' s2 I2 ru => ⟨_, H1, I2, ru, q⟩)⟩
/-- Frac(n, d) with right integers -/
theorem frac_made {C IV : Addr} {n d : Int} {H : Hp} {Q : VK} {E : XK} (hd : d ≠ 0) (bn : Big n) (bd : Big d) (k : ∀ x dr H', H x = none → H' x = some (.ins C dr (ff (LN n d) (LD n d))) → Same H H' → Q (.ref x) H') :
    ∀ x dx, H x = none → H dx = none → dx ≠ x → spFrac C IV [.ref x, .int n, .int d] (upd (upd H dx (.own x)) x (.ins C dx [])) (fun v H2 => v = .non ∧ Q (.ref x) H2) E := fun x dx hx hdx hne =>
  ⟨x, dx, _, _, .int, .int, rfl, upd_same, .int n, .int d, fun n' d' e1 e2 _ => by
    cases e1
    cases e2
    refine ⟨bn, bd, fun H' h1 h2 => ⟨rfl, k x dx H' hx h1 fun b o e => ?_⟩⟩
    rw [h2 b (ne_of_none e hx), upd_ne (ne_of_none e hx), upd_ne (ne_of_none e hdx)]
    exact e, fun hb => absurd ⟨n, d, rfl, rfl, hd⟩ hb⟩
abbrev Mid (x : Int) : Prop := x.natAbs < 2 ^ 1900
theorem mid_mul {x y : Int} (hx : Mid x) (hy : Mid y) : CMulW x y ∧ (x * y).natAbs < 2 ^ 3800 := ⟨wide_mul hx hy (by decide) (by decide) (by decide), wide_lt hx hy⟩
theorem big_of {x : Int} (h : x.natAbs < 2 ^ 3800) : Big x := Nat.lt_of_lt_of_le h (Nat.pow_le_pow_right (by decide) (by decide))
theorem big_add {x y : Int} (hx : x.natAbs < 2 ^ 3800) (hy : y.natAbs < 2 ^ 3800) : Big (x + y) ∧ Big (x - y) := by
  have e : (2 : Nat) ^ 3801 ≤ 2 ^ 4000 := Nat.pow_le_pow_right (by decide) (by decide)
  have e2 : (2 : Nat) ^ 3801 = 2 * 2 ^ 3800 := by rw [Nat.pow_succ, Nat.mul_comm]
  generalize (2 : Nat) ^ 3800 = A at *
  constructor <;> (show Int.natAbs _ < _; omega)
theorem mul_ne {x y : Int} (hx : x ≠ 0) (hy : y ≠ 0) : x * y ≠ 0 := Int.mul_ne_zero hx hy
/-- one op other, both fractions: a new one -/
def spBin (C : Addr) (op : Int → Int → Int → Int → Int × Int) : Sp := fun vs H Q _ => ∃ (p q dx dy : Addr) (n1 d1 n2 d2 : Int), vs = [.ref p, .ref q] ∧ H p = some (.ins C dx (ff n1 d1)) ∧ H q = some (.ins C dy (ff n2 d2)) ∧ d1 ≠ 0 ∧ d2 ≠ 0 ∧ Mid n1 ∧ Mid d1 ∧ Mid n2 ∧ Mid d2 ∧
  ∀ x dr H', H x = none → H' x = some (.ins C dr (ff (LN (op n1 d1 n2 d2).1 (op n1 d1 n2 d2).2) (LD (op n1 d1 n2 d2).1 (op n1 d1 n2 d2).2))) → Same H H' → Q (.ref x) H'
def oAdd (n1 d1 n2 d2 : Int) : Int × Int := (n1 * d2 + n2 * d1, d1 * d2)
def oSub (n1 d1 n2 d2 : Int) : Int × Int := (n1 * d2 - n2 * d1, d1 * d2)
def oMul (n1 d1 n2 d2 : Int) : Int × Int := (n1 * n2, d1 * d2)
def oDiv (n1 d1 n2 d2 : Int) : Int × Int := (n1 * d2, d1 * n2)
theorem sc_Frac_add : FnScope ["self", "other"] ["self", "other"] (defScope s_Frac_add) := ⟨rfl, rfl, rfl, by decide +kernel, rfl, by decide +kernel, by decide +kernel⟩
theorem ok_Frac_add (T : Txt K mg a) : FnOk P w K mg base CX0 5 a.a_Frac_add a.d_Frac_add ["self", "other"] (spBin a.C_Frac oAdd) := by
  refine T.fn_Frac_add.ok sc_Frac_add (fun vs H Q E h => ?_) (fun cdv A outer s H vs Q E hr h => ?_)
  · obtain ⟨p, q, dx, dy, n1, d1, n2, d2, rfl, _⟩ := h
    rfl
  · obtain ⟨p, q, dx, dy, n1, d1, n2, d2, rfl, hp, hq, z1, z2, m1, m2, m3, m4, k⟩ := h
    refine ⟨_, (pss_cons (ps_if (pt_not (pt_val (pe_callB (call_isF T) (by rfl) T.no_isinstance (by decide +kernel) (pa_cons (pv 1) (pa_cons (pe_glob (v := .ref a.C_Frac) rfl T.mg_Frac rfl) pa_nil))))) (pss_one ps_never) pss_nil)
      (pss_one (ps_ret (pe_make T.mk_Frac (ok_Frac_init T) (hr.mono (by decide)) (by rfl) T.mg_Frac (b3 T) .nil passN (pa_cons (pe_op op_add (pe_op op_mulW (pe_num T (pv 0)) (pe_den T (pv 1))) (pe_op op_mulW (pe_num T (pv 1)) (pe_den T (pv 0)))) (pa_cons (pe_op op_mulW (pe_den T (pv 0)) (pe_den T (pv 1))) pa_nil)))))), ?_⟩
    show (_ : TS) _ [some (V.ref p), some (V.ref q)] H
    walk_at "rd"
    simp only [hp, hq]
    walk_at "rd"
    refine ⟨.fr, .fr hq, iteF ?_⟩
    exact ⟨(mid_mul m1 m4).1, (mid_mul m3 m2).1, (mid_mul m2 m4).1, frac_made (mul_ne z1 z2) (big_add (mid_mul m1 m4).2 (mid_mul m3 m2).2).1 (big_of (mid_mul m2 m4).2) k⟩
theorem sc_Frac_sub : FnScope ["self", "other"] ["self", "other"] (defScope s_Frac_sub) := ⟨rfl, rfl, rfl, by decide +kernel, rfl, by decide +kernel, by decide +kernel⟩
theorem ok_Frac_sub (T : Txt K mg a) : FnOk P w K mg base CX0 5 a.a_Frac_sub a.d_Frac_sub ["self", "other"] (spBin a.C_Frac oSub) := by
  refine T.fn_Frac_sub.ok sc_Frac_sub (fun vs H Q E h => ?_) (fun cdv A outer s H vs Q E hr h => ?_)
  · obtain ⟨p, q, dx, dy, n1, d1, n2, d2, rfl, _⟩ := h
    rfl
  · obtain ⟨p, q, dx, dy, n1, d1, n2, d2, rfl, hp, hq, z1, z2, m1, m2, m3, m4, k⟩ := h
    refine ⟨_, (pss_cons (ps_if (pt_not (pt_val (pe_callB (call_isF T) (by rfl) T.no_isinstance (by decide +kernel) (pa_cons (pv 1) (pa_cons (pe_glob (v := .ref a.C_Frac) rfl T.mg_Frac rfl) pa_nil))))) (pss_one ps_never) pss_nil)
      (pss_one (ps_ret (pe_make T.mk_Frac (ok_Frac_init T) (hr.mono (by decide)) (by rfl) T.mg_Frac (b3 T) .nil passN (pa_cons (pe_op op_sub (pe_op op_mulW (pe_num T (pv 0)) (pe_den T (pv 1))) (pe_op op_mulW (pe_num T (pv 1)) (pe_den T (pv 0)))) (pa_cons (pe_op op_mulW (pe_den T (pv 0)) (pe_den T (pv 1))) pa_nil)))))), ?_⟩
    show (_ : TS) _ [some (V.ref p), some (V.ref q)] H
    walk_at "rd"
    simp only [hp, hq]
    walk_at "rd"
    refine ⟨.fr, .fr hq, iteF ?_⟩
    exact ⟨(mid_mul m1 m4).1, (mid_mul m3 m2).1, (mid_mul m2 m4).1, frac_made (mul_ne z1 z2) (big_add (mid_mul m1 m4).2 (mid_mul m3 m2).2).2 (big_of (mid_mul m2 m4).2) k⟩
theorem sc_Frac_mul : FnScope ["self", "other"] ["self", "other"] (defScope s_Frac_mul) := ⟨rfl, rfl, rfl, by decide +kernel, rfl, by decide +kernel, by decide +kernel⟩
theorem ok_Frac_mul (T : Txt K mg a) : FnOk P w K mg base CX0 5 a.a_Frac_mul a.d_Frac_mul ["self", "other"] (spBin a.C_Frac oMul) := by
  refine T.fn_Frac_mul.ok sc_Frac_mul (fun vs H Q E h => ?_) (fun cdv A outer s H vs Q E hr h => ?_)
  · obtain ⟨p, q, dx, dy, n1, d1, n2, d2, rfl, _⟩ := h
    rfl
  · obtain ⟨p, q, dx, dy, n1, d1, n2, d2, rfl, hp, hq, z1, z2, m1, m2, m3, m4, k⟩ := h
    refine ⟨_, (pss_cons (ps_if (pt_not (pt_val (pe_callB (call_isF T) (by rfl) T.no_isinstance (by decide +kernel) (pa_cons (pv 1) (pa_cons (pe_glob (v := .ref a.C_Frac) rfl T.mg_Frac rfl) pa_nil))))) (pss_one ps_never) pss_nil)
      (pss_one (ps_ret (pe_make T.mk_Frac (ok_Frac_init T) (hr.mono (by decide)) (by rfl) T.mg_Frac (b3 T) .nil passN (pa_cons (pe_op op_mulW (pe_num T (pv 0)) (pe_num T (pv 1))) (pa_cons (pe_op op_mulW (pe_den T (pv 0)) (pe_den T (pv 1))) pa_nil)))))), ?_⟩
    show (_ : TS) _ [some (V.ref p), some (V.ref q)] H
    walk_at "rd"
    simp only [hp, hq]
    walk_at "rd"
    refine ⟨.fr, .fr hq, iteF ?_⟩
    exact ⟨(mid_mul m1 m3).1, (mid_mul m2 m4).1, frac_made (mul_ne z1 z2) (big_of (mid_mul m1 m3).2) (big_of (mid_mul m2 m4).2) k⟩
/-- one == v -/
def spEqF (C : Addr) : Sp := fun vs H Q _ => ∃ (p dx : Addr) (n d : Int) (v : V), vs = [.ref p, v] ∧ H p = some (.ins C dx (ff n d)) ∧
  ((∃ g, Ty C H v g ∧ g ≠ .fr ∧ Q (.bl false) H) ∨ ∃ q dy n' d', v = .ref q ∧ H q = some (.ins C dy (ff n' d')) ∧ Q (.bl (decide (n = n') && decide (d = d'))) H)
theorem sc_Frac_eq : FnScope ["self", "other"] ["self", "other"] (defScope s_Frac_eq) := ⟨rfl, rfl, rfl, by decide +kernel, rfl, by decide +kernel, by decide +kernel⟩
theorem ok_Frac_eq (T : Txt K mg a) : FnOk P w K mg base CX0 1 a.a_Frac_eq a.d_Frac_eq ["self", "other"] (spEqF a.C_Frac) := by
  refine T.fn_Frac_eq.ok sc_Frac_eq (fun vs H Q E h => ?_) (fun cdv A outer s H vs Q E hr h => ?_)
  · obtain ⟨p, dx, n, d, v, rfl, _⟩ := h
    rfl
  · obtain ⟨p, dx, n, d, v, rfl, hp, k⟩ := h
    refine ⟨_, (pss_one (ps_ret (pe_and (pe_callB (call_isF T) (by rfl) T.no_isinstance (by decide +kernel) (pa_cons (pv 1) (pa_cons (pe_glob (v := .ref a.C_Frac) rfl T.mg_Frac rfl) pa_nil))) (pe_and (pe_cmpR op_eq (pe_num T (pv 0)) (pe_num T (pv 1)) (nomark _)) (pe_one (pe_cmpR op_eq (pe_den T (pv 0)) (pe_den T (pv 1)) (nomark _))))))), ?_⟩
    show (_ : TS) _ [some (V.ref p), some v] H
    walk_at "rd"
    rcases k with ⟨g, t, hg, k⟩ | ⟨q, dy, n', d', rfl, hq, k⟩
    · refine ⟨g, t, ?_⟩
      simp only [hg, decide_false, Bool.false_eq_true, if_false]
      exact k
    · refine ⟨.fr, .fr hq, ?_⟩
      walk_at "rd"
      simp only [hp, hq]
      walk_at "rd"
      try simp only [hq]
      try walk_at "rd"
      by_cases e1 : n = n'
      · subst e1
        simpa using k
      · simpa [e1] using k
/-- one.is_below(two) -/
def spBel (C : Addr) : Sp := fun vs H Q _ => ∃ (p q dx dy : Addr) (n1 d1 n2 d2 : Int), vs = [.ref p, .ref q] ∧ H p = some (.ins C dx (ff n1 d1)) ∧ H q = some (.ins C dy (ff n2 d2)) ∧ Mid n1 ∧ Mid d1 ∧ Mid n2 ∧ Mid d2 ∧ Q (.bl (decide (n1 * d2 < n2 * d1))) H
theorem sc_Frac_is_below : FnScope ["self", "other"] ["self", "other"] (defScope s_Frac_is_below) := ⟨rfl, rfl, rfl, by decide +kernel, rfl, by decide +kernel, by decide +kernel⟩
theorem ok_Frac_is_below (T : Txt K mg a) : FnOk P w K mg base CX0 1 a.a_Frac_is_below a.d_Frac_is_below ["self", "other"] (spBel a.C_Frac) := by
  refine T.fn_Frac_is_below.ok sc_Frac_is_below (fun vs H Q E h => ?_) (fun cdv A outer s H vs Q E hr h => ?_)
  · obtain ⟨p, q, dx, dy, n1, d1, n2, d2, rfl, _⟩ := h
    rfl
  · obtain ⟨p, q, dx, dy, n1, d1, n2, d2, rfl, hp, hq, m1, m2, m3, m4, k⟩ := h
    refine ⟨_, (pss_one (ps_ret (pe_cmpR op_lt (pe_op op_mulW (pe_num T (pv 0)) (pe_den T (pv 1))) (pe_op op_mulW (pe_num T (pv 1)) (pe_den T (pv 0))) (nomark _)))), ?_⟩
    show (_ : TS) _ [some (V.ref p), some (V.ref q)] H
    walk_at "rd"
    simp only [hp, hq]
    walk_at "rd"
    exact ⟨(mid_mul m1 m4).1, (mid_mul m3 m2).1, k⟩
/-- one.divided_by(v) -/
def spDiv (C IV : Addr) : Sp := fun vs H Q E => ∃ (p dx : Addr) (n1 d1 : Int) (v : V) (g : Tg), vs = [.ref p, v] ∧ H p = some (.ins C dx (ff n1 d1)) ∧ Ty C H v g ∧ (g = .fr → ∃ q dy n2 d2, v = .ref q ∧ H q = some (.ins C dy (ff n2 d2))) ∧
  (∀ q dy n2 d2, v = .ref q → H q = some (.ins C dy (ff n2 d2)) → n2 ≠ 0 → d1 ≠ 0 ∧ d2 ≠ 0 ∧ Mid n1 ∧ Mid d1 ∧ Mid n2 ∧ Mid d2 ∧
    ∀ x dr H', H x = none → H' x = some (.ins C dr (ff (LN (n1 * d2) (d1 * n2)) (LD (n1 * d2) (d1 * n2)))) → Same H H' → Q (.ref x) H') ∧
  ((g = .fr → ∃ q dy d2, v = .ref q ∧ H q = some (.ins C dy (ff 0 d2))) → ∀ (d : Addr) (H' : Hp), H d = none → H' d = some (.xd [("value", v)]) → Same H H' → E (.ref IV) (some d) H')
theorem sc_Frac_divided_by : FnScope ["self", "other"] ["self", "other"] (defScope s_Frac_divided_by) := ⟨rfl, rfl, rfl, by decide +kernel, rfl, by decide +kernel, by decide +kernel⟩
theorem ok_Frac_divided_by (T : Txt K mg a) : FnOk P w K mg base (L2N.CX P w) 5 a.a_Frac_divided_by a.d_Frac_divided_by ["self", "other"] (spDiv a.C_Frac a.C_InvalidFraction) := by
  refine okN T.fn_Frac_divided_by sc_Frac_divided_by (fun vs H Q E h => ?_) (fun cdv A outer s H vs Q E hr h => ?_)
  · obtain ⟨p, dx, n1, d1, v, g, rfl, _⟩ := h
    rfl
  · obtain ⟨p, dx, n1, d1, v, g, rfl, hp, t, hg, kok, kbad⟩ := h
    refine ⟨_, (pss_cons (ps_if (PW.pt (pw_or (pt_not (pt_val (pe_callB (call_isF T) (by rfl) T.no_isinstance (by decide +kernel) (pa_cons (pv 1) (pa_cons (pe_glob (v := .ref a.C_Frac) rfl T.mg_Frac rfl) pa_nil))))) (pw_or1 (pt_cmpR op_eq (pe_num T (pv 1)) pe_int (nomark _))))) (pss_one (L2N.ps_raise rfl (L2N.takes_of rfl rfl rfl rfl) (pmk_oexN T.ex_InvalidFraction T.xi_InvalidFraction T.ti_InvalidFraction (ok_InvalidFraction_init T) (hr.mono (by decide)) T.b_InvalidFraction_init pass0 (by rfl) T.mg_InvalidFraction (pa_cons (pv 1) pa_nil)))) pss_nil)
      (pss_one (ps_ret (pe_make T.mk_Frac (ok_Frac_init T) (hr.mono (by decide)) (by rfl) T.mg_Frac (b3 T) .nil passN (pa_cons (pe_op op_mulW (pe_num T (pv 0)) (pe_den T (pv 1))) (pa_cons (pe_op op_mulW (pe_den T (pv 0)) (pe_num T (pv 1))) pa_nil)))))), ?_⟩
    show (_ : TS) _ [some (V.ref p), some v] H
    walk_at "rd"
    refine ⟨g, t, ?_⟩
    by_cases hf : g = .fr
    · obtain ⟨q, dy, n2, d2, rfl, hq⟩ := hg hf
      simp only [hp, hq, hf]
      walk_at "rd"
      try simp only [hq]
      try walk_at "rd"
      refine ite2 (fun h0 => ⟨by decide, fun x hx => iv_made hx fun d H' hd e s => ?_⟩) fun h0 => ?_
      · subst h0
        exact kbad (fun _ => ⟨q, dy, d2, rfl, hq⟩) d H' hd e s
      · obtain ⟨z1, z2, m1, m2, m3, m4, k⟩ := kok q dy n2 d2 rfl hq h0
        exact ⟨(mid_mul m1 m4).1, (mid_mul m2 m3).1, frac_made (mul_ne z1 h0) (big_of (mid_mul m1 m4).2) (big_of (mid_mul m2 m3).2) k⟩
    · simp only [hf, decide_false, Bool.not_false, if_true]
      exact ⟨by decide, fun x hx => iv_made hx fun d H' hd e s => kbad (fun z => absurd z hf) d H' hd e s⟩
end
end K02
namespace K02
open PySem PySem.Spec PyProof.Rows L2 Own OwnExN
local macro_rules | `(tactic| walk_at "rd") => `(tactic| simp only [tSeq, tAsg, tOp, tUn, tVar, gName, gSub, rIxL, rIxT, rSetL, tC, rI0, rI, rU, rEq, rNe, tCons, tNil, tCB, tLst, tTup, tIfS, tAnd, tOr, tNot, tAndV, tOrV, tNotV, tTest, tB, tIf, tRet, tDrop, tNext, tBreak, tCont, tCall, tMake, tMkO, sFld, tOst, tNum, tDen, tNever, tBits, rIs, rIsB, clv, isB, rGcd,
  Rd.tFor_rng1, Rd.tFor_rng2, Rd.tFor_list, Rd.tFor_tup, Rd.tLc_list, Rd.tLc_tup, Rd.tLc_rng1, Rd.LcTurn, tYes, wipe, Rd.rLenL, Rd.rLenT, Rd.rIntI, Rd.rIxH, Rd.at0, Rd.at1, Rd.at2, Rd.at3, Rd.ixN40, Rd.ixN41, Rd.ixN42, Rd.ixN43, Rd.scal_ii, cxOf,
  List.length_cons, List.length_nil, List.length_map, List.map_cons, List.map_nil, upd_same, decide_eq_true_eq, decide_true, decide_false, if_true, if_false, Bool.false_eq_true, Bool.not_true, Bool.not_false, HO.lst.injEq, HO.ins.injEq, ff_inj, List.set_cons_zero, List.set_cons_succ, List.getElem?_cons_zero, List.getElem?_cons_succ, List.append_nil, List.nil_append, List.cons_append, Option.some.injEq, V.ref.injEq, V.int.injEq, V.bl.injEq, List.cons.injEq, exists_eq_left', exists_and_left, exists_eq_left, true_and, and_true, and_self, and_assoc, implies_true, reduceCtorEq, Nat.reduceAdd])

theorem at_int {ns : List Int} {z : Int} (h0 : 0 ≤ z) (h1 : z < (ns.length : Int)) : ∃ y, atI (ns.map V.int) z = some (V.int y) := by
  obtain ⟨j, rfl⟩ : ∃ j : Nat, z = (j : Int) := ⟨z.toNat, by omega⟩
  have hj : j < ns.length := by omega
  exact ⟨ns[j], atI_nat (by rw [List.getElem?_map, List.getElem?_eq_getElem hj]; rfl)⟩
theorem abs_nn (x : Int) : 0 ≤ (if x < 0 then -x else x) := by split <;> omega
theorem abs_eq (x : Int) : (if x < 0 then -x else x) = (x.natAbs : Int) := by split <;> omega
theorem cm_mod {x y m : Int} (h : 0 < m) (h2 : m ≤ 2 ^ 64) : CMul (x % m) y := by
  have a := Int.emod_nonneg x (show m ≠ 0 by omega)
  have b := Int.emod_lt_of_pos x h
  exact .inl ⟨by omega, by omega⟩
/-- what stood stands, but for b -/
def But (b : Addr) (H H' : Hp) : Prop := ∀ p o, p ≠ b → H p = some o → H' p = some o
theorem But.refl (b : Addr) (H : Hp) : But b H H := fun _ _ _ h => h
theorem But.trans {b : Addr} {H H1 H2 : Hp} (x : But b H H1) (y : But b H1 H2) : But b H H2 := fun p o n h => y p o n (x p o n h)
theorem But.free {b : Addr} {H H1 : Hp} (x : But b H H1) {p : Addr} (n : p ≠ b) (h : H1 p = none) : H p = none := by
  cases e : H p with
  | none => rfl
  | some o =>
    rw [x p o n e] at h
    cases h
theorem Same.but {b : Addr} {H H1 : Hp} (x : Same H H1) : But b H H1 := fun p o _ h => x p o h
theorem same_upd {H : Hp} {p : Addr} {o : HO} (h : H p = none) : Same H (upd H p o) := fun b x e => by
  rw [upd_ne (ne_of_none e h)]
  exact e
theorem SqL.but {K : PySem.W.Frag} {H H' : Hp} {b c : Addr} {xs : List V} (h : SqL K H c xs) (n : c ≠ b) (e : But b H H') : SqL K H' c xs := by
  rcases h with (h | ⟨o, h⟩) | h
  · exact .inl (.inl (e _ _ n h))
  · exact .inl (.inr ⟨o, e _ _ n h⟩)
  · exact .inr h
/-- the law's box: its cells, what is drawn from -/
structure BoxAt (K : PySem.W.Frag) (H : Hp) (b c : Addr) (ns : List Int) : Prop where
  ne : c ≠ b
  len : ns.length ≤ 63
  ob : ∃ n1 n2 n3 : Int, H b = some (.lst [.ref c, .int n1, .int n2, .int n3]) ∧ 0 ≤ n2 ∧ 0 ≤ n3
  cells : SqL K H c (ns.map V.int)
theorem BoxAt.same {K : PySem.W.Frag} {H H' : Hp} {b c : Addr} {ns : List Int} (B : BoxAt K H b c ns) (e : Same H H') : BoxAt K H' b c ns :=
  let ⟨n1, n2, n3, h, p, q⟩ := B.ob
  ⟨B.ne, B.len, ⟨n1, n2, n3, e _ _ h, p, q⟩, e.seq B.cells⟩
theorem BoxAt.ne_new {K : PySem.W.Frag} {H : Hp} {b c : Addr} {ns : List Int} (B : BoxAt K H b c ns) {p : Addr} (h : H p = none) : p ≠ b := fun e => by
  obtain ⟨n1, n2, n3, hb, _⟩ := B.ob
  rw [e, hb] at h
  cases h
section
variable {P : Program} {w : World} {K : PySem.W.Frag} {mg : Str → Option Value} {base : Heap} {a : Ad}
/-! ### _law_box -/
def spBox (K : PySem.W.Frag) : Sp := fun vs H Q _ => ∃ (s : Addr) (ns : List Int), vs = [.ref s] ∧ SqL K H s (ns.map V.int) ∧ ns.length ≤ 63 ∧ ∀ b c H', BoxAt K H' b c ns → Same H H' → H b = none → Q (.ref b) H'
theorem sc_law_box : FnScope ["script", "cell"] ["script"] (defScope s_law_box) := ⟨rfl, rfl, rfl, by decide +kernel, rfl, by decide +kernel, by decide +kernel⟩
theorem ok_law_box (T : Txt K mg a) : FnOk P w K mg base CX0 1 a.a_law_box a.d_law_box ["script"] (spBox K) := by
  refine T.fn_law_box.ok sc_law_box (fun vs H Q E h => ?_) (fun cdv A outer s H vs Q E hr h => ?_)
  · obtain ⟨p, ns, rfl, _⟩ := h
    rfl
  · obtain ⟨p, ns, rfl, hs, hl, k⟩ := h
    refine ⟨_, (pss_one (ps_ret (pe_lst (pa_cons (pe_lc (own := [("cell", 1)]) (by rfl) sc_law_box.nd (pi_list (pv 0)) (blkOk_by (own := [("cell", 1)]) (N := ["script", "cell"]) (sc := defScope s_law_box) (by decide +kernel)) (fun _ _ _ _ _ => pg_name (i := 1) sc_law_box.nd rfl (Or.inl rfl)) (fun _ _ _ _ _ => pts_nil) (fun _ _ _ _ _ => (pe_callTy Rd.call_intI (by rfl) T.no_int (by decide +kernel) (pa_cons (pv 1) pa_nil)))) (pa_cons pe_int (pa_cons pe_int (pa_cons pe_int pa_nil))))))), ?_⟩
    show (_ : TS) _ [some (V.ref p), none] H
    walk_at "rd"
    refine ⟨⟨_, hs⟩, Rd.lcl_list (xs := ns.map V.int) (fun D i H1 => (Same H H1 ∧ H D = none) ∧ H1 D = some (.lst ((ns.take i).map V.int))) (fun D hD => ⟨⟨same_upd hD, hD⟩, upd_same⟩) (fun D i H1 _ p => p.1.1.seq hs) ?_ ?_⟩
    · rintro D i x H1 hx ⟨⟨s1, hD⟩, e1⟩
      obtain ⟨z, hz, rfl⟩ : ∃ z, ns[i]? = some z ∧ x = V.int z := by
        rw [List.getElem?_map] at hx
        cases e : ns[i]? with
        | none => rw [e] at hx; cases hx
        | some z => rw [e] at hx; exact ⟨z, rfl, (Option.some.inj hx).symm⟩
      walk_at "rd"
      refine ⟨_, e1, ?_, fun b o e => ?_, ?_⟩
      · rw [List.length_map, List.length_take]
        exact Nat.lt_of_le_of_lt (Nat.min_le_left _ _) (by have := (List.getElem?_eq_some_iff.mp hz).1; exact small1000 (by omega))
      · rw [upd_ne (ne_of_none e hD)]
        exact s1 _ _ e
      · rw [List.take_add_one, hz, List.map_append]
        exact ⟨hD, rfl⟩
    · rw [List.length_map, List.take_length]
      rintro D H1 _ ⟨⟨s1, hD⟩, e1⟩
      refine ⟨by decide, fun b hb => ?_⟩
      have nbD : D ≠ b := fun e => by rw [← e, e1] at hb; cases hb
      refine k b D _ ⟨nbD, hl, ⟨0, 0, 0, upd_same, Int.le_refl _, Int.le_refl _⟩, SqL.of ((upd_ne nbD).trans e1)⟩ (s1.trans (same_upd hb)) (s1.free hb)
/-! ### _law_draw -/
def spDraw (K : PySem.W.Frag) : Sp := fun vs H Q _ => ∃ (b c : Addr) (ns : List Int) (m : Int), vs = [.ref b, .int m] ∧ BoxAt K H b c ns ∧ 0 < m ∧ m < 1000000000 ∧
  ∀ (d : Int) (H' : Hp), 0 ≤ d → d < m → BoxAt K H' b c ns → (∀ p, p ≠ b → H' p = H p) → Q (.int d) H'
theorem sc_law_draw : FnScope ["box", "limit", "cells", "k", "digit", "cell", "mixed"] ["box", "limit"] (defScope s_law_draw) := ⟨rfl, rfl, rfl, by decide +kernel, rfl, by decide +kernel, by decide +kernel⟩
theorem ok_law_draw (T : Txt K mg a) : FnOk P w K mg base CX0 1 a.a_law_draw a.d_law_draw ["box", "limit"] (spDraw K) := by
  refine T.fn_law_draw.ok sc_law_draw (fun vs H Q E h => ?_) (fun cdv A outer s H vs Q E hr h => ?_)
  · obtain ⟨b, c, ns, m, rfl, _⟩ := h
    rfl
  · obtain ⟨b, c, ns, m, rfl, ⟨hbc, hl, ⟨n1, n2, n3, hb, p2, p3⟩, hc⟩, hm, hm2, k⟩ := h
    refine ⟨_, (pss_cons (ps_set (i := 2) sc_law_draw.nd rfl (Or.inl rfl) (pe_ix Rd.ixH (pv 0) pe_int (fun _ _ => rfl)))
      (pss_cons (ps_asg (pe_op op_add (pe_ix Rd.ixH (pv 0) pe_int (fun _ _ => rfl)) pe_int) (pg_sub (pv 0) pe_int set_list))
      (pss_cons (ps_for PassesOwn.never rfl (pi_range1 (by rfl) T.no_range (pa_cons (pe_callB Rd.call_lenL (by rfl) T.no_len PySem.boot_len (pa_cons (pv 2) pa_nil)) pa_nil)) (pg_name (i := 3) sc_law_draw.nd rfl (Or.inl rfl))
        (pss_one (ps_if (PW.pt (pw_and (pt_cmpR op_eq (pe_ix Rd.ixH (pv 0) pe_int (fun _ _ => rfl)) pe_int (nomark _)) (pw_and1 (pt_cmpR op_lt (pe_ix Rd.ixH (pv 0) pe_int (fun _ _ => rfl)) (pe_callB Rd.call_lenL (by rfl) T.no_len PySem.boot_len (pa_cons (pv 2) pa_nil)) (nomark _))))) (pss_cons (ps_if (pt_cmpR op_ge (pe_callB call_abs (by rfl) T.no_abs (by decide +kernel) (pa_cons (pe_ix ix_list (pv 2) (pe_ix Rd.ixH (pv 0) pe_int (fun _ _ => rfl)) (fun _ _ => rfl)) pa_nil)) (pe_op op_pow pe_int pe_int) (nomark _)) (pss_one (ps_asg (pe_callB call_abs (by rfl) T.no_abs (by decide +kernel) (pa_cons (pe_ix ix_list (pv 2) (pe_ix Rd.ixH (pv 0) pe_int (fun _ _ => rfl)) (fun _ _ => rfl)) pa_nil)) (pg_sub (pv 0) pe_int set_list))) pss_nil)
          (pss_one (ps_asg (pe_op op_add (pe_ix Rd.ixH (pv 0) pe_int (fun _ _ => rfl)) pe_int) (pg_sub (pv 0) pe_int set_list)))) (pss_one ps_break))))
      (pss_cons (ps_if (pt_cmpR op_gt (pe_ix Rd.ixH (pv 0) pe_int (fun _ _ => rfl)) pe_int (nomark _)) (pss_cons (ps_set (i := 4) sc_law_draw.nd rfl (Or.inl rfl) (pe_op op_mod (pe_callTy Rd.call_intI (by rfl) T.no_int (by decide +kernel) (pa_cons (pe_ix Rd.ixH (pv 0) pe_int (fun _ _ => rfl)) pa_nil)) (pv 1)))
        (pss_cons (ps_asg (pe_op op_fdiv (pe_ix Rd.ixH (pv 0) pe_int (fun _ _ => rfl)) (pv 1)) (pg_sub (pv 0) pe_int set_list))
        (pss_one (ps_ret (pv 4))))) pss_nil)
      (pss_cons (ps_set (i := 5) sc_law_draw.nd rfl (Or.inl rfl) pe_int)
      (pss_cons (ps_if (pt_cmpR op_gt (pe_callB Rd.call_lenL (by rfl) T.no_len PySem.boot_len (pa_cons (pv 2) pa_nil)) pe_int (nomark _)) (pss_one (ps_set (i := 5) sc_law_draw.nd rfl (Or.inl rfl) (pe_callB call_abs (by rfl) T.no_abs (by decide +kernel) (pa_cons (pe_ix ix_list (pv 2) (pe_op op_mod (pe_callTy Rd.call_intI (by rfl) T.no_int (by decide +kernel) (pa_cons (pe_ix Rd.ixH (pv 0) pe_int (fun _ _ => rfl)) pa_nil)) (pe_callB Rd.call_lenL (by rfl) T.no_len PySem.boot_len (pa_cons (pv 2) pa_nil))) (fun _ _ => rfl)) pa_nil)))) pss_nil)
      (pss_cons (ps_set (i := 6) sc_law_draw.nd rfl (Or.inl rfl) (pe_op op_mod (pe_callTy Rd.call_intI (by rfl) T.no_int (by decide +kernel) (pa_cons (pe_op op_add (pe_op op_add (pe_op op_mul (pv 5) pe_int) (pe_op op_mul (pe_ix Rd.ixH (pv 0) pe_int (fun _ _ => rfl)) pe_int)) pe_int) pa_nil)) pe_int))
      (pss_cons (ps_set (i := 6) sc_law_draw.nd rfl (Or.inl rfl) (pe_op op_mod (pe_callTy Rd.call_intI (by rfl) T.no_int (by decide +kernel) (pa_cons (pe_op op_add (pe_op op_add (pe_op op_mul (pv 6) (pv 6)) (pe_op op_mul (pe_ix Rd.ixH (pv 0) pe_int (fun _ _ => rfl)) pe_int)) (pv 5)) pa_nil)) pe_int))
      (pss_cons (ps_set (i := 6) sc_law_draw.nd rfl (Or.inl rfl) (pe_op op_mod (pe_callTy Rd.call_intI (by rfl) T.no_int (by decide +kernel) (pa_cons (pe_op op_add (pe_op op_add (pe_op op_mul (pe_op op_mul (pv 6) (pv 6)) pe_int) (pe_op op_fdiv (pv 5) pe_int)) pe_int) pa_nil)) pe_int))
      (pss_one (ps_ret (pe_op op_mod (pe_callTy Rd.call_intI (by rfl) T.no_int (by decide +kernel) (pa_cons (pe_op op_fdiv (pv 6) pe_int) pa_nil)) (pv 1))))))))))))), ?_⟩
    show (_ : TS) _ [some (V.ref b), some (V.int m), none, none, none, none, none] H
    walk_at "rd"
    simp only [hb]
    walk_at "rd"
    have e1 : ∀ a, a ≠ b → (upd H b (.lst [V.ref c, .int (n1 + 1), .int n2, .int n3])) a = H a := fun a ha => upd_ne ha
    refine ⟨_, SqL.but hc hbc fun p o n h => (e1 p n).trans h, ?_⟩
    rw [List.length_map]
    refine ⟨by omega, by omega, ?_⟩
    refine Rd.loop_rngC (fun σ H' => ∃ (x : Option V) (k2 k3 : Int), σ = [some (.ref b), some (.int m), some (.ref c), x, none, none, none] ∧ (∀ a, a ≠ b → H' a = H a) ∧ H' b = some (.lst [.ref c, .int (n1 + 1), .int k2, .int k3]) ∧ 0 ≤ k2 ∧ 0 ≤ k3)
      (fun _ σ H' => ∃ (x : Option V) (k2 k3 : Int), σ = [some (.ref b), some (.int m), some (.ref c), x, none, none, none] ∧ (∀ a, a ≠ b → H' a = H a) ∧ H' b = some (.lst [.ref c, .int (n1 + 1), .int k2, .int k3]) ∧ 0 ≤ k2 ∧ 0 ≤ k3)
      ⟨none, n2, n3, rfl, e1, upd_same, p2, p3⟩ ?_ (fun _ _ z => z) ?_
    · rintro bk hbk i σ H1 hi ⟨x, k2, k3, rfl, e, hb1, q2, q3⟩
      walk_at "rd"
      simp only [hb1]
      walk_at "rd"
      have hc1 : SqL K H1 c (ns.map V.int) := SqL.but hc hbc fun p o n h => (e p n).trans h
      have out : bk [some (V.ref b), some (V.int m), some (V.ref c), some (V.int (0 + ↑i)), none, none, none] H1 := hbk _ _ ⟨_, k2, k3, rfl, e, hb1, q2, q3⟩
      refine ite2 (fun h => ?_) (fun _ => out)
      refine ⟨_, hc1, ?_⟩
      try rw [List.length_map]
      refine ite2 (fun h2 => ?_) (fun _ => out)
      obtain ⟨y, hy⟩ := at_int q3 h2
      refine ⟨_, hc1, _, hy, _, rfl, ⟨by decide, by decide, by decide⟩, ite2 (fun _ => ?_) (fun _ => ?_)⟩
      · refine ⟨_, hc1, _, hy, _, rfl, fun a ha => ?_, abs_nn y, by omega⟩
        rw [upd_ne ha, upd_ne ha, e a ha]
      · refine ⟨fun a ha => ?_, q2, by omega⟩
        rw [upd_ne ha, e a ha]
    · rintro σ H1 ⟨x, k2, k3, rfl, e, hb1, q2, q3⟩
      walk_at "rd"
      simp only [hb1]
      walk_at "rd"
      have hc1 : SqL K H1 c (ns.map V.int) := SqL.but hc hbc fun p o n h => (e p n).trans h
      refine ite2 (fun h => ?_) (fun h => ?_)
      · refine ⟨hm, ⟨hm, by omega⟩, k _ _ (Int.emod_nonneg _ (by omega)) (Int.emod_lt_of_pos _ hm) ⟨hbc, hl, ⟨_, _, _, upd_same, Int.ediv_nonneg (by omega) (by omega), q3⟩, SqL.but hc1 hbc fun p o n h => (upd_ne n).trans h⟩ fun a ha => ?_⟩
        rw [upd_ne ha, e a ha]
      · refine ⟨_, hc1, ?_⟩
        try rw [List.length_map]
        have fin : ∀ z : Int, Q (V.int (z % m)) H1 := fun z => k _ _ (Int.emod_nonneg _ (by omega)) (Int.emod_lt_of_pos _ hm) ⟨hbc, hl, ⟨_, _, _, hb1, q2, q3⟩, hc1⟩ e
        refine ite2 (fun h2 => ?_) (fun h2 => ?_)
        · obtain ⟨y, hy⟩ := at_int (ns := ns) (z := (n1 + 1) % (ns.length : Int)) (Int.emod_nonneg _ (by omega)) (Int.emod_lt_of_pos _ h2)
          refine ⟨_, hc1, by rw [List.length_map]; exact h2, _, hc1, _, by rw [List.length_map]; exact hy, _, rfl, .inr ⟨by decide, by decide⟩, .inr ⟨by decide, by decide⟩, by decide, cm_mod (by decide) (by decide), .inr ⟨by decide, by decide⟩, by decide, cm_mod (by decide) (by decide), .inr ⟨by decide, by decide⟩, ⟨by decide, by decide⟩, by decide, ⟨by decide, by decide⟩, hm, fin _⟩
        · exact ⟨.inr ⟨by decide, by decide⟩, .inr ⟨by decide, by decide⟩, by decide, cm_mod (by decide) (by decide), .inr ⟨by decide, by decide⟩, by decide, cm_mod (by decide) (by decide), .inr ⟨by decide, by decide⟩, ⟨by decide, by decide⟩, by decide, ⟨by decide, by decide⟩, hm, fin _⟩
end
end K02
namespace K02
open PySem PySem.Spec PyProof.Rows L2 Own OwnExN
local macro_rules | `(tactic| walk_at "rd") => `(tactic| simp only [tSeq, tAsg, tOp, tUn, tVar, gName, gSub, rIxL, rIxT, rSetL, tC, rI0, rI, rU, rEq, rNe, tCons, tNil, tCB, tLst, tTup, tIfS, tAnd, tOr, tNot, tAndV, tOrV, tNotV, tTest, tB, tIf, tRet, tDrop, tNext, tBreak, tCont, tCall, tMake, tMkO, sFld, tOst, tNum, tDen, tNever, tBits, rIs, rIsB, clv, isB, rGcd,
  Rd.tFor_rng1, Rd.tFor_rng2, Rd.tFor_list, Rd.tFor_tup, Rd.tLc_list, Rd.tLc_tup, Rd.tLc_rng1, Rd.LcTurn, tYes, wipe, Rd.rLenL, Rd.rLenT, Rd.rIntI, Rd.rIxH, Rd.at0, Rd.at1, Rd.at2, Rd.at3, Rd.ixN40, Rd.ixN41, Rd.ixN42, Rd.ixN43, Rd.scal_ii, cxOf,
  List.length_cons, List.length_nil, List.length_map, List.map_cons, List.map_nil, upd_same, decide_eq_true_eq, decide_true, decide_false, if_true, if_false, Bool.false_eq_true, Bool.not_true, Bool.not_false, HO.lst.injEq, HO.ins.injEq, ff_inj, List.set_cons_zero, List.set_cons_succ, List.getElem?_cons_zero, List.getElem?_cons_succ, List.append_nil, List.nil_append, List.cons_append, Option.some.injEq, V.ref.injEq, V.int.injEq, V.bl.injEq, List.cons.injEq, exists_eq_left', exists_and_left, exists_eq_left, true_and, and_true, and_self, and_assoc, implies_true, reduceCtorEq, Nat.reduceAdd])

theorem bits_lt (x : Int) : x.natAbs < 2 ^ Builtin.Int.intBits x := by
  unfold Builtin.Int.intBits
  split
  · rename_i h
    have : x = 0 := by simpa using h
    subst this
    decide
  · exact Nat.lt_log2_self
theorem half_mod {x y : Nat} (h : y ≤ x) (h0 : 0 < y) : 2 * (x % y) ≤ x := by
  have h1 := Nat.mod_lt x h0
  have h2 := Nat.div_add_mod x y
  have h3 : 1 ≤ x / y := (Nat.one_le_div_iff h0).mpr h
  have h4 : y * 1 ≤ y * (x / y) := Nat.mul_le_mul_left y h3
  omega
/-- what stands between two turns of Euclid's loop -/
def Eu (g B i x y : Nat) : Prop := Nat.gcd x y = g ∧ ((i = 0 ∧ x < 2 ^ B ∧ y < 2 ^ B) ∨ (1 ≤ i ∧ y < x ∧ x * y * 2 ^ (i - 1) < 2 ^ (2 * B)))
theorem Eu.step {g B i x y : Nat} (h : Eu g B i x y) (hy : y ≠ 0) : Eu g B (i + 1) y (x % y) := by
  obtain ⟨hg, h⟩ := h
  have y0 : 0 < y := Nat.pos_of_ne_zero hy
  refine ⟨?_, .inr ⟨by omega, Nat.mod_lt x y0, ?_⟩⟩
  · rw [← hg, Nat.gcd_comm y, ← Nat.gcd_rec, Nat.gcd_comm]
  · show y * (x % y) * 2 ^ i < 2 ^ (2 * B)
    rcases h with ⟨rfl, h1, h2⟩ | ⟨h0, h1, h2⟩
    · rw [Nat.pow_zero, Nat.mul_one]
      have e : 2 ^ (2 * B) = 2 ^ B * 2 ^ B := by rw [← Nat.pow_add]; congr 1; omega
      rw [e]
      exact Nat.mul_lt_mul'' h2 (Nat.lt_of_le_of_lt (Nat.mod_le x y) h1)
    · refine Nat.lt_of_le_of_lt ?_ h2
      have e : 2 ^ i = 2 * 2 ^ (i - 1) := by
        rw [← Nat.pow_succ']
        congr 1
        omega
      have hm := half_mod (Nat.le_of_lt h1) y0
      calc y * (x % y) * 2 ^ i = y * (2 * (x % y)) * 2 ^ (i - 1) := by rw [e, Nat.mul_left_comm y 2, Nat.mul_comm 2 (y * (x % y))]; simp only [Nat.mul_assoc]
        _ ≤ y * x * 2 ^ (i - 1) := Nat.mul_le_mul_right _ (Nat.mul_le_mul_left _ hm)
        _ = x * y * 2 ^ (i - 1) := by rw [Nat.mul_comm y x]
theorem Eu.last {g B x y : Nat} (h : Eu g B (2 * B + 2) x y) : y = 0 := by
  obtain ⟨_, h⟩ := h
  rcases h with ⟨h0, _⟩ | ⟨_, h1, h2⟩
  · omega
  · by_cases hy : y = 0
    · exact hy
    · exfalso
      have p : 1 ≤ x * y := Nat.mul_pos (by omega) (Nat.pos_of_ne_zero hy)
      have e : 2 * B + 2 - 1 = 2 * B + 1 := by omega
      rw [e] at h2
      have q : 1 * 2 ^ (2 * B + 1) ≤ x * y * 2 ^ (2 * B + 1) := Nat.mul_le_mul_right _ p
      have r : 2 ^ (2 * B) < 2 ^ (2 * B + 1) := Nat.pow_lt_pow_right (by decide) (by omega)
      omega
theorem Eu.end_ {g B i x : Nat} (h : Eu g B i x 0) : x = g := by
  rw [← h.1, Nat.gcd_zero_right]
section
variable {P : Program} {w : World} {K : PySem.W.Frag} {mg : Str → Option Value} {base : Heap} {a : Ad}
/-! ### _law_gcd -/
def spGcd : Sp := fun vs H Q _ => ∃ x y : Int, vs = [.int x, .int y] ∧ Big x ∧ Big y ∧ Q (.int ((Nat.gcd x.natAbs y.natAbs : Nat) : Int)) H
theorem sc_law_gcd : FnScope ["one", "two", "k", "rest"] ["one", "two"] (defScope s_law_gcd) := ⟨rfl, rfl, rfl, by decide +kernel, rfl, by decide +kernel, by decide +kernel⟩
theorem ok_law_gcd (T : Txt K mg a) : FnOk P w K mg base CX0 1 a.a_law_gcd a.d_law_gcd ["one", "two"] spGcd := by
  refine T.fn_law_gcd.ok sc_law_gcd (fun vs H Q E h => ?_) (fun cdv A outer s H vs Q E hr h => ?_)
  · obtain ⟨x, y, rfl, _⟩ := h
    rfl
  · obtain ⟨x, y, rfl, bx, by_, k⟩ := h
    refine ⟨_, (pss_cons (ps_set (i := 0) sc_law_gcd.nd rfl (Or.inl rfl) (pe_callB call_abs (by rfl) T.no_abs (by decide +kernel) (pa_cons (pv 0) pa_nil)))
      (pss_cons (ps_set (i := 1) sc_law_gcd.nd rfl (Or.inl rfl) (pe_callB call_abs (by rfl) T.no_abs (by decide +kernel) (pa_cons (pv 1) pa_nil)))
      (pss_cons (ps_for PassesOwn.never rfl (pi_range1 (by rfl) T.no_range (pa_cons (pe_op op_add (pe_op op_mul pe_int (pe_callB (call_max2 rfl) (by rfl) T.no_max (by decide +kernel) (pa_cons (pe_bits (pv 0)) (pa_cons (pe_bits (pv 1)) pa_nil)))) pe_int) pa_nil)) (pg_name (i := 2) sc_law_gcd.nd rfl (Or.inl rfl))
        (pss_cons (ps_if (pt_cmpR op_eq (pv 1) pe_int (nomark _)) (pss_one ps_break) pss_nil)
        (pss_cons (ps_set (i := 3) sc_law_gcd.nd rfl (Or.inl rfl) (pe_op op_mod (pe_callTy Rd.call_intI (by rfl) T.no_int (by decide +kernel) (pa_cons (pv 0) pa_nil)) (pv 1)))
        (pss_cons (ps_set (i := 0) sc_law_gcd.nd rfl (Or.inl rfl) (pv 1))
        (pss_one (ps_set (i := 1) sc_law_gcd.nd rfl (Or.inl rfl) (pv 3)))))))
      (pss_one (ps_ret (pv 0)))))), ?_⟩
    show (_ : TS) _ [some (V.int x), some (V.int y), none, none] H
    walk_at "rd"
    simp only [abs_eq]
    obtain ⟨B, hB, hx, hy, hb⟩ : ∃ B : Nat, (if ((Builtin.Int.intBits (y.natAbs : Int) : Nat) : Int) > ((Builtin.Int.intBits (x.natAbs : Int) : Nat) : Int) then ((Builtin.Int.intBits (y.natAbs : Int) : Nat) : Int) else ((Builtin.Int.intBits (x.natAbs : Int) : Nat) : Int)) = (B : Int) ∧ x.natAbs < 2 ^ B ∧ y.natAbs < 2 ^ B ∧ B ≤ 4000 := by
      have b1 := bits_lt (x.natAbs : Int)
      have b2 := bits_lt (y.natAbs : Int)
      have l1 : Builtin.Int.intBits (x.natAbs : Int) ≤ 4000 := PyProof.Rows.intBits_le (by rw [Int.natAbs_natCast]; exact bx)
      have l2 : Builtin.Int.intBits (y.natAbs : Int) ≤ 4000 := PyProof.Rows.intBits_le (by rw [Int.natAbs_natCast]; exact by_)
      rw [Int.natAbs_natCast] at b1 b2
      generalize Builtin.Int.intBits (x.natAbs : Int) = p at *
      generalize Builtin.Int.intBits (y.natAbs : Int) = q at *
      by_cases c : (q : Int) > (p : Int)
      · rw [if_pos c]
        exact ⟨q, rfl, Nat.lt_of_lt_of_le b1 (Nat.pow_le_pow_right (by decide) (by omega)), b2, l2⟩
      · rw [if_neg c]
        exact ⟨p, rfl, b1, Nat.lt_of_lt_of_le b2 (Nat.pow_le_pow_right (by decide) (by omega)), l1⟩
    rw [hB]
    refine ⟨.inl ⟨by decide, by decide⟩, by omega, by omega, ?_⟩
    have e : (2 * (B : Int) + 2).toNat = 2 * B + 2 := by omega
    rw [e]
    generalize hg : Nat.gcd x.natAbs y.natAbs = g at k
    refine Rd.loop_rngC (fun σ H' => ∃ v3 v4, σ = [some (.int (g : Int)), some (.int 0), v3, v4] ∧ H' = H)
      (fun i σ H' => ∃ (x y : Nat) (v3 v4 : Option V), σ = [some (.int (x : Int)), some (.int (y : Int)), v3, v4] ∧ H' = H ∧ Eu g B i x y)
      ⟨_, _, none, none, rfl, rfl, hg, .inl ⟨rfl, hx, hy⟩⟩ ?_ ?_ ?_
    · rintro bk hbk i σ H1 hi ⟨x', y', v3, v4, rfl, rfl, eu⟩
      walk_at "rd"
      refine ite2 (fun h0 => ?_) (fun h0 => ?_)
      · have : y' = 0 := by omega
        subst this
        exact hbk _ _ ⟨_, _, by rw [eu.end_]; rfl, rfl⟩
      · have : y' ≠ 0 := by omega
        have eu' := eu.step this
        refine ⟨by omega, y', ?_⟩
        exact ⟨rfl, x' % y', by rw [Int.natCast_emod], eu'⟩
    · rintro σ H1 ⟨x', y', v3, v4, rfl, rfl, eu⟩
      have := eu.last
      subst this
      exact ⟨_, _, by rw [eu.end_]; rfl, rfl⟩
    · rintro σ H1 ⟨v3, v4, rfl, rfl⟩
      walk_at "rd"
      exact k
/-! ### _law_low -/
def spLow : Sp := fun vs H Q _ => ∃ n d : Int, vs = [.int n, .int d] ∧ d ≠ 0 ∧ Big n ∧ Big d ∧ ∀ t, H t = none → Q (.ref t) (upd H t (.tup [.int (LN n d), .int (LD n d)]))
theorem sc_law_low : FnScope ["num", "den", "shared"] ["num", "den"] (defScope s_law_low) := ⟨rfl, rfl, rfl, by decide +kernel, rfl, by decide +kernel, by decide +kernel⟩
theorem ok_law_low (T : Txt K mg a) : FnOk P w K mg base CX0 2 a.a_law_low a.d_law_low ["num", "den"] spLow := by
  refine T.fn_law_low.ok sc_law_low (fun vs H Q E h => ?_) (fun cdv A outer s H vs Q E hr h => ?_)
  · obtain ⟨n, d, rfl, _⟩ := h
    rfl
  · obtain ⟨n, d, rfl, h0, bn, bd, k⟩ := h
    refine ⟨_, (pss_cons (ps_set (i := 2) sc_law_low.nd rfl (Or.inl rfl) (pe_call (ok_law_gcd T) (hr.mono (by decide)) (by rfl) T.mg_law_gcd T.fn_law_gcd.kp T.b_law_gcd .nil pass0 (pa_cons (pv 0) (pa_cons (pv 1) pa_nil))))
      (pss_cons (ps_if (pt_cmpR op_lt (pv 1) pe_int (nomark _)) (pss_one (ps_set (i := 2) sc_law_low.nd rfl (Or.inl rfl) (pe_un un_neg (pv 2)))) pss_nil)
      (pss_one (ps_ret (pe_tup (pa_cons (pe_op op_fdivWN (pv 0) (pv 2)) (pa_cons (pe_op op_fdivWN (pv 1) (pv 2)) pa_nil))))))), ?_⟩
    show (_ : TS) _ [some (V.int n), some (V.int d), none] H
    walk_at "rd"
    refine ⟨n, d, rfl, bn, bd, ?_⟩
    have gd := gS_div (n := n) h0 bd
    refine ite2 (fun hn => ?_) (fun hn => ?_)
    · have e : gS n d = -((Nat.gcd n.natAbs d.natAbs : Nat) : Int) := if_pos hn
      unfold LN LD at k
      rw [e] at gd k
      walk_at "rd"
      exact ⟨gd, gd, by decide, k⟩
    · have e : gS n d = ((Nat.gcd n.natAbs d.natAbs : Nat) : Int) := if_neg hn
      unfold LN LD at k
      rw [e] at gd k
      walk_at "rd"
      exact ⟨gd, gd, by decide, k⟩
end
end K02
namespace K02
open PySem PySem.Spec PyProof.Rows L2 Own OwnExN
/-- an item of a tuple that stands in H by itself -/
def rIxHT : R2 := fun x y H Q => ∃ p xs i v, x = .ref p ∧ y = .int i ∧ H p = some (.tup xs) ∧ atI xs i = some v ∧ Q v H
theorem ixHT {X : Cx} : IxR X rIxHT := fun value slice pins s σ H x y v u Q I rx ry ⟨p, xs, i, z, e1, e2, h, e3, q⟩ hs => ix_tup value slice pins s σ H x y v u Q I rx ry ⟨p, xs, i, z, e1, e2, SqT.of h, e3, q⟩ hs
local macro_rules | `(tactic| walk_at "rd") => `(tactic| simp only [tSeq, tAsg, tOp, tUn, tVar, gName, gSub, rIxL, rIxT, rSetL, tC, rI0, rI, rU, rEq, rNe, tCons, tNil, tCB, tLst, tTup, tIfS, tAnd, tOr, tNot, tAndV, tOrV, tNotV, tTest, tB, tIf, tRet, tDrop, tNext, tBreak, tCont, tCall, tMake, tMkO, sFld, tOst, tNum, tDen, tNever, tBits, rIs, rIsB, clv, isB, rGcd,
  Rd.tFor_rng1, Rd.tFor_rng2, Rd.tFor_list, Rd.tFor_tup, Rd.tLc_list, Rd.tLc_tup, Rd.tLc_rng1, Rd.LcTurn, tYes, wipe, Rd.rLenL, Rd.rLenT, Rd.rIntI, Rd.rIxH, rIxHT, HO.tup.injEq, Rd.at0, Rd.at1, Rd.at2, Rd.at3, Rd.ixN40, Rd.ixN41, Rd.ixN42, Rd.ixN43, Rd.scal_ii, cxOf,
  List.length_cons, List.length_nil, List.length_map, List.map_cons, List.map_nil, upd_same, decide_eq_true_eq, decide_true, decide_false, if_true, if_false, Bool.false_eq_true, Bool.not_true, Bool.not_false, HO.lst.injEq, HO.ins.injEq, ff_inj, List.set_cons_zero, List.set_cons_succ, List.getElem?_cons_zero, List.getElem?_cons_succ, List.append_nil, List.nil_append, List.cons_append, Option.some.injEq, V.ref.injEq, V.int.injEq, V.bl.injEq, List.cons.injEq, exists_eq_left', exists_and_left, exists_eq_left, true_and, and_true, and_self, and_assoc, implies_true, reduceCtorEq, Nat.reduceAdd])

abbrev Sm (x : Int) : Prop := x.natAbs < 2 ^ 1500
abbrev Tm (x : Int) : Prop := x.natAbs < 2 ^ 1300
theorem But.of {b : Addr} {H H' : Hp} (e : ∀ p, p ≠ b → H' p = H p) : But b H H' := fun p o n h => (e p n).trans h
theorem cmw {i j : Int} (a b : Nat) (ha : i.natAbs < 2 ^ a) (hb : j.natAbs < 2 ^ b) (h0 : 0 < a := by decide) (h1 : 0 < b := by decide) (h : a + b ≤ 1000000 := by decide) : CMulW i j := wide_mul ha hb h0 h1 h
theorem lt2 {x : Nat} {a b : Nat} (h : x < 2 ^ a) (h' : a ≤ b) : x < 2 ^ b := Nat.lt_of_lt_of_le h (Nat.pow_le_pow_right (by decide) h')
theorem t_abs {x : Int} : (if x < 0 then -x else x) = (x.natAbs : Int) := abs_eq x
section
variable {P : Program} {w : World} {K : PySem.W.Frag} {mg : Str → Option Value} {base : Heap} {a : Ad}
theorem drw {H : Hp} {b c : Addr} {ns : List Int} {m : Int} {Q : VK} {E : XK} (B : BoxAt K H b c ns) (h0 : 0 < m) (h1 : m < 1000000000) (k : ∀ (d : Int) (H' : Hp), 0 ≤ d → d < m → BoxAt K H' b c ns → But b H H' → Q (.int d) H') : spDraw K [.ref b, .int m] H Q E :=
  ⟨b, c, ns, m, rfl, B, h0, h1, fun d H' p q B' e => k d H' p q B' (But.of e)⟩
theorem num_step {x d : Int} {i : Nat} (h0 : 0 ≤ x) (h : x < ((10 ^ (1 + 40 * i) : Nat) : Int)) (d0 : 0 ≤ d) (d1 : d < 100003) : 0 ≤ x * 10 ^ 40 + d ∧ x * 10 ^ 40 + d < ((10 ^ (1 + 40 * (i + 1)) : Nat) : Int) := by
  have e : (10 ^ (1 + 40 * (i + 1)) : Nat) = 10 ^ (1 + 40 * i) * 10 ^ 40 := by
    rw [← Nat.pow_add]
    congr 1
  have e40 : (10 : Int) ^ 40 = 10000000000000000000000000000000000000000 := by decide +kernel
  have n40 : (10 : Nat) ^ 40 = 10000000000000000000000000000000000000000 := by decide +kernel
  rw [e, e40, n40]
  generalize 10 ^ (1 + 40 * i) = z at *
  omega
/-! ### _law_number -/
def spNumber (K : PySem.W.Frag) : Sp := fun vs H Q _ => ∃ (b c : Addr) (ns : List Int) (l : Int), vs = [.ref b, .int l] ∧ BoxAt K H b c ns ∧ 0 ≤ l ∧ l ≤ 1 ∧
  ∀ (x : Int) (H' : Hp), l ≤ x → x.natAbs < 2 ^ 1200 → BoxAt K H' b c ns → But b H H' → Q (.int x) H'
theorem sc_law_number : FnScope ["box", "least", "shape", "number", "k"] ["box", "least"] (defScope s_law_number) := ⟨rfl, rfl, rfl, by decide +kernel, rfl, by decide +kernel, by decide +kernel⟩
theorem ok_law_number (T : Txt K mg a) : FnOk P w K mg base CX0 2 a.a_law_number a.d_law_number ["box", "least"] (spNumber K) := by
  refine T.fn_law_number.ok sc_law_number (fun vs H Q E h => ?_) (fun cdv A outer s H vs Q E hr h => ?_)
  · obtain ⟨b, c, ns, l, rfl, _⟩ := h
    rfl
  · obtain ⟨b, c, ns, l, rfl, B, h0, h1, k⟩ := h
    refine ⟨_, (pss_cons (ps_set (i := 2) sc_law_number.nd rfl (Or.inl rfl) (pe_call (ok_law_draw T) (hr.mono (by decide)) (by rfl) T.mg_law_draw T.fn_law_draw.kp T.b_law_draw .nil pass0 (pa_cons (pv 0) (pa_cons pe_int pa_nil))))
      (pss_cons (ps_set (i := 3) sc_law_number.nd rfl (Or.inl rfl) (pe_call (ok_law_draw T) (hr.mono (by decide)) (by rfl) T.mg_law_draw T.fn_law_draw.kp T.b_law_draw .nil pass0 (pa_cons (pv 0) (pa_cons pe_int pa_nil))))
      (pss_cons (ps_if (pt_cmpR op_eq (pv 2) pe_int (nomark _)) (pss_one (ps_set (i := 3) sc_law_number.nd rfl (Or.inl rfl) (pe_call (ok_law_draw T) (hr.mono (by decide)) (by rfl) T.mg_law_draw T.fn_law_draw.kp T.b_law_draw .nil pass0 (pa_cons (pv 0) (pa_cons pe_int pa_nil))))) pss_nil)
      (pss_cons (ps_if (pt_cmpR op_eq (pv 2) pe_int (nomark _)) (pss_one (ps_for PassesOwn.never rfl (pi_range1 (by rfl) T.no_range (pa_cons pe_int pa_nil)) (pg_name (i := 4) sc_law_number.nd rfl (Or.inl rfl))
          (pss_one (ps_set (i := 3) sc_law_number.nd rfl (Or.inl rfl) (pe_op op_add (pe_op op_mulW (pv 3) (pe_op op_pow pe_int pe_int)) (pe_call (ok_law_draw T) (hr.mono (by decide)) (by rfl) T.mg_law_draw T.fn_law_draw.kp T.b_law_draw .nil pass0 (pa_cons (pv 0) (pa_cons pe_int pa_nil)))))))) pss_nil)
      (pss_cons (ps_if (pt_cmpR op_eq (pv 2) pe_int (nomark _)) (pss_one (ps_set (i := 3) sc_law_number.nd rfl (Or.inl rfl) (pe_op op_add (pe_op op_pow pe_int pe_int) (pe_call (ok_law_draw T) (hr.mono (by decide)) (by rfl) T.mg_law_draw T.fn_law_draw.kp T.b_law_draw .nil pass0 (pa_cons (pv 0) (pa_cons pe_int pa_nil)))))) pss_nil)
      (pss_one (ps_ret (pe_callB (call_max2 rfl) (by rfl) T.no_max (by decide +kernel) (pa_cons (pv 3) (pa_cons (pv 1) pa_nil)))))))))), ?_⟩
    show (_ : TS) _ [some (V.ref b), some (V.int l), none, none, none] H
    walk_at "rd"
    refine drw B (by decide) (by decide) fun s1 H1 p1 q1 B1 e1 => ?_
    refine drw B1 (by decide) (by decide) fun x0 H2 p2 q2 B2 e2 => ?_
    have e02 : But b H H2 := e1.trans e2
    have fin : ∀ (x : Int) (H3 : Hp), 0 ≤ x → x.natAbs < 2 ^ 1200 → BoxAt K H3 b c ns → But b H H3 → Q (.int (if l > x then l else x)) H3 := fun x H3 z1 z2 B3 e3 => by
      refine k _ _ ?_ ?_ B3 e3
      · split <;> omega
      · split
        · have : l.natAbs ≤ 1 := by omega
          exact Nat.lt_of_le_of_lt this (by decide +kernel)
        · exact z2
    have small : ∀ x : Int, 0 ≤ x → x < 10000 → x.natAbs < 2 ^ 1200 := fun x h1 h2 => Nat.lt_of_lt_of_le (show x.natAbs < 2 ^ 14 by omega) (Nat.pow_le_pow_right (by decide) (by decide))
    have tail : ∀ (x : Int) (o : Option V) (H3 : Hp), 0 ≤ x → x.natAbs < 2 ^ 1200 → BoxAt K H3 b c ns → But b H H3 → tSeq
                                  (tIfS (tTest (tOp rEq (tVar 2) (tC (V.int 2))))
                                    (tAsg
                                      (tOp (rI0 fun i j => V.int (i + j))
                                        (tOp (rI CPow fun i j => V.int (i ^ j.toNat)) (tC (V.int 10)) (tC (V.int 30)))
                                        (tCall (spDraw K) [] E0 (tCons (tVar 0) (tCons (tC (V.int 3)) tNil))))
                                      (gName 3))
                                    tNext)
                                  (tRet
                                    (tCB
                                      (fun xs H Q =>
                                        ∃ i j, xs = [V.int i, V.int j] ∧ Q (V.int (if j > i then j else i)) H)
                                      (tCons (tVar 3) (tCons (tVar 1) tNil))))
                                  { nx := fun x H' => Q V.non H', rt := Q } [some (V.ref b), some (V.int l), some (V.int s1), some (V.int x), o] H3 := fun x o H3 z1 z2 B3 e3 => by
      walk_at "rd"
      refine ite2 (fun h => ?_) (fun h => ?_)
      · refine ⟨⟨by decide, by decide, by decide⟩, drw B3 (by decide) (by decide) fun y H4 p4 q4 B4 e4 => ⟨_, rfl, fin _ _ ?_ ?_ B4 (e3.trans e4)⟩⟩
        · have : (0 : Int) ≤ 10 ^ Int.toNat 30 := by decide +kernel
          omega
        · have : (10 : Int) ^ Int.toNat 30 < 2 ^ 101 := by decide +kernel
          have h0 : (0 : Int) ≤ 10 ^ Int.toNat 30 := by decide +kernel
          refine lt2 (a := 102) ?_ (by decide)
          generalize (10 : Int) ^ Int.toNat 30 = z at *
          omega
      · exact fin _ _ z1 z2 B3 e3
    have loop : ∀ (x : Int) (H3 : Hp), 0 ≤ x → x < 10 → BoxAt K H3 b c ns → But b H H3 → Rd.Loop (Itr 0 (Int.toNat 9)) (gName 4)
                            (tAsg
                              (tOp (rI0 fun i j => V.int (i + j))
                                (tOp (rI CMulW fun i j => V.int (i * j)) (tVar 3)
                                  (tOp (rI CPow fun i j => V.int (i ^ j.toNat)) (tC (V.int 10)) (tC (V.int 40))))
                                (tCall (spDraw K) [] E0 (tCons (tVar 0) (tCons (tC (V.int 100003)) tNil))))
                              (gName 3))
                            {
                              nx :=
                                tSeq
                                  (tIfS (tTest (tOp rEq (tVar 2) (tC (V.int 2))))
                                    (tAsg
                                      (tOp (rI0 fun i j => V.int (i + j))
                                        (tOp (rI CPow fun i j => V.int (i ^ j.toNat)) (tC (V.int 10)) (tC (V.int 30)))
                                        (tCall (spDraw K) [] E0 (tCons (tVar 0) (tCons (tC (V.int 3)) tNil))))
                                      (gName 3))
                                    tNext)
                                  (tRet
                                    (tCB
                                      (fun xs H Q =>
                                        ∃ i j, xs = [V.int i, V.int j] ∧ Q (V.int (if j > i then j else i)) H)
                                      (tCons (tVar 3) (tCons (tVar 1) tNil))))
                                  { nx := fun x H' => Q V.non H', rt := Q },
                              rt := Q }
                            [some (V.ref b), some (V.int l), some (V.int s1), some (V.int x), none] H3 := fun x H3 z1 z2 B3 e3 => by
      refine Rd.loop_rngC (fun σ H' => ∃ (x : Int) (o : Option V), σ = [some (V.ref b), some (V.int l), some (V.int s1), some (V.int x), o] ∧ 0 ≤ x ∧ x.natAbs < 2 ^ 1200 ∧ BoxAt K H' b c ns ∧ But b H H')
        (fun i σ H' => ∃ (x : Int) (o : Option V), σ = [some (V.ref b), some (V.int l), some (V.int s1), some (V.int x), o] ∧ 0 ≤ x ∧ x < ((10 ^ (1 + 40 * i) : Nat) : Int) ∧ i ≤ 9 ∧ BoxAt K H' b c ns ∧ But b H H')
        ⟨x, none, rfl, z1, by simpa using z2, by decide, B3, e3⟩ ?_ ?_ ?_
      · rintro bk hbk i σ H4 hi ⟨x, o, rfl, y1, y2, y3, B4, e4⟩
        have y3 : i < 9 := hi
        walk_at "rd"
        have xb : x.natAbs < 2 ^ 1200 := by
          have h1 : (10 : Nat) ^ (1 + 40 * i) ≤ 10 ^ 361 := Nat.pow_le_pow_right (by decide) (by omega)
          have h2 : (10 : Nat) ^ 361 < 2 ^ 1200 := by decide +kernel
          generalize (10 : Nat) ^ (1 + 40 * i) = z at *
          omega
        refine ⟨⟨by decide, by decide, by decide⟩, cmw 1200 200 xb (by decide +kernel), drw B4 (by decide) (by decide) fun y H5 p5 q5 B5 e5 => ?_⟩
        have st := num_step y1 y2 p5 q5
        exact ⟨_, rfl, st.1, st.2, by omega, B5, e4.trans e5⟩
      · rintro σ H4 ⟨x, o, rfl, y1, y2, y3, B4, e4⟩
        refine ⟨x, o, rfl, y1, ?_, B4, e4⟩
        have y2 : x < ((10 ^ 361 : Nat) : Int) := y2
        have h2 : (10 : Nat) ^ 361 < 2 ^ 1200 := by decide +kernel
        generalize (10 : Nat) ^ 361 = z at *
        omega
      · rintro σ H4 ⟨x, o, rfl, y1, y2, B4, e4⟩
        exact tail x o H4 y1 y2 B4 e4
    refine ⟨rfl, ite2 (fun h => drw B2 (by decide) (by decide) fun x1 H3 p3 q3 B3 e3 => ?_) (fun h => ?_)⟩
    · refine ⟨rfl, ite2 (fun h' => ?_) (fun _ => ?_)⟩
      · rw [h] at h'
        cases h'
      · refine ⟨rfl, ite2 (fun h' => ?_) (fun _ => ⟨_, rfl, fin _ _ p3 (small _ p3 q3) B3 (e02.trans e3)⟩)⟩
        rw [h] at h'
        cases h'
    · refine ⟨rfl, ite2 (fun _ => ⟨by decide, by decide, loop x0 H2 p2 (by omega) B2 e02⟩) (fun _ => ?_)⟩
      have t := tail x0 none H2 p2 (small _ p2 (by omega)) B2 e02
      revert t
      walk_at "rd"
      exact id
/-! ### _law_signed -/
def spSigned (K : PySem.W.Frag) : Sp := fun vs H Q _ => ∃ (b c : Addr) (ns : List Int) (x : Int), vs = [.ref b, .int x] ∧ BoxAt K H b c ns ∧
  ∀ (y : Int) (H' : Hp), (y = x ∨ y = -x) → BoxAt K H' b c ns → But b H H' → Q (.int y) H'
theorem sc_law_signed : FnScope ["box", "number"] ["box", "number"] (defScope s_law_signed) := ⟨rfl, rfl, rfl, by decide +kernel, rfl, by decide +kernel, by decide +kernel⟩
theorem ok_law_signed (T : Txt K mg a) : FnOk P w K mg base CX0 2 a.a_law_signed a.d_law_signed ["box", "number"] (spSigned K) := by
  refine T.fn_law_signed.ok sc_law_signed (fun vs H Q E h => ?_) (fun cdv A outer s H vs Q E hr h => ?_)
  · obtain ⟨b, c, ns, x, rfl, _⟩ := h
    rfl
  · obtain ⟨b, c, ns, x, rfl, B, k⟩ := h
    refine ⟨_, (pss_cons (ps_if (pt_cmpR op_eq (pe_call (ok_law_draw T) (hr.mono (by decide)) (by rfl) T.mg_law_draw T.fn_law_draw.kp T.b_law_draw .nil pass0 (pa_cons (pv 0) (pa_cons pe_int pa_nil))) pe_int (nomark _)) (pss_one (ps_ret (pe_un un_neg (pv 1)))) pss_nil)
      (pss_one (ps_ret (pv 1)))), ?_⟩
    show (_ : TS) _ [some (V.ref b), some (V.int x)] H
    walk_at "rd"
    refine drw B (by decide) (by decide) fun d H1 p1 q1 B1 e1 => ⟨rfl, ite2 (fun _ => k _ _ (.inr rfl) B1 e1) (fun _ => k _ _ (.inl rfl) B1 e1)⟩
/-! ### _law_terms -/
def spTerms (K : PySem.W.Frag) : Sp := fun vs H Q _ => ∃ (b c : Addr) (ns : List Int), vs = [.ref b] ∧ BoxAt K H b c ns ∧
  ∀ (n d : Int) (t : Addr) (H' : Hp), Tm n → Tm d → d ≠ 0 → BoxAt K H' b c ns → But b H H' → H' t = some (.tup [.int n, .int d]) → Q (.ref t) H'
theorem sc_law_terms : FnScope ["box", "factor", "num", "den"] ["box"] (defScope s_law_terms) := ⟨rfl, rfl, rfl, by decide +kernel, rfl, by decide +kernel, by decide +kernel⟩
theorem ok_law_terms (T : Txt K mg a) : FnOk P w K mg base CX0 3 a.a_law_terms a.d_law_terms ["box"] (spTerms K) := by
  refine T.fn_law_terms.ok sc_law_terms (fun vs H Q E h => ?_) (fun cdv A outer s H vs Q E hr h => ?_)
  · obtain ⟨b, c, ns, rfl, _⟩ := h
    rfl
  · obtain ⟨b, c, ns, rfl, B, k⟩ := h
    refine ⟨_, (pss_cons (ps_set (i := 1) sc_law_terms.nd rfl (Or.inl rfl) (pe_op op_add pe_int (pe_call (ok_law_draw T) (hr.mono (by decide)) (by rfl) T.mg_law_draw T.fn_law_draw.kp T.b_law_draw .nil pass0 (pa_cons (pv 0) (pa_cons pe_int pa_nil)))))
      (pss_cons (ps_set (i := 2) sc_law_terms.nd rfl (Or.inl rfl) (pe_call (ok_law_signed T) (hr.mono (by decide)) (by rfl) T.mg_law_signed T.fn_law_signed.kp T.b_law_signed .nil pass0 (pa_cons (pv 0) (pa_cons (pe_op op_mulW (pe_call (ok_law_number T) (hr.mono (by decide)) (by rfl) T.mg_law_number T.fn_law_number.kp T.b_law_number .nil pass0 (pa_cons (pv 0) (pa_cons pe_int pa_nil))) (pv 1)) pa_nil))))
      (pss_cons (ps_set (i := 3) sc_law_terms.nd rfl (Or.inl rfl) (pe_call (ok_law_signed T) (hr.mono (by decide)) (by rfl) T.mg_law_signed T.fn_law_signed.kp T.b_law_signed .nil pass0 (pa_cons (pv 0) (pa_cons (pe_op op_mulW (pe_call (ok_law_number T) (hr.mono (by decide)) (by rfl) T.mg_law_number T.fn_law_number.kp T.b_law_number .nil pass0 (pa_cons (pv 0) (pa_cons pe_int pa_nil))) (pv 1)) pa_nil))))
      (pss_one (ps_ret (pe_tup (pa_cons (pv 2) (pa_cons (pv 3) pa_nil)))))))), ?_⟩
    show (_ : TS) _ [some (V.ref b), none, none, none] H
    walk_at "rd"
    refine drw B (by decide) (by decide) fun x H1 p1 q1 B1 e1 => ⟨_, rfl, b, c, ns, 0, rfl, B1, by decide, by decide, fun i H2 p2 r2 B2 e2 => ⟨_, rfl, cmw 1200 5 r2 (by omega), b, c, ns, _, rfl, B2, fun y H3 h3 B3 e3 => ⟨b, c, ns, 1, rfl, B3, by decide, by decide, fun j H4 p4 r4 B4 e4 => ⟨_, rfl, cmw 1200 5 r4 (by omega), b, c, ns, _, rfl, B4, fun z H5 h5 B5 e5 => ⟨by decide, fun t ht => ?_⟩⟩⟩⟩⟩
    have bi : (i * (1 + x)).natAbs < 2 ^ 1300 := lt2 (wide_lt r2 (show (1 + x).natAbs < 2 ^ 5 by omega)) (by decide)
    have bj : (j * (1 + x)).natAbs < 2 ^ 1300 := lt2 (wide_lt r4 (show (1 + x).natAbs < 2 ^ 5 by omega)) (by decide)
    have j0 : 0 < j * (1 + x) := Int.mul_pos (by omega) (by omega)
    generalize i * (1 + x) = i' at *
    generalize j * (1 + x) = j' at *
    refine k y z t _ ?_ ?_ ?_ (B5.same (same_upd ht)) ((((e1.trans e2).trans e3).trans e4).trans e5 |>.trans (Same.but (same_upd ht))) upd_same
    · show y.natAbs < 2 ^ 1300
      rcases h3 with rfl | rfl
      · exact bi
      · rw [Int.natAbs_neg]; exact bi
    · show z.natAbs < 2 ^ 1300
      rcases h5 with rfl | rfl
      · exact bj
      · rw [Int.natAbs_neg]; exact bj
    · omega
/-! ### _law_second -/
def spSecond (K : PySem.W.Frag) : Sp := fun vs H Q _ => ∃ (b c f : Addr) (ns : List Int) (n1 d1 : Int), vs = [.ref b, .ref f] ∧ BoxAt K H b c ns ∧ H f = some (.tup [.int n1, .int d1]) ∧ Tm n1 ∧ Tm d1 ∧ d1 ≠ 0 ∧
  ∀ (n d : Int) (t : Addr) (H' : Hp), Sm n → Sm d → d ≠ 0 → BoxAt K H' b c ns → But b H H' → H' t = some (.tup [.int n, .int d]) → Q (.ref t) H'
theorem sc_law_second : FnScope ["box", "first", "shape"] ["box", "first"] (defScope s_law_second) := ⟨rfl, rfl, rfl, by decide +kernel, rfl, by decide +kernel, by decide +kernel⟩
theorem ok_law_second (T : Txt K mg a) : FnOk P w K mg base CX0 4 a.a_law_second a.d_law_second ["box", "first"] (spSecond K) := by
  refine T.fn_law_second.ok sc_law_second (fun vs H Q E h => ?_) (fun cdv A outer s H vs Q E hr h => ?_)
  · obtain ⟨b, c, f, ns, n1, d1, rfl, _⟩ := h
    rfl
  · obtain ⟨b, c, f, ns, n1, d1, rfl, B, hf, s1, s2, h0, k⟩ := h
    refine ⟨_, (pss_cons (ps_set (i := 2) sc_law_second.nd rfl (Or.inl rfl) (pe_call (ok_law_draw T) (hr.mono (by decide)) (by rfl) T.mg_law_draw T.fn_law_draw.kp T.b_law_draw .nil pass0 (pa_cons (pv 0) (pa_cons pe_int pa_nil))))
      (pss_cons (ps_if (pt_cmpR op_eq (pv 2) pe_int (nomark _)) (pss_one (ps_ret (pe_tup (pa_cons (pe_op op_mulW (pe_ix ixHT (pv 1) pe_int (fun _ _ => rfl)) pe_int) (pa_cons (pe_op op_mulW (pe_ix ixHT (pv 1) pe_int (fun _ _ => rfl)) pe_int) pa_nil))))) pss_nil)
      (pss_cons (ps_if (pt_cmpR op_eq (pv 2) pe_int (nomark _)) (pss_one (ps_ret (pe_tup (pa_cons (pe_ix ixHT (pv 1) pe_int (fun _ _ => rfl)) (pa_cons (pe_un un_neg (pe_ix ixHT (pv 1) pe_int (fun _ _ => rfl))) pa_nil))))) pss_nil)
      (pss_cons (ps_if (pt_cmpR op_eq (pv 2) pe_int (nomark _)) (pss_one (ps_ret (pe_tup (pa_cons pe_int (pa_cons pe_int pa_nil))))) pss_nil)
      (pss_cons (ps_if (PW.pt (pw_and (pt_cmpR op_eq (pv 2) pe_int (nomark _)) (pw_and (pt_cmpR op_lt (pe_callB call_abs (by rfl) T.no_abs (by decide +kernel) (pa_cons (pe_ix ixHT (pv 1) pe_int (fun _ _ => rfl)) pa_nil)) (pe_op op_pow pe_int pe_int) (nomark _)) (pw_and1 (pt_cmpR op_lt (pe_callB call_abs (by rfl) T.no_abs (by decide +kernel) (pa_cons (pe_ix ixHT (pv 1) pe_int (fun _ _ => rfl)) pa_nil)) (pe_op op_pow pe_int pe_int) (nomark _)))))) (pss_one (ps_ret (pe_tup (pa_cons (pe_op op_sub (pe_op op_add (pe_op op_mulW (pe_ix ixHT (pv 1) pe_int (fun _ _ => rfl)) (pe_op op_pow pe_int pe_int)) pe_int) (pe_op op_mul pe_int (pe_call (ok_law_draw T) (hr.mono (by decide)) (by rfl) T.mg_law_draw T.fn_law_draw.kp T.b_law_draw .nil pass0 (pa_cons (pv 0) (pa_cons pe_int pa_nil))))) (pa_cons (pe_op op_mulW (pe_ix ixHT (pv 1) pe_int (fun _ _ => rfl)) (pe_op op_pow pe_int pe_int)) pa_nil))))) pss_nil)
      (pss_one (ps_ret (pe_call (ok_law_terms T) (hr.mono (by decide)) (by rfl) T.mg_law_terms T.fn_law_terms.kp T.b_law_terms .nil pass0 (pa_cons (pv 0) pa_nil))))))))), ?_⟩
    show (_ : TS) _ [some (V.ref b), some (V.ref f), none] H
    walk_at "rd"
    have nf : f ≠ b := fun e => by
      obtain ⟨_, _, _, hb, _⟩ := B.ob
      rw [e, hb] at hf
      cases hf
    refine drw B (by decide) (by decide) fun d H1 p1 q1 B1 e1 => ?_
    have hf1 := e1 _ _ nf hf
    have fin : ∀ (n d : Int) (p : Addr), H1 p = none → Sm n → Sm d → d ≠ 0 → Q (V.ref p) (upd H1 p (HO.tup [V.int n, V.int d])) := fun n d p hp z1 z2 z3 => k n d p _ z1 z2 z3 (B1.same (same_upd hp)) (e1.trans (Same.but (same_upd hp))) upd_same
    simp only [hf1]
    walk_at "rd"
    have rest : spTerms K [V.ref b] H1 Q E0 := ⟨b, c, ns, rfl, B1, fun n d t H2 z1 z2 z3 B2 e2 h2 => k n d t H2 (lt2 z1 (by decide)) (lt2 z2 (by decide)) z3 B2 (e1.trans e2) h2⟩
    have b3 : ∀ x : Int, Tm x → Sm (x * 3) := fun x z => by
      have z : x.natAbs < 2 ^ 1300 := z
      show (x * 3).natAbs < 2 ^ 1500
      exact lt2 (wide_lt z (show (3 : Int).natAbs < 2 ^ 2 by decide)) (by decide)
    have up : ∀ x : Int, Tm x → Sm x := fun x z => lt2 z (by decide)
    have s2' : (-d1).natAbs < 2 ^ 1300 := by rw [Int.natAbs_neg]; exact s2
    refine ite2 (fun _ => ⟨cmw 1300 2 s1 (by decide), cmw 1300 2 s2 (by decide), by decide, fun p hp => fin _ _ p hp (b3 _ s1) (b3 _ s2) (by omega)⟩) fun _ => ite2 (fun _ => ⟨by decide, fun p hp => fin _ _ p hp (up _ s1) (up _ s2') (by omega)⟩) fun _ => ite2 (fun _ => ⟨by decide, fun p hp => fin _ _ p hp (by decide +kernel) (by decide +kernel) (by decide)⟩) fun _ => ite2 (fun _ => ⟨⟨by decide, by decide, by decide⟩, ite2 (fun h1 => ⟨⟨by decide, by decide, by decide⟩, ite2 (fun h2 => ⟨⟨by decide, by decide, by decide⟩, cmw 1300 200 s1 (by decide +kernel), drw B1 (by decide) (by decide) fun x H2 p2 q2 B2 e2 => ?_⟩) fun _ => rest⟩) fun _ => rest⟩) fun _ => rest
    have hf2 := e2 _ _ nf hf1
    simp only [hf2]
    walk_at "rd"
    refine ⟨.inl ⟨by decide, by decide⟩, ⟨by decide, by decide, by decide⟩, cmw 1300 200 s2 (by decide +kernel), by decide, fun p hp => ?_⟩
    rw [abs_eq] at h1 h2
    have e60 : (10 : Int) ^ Int.toNat 60 < 2 ^ 200 := by decide +kernel
    have e50 : ((10 : Int) ^ Int.toNat 50).natAbs < 2 ^ 200 := by decide +kernel
    have n50 : (10 : Int) ^ Int.toNat 50 ≠ 0 := by decide +kernel
    have w1 : n1.natAbs < 2 ^ 200 := by generalize (10 : Int) ^ Int.toNat 60 = z at *; omega
    have w2 : d1.natAbs < 2 ^ 200 := by generalize (10 : Int) ^ Int.toNat 60 = z at *; omega
    have v1 := wide_lt w1 e50
    have v2 := wide_lt w2 e50
    refine k _ _ p _ ?_ ?_ (Int.mul_ne_zero h0 n50) (B2.same (same_upd hp)) ((e1.trans e2).trans (Same.but (same_upd hp))) upd_same
    · refine lt2 (a := 401) ?_ (by decide)
      generalize n1 * (10 : Int) ^ Int.toNat 50 = z at *
      have : (2 : Nat) ^ 401 = 2 ^ (200 + 200) * 2 := by decide +kernel
      rw [this]
      have : 8 ≤ 2 ^ (200 + 200) := by decide +kernel
      generalize 2 ^ (200 + 200) = y at *
      omega
    · exact lt2 v2 (by decide)
end
end K02
namespace K02
open PySem PySem.Spec PyProof.Rows L2 Own OwnExN
local macro_rules | `(tactic| walk_at "rd") => `(tactic| simp only [tSeq, tAsg, tOp, tUn, tVar, gName, gSub, rIxL, rIxT, rSetL, tC, rI0, rI, rU, rEq, rNe, tCons, tNil, tCB, tLst, tTup, tIfS, tAnd, tOr, tNot, tAndV, tOrV, tNotV, tTest, tB, tIf, tRet, tDrop, tNext, tBreak, tCont, tCall, tMake, tMkO, sFld, tOst, tNum, tDen, tNever, tBits, rIs, rIsB, clv, isB, rGcd,
  Rd.tFor_rng1, Rd.tFor_rng2, Rd.tFor_list, Rd.tFor_tup, Rd.tLc_list, Rd.tLc_tup, Rd.tLc_rng1, Rd.LcTurn, tYes, wipe, Rd.rLenL, Rd.rLenT, Rd.rIntI, Rd.rIxH, rIxHT, HO.tup.injEq, Rd.at0, Rd.at1, Rd.at2, Rd.at3, Rd.ixN40, Rd.ixN41, Rd.ixN42, Rd.ixN43, Rd.scal_ii, cxOf,
  List.length_cons, List.length_nil, List.length_map, List.map_cons, List.map_nil, upd_same, decide_eq_true_eq, decide_true, decide_false, if_true, if_false, Bool.false_eq_true, Bool.not_true, Bool.not_false, HO.lst.injEq, HO.ins.injEq, ff_inj, List.set_cons_zero, List.set_cons_succ, List.getElem?_cons_zero, List.getElem?_cons_succ, List.append_nil, List.nil_append, List.cons_append, Option.some.injEq, V.ref.injEq, V.int.injEq, V.bl.injEq, List.cons.injEq, exists_eq_left', exists_and_left, exists_eq_left, true_and, and_true, and_self, and_assoc, implies_true, reduceCtorEq, Nat.reduceAdd])

/-! ### data by their heap -/
theorem Same.sqt {K : PySem.W.Frag} {H H' : Hp} {b : Addr} {xs : List V} (e : Same H H') (h : SqT K H b xs) : SqT K H' b xs := by
  rcases h with (h | ⟨o, h⟩) | h
  · exact .inl (.inl (e _ _ h))
  · exact .inl (.inr ⟨o, e _ _ h⟩)
  · exact .inr h
mutual
theorem dp_same {K : PySem.W.Frag} {H H' : Hp} (e : Same H H') : ∀ (d : PyData) (v : V), Dp K H v d → Dp K H' v d
  | .none, _, h => by cases h; exact .non
  | .bool _, _, h => by cases h; exact .bl _
  | .int _, _, h => by cases h; exact .int _
  | .str _, _, h => by cases h; exact .str _
  | .list ds, _, h => by
    cases h with
    | lst a b => exact .lst (e.seq a) (dps_same e ds _ b)
  | .tuple ds, _, h => by
    cases h with
    | tup a b => exact .tup (Same.sqt e a) (dps_same e ds _ b)
  | .dict _, _, h => by cases h
theorem dps_same {K : PySem.W.Frag} {H H' : Hp} (e : Same H H') : ∀ (ds : List PyData) (vs : List V), DpAll K H vs ds → DpAll K H' vs ds
  | [], _, h => by cases h; exact .nil
  | d :: ds, _, h => by
    cases h with
    | cons a b => exact .cons (dp_same e d _ a) (dps_same e ds _ b)
end
theorem Dp.pair {K : PySem.W.Frag} {H : Hp} {t : Addr} {x y : Int} (h : H t = some (.tup [.int x, .int y])) : Dp K H (.ref t) (.tuple [.int x, .int y]) := .tup (SqT.of h) (.cons (.int x) (.cons (.int y) .nil))
theorem shaped_pair (x y : Int) : SeqAt.shaped (.tuple [.int x, .int y]) = true := by
  simp [SeqAt.shaped, PyData.canLay0, PyData.canLayAll0, PyData.depth, PyData.depthAll]
section
variable {P : Program} {w : World} {K : PySem.W.Frag} {mg : Str → Option Value} {base : Heap} {a : Ad}
/-! ### _law_is -/
def spIs (C : Addr) : Sp := fun vs H Q _ => ∃ (p dx : Addr) (n d : Int), vs = [.ref p, .int n, .int d] ∧ H p = some (.ins C dx (ff (LN n d) (LD n d))) ∧ d ≠ 0 ∧ Big n ∧ Big d ∧ ∀ H', Same H H' → Q (.bl true) H'
theorem sc_law_is : FnScope ["actual", "num", "den", "number"] ["actual", "num", "den"] (defScope s_law_is) := ⟨rfl, rfl, rfl, by decide +kernel, rfl, by decide +kernel, by decide +kernel⟩
theorem ok_law_is (T : Txt K mg a) : FnOk P w K mg base CX0 3 a.a_law_is a.d_law_is ["actual", "num", "den"] (spIs a.C_Frac) := by
  refine T.fn_law_is.ok sc_law_is (fun vs H Q E h => ?_) (fun cdv A outer s H vs Q E hr h => ?_)
  · obtain ⟨p, dx, n, d, rfl, _⟩ := h
    rfl
  · obtain ⟨p, dx, n, d, rfl, hp, h0, bn, bd, k⟩ := h
    refine ⟨_, (pss_cons (ps_if (pt_not (pt_val (pe_callB (call_isF T) (by rfl) T.no_isinstance (by decide +kernel) (pa_cons (pv 0) (pa_cons (pe_glob (v := .ref a.C_Frac) rfl T.mg_Frac rfl) pa_nil))))) (pss_one (ps_ret pe_bl)) pss_nil)
      (pss_cons (ps_for PassesOwn.never rfl (pi_list (pe_lst (pa_cons (pe_num T (pv 0)) (pa_cons (pe_den T (pv 0)) pa_nil)))) (pg_name (i := 3) sc_law_is.nd rfl (Or.inl rfl))
        (pss_one (ps_if (PW.pt (pw_or (pt_not (pt_val (pe_callB (call_isB T .int) (by rfl) T.no_isinstance (by decide +kernel) (pa_cons (pv 3) (pa_cons (pe_bltn (v := .ty "int") (u := .type "int") (by rfl) T.no_int (by decide +kernel) rfl) pa_nil))))) (pw_or1 (pt_val (pe_callB (call_isB T .bl) (by rfl) T.no_isinstance (by decide +kernel) (pa_cons (pv 3) (pa_cons (pe_bltn (v := .ty "bool") (u := .type "bool") (by rfl) T.no_bool (by decide +kernel) rfl) pa_nil))))))) (pss_one (ps_ret pe_bl)) pss_nil)))
      (pss_one (ps_ret (pe_cmpR (op_eqD hr.units) (pe_tup (pa_cons (pe_num T (pv 0)) (pa_cons (pe_den T (pv 0)) pa_nil))) (pe_call (ok_law_low T) (hr.mono (by decide)) (by rfl) T.mg_law_low T.fn_law_low.kp T.b_law_low .nil pass0 (pa_cons (pv 1) (pa_cons (pv 2) pa_nil))) (nomark _)))))), ?_⟩
    show (_ : TS) _ [some (V.ref p), some (V.int n), some (V.int d), none] H
    walk_at "rd"
    refine ⟨.fr, .fr hp, ?_⟩
    rw [if_neg (by decide)]
    simp only [hp]
    walk_at "rd"
    refine ⟨by decide, fun t ht => ⟨⟨_, SqL.of upd_same⟩, ?_⟩⟩
    have s1 : Same H (upd H t (HO.lst [V.int (LN n d), V.int (LD n d)])) := same_upd ht
    have q1 : (upd H t (HO.lst [V.int (LN n d), V.int (LD n d)])) t = some (HO.lst [V.int (LN n d), V.int (LD n d)]) := upd_same
    generalize upd H t (HO.lst [V.int (LN n d), V.int (LD n d)]) = H1 at s1 q1 ⊢
    refine Rd.loop_listC (xs := [V.int (LN n d), V.int (LD n d)]) (fun σ H' => H' = H1 ∧ ∃ o, σ = [some (V.ref p), some (V.int n), some (V.int d), o]) (fun _ σ H' => H' = H1 ∧ ∃ o, σ = [some (V.ref p), some (V.int n), some (V.int d), o]) ⟨rfl, _, rfl⟩ (fun _ _ _ _ h => by rw [h.1]; exact SqL.of q1) ?_ (fun _ _ z => z) ?_
    · rintro bk hbk i x σ H2 hx ⟨rfl, o, rfl⟩
      obtain ⟨z, rfl⟩ : ∃ z : Int, x = .int z := by
        match i, hx with
        | 0, hx => exact ⟨_, (Option.some.inj hx).symm⟩
        | 1, hx => exact ⟨_, (Option.some.inj hx).symm⟩
      walk_at "rd"
      refine ⟨.int, .int z, ?_⟩
      rw [if_neg (by decide)]
      refine ⟨.int, .int z, by decide, ?_⟩
      rw [if_neg (by decide)]
      exact ⟨_, rfl⟩
    · rintro σ H2 ⟨rfl, o, rfl⟩
      walk_at "rd"
      have hp1 := s1 _ _ hp
      simp only [hp1]
      walk_at "rd"
      refine ⟨by decide, fun u hu => ⟨n, d, rfl, h0, bn, bd, fun v hv => ?_⟩⟩
      have e1 : (upd (upd H2 u (.tup [.int (LN n d), .int (LD n d)])) v (.tup [.int (LN n d), .int (LD n d)])) u = some (.tup [.int (LN n d), .int (LD n d)]) := (same_upd hv) _ _ upd_same
      refine ⟨_, _, Dp.pair e1, Dp.pair upd_same, shaped_pair _ _, shaped_pair _ _, ?_⟩
      rw [SeqAt.eqv_refl _ (SeqAt.canLay_of_shaped (shaped_pair _ _))]
      exact k _ ((s1.trans (same_upd hu)).trans (same_upd hv))
/-! ### _law_truth -/
def spTruth : Sp := fun vs H Q _ => ∃ x : Bool, vs = [.bl x, .bl x] ∧ Q (.bl true) H
theorem sc_law_truth : FnScope ["actual", "due"] ["actual", "due"] (defScope s_law_truth) := ⟨rfl, rfl, rfl, by decide +kernel, rfl, by decide +kernel, by decide +kernel⟩
theorem ok_law_truth (T : Txt K mg a) : FnOk P w K mg base CX0 1 a.a_law_truth a.d_law_truth ["actual", "due"] spTruth := by
  refine T.fn_law_truth.ok sc_law_truth (fun vs H Q E h => ?_) (fun cdv A outer s H vs Q E hr h => ?_)
  · obtain ⟨x, rfl, _⟩ := h
    rfl
  · obtain ⟨x, rfl, k⟩ := h
    refine ⟨_, (pss_one (ps_ret (pe_and (pe_callB (call_isB T .bl) (by rfl) T.no_isinstance (by decide +kernel) (pa_cons (pv 0) (pa_cons (pe_bltn (v := .ty "bool") (u := .type "bool") (by rfl) T.no_bool (by decide +kernel) rfl) pa_nil))) (pe_one (pe_cmpR op_eq (pv 0) (pv 1) (nomark _)))))), ?_⟩
    show (_ : TS) _ [some (V.bl x), some (V.bl x)] H
    walk_at "rd"
    refine ⟨.bl, .bl x, by decide, ?_⟩
    rw [if_pos rfl]
    exact ⟨by cases x <;> rfl, k⟩
end
end K02
namespace K02
open PySem PySem.Spec PyProof.Rows L2 Own OwnExN
local macro_rules | `(tactic| walk_at "rd") => `(tactic| simp only [tSeq, tAsg, tOp, tUn, tVar, gName, gSub, rIxL, rIxT, rSetL, tC, rI0, rI, rU, rEq, rNe, tCons, tNil, tCB, tLst, tTup, tIfS, tAnd, tOr, tNot, tAndV, tOrV, tNotV, tTest, tB, tIf, tRet, tDrop, tNext, tBreak, tCont, tCall, tMake, tMkO, sFld, tOst, tNum, tDen, tNever, tBits, rIs, rIsB, clv, isB, rGcd,
  Rd.tFor_rng1, Rd.tFor_rng2, Rd.tFor_list, Rd.tFor_tup, Rd.tLc_list, Rd.tLc_tup, Rd.tLc_rng1, Rd.LcTurn, tYes, wipe, Rd.rLenL, Rd.rLenT, Rd.rIntI, Rd.rIxH, rIxHT, HO.tup.injEq, Rd.at0, Rd.at1, Rd.at2, Rd.at3, Rd.ixN40, Rd.ixN41, Rd.ixN42, Rd.ixN43, Rd.scal_ii, cxOf,
  List.length_cons, List.length_nil, List.length_map, List.map_cons, List.map_nil, upd_same, decide_eq_true_eq, decide_true, decide_false, if_true, if_false, Bool.false_eq_true, Bool.not_true, Bool.not_false, HO.lst.injEq, HO.ins.injEq, ff_inj, List.set_cons_zero, List.set_cons_succ, List.getElem?_cons_zero, List.getElem?_cons_succ, List.append_nil, List.nil_append, List.cons_append, Option.some.injEq, V.ref.injEq, V.int.injEq, V.bl.injEq, List.cons.injEq, exists_eq_left', exists_and_left, exists_eq_left, true_and, and_true, and_self, and_assoc, implies_true, reduceCtorEq, Nat.reduceAdd])

/-! ### what _law_kind says of a value -/
inductive Kf (C : Addr) (H : Hp) : V → PyData → Prop
  | fr {p dx : Addr} {x y : Int} (h : H p = some (.ins C dx (ff x y))) : Kf C H (.ref p) (.tuple [.str "fraction", .int x, .int y])
  | bl (b : Bool) : Kf C H (.bl b) (.tuple [.str "truth", .bool b])
  | int (i : Int) : Kf C H (.int i) (.tuple [.str "integer", .int i])
  | str (x : Str) (h : PyData.canLay0 (.str x) = true) : Kf C H (.str x) (.tuple [.str "string", .str x])
  | non : Kf C H .non (.tuple [.str "none"])
def All2 (R : V → PyData → Prop) : List V → List PyData → Prop
  | [], [] => True
  | v :: vs, d :: ds => R v d ∧ All2 R vs ds
  | _, _ => False
def Kd (C : Addr) (H : Hp) : Nat → V → PyData → Prop
  | 0 => fun _ _ => False
  | n + 1 => fun v d => Kf C H v d ∨ ∃ (p : Addr) (xs : List V) (ds : List PyData), v = .ref p ∧ xs.length ≤ 3 ∧ All2 (Kd C H n) xs ds ∧
      ((H p = some (.lst xs) ∧ d = .tuple [.str "list", .list ds, .int xs.length]) ∨ (H p = some (.tup xs) ∧ d = .tuple [.str "tuple", .list ds, .int xs.length]))
theorem Kf.same {C : Addr} {H H' : Hp} {v : V} {d : PyData} (e : Same H H') (h : Kf C H v d) : Kf C H' v d := by
  cases h with
  | fr h => exact .fr (e _ _ h)
  | bl b => exact .bl b
  | int i => exact .int i
  | str x h => exact .str x h
  | non => exact .non
theorem All2.imp {R R' : V → PyData → Prop} (i : ∀ v d, R v d → R' v d) : ∀ vs ds, All2 R vs ds → All2 R' vs ds
  | [], [], _ => trivial
  | v :: vs, d :: ds, h => ⟨i v d h.1, All2.imp i vs ds h.2⟩
  | [], _ :: _, h => h.elim
  | _ :: _, [], h => h.elim
theorem Kd.same {C : Addr} {H H' : Hp} (e : Same H H') : ∀ (n : Nat) (v : V) (d : PyData), Kd C H n v d → Kd C H' n v d
  | 0, _, _, h => h.elim
  | n + 1, v, d, h => by
    rcases h with h | ⟨p, xs, ds, e1, e2, h, h2⟩
    · exact .inl (h.same e)
    · exact .inr ⟨p, xs, ds, e1, e2, h.imp (fun v d => Kd.same e n v d) xs ds, h2.imp (fun z => ⟨e _ _ z.1, z.2⟩) fun z => ⟨e _ _ z.1, z.2⟩⟩
theorem Kd.up {C : Addr} {H : Hp} : ∀ (n : Nat) (v : V) (d : PyData), Kd C H n v d → Kd C H (n + 1) v d
  | 0, _, _, h => h.elim
  | n + 1, v, d, h => by
    rcases h with h | ⟨p, xs, ds, e1, e2, h, h2⟩
    · exact .inl h
    · exact .inr ⟨p, xs, ds, e1, e2, h.imp (fun v d => Kd.up n v d) xs ds, h2⟩
theorem All2.lay {R : V → PyData → Prop} {m : Nat} (i : ∀ v d, R v d → PyData.canLay0 d = true ∧ d.depth ≤ m) : ∀ vs ds, All2 R vs ds → PyData.canLayAll0 ds = true ∧ PyData.depthAll ds ≤ m
  | [], [], _ => ⟨by simp [PyData.canLayAll0], by simp [PyData.depthAll]⟩
  | v :: vs, d :: ds, h => by
    have a := i v d h.1
    have b := All2.lay i vs ds h.2
    refine ⟨?_, ?_⟩
    · unfold PyData.canLayAll0
      rw [a.1, b.1]
      rfl
    · unfold PyData.depthAll
      omega
  | [], _ :: _, h => h.elim
  | _ :: _, [], h => h.elim
theorem Kd.lay {C : Addr} {H : Hp} : ∀ (n : Nat) (v : V) (d : PyData), Kd C H n v d → PyData.canLay0 d = true ∧ d.depth ≤ 3 * n
  | 0, _, _, h => h.elim
  | n + 1, v, d, h => by
    rcases h with h | ⟨p, xs, ds, e1, e2, h, h2⟩
    · have fl : ∀ d' : PyData, PyData.canLay0 d' = true → True := fun _ _ => trivial
      cases h with
      | fr h => exact ⟨by simp only [PyData.canLay0, PyData.canLayAll0, Bool.and_true]; decide +kernel, by simp [PyData.depth, PyData.depthAll]; try omega⟩
      | bl b => exact ⟨by simp only [PyData.canLay0, PyData.canLayAll0, Bool.and_true]; decide +kernel, by simp [PyData.depth, PyData.depthAll]; try omega⟩
      | int i => exact ⟨by simp only [PyData.canLay0, PyData.canLayAll0, Bool.and_true]; decide +kernel, by simp [PyData.depth, PyData.depthAll]; try omega⟩
      | str x h => exact ⟨by
          have h : PyData.strOk x = true := by simpa only [PyData.canLay0] using h
          simp only [PyData.canLay0, PyData.canLayAll0, Bool.and_true, h]; decide +kernel, by simp [PyData.depth, PyData.depthAll]; try omega⟩
      | non => exact ⟨by simp only [PyData.canLay0, PyData.canLayAll0, Bool.and_true]; decide +kernel, by simp [PyData.depth, PyData.depthAll]; try omega⟩
    · have z := All2.lay (Kd.lay n) xs ds h
      rcases h2 with ⟨_, rfl⟩ | ⟨_, rfl⟩
      all_goals
        refine ⟨?_, ?_⟩
        · simp only [PyData.canLay0, PyData.canLayAll0, Bool.and_true, z.1]
          decide +kernel
        · simp [PyData.depth, PyData.depthAll]
          omega
theorem Kd.shaped {C : Addr} {H : Hp} {n : Nat} {v : V} {d : PyData} (h : Kd C H n v d) (hn : n ≤ 20) : SeqAt.shaped d = true := by
  have := h.lay
  unfold SeqAt.shaped
  rw [this.1]
  simp
  omega
theorem strOk100 {x : Int} (h0 : 0 ≤ x) (h1 : x < 100) : PyData.canLay0 (.str (Str.ofString (toString x))) = true := by
  obtain ⟨n, rfl⟩ : ∃ n : Nat, x = (n : Int) := ⟨x.toNat, by omega⟩
  have hn : n < 100 := by omega
  revert hn
  have all : ∀ m : Fin 100, PyData.canLay0 (.str (Str.ofString (toString ((m.val : Nat) : Int)))) = true := by decide +kernel
  exact fun hn => all ⟨n, hn⟩
/-- what _law_wrong gives: no integer -/
structure Wr (C : Addr) (H : Hp) (v : V) : Prop where
  ty : ∃ g, Ty C H v g ∧ g ≠ .int
  kd : ∃ d, Kd C H 3 v d
theorem Wr.same {C : Addr} {H H' : Hp} {v : V} (e : Same H H') (h : Wr C H v) : Wr C H' v :=
  let ⟨g, t, n⟩ := h.ty
  let ⟨d, k⟩ := h.kd
  ⟨⟨g, t.same e, n⟩, ⟨d, Kd.same e _ _ _ k⟩⟩
section
variable {P : Program} {w : World} {K : PySem.W.Frag} {mg : Str → Option Value} {base : Heap} {a : Ad}
/-! ### _law_wrong -/
def spWrong (K : PySem.W.Frag) (C : Addr) : Sp := fun vs H Q _ => ∃ (b c f : Addr) (ns : List Int) (n1 d1 : Int), vs = [.ref b, .ref f] ∧ BoxAt K H b c ns ∧ H f = some (.tup [.int n1, .int d1]) ∧ Big n1 ∧ Big d1 ∧ d1 ≠ 0 ∧
  ∀ (v : V) (H' : Hp), Wr C (del H' b) v → BoxAt K H' b c ns → But b H H' → Q v H'
theorem sc_law_wrong : FnScope ["box", "first", "shape"] ["box", "first"] (defScope s_law_wrong) := ⟨rfl, rfl, rfl, by decide +kernel, rfl, by decide +kernel, by decide +kernel⟩
theorem ok_law_wrong (T : Txt K mg a) : FnOk P w K mg base CX0 5 a.a_law_wrong a.d_law_wrong ["box", "first"] (spWrong K a.C_Frac) := by
  refine T.fn_law_wrong.ok sc_law_wrong (fun vs H Q E h => ?_) (fun cdv A outer s H vs Q E hr h => ?_)
  · obtain ⟨b, c, f, ns, n1, d1, rfl, _⟩ := h
    rfl
  · obtain ⟨b, c, f, ns, n1, d1, rfl, B, hf, s1, s2, h0, k⟩ := h
    obtain ⟨b2d, b2v, b2b⟩ := b2 T
    refine ⟨_, (pss_cons (ps_set (i := 2) sc_law_wrong.nd rfl (Or.inl rfl) (pe_call (ok_law_draw T) (hr.mono (by decide)) (by rfl) T.mg_law_draw T.fn_law_draw.kp T.b_law_draw .nil pass0 (pa_cons (pv 0) (pa_cons pe_int pa_nil))))
      (pss_cons (ps_if (pt_cmpR op_lt (pv 2) pe_int (nomark _)) (pss_one (ps_ret (pe_cmpR op_eq (pv 2) pe_int (nomark _)))) pss_nil)
      (pss_cons (ps_if (pt_cmpR op_eq (pv 2) pe_int (nomark _)) (pss_one (ps_ret pe_non)) pss_nil)
      (pss_cons (ps_if (pt_cmpR op_eq (pv 2) pe_int (nomark _)) (pss_one (ps_ret (pe_callTy call_str_int (by rfl) T.no_str (by decide +kernel) (pa_cons (pe_call (ok_law_draw T) (hr.mono (by decide)) (by rfl) T.mg_law_draw T.fn_law_draw.kp T.b_law_draw .nil pass0 (pa_cons (pv 0) (pa_cons pe_int pa_nil))) pa_nil)))) pss_nil)
      (pss_cons (ps_if (pt_cmpR op_eq (pv 2) pe_int (nomark _)) (pss_one (ps_ret (pe_lst (pa_cons (pe_ix ixHT (pv 1) pe_int (fun _ _ => rfl)) (pa_cons (pe_lst (pa_cons (pe_ix ixHT (pv 1) pe_int (fun _ _ => rfl)) pa_nil)) pa_nil))))) pss_nil)
      (pss_cons (ps_if (pt_cmpR op_eq (pv 2) pe_int (nomark _)) (pss_one (ps_ret (pe_tup (pa_cons (pe_ix ixHT (pv 1) pe_int (fun _ _ => rfl)) (pa_cons (pe_ix ixHT (pv 1) pe_int (fun _ _ => rfl)) pa_nil))))) pss_nil)
      (pss_cons (ps_if (pt_cmpR op_eq (pv 2) pe_int (nomark _)) (pss_one (ps_ret (pe_make T.mk_Frac (ok_Frac_init T) (hr.mono (by decide)) (by rfl) T.mg_Frac b2b b2v passN (pa_cons (pe_call (ok_law_draw T) (hr.mono (by decide)) (by rfl) T.mg_law_draw T.fn_law_draw.kp T.b_law_draw .nil pass0 (pa_cons (pv 0) (pa_cons pe_int pa_nil))) pa_nil)))) pss_nil)
      (pss_cons (ps_if (pt_cmpR op_eq (pv 2) pe_int (nomark _)) (pss_one (ps_ret (pe_make T.mk_Frac (ok_Frac_init T) (hr.mono (by decide)) (by rfl) T.mg_Frac (b3 T) .nil passN (pa_cons (pe_ix ixHT (pv 1) pe_int (fun _ _ => rfl)) (pa_cons (pe_ix ixHT (pv 1) pe_int (fun _ _ => rfl)) pa_nil))))) pss_nil)
      (pss_one (ps_ret pe_str)))))))))), ?_⟩
    show (_ : TS) _ [some (V.ref b), some (V.ref f), none] H
    walk_at "rd"
    have nf : f ≠ b := fun e => by
      obtain ⟨_, _, _, hb, _⟩ := B.ob
      rw [e, hb] at hf
      cases hf
    refine drw B (by decide) (by decide) fun d H1 p1 q1 B1 e1 => ?_
    have hf1 := e1 _ _ nf hf
    simp only [hf1]
    walk_at "rd"
    have fin : ∀ (v : V) (H2 : Hp), BoxAt K H2 b c ns → But b H1 H2 → (∃ g, Ty a.C_Frac (del H2 b) v g ∧ g ≠ .int) → (∃ d, Kd a.C_Frac (del H2 b) 3 v d) → Q v H2 := fun v H2 B2 e2 t kd => k v H2 ⟨t, kd⟩ B2 (e1.trans e2)
    have mk : ∀ (x : Addr) (H2 H3 : Hp) (dr : Addr) (n d : Int), BoxAt K H2 b c ns → But b H1 H2 → Same H2 H3 → H2 x = none → H3 x = some (.ins a.C_Frac dr (ff n d)) → Q (.ref x) H3 := fun x H2 H3 dr n d B2 e2 e3 nx hx => fin _ _ (B2.same e3) (e2.trans (Same.but e3)) ⟨_, .fr ((del_ne (B2.ne_new nx)).trans hx), by decide⟩ ⟨_, .inl (.fr ((del_ne (B2.ne_new nx)).trans hx))⟩
    refine ite2 (fun _ => fin _ _ B1 (.refl _ _) ⟨_, .bl _, by decide⟩ ⟨_, .inl (.bl _)⟩) fun _ => ite2 (fun _ => fin _ _ B1 (.refl _ _) ⟨_, .non, by decide⟩ ⟨_, .inl .non⟩) fun _ => ite2 (fun _ => drw B1 (by decide) (by decide) fun x H2 p2 q2 B2 e2 => ⟨x, rfl, ?_, fin _ _ B2 e2 ⟨_, .str _, by decide⟩ ⟨_, .inl (.str _ (strOk100 p2 q2))⟩⟩) fun _ => ite2 (fun _ => ⟨by decide, fun p hp => ⟨by decide, fun q hq => ?_⟩⟩) fun _ => ite2 (fun _ => ⟨by decide, fun p hp => fin _ _ (B1.same (same_upd hp)) (Same.but (same_upd hp)) ⟨_, .tup ((del_ne (B1.ne_new hp)).trans upd_same), by decide⟩ ⟨_, .inr ⟨p, [.int n1, .int d1], [_, _], rfl, by show 2 ≤ 3; decide, ⟨.inl (.int _), .inl (.int _), trivial⟩, .inr ⟨(del_ne (B1.ne_new hp)).trans upd_same, rfl⟩⟩⟩⟩) fun _ => ite2 (fun _ => drw B1 (by decide) (by decide) fun x H2 p2 q2 B2 e2 => ?_) fun _ => ite2 (fun _ => ?_) fun _ => fin _ _ B1 (.refl _ _) ⟨_, .str _, by decide⟩ ⟨_, .inl (.str _ (by decide +kernel))⟩
    · have z : x.natAbs.log2 < 7 := PySem.Flt.log2_lt_of (by decide) (show x.natAbs < 2 ^ 7 by omega)
      omega
    · have sq : Same H1 (upd (upd H1 p (HO.lst [V.int d1])) q (HO.lst [V.int n1, V.ref p])) := (same_upd hp).trans (same_upd hq)
      have ep : (upd (upd H1 p (HO.lst [V.int d1])) q (HO.lst [V.int n1, V.ref p])) p = some (.lst [.int d1]) := (same_upd hq) _ _ upd_same
      have nq := (B1.same (same_upd hp)).ne_new hq
      have np := B1.ne_new hp
      exact fin _ _ (B1.same sq) (Same.but sq) ⟨_, .lst ((del_ne nq).trans upd_same), by decide⟩ ⟨_, .inr ⟨q, [.int n1, .ref p], [_, _], rfl, by show 2 ≤ 3; decide, ⟨.inl (.int _), .inr ⟨p, [.int d1], [_], rfl, by show 1 ≤ 3; decide, ⟨.inl (.int _), trivial⟩, .inl ⟨(del_ne np).trans ep, rfl⟩⟩, trivial⟩, .inl ⟨(del_ne nq).trans upd_same, rfl⟩⟩⟩
    · exact frac_made (by decide) (lt2 (a := 3) (by omega) (by decide)) (by decide +kernel) fun x' dr H3 hx h3 e3 => mk x' H2 H3 dr _ _ B2 e2 e3 hx h3
    · exact frac_made h0 s1 s2 fun x dr H2 hx h2 e2 => mk x H1 H2 dr _ _ B1 (.refl _ _) e2 hx h2
end
end K02
namespace K02
open PySem PySem.Spec PyProof.Rows L2 Own OwnHot OwnExN
local macro_rules | `(tactic| walk_at "rd") => `(tactic| simp only [tSeq, tAsg, tOp, tUn, tVar, gName, gSub, rIxL, rIxT, rSetL, tC, rI0, rI, rU, rEq, rNe, tCons, tNil, tCB, tLst, tTup, tIfS, tAnd, tOr, tNot, tAndV, tOrV, tNotV, tTest, tB, tIf, tRet, tDrop, tNext, tBreak, tCont, tCall, tMake, tMkO, sFld, tOst, tNum, tDen, tNever, tBits, rIs, rIsB, clv, isB, rGcd,
  Rd.tFor_rng1, Rd.tFor_rng2, Rd.tFor_list, Rd.tFor_tup, Rd.tLc_list, Rd.tLc_tup, Rd.tLc_rng1, Rd.LcTurn, tYes, wipe, Rd.rLenL, Rd.rLenT, Rd.rIntI, Rd.rIxH, rIxHT, HO.tup.injEq, Rd.at0, Rd.at1, Rd.at2, Rd.at3, Rd.ixN40, Rd.ixN41, Rd.ixN42, Rd.ixN43, Rd.scal_ii, cxOf,
  List.length_cons, List.length_nil, List.length_map, List.map_cons, List.map_nil, upd_same, decide_eq_true_eq, decide_true, decide_false, if_true, if_false, Bool.false_eq_true, Bool.not_true, Bool.not_false, HO.lst.injEq, HO.ins.injEq, ff_inj, List.set_cons_zero, List.set_cons_succ, List.getElem?_cons_zero, List.getElem?_cons_succ, List.append_nil, List.nil_append, List.cons_append, Option.some.injEq, V.ref.injEq, V.int.injEq, V.bl.injEq, List.cons.injEq, exists_eq_left', exists_and_left, exists_eq_left, true_and, and_true, and_self, and_assoc, implies_true, reduceCtorEq, Nat.reduceAdd])

local macro_rules | `(tactic| walk_at "rdh") => `(tactic| simp only [tSeq, tAsg, tOp, tUn, tVar, gName, gSub, rIxL, rIxT, rSetL, tC, rI0, rI, rU, rEq, rNe, tCons, tNil, tCB, tLst, tTup, tIfS, tAnd, tOr, tNot, tAndV, tOrV, tNotV, tTest, tB, tIf, tRet, tDrop, tNext, tBreak, tCont, tCall, tCallS, tMake, tMkO, sFld, tOst, tNum, tDen, tNever, tBits, rIs, rIsB, clv, isB, rGcd,
  Rd.tFor_rng1, Rd.tFor_rng2, Rd.tFor_list, Rd.tFor_tup, Rd.tLc_list, Rd.tLc_tup, Rd.tLc_rng1, Rd.LcTurn, tYes, wipe, Rd.rLenL, Rd.rLenT, Rd.rIntI, Rd.rIxH, rIxHT, HO.tup.injEq, Rd.at0, Rd.at1, Rd.at2, Rd.at3, Rd.ixN40, Rd.ixN41, Rd.ixN42, Rd.ixN43, Rd.scal_ii, cxOf,
  List.length_cons, List.length_nil, List.length_map, List.map_cons, List.map_nil, upd_same, decide_eq_true_eq, decide_true, decide_false, if_true, if_false, Bool.false_eq_true, Bool.not_true, Bool.not_false, HO.lst.injEq, HO.ins.injEq, ff_inj, List.set_cons_zero, List.set_cons_succ, List.getElem?_cons_zero, List.getElem?_cons_succ, List.append_nil, List.nil_append, List.cons_append, Option.some.injEq, V.ref.injEq, V.int.injEq, V.bl.injEq, List.cons.injEq, exists_eq_left', exists_and_left, exists_eq_left, true_and, and_true, and_self, and_assoc, implies_true, reduceCtorEq, Nat.reduceAdd])

theorem passAt0 {X : Cx} {σ : L2.St} : PassesAt CX0 X σ E0 := fun _ _ _ _ _ _ h => h.elim
/-- a def of no promise -/
theorem fn_zero {P : Program} {w : World} {K : PySem.W.Frag} {mg : Str → Option Value} {base : Heap} {CX : CXT} {k : Nat} {f : Addr} {fd : FuncData} {ps : List Str} : FnOk P w K mg base CX k f fd ps (fun _ _ _ _ => False) := ⟨fun _ _ _ _ h => h.elim, fun _ _ _ _ _ _ _ _ _ _ _ _ _ h => h.elim⟩
theorem fnH_zero {P : Program} {w : World} {K : PySem.W.Frag} {mg : Str → Option Value} {base : Heap} {CX : CXT} {k : Nat} {f : Addr} {fd : FuncData} {ps : List Str} : L2H.FnH P w K mg base CX k f fd ps (fun _ _ _ _ => False) := ⟨fun _ _ _ _ h => h.elim, fun _ _ _ _ _ _ _ _ _ _ _ _ _ _ _ _ h => h.elim⟩
/-- what of H' is new since H -/
def New (H H' : Hp) : Hp := fun p => if H p = none then H' p else none
def NewD (H : Hp) (D : Addr) (H' : Hp) : Hp := fun p => if H p = none ∧ p ≠ D then H' p else none
theorem New.of {H H' : Hp} {p : Addr} {o : HO} (h : H p = none) (h' : H' p = some o) : New H H' p = some o := by
  unfold New
  rw [if_pos h]
  exact h'
theorem New.get {H H' : Hp} {p : Addr} {o : HO} (h : New H H' p = some o) : H p = none ∧ H' p = some o := by
  unfold New at h
  split at h
  · exact ⟨by assumption, h⟩
  · cases h
theorem NewD.get {H H' : Hp} {D p : Addr} {o : HO} (h : NewD H D H' p = some o) : (H p = none ∧ p ≠ D) ∧ H' p = some o := by
  unfold NewD at h
  split at h
  · exact ⟨by assumption, h⟩
  · cases h
theorem NewD.of {H H' : Hp} {D p : Addr} {o : HO} (h : H p = none ∧ p ≠ D) (h' : H' p = some o) : NewD H D H' p = some o := by
  unfold NewD
  rw [if_pos h]
  exact h'
theorem New.all {H H' : Hp} : Same (New H H') H' := fun _ _ h => (New.get h).2
theorem All2.len {R : V → PyData → Prop} : ∀ {vs : List V} {ds : List PyData}, All2 R vs ds → vs.length = ds.length
  | [], [], _ => rfl
  | _ :: _, _ :: _, h => congrArg (· + 1) (All2.len h.2)
  | [], _ :: _, h => h.elim
  | _ :: _, [], h => h.elim
theorem All2.at {R : V → PyData → Prop} : ∀ {vs : List V} {ds : List PyData} {i : Nat} {v : V}, All2 R vs ds → vs[i]? = some v → ∃ d, ds[i]? = some d ∧ R v d
  | _ :: _, d :: _, 0, _, h, e => ⟨d, rfl, by cases (Option.some.inj e); exact h.1⟩
  | _ :: _, _ :: _, i + 1, _, h, e => All2.at (i := i) h.2 e
  | [], [], _, _, _, e => by cases e
  | [], _ :: _, _, _, h, _ => h.elim
  | _ :: _, [], _, _, h, _ => h.elim
theorem dps_app {K : PySem.W.Frag} {H : Hp} : ∀ {xs ys : List V} {ds es : List PyData}, DpAll K H xs ds → DpAll K H ys es → DpAll K H (xs ++ ys) (ds ++ es)
  | _, _, _, _, .nil, h => h
  | _, _, _, _, .cons a b, h => .cons a (dps_app b h)
/-- the loop over a value's parts: what stands after i of them -/
def Pk (K : PySem.W.Frag) (H : Hp) (ds : List PyData) (D : Addr) (i : Nat) (H1 : Hp) : Prop := H D = none ∧ Same H H1 ∧ ∃ ys, H1 D = some (.lst ys) ∧ ys.length = i ∧ DpAll K (NewD H D H1) ys (ds.take i)
theorem Pk.zero {K : PySem.W.Frag} {H : Hp} {ds : List PyData} {D : Addr} (h : H D = none) : Pk K H ds D 0 (upd H D (.lst [])) := ⟨h, same_upd h, [], upd_same, rfl, .nil⟩
theorem Pk.step {K : PySem.W.Frag} {H H1 H3 : Hp} {ds : List PyData} {d : PyData} {D : Addr} {i : Nat} {y : V} (p : Pk K H ds D i H1) (hd : ds[i]? = some d) (e : Same H1 H3) (h : Dp K (New H1 H3) y d) :
    ∃ acc, H3 D = some (.lst acc) ∧ acc.length = i ∧ Pk K H ds D (i + 1) (upd H3 D (.lst (acc ++ [y]))) := by
  obtain ⟨h0, s1, ys, h1, hl, a⟩ := p
  refine ⟨ys, e _ _ h1, hl, h0, fun b o hb => ?_, _, upd_same, by rw [List.length_append, hl]; rfl, ?_⟩
  · rw [upd_ne (ne_of_none hb h0)]
    exact e _ _ (s1 _ _ hb)
  · rw [List.take_add_one, hd]
    refine dps_app (dps_same (fun b o hb => ?_) _ _ a) (.cons (dp_same (fun b o hb => ?_) _ _ h) .nil)
    · have z := NewD.get hb
      exact NewD.of z.1 (by rw [upd_ne z.1.2]; exact e _ _ z.2)
    · have z := New.get hb
      have nD : b ≠ D := fun q => by rw [q, h1] at z; cases z.1
      refine NewD.of ⟨?_, nD⟩ (by rw [upd_ne nD]; exact z.2)
      cases q : H b with
      | none => rfl
      | some o' => rw [s1 _ _ q] at z; cases z.1
theorem Pk.done {K : PySem.W.Frag} {H H1 : Hp} {ds : List PyData} {D : Addr} (p : Pk K H ds D ds.length H1) : Dp K (New H H1) (.ref D) (.list ds) ∧ Same H H1 := by
  obtain ⟨h0, s1, ys, h1, hl, a⟩ := p
  rw [List.take_length] at a
  exact ⟨.lst (SqL.of (New.of h0 h1)) (dps_same (fun b o hb => (NewD.get hb).1.1 |> fun z => New.of z (NewD.get hb).2) _ _ a), s1⟩
theorem lcl_tup {K : PySem.W.Frag} {a : Addr} {xs : List V} {g : TG} {tt : TT} {te : TE} {vs : List Nat} {σ : L2.St} {H : Hp} {Q : VK} (Pv : Addr → Nat → Hp → Prop) (h0 : ∀ D, H D = none → Pv D 0 (upd H D (.lst []))) (hl : ∀ D i H1, i ≤ xs.length → Pv D i H1 → SqT K H1 a xs)
    (hs : ∀ D i x H1, xs[i]? = some x → Pv D i H1 → g x (wipe σ vs) H1 fun σ2 H2 => Rd.LcTurn te tt D (wipe σ vs) σ2 vs H2 (Pv D (i + 1))) (hd : ∀ D H1, H D = none → Pv D xs.length H1 → Q (.ref D) H1) : Rd.LcL (Itt K a) g tt te vs σ H Q :=
  fun D hD => lc_tup (Pv D) (h0 D hD) (hl D) (hs D) fun H1 p => hd D H1 hD p
theorem six3 {n : Nat} (h : n ≤ 3) : HT.sIx n 0 none = 0 ∧ HT.sIx n n (some 3) = n := ⟨rfl, (HT.sIx_nat n n 3).trans (by omega)⟩
theorem New.sub {H H0 H1 : Hp} (e : Same H H0) : Same (New H0 H1) (New H H1) := fun p o h => by
  have z := New.get h
  refine New.of ?_ z.2
  cases q : H p with
  | none => rfl
  | some o' => rw [e _ _ q] at z; cases z.1
theorem cut3 {xs : List V} (h : xs.length ≤ 3) : cutV xs none (some 3) = xs := by
  match xs, h with
  | [], _ => rfl
  | [_], _ => rfl
  | [_, _], _ => rfl
  | [_, _, _], _ => rfl
  | _ :: _ :: _ :: _ :: _, h => simp only [List.length_cons] at h; omega
theorem new_tup {K : PySem.W.Frag} {H H1 : Hp} {t : Addr} {xs : List V} {ds : List PyData} (s1 : Same H H1) (ht : H1 t = none) (h : DpAll K (New H H1) xs ds) : Dp K (New H (upd H1 t (.tup xs))) (.ref t) (.tuple ds) := by
  have z : H t = none := by
    cases q : H t with
    | none => rfl
    | some o => rw [s1 _ _ q] at ht; cases ht
  refine .tup (SqT.of (New.of z upd_same)) (dps_same (fun b o hb => ?_) _ _ h)
  have y := New.get hb
  exact New.of y.1 (by rw [upd_ne (ne_of_none y.2 ht)]; exact y.2)
section
variable {P : Program} {w : World} {K : PySem.W.Frag} {mg : Str → Option Value} {base : Heap} {a : Ad}
/-- the rule of a def that is called while an exception is handled -/
theorem okH {x qual : Str} {st : Stmt} {f : Addr} {fd : FuncData} {N ps : List Str} {k : Nat} {sp : Sp} (F : Fun K x qual st f fd) (S : FnScope N ps (defScope st)) (len : ∀ vs H Q E, sp vs H Q E → vs.length = ps.length)
    (hbody : ∀ (cdv : Value) (A : Around) (outer : List Env) (s : Shared) (H : Hp) (vs : List V) (Q : VK) (E : XK) (p : Addr × Obj), L2H.Hot1 A p → L2H.RoomH k (A.deeper (envOfC qual (defScope st) s.heap.objs.size f cdv)) → sp vs H Q E →
      ∃ t, PSs (L2H.cxH CX0 P w K mg base N qual (defScope st) f cdv A outer s H E p) (defBody st) t ∧ t { nx := fun _ H' => Q .non H', rt := Q } (L2.start N vs) H) : L2H.FnH P w K mg base CX0 (k + 1) f fd ps sp := by
  obtain ⟨oc, od, kV, doc, pm, an, cdv, ct, osl, rfl, lk, hcd⟩ := F.ex
  exact L2H.fn_ofH lk hcd S len fun A outer s H vs Q E p hot hr hsp => hbody cdv A outer s H vs Q E p hot hr hsp
/-! ### _law_kind -/
def spKind (K : PySem.W.Frag) (C : Addr) : Nat → Sp
  | 0 => fun _ _ _ _ => False
  | n + 1 => fun vs H Q _ => ∃ v d, vs = [v] ∧ Kd C H (n + 1) v d ∧ ∀ x H', Same H H' → Dp K (New H H') x d → Q x H'
theorem sc_law_kind : FnScope ["value", "part"] ["value"] (defScope s_law_kind) := ⟨rfl, rfl, rfl, by decide +kernel, rfl, by decide +kernel, by decide +kernel⟩
theorem ok_law_kindN (T : Txt K mg a) : ∀ n, FnOk P w K mg base CX0 n a.a_law_kind a.d_law_kind ["value"] (spKind K a.C_Frac n)
  | 0 => fn_zero
  | n + 1 => by
    have ih := ok_law_kindN T n
    refine T.fn_law_kind.ok sc_law_kind (fun vs H Q E h => ?_) (fun cdv A outer s H vs Q E hr h => ?_)
    · obtain ⟨v, d, rfl, _⟩ := h
      rfl
    · obtain ⟨v, d, rfl, kd, k⟩ := h
      refine ⟨_, (pss_cons (ps_if (pt_val (pe_callB (call_isF T) (by rfl) T.no_isinstance (by decide +kernel) (pa_cons (pv 0) (pa_cons (pe_glob (v := .ref a.C_Frac) rfl T.mg_Frac rfl) pa_nil)))) (pss_one (ps_ret (pe_tup (pa_cons pe_str (pa_cons (pe_num T (pv 0)) (pa_cons (pe_den T (pv 0)) pa_nil)))))) pss_nil)
      (pss_cons (ps_if (pt_val (pe_callB (call_isB T .bl) (by rfl) T.no_isinstance (by decide +kernel) (pa_cons (pv 0) (pa_cons (pe_bltn (v := .ty "bool") (u := .type "bool") (by rfl) T.no_bool (by decide +kernel) rfl) pa_nil)))) (pss_one (ps_ret (pe_tup (pa_cons pe_str (pa_cons (pv 0) pa_nil))))) pss_nil)
      (pss_cons (ps_if (pt_val (pe_callB (call_isB T .int) (by rfl) T.no_isinstance (by decide +kernel) (pa_cons (pv 0) (pa_cons (pe_bltn (v := .ty "int") (u := .type "int") (by rfl) T.no_int (by decide +kernel) rfl) pa_nil)))) (pss_one (ps_ret (pe_tup (pa_cons pe_str (pa_cons (pv 0) pa_nil))))) pss_nil)
      (pss_cons (ps_if (pt_val (pe_callB (call_isB T .str) (by rfl) T.no_isinstance (by decide +kernel) (pa_cons (pv 0) (pa_cons (pe_bltn (v := .ty "str") (u := .type "str") (by rfl) T.no_str (by decide +kernel) rfl) pa_nil)))) (pss_one (ps_ret (pe_tup (pa_cons pe_str (pa_cons (pv 0) pa_nil))))) pss_nil)
      (pss_cons (ps_if (pt_cmpR op_isN (pv 0) pe_non (nomark _)) (pss_one (ps_ret (pe_tup (pa_cons pe_str pa_nil)))) pss_nil)
      (pss_cons (ps_if (pt_val (pe_callB (call_isB T .lst) (by rfl) T.no_isinstance (by decide +kernel) (pa_cons (pv 0) (pa_cons (pe_bltn (v := .ty "list") (u := .type "list") (by rfl) T.no_list (by decide +kernel) rfl) pa_nil)))) (pss_one (ps_ret (pe_tup (pa_cons pe_str (pa_cons (pe_lc (own := [("part", 1)]) (by rfl) sc_law_kind.nd (pi_list (pe_slice sl_list (pv 0) po_none (po_some pe_int))) (blkOk_by (own := [("part", 1)]) (N := ["value", "part"]) (sc := defScope s_law_kind) (by decide +kernel)) (fun _ _ _ _ _ => pg_name (i := 1) sc_law_kind.nd rfl (Or.inl rfl)) (fun _ _ _ _ _ => pts_nil) (fun _ _ _ _ _ => (pe_call ih hr (by rfl) T.mg_law_kind T.fn_law_kind.kp T.b_law_kind .nil pass0 (pa_cons (pv 1) pa_nil)))) (pa_cons (pe_callB Rd.call_lenL (by rfl) T.no_len PySem.boot_len (pa_cons (pv 0) pa_nil)) pa_nil)))))) pss_nil)
      (pss_cons (ps_if (pt_val (pe_callB (call_isB T .tup) (by rfl) T.no_isinstance (by decide +kernel) (pa_cons (pv 0) (pa_cons (pe_bltn (v := .ty "tuple") (u := .type "tuple") (by rfl) T.no_tuple (by decide +kernel) rfl) pa_nil)))) (pss_one (ps_ret (pe_tup (pa_cons pe_str (pa_cons (pe_lc (own := [("part", 1)]) (by rfl) sc_law_kind.nd (pi_tup (pe_slice sl_tupA (pv 0) po_none (po_some pe_int))) (blkOk_by (own := [("part", 1)]) (N := ["value", "part"]) (sc := defScope s_law_kind) (by decide +kernel)) (fun _ _ _ _ _ => pg_name (i := 1) sc_law_kind.nd rfl (Or.inl rfl)) (fun _ _ _ _ _ => pts_nil) (fun _ _ _ _ _ => (pe_call ih hr (by rfl) T.mg_law_kind T.fn_law_kind.kp T.b_law_kind .nil pass0 (pa_cons (pv 1) pa_nil)))) (pa_cons (pe_callB Rd.call_lenT (by rfl) T.no_len PySem.boot_len (pa_cons (pv 0) pa_nil)) pa_nil)))))) pss_nil)
      (pss_one (ps_ret (pe_tup (pa_cons pe_str pa_nil))))))))))), ?_⟩
      show (_ : TS) _ [some v, none] H
      walk_at "rd"
      have one : ∀ (xs : List V) (ds : List PyData), d = .tuple ds → DpAll K (New H H) xs ds → ∀ t, H t = none → Q (.ref t) (upd H t (.tup xs)) := fun xs ds e h t ht => by
        subst e
        exact k _ _ (same_upd ht) (new_tup (fun _ _ z => z) ht h)
      rcases kd with kf | ⟨p, xs, ds, rfl, hl, al, hh⟩
      · cases kf with
        | @fr p dx x y h =>
          refine ⟨.fr, .fr h, ?_⟩
          rw [if_pos rfl]
          walk_at "rd"
          simp only [h]
          walk_at "rd"
          exact ⟨by decide, fun t ht => one _ _ rfl (.cons (.str _) (.cons (.int _) (.cons (.int _) .nil))) t ht⟩
        | bl b =>
          refine ⟨.bl, .bl b, ?_⟩
          rw [if_neg (by decide)]
          refine ⟨.bl, .bl b, by decide, ?_⟩
          rw [if_pos rfl]
          exact ⟨by decide, fun t ht => one _ _ rfl (.cons (.str _) (.cons (.bl _) .nil)) t ht⟩
        | int i =>
          refine ⟨.int, .int i, ?_⟩
          rw [if_neg (by decide)]
          refine ⟨.int, .int i, by decide, ?_⟩
          rw [if_neg (by decide)]
          refine ⟨.int, .int i, ?_⟩
          rw [if_pos (by decide)]
          exact ⟨by decide, fun t ht => one _ _ rfl (.cons (.str _) (.cons (.int _) .nil)) t ht⟩
        | str x h =>
          refine ⟨.str, .str x, ?_⟩
          rw [if_neg (by decide)]
          refine ⟨.str, .str x, by decide, ?_⟩
          rw [if_neg (by decide)]
          refine ⟨.str, .str x, ?_⟩
          rw [if_neg (by decide)]
          refine ⟨.str, .str x, by decide, ?_⟩
          rw [if_pos rfl]
          exact ⟨by decide, fun t ht => one _ _ rfl (.cons (.str _) (.cons (.str _) .nil)) t ht⟩
        | non =>
          refine ⟨.non, .non, ?_⟩
          rw [if_neg (by decide)]
          refine ⟨.non, .non, by decide, ?_⟩
          rw [if_neg (by decide)]
          refine ⟨.non, .non, ?_⟩
          rw [if_neg (by decide)]
          refine ⟨.non, .non, by decide, ?_⟩
          rw [if_neg (by decide), if_pos rfl]
          exact ⟨by decide, fun t ht => one _ _ rfl (.cons (.str _) .nil) t ht⟩
      · have turn : ∀ (H0 : Hp), Same H H0 → ∀ (D : Addr) (i : Nat) (x : V) (H1 : Hp), xs[i]? = some x → Pk K H0 ds D i H1 → spKind K a.C_Frac n [x] H1 (fun y H4 => ∃ acc, H4 D = some (.lst acc) ∧ acc.length < sizeLine ∧ Pk K H0 ds D (i + 1) (upd H4 D (.lst (acc ++ [y])))) E0 := fun H0 e0 D i x H1 hx pk => by
          obtain ⟨d', hd', kd'⟩ := All2.at al hx
          cases n with
          | zero => exact kd'.elim
          | succ n =>
            refine ⟨x, d', rfl, Kd.same (e0.trans pk.2.1) _ _ _ kd', fun y H3 e3 dp => ?_⟩
            obtain ⟨acc, h1, h2, h3⟩ := pk.step hd' e3 dp
            have hi : i < xs.length := (List.getElem?_eq_some_iff.mp hx).1
            exact ⟨acc, h1, small1000 (by omega), h3⟩
        have len := All2.len al
        have fin : ∀ (w : Str) (H0 H1 : Hp) (D : Addr), Same H H0 → Pk K H0 ds D xs.length H1 → d = .tuple [.str w, .list ds, .int xs.length] → ∀ t, H1 t = none → Q (.ref t) (upd H1 t (.tup [.str w, .ref D, .int xs.length])) := fun w H0 H1 D e0 pk e t ht => by
          subst e
          rw [len] at pk
          have z := pk.done
          have sa := e0.trans z.2
          exact k _ _ (sa.trans (same_upd ht)) (new_tup sa ht (.cons (.str _) (.cons (dp_same (New.sub e0) _ _ z.1) (.cons (.int _) .nil))))
        rcases hh with ⟨h, rfl⟩ | ⟨h, rfl⟩
        · refine ⟨.lst, .lst h, ?_⟩
          rw [if_neg (by decide)]
          refine ⟨.lst, .lst h, by decide, ?_⟩
          rw [if_neg (by decide)]
          refine ⟨.lst, .lst h, ?_⟩
          rw [if_neg (by decide)]
          refine ⟨.lst, .lst h, by decide, ?_⟩
          rw [if_neg (by decide), if_neg (by simp)]
          refine ⟨.lst, .lst h, by decide, ?_⟩
          rw [if_pos rfl]
          simp only [tSl, tNoPart, tPart, rSlL]
          walk_at "rd"
          refine ⟨xs, SqL.of h, fun c hc => ?_⟩
          rw [cut3 hl]
          have e0 : Same H (upd H c (.lst xs)) := same_upd hc
          have hc0 : (upd H c (.lst xs)) c = some (.lst xs) := upd_same
          generalize upd H c (.lst xs) = H0 at e0 hc0 ⊢
          refine ⟨⟨_, SqL.of hc0⟩, Rd.lcl_list (xs := xs) (Pk K H0 ds) (fun D hD => Pk.zero hD) (fun D i H1 _ pk => SqL.of (pk.2.1 _ _ hc0)) (fun D i x H1 hx pk => ?_) (fun D H1 _ pk => ?_)⟩
          · walk_at "rd"
            exact turn H0 e0 D i x H1 hx pk
          · exact ⟨xs, SqL.of (pk.2.1 _ _ (e0 _ _ h)), by decide, fin _ H0 H1 D e0 pk rfl⟩
        · refine ⟨.tup, .tup h, ?_⟩
          rw [if_neg (by decide)]
          refine ⟨.tup, .tup h, by decide, ?_⟩
          rw [if_neg (by decide)]
          refine ⟨.tup, .tup h, ?_⟩
          rw [if_neg (by decide)]
          refine ⟨.tup, .tup h, by decide, ?_⟩
          rw [if_neg (by decide), if_neg (by simp)]
          refine ⟨.tup, .tup h, by decide, ?_⟩
          rw [if_neg (by decide)]
          refine ⟨.tup, .tup h, by decide, ?_⟩
          rw [if_pos rfl]
          simp only [tSl, tNoPart, tPart, rSlA]
          walk_at "rd"
          refine ⟨xs, SqT.of h, fun _ => ⟨⟨_, SqT.of h⟩, lcl_tup (xs := xs) (Pk K H ds) (fun D hD => Pk.zero hD) (fun D i H1 _ pk => SqT.of (pk.2.1 _ _ h)) (fun D i x H1 hx pk => ?_) (fun D H1 _ pk => ?_)⟩, fun no => absurd (six3 hl) no⟩
          · walk_at "rd"
            exact turn H (fun _ _ z => z) D i x H1 hx pk
          · exact ⟨xs, SqT.of (pk.2.1 _ _ h), by decide, fin _ H H1 D (fun _ _ z => z) pk rfl⟩
theorem okH_law_kindN (T : Txt K mg a) : ∀ n, L2H.FnH P w K mg base CX0 n a.a_law_kind a.d_law_kind ["value"] (spKind K a.C_Frac n)
  | 0 => fnH_zero
  | n + 1 => by
    have ih := okH_law_kindN T n
    refine okH T.fn_law_kind sc_law_kind (fun vs H Q E h => ?_) (fun cdv A outer s H vs Q E hp hot hr h => ?_)
    · obtain ⟨v, d, rfl, _⟩ := h
      rfl
    · obtain ⟨v, d, rfl, kd, k⟩ := h
      refine ⟨_, (pss_cons (ps_if (pt_val (pe_callB (call_isF T) (by rfl) T.no_isinstance (by decide +kernel) (pa_cons (pv 0) (pa_cons (pe_glob (v := .ref a.C_Frac) rfl T.mg_Frac rfl) pa_nil)))) (pss_one (ps_ret (pe_tup (pa_cons pe_str (pa_cons (pe_num T (pv 0)) (pa_cons (pe_den T (pv 0)) pa_nil)))))) pss_nil)
      (pss_cons (ps_if (pt_val (pe_callB (call_isB T .bl) (by rfl) T.no_isinstance (by decide +kernel) (pa_cons (pv 0) (pa_cons (pe_bltn (v := .ty "bool") (u := .type "bool") (by rfl) T.no_bool (by decide +kernel) rfl) pa_nil)))) (pss_one (ps_ret (pe_tup (pa_cons pe_str (pa_cons (pv 0) pa_nil))))) pss_nil)
      (pss_cons (ps_if (pt_val (pe_callB (call_isB T .int) (by rfl) T.no_isinstance (by decide +kernel) (pa_cons (pv 0) (pa_cons (pe_bltn (v := .ty "int") (u := .type "int") (by rfl) T.no_int (by decide +kernel) rfl) pa_nil)))) (pss_one (ps_ret (pe_tup (pa_cons pe_str (pa_cons (pv 0) pa_nil))))) pss_nil)
      (pss_cons (ps_if (pt_val (pe_callB (call_isB T .str) (by rfl) T.no_isinstance (by decide +kernel) (pa_cons (pv 0) (pa_cons (pe_bltn (v := .ty "str") (u := .type "str") (by rfl) T.no_str (by decide +kernel) rfl) pa_nil)))) (pss_one (ps_ret (pe_tup (pa_cons pe_str (pa_cons (pv 0) pa_nil))))) pss_nil)
      (pss_cons (ps_if (pt_cmpR op_isN (pv 0) pe_non (nomark _)) (pss_one (ps_ret (pe_tup (pa_cons pe_str pa_nil)))) pss_nil)
      (pss_cons (ps_if (pt_val (pe_callB (call_isB T .lst) (by rfl) T.no_isinstance (by decide +kernel) (pa_cons (pv 0) (pa_cons (pe_bltn (v := .ty "list") (u := .type "list") (by rfl) T.no_list (by decide +kernel) rfl) pa_nil)))) (pss_one (ps_ret (pe_tup (pa_cons pe_str (pa_cons (pe_lcH ⟨hp, hot, List.mem_singleton.mpr rfl⟩ (own := [("part", 1)]) sc_law_kind.nd (pi_listH (pe_slice sl_list (pv 0) po_none (po_some pe_int))) (blkOk_by (own := [("part", 1)]) (N := ["value", "part"]) (sc := defScope s_law_kind) (by decide +kernel)) (fun _ _ _ _ _ => pg_name (i := 1) sc_law_kind.nd rfl (Or.inl rfl)) (fun _ _ _ _ _ => (L2H.pe_callH ih hr ⟨hp, hot, List.mem_singleton.mpr rfl⟩ (by rfl) T.mg_law_kind T.fn_law_kind.kp T.b_law_kind (fun _ => passAt0) (pa_cons (pv 1) pa_nil)))) (pa_cons (pe_callB Rd.call_lenL (by rfl) T.no_len PySem.boot_len (pa_cons (pv 0) pa_nil)) pa_nil)))))) pss_nil)
      (pss_cons (ps_if (pt_val (pe_callB (call_isB T .tup) (by rfl) T.no_isinstance (by decide +kernel) (pa_cons (pv 0) (pa_cons (pe_bltn (v := .ty "tuple") (u := .type "tuple") (by rfl) T.no_tuple (by decide +kernel) rfl) pa_nil)))) (pss_one (ps_ret (pe_tup (pa_cons pe_str (pa_cons (pe_lcH ⟨hp, hot, List.mem_singleton.mpr rfl⟩ (own := [("part", 1)]) sc_law_kind.nd (pi_tupH (pe_slice sl_tupA (pv 0) po_none (po_some pe_int))) (blkOk_by (own := [("part", 1)]) (N := ["value", "part"]) (sc := defScope s_law_kind) (by decide +kernel)) (fun _ _ _ _ _ => pg_name (i := 1) sc_law_kind.nd rfl (Or.inl rfl)) (fun _ _ _ _ _ => (L2H.pe_callH ih hr ⟨hp, hot, List.mem_singleton.mpr rfl⟩ (by rfl) T.mg_law_kind T.fn_law_kind.kp T.b_law_kind (fun _ => passAt0) (pa_cons (pv 1) pa_nil)))) (pa_cons (pe_callB Rd.call_lenT (by rfl) T.no_len PySem.boot_len (pa_cons (pv 0) pa_nil)) pa_nil)))))) pss_nil)
      (pss_one (ps_ret (pe_tup (pa_cons pe_str pa_nil))))))))))), ?_⟩
      show (_ : TS) _ [some v, none] H
      walk_at "rdh"
      have one : ∀ (xs : List V) (ds : List PyData), d = .tuple ds → DpAll K (New H H) xs ds → ∀ t, H t = none → Q (.ref t) (upd H t (.tup xs)) := fun xs ds e h t ht => by
        subst e
        exact k _ _ (same_upd ht) (new_tup (fun _ _ z => z) ht h)
      rcases kd with kf | ⟨p, xs, ds, rfl, hl, al, hh⟩
      · cases kf with
        | @fr p dx x y h =>
          refine ⟨.fr, .fr h, ?_⟩
          rw [if_pos rfl]
          walk_at "rdh"
          simp only [h]
          walk_at "rdh"
          exact ⟨by decide, fun t ht => one _ _ rfl (.cons (.str _) (.cons (.int _) (.cons (.int _) .nil))) t ht⟩
        | bl b =>
          refine ⟨.bl, .bl b, ?_⟩
          rw [if_neg (by decide)]
          refine ⟨.bl, .bl b, by decide, ?_⟩
          rw [if_pos rfl]
          exact ⟨by decide, fun t ht => one _ _ rfl (.cons (.str _) (.cons (.bl _) .nil)) t ht⟩
        | int i =>
          refine ⟨.int, .int i, ?_⟩
          rw [if_neg (by decide)]
          refine ⟨.int, .int i, by decide, ?_⟩
          rw [if_neg (by decide)]
          refine ⟨.int, .int i, ?_⟩
          rw [if_pos (by decide)]
          exact ⟨by decide, fun t ht => one _ _ rfl (.cons (.str _) (.cons (.int _) .nil)) t ht⟩
        | str x h =>
          refine ⟨.str, .str x, ?_⟩
          rw [if_neg (by decide)]
          refine ⟨.str, .str x, by decide, ?_⟩
          rw [if_neg (by decide)]
          refine ⟨.str, .str x, ?_⟩
          rw [if_neg (by decide)]
          refine ⟨.str, .str x, by decide, ?_⟩
          rw [if_pos rfl]
          exact ⟨by decide, fun t ht => one _ _ rfl (.cons (.str _) (.cons (.str _) .nil)) t ht⟩
        | non =>
          refine ⟨.non, .non, ?_⟩
          rw [if_neg (by decide)]
          refine ⟨.non, .non, by decide, ?_⟩
          rw [if_neg (by decide)]
          refine ⟨.non, .non, ?_⟩
          rw [if_neg (by decide)]
          refine ⟨.non, .non, by decide, ?_⟩
          rw [if_neg (by decide), if_pos rfl]
          exact ⟨by decide, fun t ht => one _ _ rfl (.cons (.str _) .nil) t ht⟩
      · have turn : ∀ (H0 : Hp), Same H H0 → ∀ (D : Addr) (i : Nat) (x : V) (H1 : Hp), xs[i]? = some x → Pk K H0 ds D i H1 → spKind K a.C_Frac n [x] H1 (fun y H4 => ∃ acc, H4 D = some (.lst acc) ∧ acc.length < sizeLine ∧ Pk K H0 ds D (i + 1) (upd H4 D (.lst (acc ++ [y])))) E0 := fun H0 e0 D i x H1 hx pk => by
          obtain ⟨d', hd', kd'⟩ := All2.at al hx
          cases n with
          | zero => exact kd'.elim
          | succ n =>
            refine ⟨x, d', rfl, Kd.same (e0.trans pk.2.1) _ _ _ kd', fun y H3 e3 dp => ?_⟩
            obtain ⟨acc, h1, h2, h3⟩ := pk.step hd' e3 dp
            have hi : i < xs.length := (List.getElem?_eq_some_iff.mp hx).1
            exact ⟨acc, h1, small1000 (by omega), h3⟩
        have len := All2.len al
        have fin : ∀ (w : Str) (H0 H1 : Hp) (D : Addr), Same H H0 → Pk K H0 ds D xs.length H1 → d = .tuple [.str w, .list ds, .int xs.length] → ∀ t, H1 t = none → Q (.ref t) (upd H1 t (.tup [.str w, .ref D, .int xs.length])) := fun w H0 H1 D e0 pk e t ht => by
          subst e
          rw [len] at pk
          have z := pk.done
          have sa := e0.trans z.2
          exact k _ _ (sa.trans (same_upd ht)) (new_tup sa ht (.cons (.str _) (.cons (dp_same (New.sub e0) _ _ z.1) (.cons (.int _) .nil))))
        rcases hh with ⟨h, rfl⟩ | ⟨h, rfl⟩
        · refine ⟨.lst, .lst h, ?_⟩
          rw [if_neg (by decide)]
          refine ⟨.lst, .lst h, by decide, ?_⟩
          rw [if_neg (by decide)]
          refine ⟨.lst, .lst h, ?_⟩
          rw [if_neg (by decide)]
          refine ⟨.lst, .lst h, by decide, ?_⟩
          rw [if_neg (by decide), if_neg (by simp)]
          refine ⟨.lst, .lst h, by decide, ?_⟩
          rw [if_pos rfl]
          simp only [tSl, tNoPart, tPart, rSlL]
          walk_at "rdh"
          refine ⟨xs, SqL.of h, fun c hc => ?_⟩
          rw [cut3 hl]
          have e0 : Same H (upd H c (.lst xs)) := same_upd hc
          have hc0 : (upd H c (.lst xs)) c = some (.lst xs) := upd_same
          generalize upd H c (.lst xs) = H0 at e0 hc0 ⊢
          refine ⟨⟨_, SqL.of hc0⟩, Rd.lcl_list (xs := xs) (Pk K H0 ds) (fun D hD => Pk.zero hD) (fun D i H1 _ pk => SqL.of (pk.2.1 _ _ hc0)) (fun D i x H1 hx pk => ?_) (fun D H1 _ pk => ?_)⟩
          · walk_at "rdh"
            exact turn H0 e0 D i x H1 hx pk
          · exact ⟨xs, SqL.of (pk.2.1 _ _ (e0 _ _ h)), by decide, fin _ H0 H1 D e0 pk rfl⟩
        · refine ⟨.tup, .tup h, ?_⟩
          rw [if_neg (by decide)]
          refine ⟨.tup, .tup h, by decide, ?_⟩
          rw [if_neg (by decide)]
          refine ⟨.tup, .tup h, ?_⟩
          rw [if_neg (by decide)]
          refine ⟨.tup, .tup h, by decide, ?_⟩
          rw [if_neg (by decide), if_neg (by simp)]
          refine ⟨.tup, .tup h, by decide, ?_⟩
          rw [if_neg (by decide)]
          refine ⟨.tup, .tup h, by decide, ?_⟩
          rw [if_pos rfl]
          simp only [tSl, tNoPart, tPart, rSlA]
          walk_at "rdh"
          refine ⟨xs, SqT.of h, fun _ => ⟨⟨_, SqT.of h⟩, lcl_tup (xs := xs) (Pk K H ds) (fun D hD => Pk.zero hD) (fun D i H1 _ pk => SqT.of (pk.2.1 _ _ h)) (fun D i x H1 hx pk => ?_) (fun D H1 _ pk => ?_)⟩, fun no => absurd (six3 hl) no⟩
          · walk_at "rdh"
            exact turn H (fun _ _ z => z) D i x H1 hx pk
          · exact ⟨xs, SqT.of (pk.2.1 _ _ h), by decide, fin _ H H1 D (fun _ _ z => z) pk rfl⟩
end
end K02
namespace K02
open PySem PySem.Spec PyProof.Rows L2 Own OwnHot OwnExN
local macro_rules | `(tactic| walk_at "rd") => `(tactic| simp only [tSeq, tAsg, tOp, tUn, tVar, gName, gSub, rIxL, rIxT, rSetL, tC, rI0, rI, rU, rEq, rNe, tCons, tNil, tCB, tLst, tTup, tIfS, tAnd, tOr, tNot, tAndV, tOrV, tNotV, tTest, tB, tIf, tRet, tDrop, tNext, tBreak, tCont, tCall, tCallS, tMakeS, tMakeKS, tMethS, tXf, wAs, L2.WE, tMake, tMkO, sFld, tOst, tNum, tDen, tNever, tBits, rIs, rIsB, clv, isB, rGcd,
  Rd.tFor_rng1, Rd.tFor_rng2, Rd.tFor_list, Rd.tFor_tup, Rd.tLc_list, Rd.tLc_tup, Rd.tLc_rng1, Rd.LcTurn, tYes, wipe, Rd.rLenL, Rd.rLenT, Rd.rIntI, Rd.rIxH, rIxHT, HO.tup.injEq, Rd.at0, Rd.at1, Rd.at2, Rd.at3, Rd.ixN40, Rd.ixN41, Rd.ixN42, Rd.ixN43, Rd.scal_ii, cxOf,
  List.length_cons, List.length_nil, List.length_map, List.map_cons, List.map_nil, upd_same, decide_eq_true_eq, decide_true, decide_false, if_true, if_false, Bool.false_eq_true, Bool.not_true, Bool.not_false, HO.lst.injEq, HO.ins.injEq, ff_inj, List.set_cons_zero, List.set_cons_succ, List.getElem?_cons_zero, List.getElem?_cons_succ, List.append_nil, List.nil_append, List.cons_append, Option.some.injEq, V.ref.injEq, V.int.injEq, V.bl.injEq, List.cons.injEq, exists_eq_left', exists_and_left, exists_eq_left, true_and, and_true, and_self, and_assoc, implies_true, reduceCtorEq, Nat.reduceAdd])

theorem roomM {k : Nat} {A : Around} {h : Option Value} (r : Room k A) : L2H.RoomH k (A.mark h) := ⟨r.dp, r.un⟩
theorem eqD_at {X : Cx} (K : PySem.W.Frag) (hu : X.A.units + 64 < cLine) (hK : X.K = K := by rfl) : OpR X (compareOp .Eq) (rEqD K) := by
  subst hK
  exact op_eqD hu
theorem lenT_at {X : Cx} (K : PySem.W.Frag) (hK : X.K = K := by rfl) : CallR X (.builtin "len") (Rd.rLenT K) := by
  subst hK
  exact Rd.call_lenT
theorem xval {v : V} : List.lookup ("value" : Str) [(("value" : Str), v)] = some v := by rw [lookup_put, if_pos rfl]
theorem hotN {A : Around} {a : Addr} {oe : Obj} {cls : Value} {d : Option Addr} (hz : L2N.Zn cls d oe) (hf : ∃ vs, oe.data = .fields vs) : L2H.Hot1 (A.mark (some (.ref a))) (a, oe) := ⟨rfl, let ⟨v, e⟩ := hf; ⟨v, e, hz.2.2 v e⟩⟩
theorem dp_eq {K : PySem.W.Frag} {H : Hp} {x y : V} {d : PyData} {Q : VK} (hx : Dp K H x d) (hy : Dp K H y d) (hs : SeqAt.shaped d = true) (q : Q (.bl true) H) : rEqD K x y H Q :=
  ⟨d, d, hx, hy, hs, hs, by rw [SeqAt.eqv_refl d (SeqAt.canLay_of_shaped hs)]; exact q⟩
section
variable {P : Program} {w : World} {K : PySem.W.Frag} {mg : Str → Option Value} {base : Heap} {a : Ad}
theorem ok_law_kind (T : Txt K mg a) : FnOk P w K mg base CX0 4 a.a_law_kind a.d_law_kind ["value"] (spKind K a.C_Frac 4) := ok_law_kindN T 4
theorem okH_law_kind (T : Txt K mg a) : L2H.FnH P w K mg base CX0 4 a.a_law_kind a.d_law_kind ["value"] (spKind K a.C_Frac 4) := okH_law_kindN T 4
/-! ### _law_not_divided -/
def spNot (K : PySem.W.Frag) (C : Addr) : Sp := fun vs H Q _ => ∃ (p dx : Addr) (n1 d1 : Int) (v : V) (g : Tg) (d : PyData), vs = [.ref p, v] ∧ H p = some (.ins C dx (ff n1 d1)) ∧ Ty C H v g ∧ Kd C H 4 v d ∧
  (g = .fr → ∃ q dy d2, v = .ref q ∧ H q = some (.ins C dy (ff 0 d2))) ∧ ∀ H', Same H H' → Q (.bl true) H'
theorem sc_law_not_divided : FnScope ["one", "other", "due", "e"] ["one", "other"] (defScope s_law_not_divided) := ⟨rfl, rfl, rfl, by decide +kernel, rfl, by decide +kernel, by decide +kernel⟩
theorem ok_law_not_divided (T : Txt K mg a) : FnOk P w K mg base CX0 6 a.a_law_not_divided a.d_law_not_divided ["one", "other"] (spNot K a.C_Frac) := by
  refine T.fn_law_not_divided.ok sc_law_not_divided (fun vs H Q E h => ?_) (fun cdv A outer s H vs Q E hr h => ?_)
  · obtain ⟨p, dx, n1, d1, v, g, d, rfl, _⟩ := h
    rfl
  · obtain ⟨p, dx, n1, d1, v, g, d, rfl, hp, t, kd, hg, k⟩ := h
    refine ⟨_, (pss_cons (ps_set (i := 2) sc_law_not_divided.nd rfl (Or.inl rfl) (pe_call (ok_law_kind T) (hr.mono (by decide)) (by rfl) T.mg_law_kind T.fn_law_kind.kp T.b_law_kind .nil pass0 (pa_cons (pv 1) pa_nil)))
      (pss_cons (L2N.ps_try_as (i := 3) rfl rfl sc_law_not_divided.nd rfl rfl ⟨rfl, by decide, .inl T.mg_InvalidFraction⟩ takesN0
        (fun W pn xe tk _ => (pss_one (ps_expr (pe_methS (pv 0) T.cl_Frac T.mt_Frac_divided_by (ok_Frac_divided_by T) (hr.mono (by decide)) T.b_Frac_divided_by (fun σ => L2N.passAt tk σ) (pa_cons (pv 1) pa_nil)))))
        (fun ea oe cls d pn hz hf => (pss_one (ps_ret (pe_cmpR (eqD_at K hr.units) (L2H.pe_callH (okH_law_kind T) ((roomM hr).mono (by decide)) ⟨(ea, oe), hotN hz hf, List.mem_cons_self⟩ (by rfl) T.mg_law_kind T.fn_law_kind.kp T.b_law_kind (fun _ => passAt0) (pa_cons (pe_xf T.xf_InvalidFraction T.na_InvalidFraction_value hz.zc hf (pv 3)) pa_nil)) (pv 2) (nomark _))))))
      (pss_one (ps_ret pe_bl)))), ?_⟩
    show (_ : TS) _ [some (V.ref p), some v, none, none] H
    walk_at "rd"
    have only : ∀ q dy n2 d2, v = .ref q → H q = some (.ins a.C_Frac dy (ff n2 d2)) → g = .fr := fun q dy n2 d2 ev hq => by
      subst ev
      cases t with
      | lst h => rw [h] at hq; cases hq
      | tup h => rw [h] at hq; cases hq
      | fr h => rfl
    have Hne : ∀ {H1 : Hp}, Same H H1 → ∀ q dy n2 d2, v = .ref q → H1 q = some (.ins a.C_Frac dy (ff n2 d2)) → g = .fr := fun e1 q dy n2 d2 ev hq => by
      subst ev
      cases t with
      | lst h => rw [e1 _ _ h] at hq; cases hq
      | tup h => rw [e1 _ _ h] at hq; cases hq
      | fr h => rfl
    refine ⟨v, d, rfl, kd, fun x H1 e1 dx1 => ?_⟩
    have hp1 := e1 _ _ hp
    refine ⟨dx, ff n1 d1, hp1, ff_no n1 d1 (by decide +kernel) (by decide +kernel), p, dx, n1, d1, v, g, rfl, hp1, t.same e1, (fun z => let ⟨q, dy, d2, e, h⟩ := hg z; ⟨q, dy, 0, d2, e, e1 _ _ h⟩), (fun q dy n2 d2 ev hq hn => ?_), fun _ d' H2 hd hx s2 => ⟨true, T.xm_InvalidFraction, fun _ ea hea => ?_, fun z => nomatch z⟩⟩
    · obtain ⟨q', dy', d2', ev', hq'⟩ := hg (Hne e1 q dy n2 d2 ev hq)
      rw [ev] at ev'
      cases ev'
      rw [e1 _ _ hq'] at hq
      have := congrArg (fun z => z) hq
      simp only [Option.some.injEq, HO.ins.injEq, ff_inj] at this
      exact absurd this.2.2.1.symm hn
    · walk_at "rd"
      exact ⟨_, hx, v, by rw [lookup_put, if_pos rfl], v, d, rfl, Kd.same (e1.trans s2) _ _ _ kd, fun y H3 e3 dy => dp_eq (dp_same New.all _ _ dy) (dp_same ((New.all.trans s2).trans e3) _ _ dx1) (kd.shaped (by decide)) (k _ ((e1.trans s2).trans e3))⟩
/-! ### _law_refused -/
def spRefused (K : PySem.W.Frag) (C : Addr) : Sp := fun vs H Q _ => ∃ (v1 v2 : V) (i : Int) (g1 g2 : Tg) (d1 d2 : PyData), vs = [v1, v2, .int i] ∧ Ty C H v1 g1 ∧ Ty C H v2 g2 ∧ Kd C H 3 v1 d1 ∧ Kd C H 3 v2 d2 ∧
  (i = 0 ∨ i = 1 → ¬ good v1 v2) ∧ (¬ (i = 0 ∨ i = 1) → ¬ good v1 (.int 1)) ∧ ∀ H', Same H H' → Q (.bl true) H'
theorem sc_law_refused : FnScope ["num", "den", "shape", "due", "e"] ["num", "den", "shape"] (defScope s_law_refused) := ⟨rfl, rfl, rfl, by decide +kernel, rfl, by decide +kernel, by decide +kernel⟩
theorem ok_law_refused (T : Txt K mg a) : FnOk P w K mg base CX0 6 a.a_law_refused a.d_law_refused ["num", "den", "shape"] (spRefused K a.C_Frac) := by
  refine T.fn_law_refused.ok sc_law_refused (fun vs H Q E h => ?_) (fun cdv A outer s H vs Q E hr h => ?_)
  · obtain ⟨v1, v2, i, g1, g2, d1, d2, rfl, _⟩ := h
    rfl
  · obtain ⟨v1, v2, i, g1, g2, d1, d2, rfl, t1, t2, k1, k2, no1, no2, k⟩ := h
    obtain ⟨b2d, b2v, b2b⟩ := b2 T
    obtain ⟨kb2d, kb2b⟩ := kb2 T
    refine ⟨_, (pss_cons (ps_set (i := 3) sc_law_refused.nd rfl (Or.inl rfl) (pe_call (ok_law_kind T) (hr.mono (by decide)) (by rfl) T.mg_law_kind T.fn_law_kind.kp T.b_law_kind .nil pass0 (pa_cons (pe_tup (pa_cons (pv 0) (pa_cons (pv 1) pa_nil))) pa_nil)))
      (pss_cons (L2N.ps_try_as (i := 4) rfl rfl sc_law_refused.nd rfl rfl ⟨rfl, by decide, .inl T.mg_InvalidFraction⟩ takesN0
        (fun W pn xe tk _ => (pss_one (ps_if (pt_cmpR op_eq (pv 2) pe_int (nomark _)) (pss_one (ps_expr (pe_makeS T.mk_Frac (ok_Frac_init T) (hr.mono (by decide)) (by rfl) T.mg_Frac (b3 T) .nil (fun σ => L2N.passAt tk σ) (pa_cons (pv 0) (pa_cons (pv 1) pa_nil))))) (pss_one (ps_if (pt_cmpR op_eq (pv 2) pe_int (nomark _)) (pss_one (ps_expr (pe_makeKS T.mk_Frac (ok_Frac_init T) (hr.mono (by decide)) (by rfl) T.mg_Frac kb2b (fun _ _ => rfl) (fun _ _ => rfl) (fun σ => L2N.passAt tk σ) (pk_cons (pv 1) (pk_cons (pv 0) pk_nil))))) (pss_cons (ps_set (i := 3) sc_law_refused.nd rfl (Or.inl rfl) (pe_call (ok_law_kind T) (hr.mono (by decide)) (by rfl) T.mg_law_kind T.fn_law_kind.kp T.b_law_kind .nil pass0 (pa_cons (pe_tup (pa_cons (pv 0) (pa_cons pe_int pa_nil))) pa_nil)))
              (pss_one (ps_expr (pe_makeS T.mk_Frac (ok_Frac_init T) (hr.mono (by decide)) (by rfl) T.mg_Frac b2b b2v (fun σ => L2N.passAt tk σ) (pa_cons (pv 0) pa_nil))))))))))
        (fun ea oe cls d pn hz hf => (pss_one (ps_ret (pe_and (pe_callB (call_isB T .tup) (by rfl) T.no_isinstance (by decide +kernel) (pa_cons (pe_xf T.xf_InvalidFraction T.na_InvalidFraction_value hz.zc hf (pv 4)) (pa_cons (pe_bltn (v := .ty "tuple") (u := .type "tuple") (by rfl) T.no_tuple (by decide +kernel) rfl) pa_nil))) (pe_and (pe_cmpR op_eq (pe_callB (lenT_at K) (by rfl) T.no_len PySem.boot_len (pa_cons (pe_xf T.xf_InvalidFraction T.na_InvalidFraction_value hz.zc hf (pv 4)) pa_nil)) pe_int (nomark _)) (pe_one (pe_cmpR (eqD_at K hr.units) (L2H.pe_callH (okH_law_kind T) ((roomM hr).mono (by decide)) ⟨(ea, oe), hotN hz hf, List.mem_cons_self⟩ (by rfl) T.mg_law_kind T.fn_law_kind.kp T.b_law_kind (fun _ => passAt0) (pa_cons (pe_xf T.xf_InvalidFraction T.na_InvalidFraction_value hz.zc hf (pv 4)) pa_nil)) (pv 3) (nomark _)))))))))
      (pss_one (ps_ret pe_bl)))), ?_⟩
    show (_ : TS) _ [some v1, some v2, some (V.int i), none, none] H
    walk_at "rd"
    refine ⟨by decide, fun p hp => ?_⟩
    have s0 : Same H (upd H p (.tup [v1, v2])) := same_upd hp
    have hp0 : (upd H p (.tup [v1, v2])) p = some (.tup [v1, v2]) := upd_same
    generalize upd H p (.tup [v1, v2]) = H0 at s0 hp0 ⊢
    have kp : Kd a.C_Frac H0 4 (.ref p) (.tuple [.str "tuple", .list [d1, d2], .int 2]) := .inr ⟨p, [v1, v2], [d1, d2], rfl, by show 2 ≤ 3; decide, ⟨Kd.same s0 _ _ _ k1, Kd.same s0 _ _ _ k2, trivial⟩, .inr ⟨hp0, rfl⟩⟩
    refine ⟨_, _, rfl, kp, fun x H1 e1 dx => ?_⟩
    have s1 := s0.trans e1
    refine ite2 (fun hi xx dxx hxx hdx hne => ?_) (fun hi => ite2 (fun hj xx dxx hxx hdx hne => ?_) (fun hj => ?_))
    · have sHx : Same H1 (upd (upd H1 dxx (.own xx)) xx (.ins a.C_Frac dxx [])) := (same_upd hdx).trans (same_upd (by rw [upd_ne (Ne.symm hne)]; exact hxx))
      refine ⟨xx, dxx, v1, v2, g1, g2, rfl, upd_same, t1.same (s1.trans sHx), Ty.same (s1.trans sHx) t2, fun n d q1 q2 q3 => absurd ⟨n, d, q1, q2, q3⟩ (no1 (.inl hi)), fun _ t d' H' ht hd' h1 h2 s3 => ⟨true, T.xm_InvalidFraction, fun _ ea hea => ?_, fun z => nomatch z⟩⟩
      walk_at "rd"
      simp only [h2]
      walk_at "rd"
      have sH' := (s1.trans sHx).trans s3
      have kt : Kd a.C_Frac H' 4 (.ref t) (.tuple [.str "tuple", .list [d1, _], .int 2]) := .inr ⟨t, [v1, v2], [d1, d2], rfl, by show 2 ≤ 3; decide, ⟨Kd.same sH' _ _ _ k1, Kd.same sH' _ _ _ k2, trivial⟩, .inr ⟨h1, rfl⟩⟩
      refine ⟨_, rfl, _, xval, .tup, .tup h1, by decide, ?_⟩
      rw [if_pos rfl]
      refine ⟨_, rfl, _, xval, t, rfl, _, SqT.of h1, ?_⟩
      rw [if_pos (by rfl)]
      exact ⟨_, rfl, _, xval, .ref t, _, rfl, kt, fun y H3 e3 dy => dp_eq (dp_same New.all _ _ dy) (dp_same (((New.all.trans sHx).trans s3).trans e3) _ _ dx) (kt.shaped (by decide)) (k _ (sH'.trans e3))⟩
    · have sHx : Same H1 (upd (upd H1 dxx (.own xx)) xx (.ins a.C_Frac dxx [])) := (same_upd hdx).trans (same_upd (by rw [upd_ne (Ne.symm hne)]; exact hxx))
      refine ⟨xx, dxx, v1, v2, g1, g2, rfl, upd_same, t1.same (s1.trans sHx), Ty.same (s1.trans sHx) t2, fun n d q1 q2 q3 => absurd ⟨n, d, q1, q2, q3⟩ (no1 (.inr hj)), fun _ t d' H' ht hd' h1 h2 s3 => ⟨true, T.xm_InvalidFraction, fun _ ea hea => ?_, fun z => nomatch z⟩⟩
      walk_at "rd"
      simp only [h2]
      walk_at "rd"
      have sH' := (s1.trans sHx).trans s3
      have kt : Kd a.C_Frac H' 4 (.ref t) (.tuple [.str "tuple", .list [d1, _], .int 2]) := .inr ⟨t, [v1, v2], [d1, d2], rfl, by show 2 ≤ 3; decide, ⟨Kd.same sH' _ _ _ k1, Kd.same sH' _ _ _ k2, trivial⟩, .inr ⟨h1, rfl⟩⟩
      refine ⟨_, rfl, _, xval, .tup, .tup h1, by decide, ?_⟩
      rw [if_pos rfl]
      refine ⟨_, rfl, _, xval, t, rfl, _, SqT.of h1, ?_⟩
      rw [if_pos (by rfl)]
      exact ⟨_, rfl, _, xval, .ref t, _, rfl, kt, fun y H3 e3 dy => dp_eq (dp_same New.all _ _ dy) (dp_same (((New.all.trans sHx).trans s3).trans e3) _ _ dx) (kt.shaped (by decide)) (k _ (sH'.trans e3))⟩
    · refine ⟨by decide, fun p' hp' => ?_⟩
      have s2 : Same H1 (upd H1 p' (.tup [v1, .int 1])) := same_upd hp'
      have hp1 : (upd H1 p' (.tup [v1, .int 1])) p' = some (.tup [v1, .int 1]) := upd_same
      generalize upd H1 p' (.tup [v1, .int 1]) = H2 at s2 hp1 ⊢
      have s12 := s1.trans s2
      have kp' : Kd a.C_Frac H2 4 (.ref p') (.tuple [.str "tuple", .list [d1, .tuple [.str "integer", .int 1]], .int 2]) := .inr ⟨p', [v1, .int 1], [d1, _], rfl, by show 2 ≤ 3; decide, ⟨Kd.same s12 _ _ _ k1, .inl (.int 1), trivial⟩, .inr ⟨hp1, rfl⟩⟩
      refine ⟨_, _, rfl, kp', fun x' H3 e3 dx' xx dxx hxx hdx hne => ?_⟩
      have s123 := s12.trans e3
      have sHx : Same H3 (upd (upd H3 dxx (.own xx)) xx (.ins a.C_Frac dxx [])) := (same_upd hdx).trans (same_upd (by rw [upd_ne (Ne.symm hne)]; exact hxx))
      refine ⟨xx, dxx, v1, .int 1, g1, .int, rfl, upd_same, t1.same (s123.trans sHx), Ty.same (s123.trans sHx) (.int 1), fun n d q1 q2 q3 => absurd ⟨n, d, q1, q2, q3⟩ (no2 (fun z => z.elim hi hj)), fun _ t d' H' ht hd' h1 h2 s3 => ⟨true, T.xm_InvalidFraction, fun _ ea hea => ?_, fun z => nomatch z⟩⟩
      walk_at "rd"
      simp only [h2]
      walk_at "rd"
      have sH' := (s123.trans sHx).trans s3
      have kt : Kd a.C_Frac H' 4 (.ref t) (.tuple [.str "tuple", .list [d1, _], .int 2]) := .inr ⟨t, [v1, .int 1], [d1, _], rfl, by show 2 ≤ 3; decide, ⟨Kd.same sH' _ _ _ k1, .inl (.int 1), trivial⟩, .inr ⟨h1, rfl⟩⟩
      refine ⟨_, rfl, _, xval, .tup, .tup h1, by decide, ?_⟩
      rw [if_pos rfl]
      refine ⟨_, rfl, _, xval, t, rfl, _, SqT.of h1, ?_⟩
      rw [if_pos (by rfl)]
      exact ⟨_, rfl, _, xval, .ref t, _, rfl, kt, fun y H4 e4 dy => dp_eq (dp_same New.all _ _ dy) (dp_same (((New.all.trans sHx).trans s3).trans e4) _ _ dx') (kt.shaped (by decide)) (k _ (sH'.trans e4))⟩
end
end K02
namespace K02
open PySem PySem.Spec PyProof.Rows L2 Own OwnHot OwnExN
local macro_rules | `(tactic| walk_at "rd") => `(tactic| simp only [tSeq, tAsg, tOp, tUn, tVar, gName, gSub, rIxL, rIxT, rSetL, tC, rI0, rI, rU, rEq, rNe, tCons, tNil, tCB, tLst, tTup, tIfS, tAnd, tOr, tNot, tAndV, tOrV, tNotV, tTest, tB, tIf, tRet, tDrop, tNext, tBreak, tCont, tCall, tMake, tMkO, sFld, tOst, tNum, tDen, tNever, tBits, rIs, rIsB, clv, isB, rGcd,
  Rd.tFor_rng1, Rd.tFor_rng2, Rd.tFor_list, Rd.tFor_tup, Rd.tLc_list, Rd.tLc_tup, Rd.tLc_rng1, Rd.LcTurn, tYes, wipe, Rd.rLenL, Rd.rLenT, Rd.rIntI, Rd.rIxH, rIxHT, HO.tup.injEq, Rd.at0, Rd.at1, Rd.at2, Rd.at3, Rd.ixN40, Rd.ixN41, Rd.ixN42, Rd.ixN43, Rd.scal_ii, cxOf,
  List.length_cons, List.length_nil, List.length_map, List.map_cons, List.map_nil, upd_same, decide_eq_true_eq, decide_true, decide_false, if_true, if_false, Bool.false_eq_true, Bool.not_true, Bool.not_false, HO.lst.injEq, HO.ins.injEq, ff_inj, List.set_cons_zero, List.set_cons_succ, List.getElem?_cons_zero, List.getElem?_cons_succ, List.append_nil, List.nil_append, List.cons_append, Option.some.injEq, V.ref.injEq, V.int.injEq, V.bl.injEq, List.cons.injEq, exists_eq_left', exists_and_left, exists_eq_left, true_and, and_true, and_self, and_assoc, implies_true, reduceCtorEq, Nat.reduceAdd])

theorem But.del {b : Addr} {H H' : Hp} (e : But b H H') : Same (del H b) (del H' b) := fun p o h => by
  by_cases z : p = b
  · rw [z, del_same] at h
    cases h
  · rw [del_ne z] at h ⊢
    exact e p o z h
theorem del_sub {b : Addr} {H : Hp} : Same (del H b) H := fun p o h => by
  by_cases z : p = b
  · rw [z, del_same] at h
    cases h
  · rwa [del_ne z] at h
theorem Wr.no {C : Addr} {H : Hp} {v : V} (w : Wr C H v) {x : V} : ¬ good v x := fun ⟨n, _, e, _⟩ => by
  obtain ⟨g, t, hg⟩ := w.ty
  subst e
  cases t
  exact hg rfl
theorem Wr.no2 {C : Addr} {H : Hp} {v : V} (w : Wr C H v) {x : V} : ¬ good x v := fun ⟨_, n, _, e, _⟩ => by
  obtain ⟨g, t, hg⟩ := w.ty
  subst e
  cases t
  exact hg rfl
section
variable {P : Program} {w : World} {K : PySem.W.Frag} {mg : Str → Option Value} {base : Heap} {a : Ad}
/-! ### _law_bad -/
def spBad (K : PySem.W.Frag) : Sp := fun vs H Q _ => ∃ (b c f : Addr) (ns : List Int) (n1 d1 : Int), vs = [.ref b, .ref f] ∧ BoxAt K H b c ns ∧ H f = some (.tup [.int n1, .int d1]) ∧ Big n1 ∧ Big d1 ∧ d1 ≠ 0 ∧
  ∀ H', BoxAt K H' b c ns → But b H H' → Q (.bl true) H'
theorem sc_law_bad : FnScope ["box", "first", "wrong", "shape"] ["box", "first"] (defScope s_law_bad) := ⟨rfl, rfl, rfl, by decide +kernel, rfl, by decide +kernel, by decide +kernel⟩
theorem ok_law_bad (T : Txt K mg a) : FnOk P w K mg base CX0 7 a.a_law_bad a.d_law_bad ["box", "first"] (spBad K) := by
  refine T.fn_law_bad.ok sc_law_bad (fun vs H Q E h => ?_) (fun cdv A outer s H vs Q E hr h => ?_)
  · obtain ⟨b, c, f, ns, n1, d1, rfl, _⟩ := h
    rfl
  · obtain ⟨b, c, f, ns, n1, d1, rfl, B, hf, s1, s2, h0, k⟩ := h
    refine ⟨_, (pss_cons (ps_set (i := 2) sc_law_bad.nd rfl (Or.inl rfl) (pe_call (ok_law_wrong T) (hr.mono (by decide)) (by rfl) T.mg_law_wrong T.fn_law_wrong.kp T.b_law_wrong .nil pass0 (pa_cons (pv 0) (pa_cons (pv 1) pa_nil))))
      (pss_cons (ps_set (i := 3) sc_law_bad.nd rfl (Or.inl rfl) (pe_call (ok_law_draw T) (hr.mono (by decide)) (by rfl) T.mg_law_draw T.fn_law_draw.kp T.b_law_draw .nil pass0 (pa_cons (pv 0) (pa_cons pe_int pa_nil))))
      (pss_cons (ps_if (pt_cmpR op_eq (pv 3) pe_int (nomark _)) (pss_one (ps_ret (pe_call (ok_law_refused T) (hr.mono (by decide)) (by rfl) T.mg_law_refused T.fn_law_refused.kp T.b_law_refused .nil pass0 (pa_cons (pv 2) (pa_cons (pe_ix ixHT (pv 1) pe_int (fun _ _ => rfl)) (pa_cons (pe_call (ok_law_draw T) (hr.mono (by decide)) (by rfl) T.mg_law_draw T.fn_law_draw.kp T.b_law_draw .nil pass0 (pa_cons (pv 0) (pa_cons pe_int pa_nil))) pa_nil)))))) pss_nil)
      (pss_cons (ps_if (pt_cmpR op_eq (pv 3) pe_int (nomark _)) (pss_one (ps_ret (pe_call (ok_law_refused T) (hr.mono (by decide)) (by rfl) T.mg_law_refused T.fn_law_refused.kp T.b_law_refused .nil pass0 (pa_cons (pe_ix ixHT (pv 1) pe_int (fun _ _ => rfl)) (pa_cons (pv 2) (pa_cons (pe_call (ok_law_draw T) (hr.mono (by decide)) (by rfl) T.mg_law_draw T.fn_law_draw.kp T.b_law_draw .nil pass0 (pa_cons (pv 0) (pa_cons pe_int pa_nil))) pa_nil)))))) pss_nil)
      (pss_cons (ps_if (pt_cmpR op_eq (pv 3) pe_int (nomark _)) (pss_one (ps_ret (pe_call (ok_law_refused T) (hr.mono (by decide)) (by rfl) T.mg_law_refused T.fn_law_refused.kp T.b_law_refused .nil pass0 (pa_cons (pe_ix ixHT (pv 1) pe_int (fun _ _ => rfl)) (pa_cons pe_int (pa_cons (pe_call (ok_law_draw T) (hr.mono (by decide)) (by rfl) T.mg_law_draw T.fn_law_draw.kp T.b_law_draw .nil pass0 (pa_cons (pv 0) (pa_cons pe_int pa_nil))) pa_nil)))))) pss_nil)
      (pss_one (ps_ret (pe_call (ok_law_refused T) (hr.mono (by decide)) (by rfl) T.mg_law_refused T.fn_law_refused.kp T.b_law_refused .nil pass0 (pa_cons (pv 2) (pa_cons pe_int (pa_cons (pe_call (ok_law_draw T) (hr.mono (by decide)) (by rfl) T.mg_law_draw T.fn_law_draw.kp T.b_law_draw .nil pass0 (pa_cons (pv 0) (pa_cons pe_int pa_nil))) pa_nil))))))))))), ?_⟩
    show (_ : TS) _ [some (V.ref b), some (V.ref f), none, none] H
    walk_at "rd"
    have nf : f ≠ b := fun e => by
      obtain ⟨_, _, _, hb, _⟩ := B.ob
      rw [e, hb] at hf
      cases hf
    refine ⟨b, c, f, ns, n1, d1, rfl, B, hf, s1, s2, h0, fun v H1 wr B1 e1 => drw B1 (by decide) (by decide) fun sh H2 p2 q2 B2 e2 => ?_⟩
    have hf2 := e2 _ _ nf (e1 _ _ nf hf)
    simp only [hf2]
    walk_at "rd"
    have w2 := (wr.same (But.del e2))
    have e02 := e1.trans e2
    have ki : ∀ (H3 : Hp) (z : Int), Kd a.C_Frac H3 3 (.int z) (.tuple [.str "integer", .int z]) := fun H3 z => .inl (.int z)
    have left : ∀ (z m : Int), 0 < m → m < 4 → spDraw K [V.ref b, V.int m] H2 (fun x H1 => spRefused K a.C_Frac [v, V.int z, x] H1 Q E0) E0 := fun z m m0 m1 => drw B2 m0 (by omega) fun i H3 p3 q3 B3 e3 => by
      have w3 := (w2.same (But.del e3)).same del_sub
      obtain ⟨g, t, _⟩ := w3.ty
      obtain ⟨d, kd⟩ := w3.kd
      exact ⟨v, .int z, i, g, .int, d, _, rfl, t, .int z, kd, ki H3 z, fun _ => w3.no, fun _ => w3.no, fun H4 e4 => k H4 (B3.same e4) ((e02.trans e3).trans (Same.but e4))⟩
    refine ite2 (fun _ => left d1 3 (by decide) (by decide)) fun _ => ite2 (fun _ => drw B2 (by decide) (by decide) fun i H3 p3 q3 B3 e3 => ?_) fun _ => ite2 (fun _ => drw B2 (by decide) (by decide) fun i H3 p3 q3 B3 e3 => ?_) fun _ => left 0 2 (by decide) (by decide)
    · have w3 := (w2.same (But.del e3)).same del_sub
      obtain ⟨g, t, _⟩ := w3.ty
      obtain ⟨d, kd⟩ := w3.kd
      exact ⟨.int n1, v, i, .int, g, _, d, rfl, .int n1, t, ki H3 n1, kd, fun _ => w3.no2, fun z => absurd (show i = 0 ∨ i = 1 by omega) z, fun H4 e4 => k H4 (B3.same e4) ((e02.trans e3).trans (Same.but e4))⟩
    · exact ⟨.int n1, .int 0, i, .int, .int, _, _, rfl, .int n1, .int 0, ki H3 n1, ki H3 0, fun _ ⟨_, n, _, e, z⟩ => by cases e; exact z rfl, fun z => absurd (show i = 0 ∨ i = 1 by omega) z, fun H4 e4 => k H4 (B3.same e4) ((e02.trans e3).trans (Same.but e4))⟩
end
end K02
namespace K02
open PySem PySem.Spec PyProof.Rows L2 Own OwnHot OwnExN
/-! ### lowest terms -/
theorem gS_abs (n d : Int) : (gS n d).natAbs = Nat.gcd n.natAbs d.natAbs := by
  unfold gS
  split
  · rw [Int.natAbs_neg, Int.natAbs_natCast]
  · rw [Int.natAbs_natCast]
theorem gS_ne {n d : Int} (h : d ≠ 0) : gS n d ≠ 0 := fun z => by
  have a := gS_abs n d
  have p := gcd_pos (n := n) h
  rw [z] at a
  simp at a
  omega
theorem gS_n (n d : Int) : gS n d ∣ n := Int.natAbs_dvd_natAbs.mp (by rw [gS_abs]; exact Nat.gcd_dvd_left _ _)
theorem gS_d (n d : Int) : gS n d ∣ d := Int.natAbs_dvd_natAbs.mp (by rw [gS_abs]; exact Nat.gcd_dvd_right _ _)
theorem LN_eq {n d : Int} (h : d ≠ 0) : n = gS n d * LN n d := by
  obtain ⟨q, e⟩ := gS_n n d
  have g0 := gS_ne (n := n) h
  unfold LN
  generalize gS n d = g at *
  subst e
  rw [Int.mul_fdiv_cancel_left _ g0]
theorem LD_eq {n d : Int} (h : d ≠ 0) : d = gS n d * LD n d := by
  obtain ⟨q, e⟩ := gS_d n d
  have g0 := gS_ne (n := n) h
  unfold LD
  generalize gS n d = g at *
  subst e
  rw [Int.mul_fdiv_cancel_left _ g0]
theorem gS_neg {n d : Int} (h : d < 0) : gS n d < 0 := by
  have a := gS_abs n d
  have p := gcd_pos (n := n) (d := d) (by omega)
  unfold gS at *
  rw [if_pos h] at *
  omega
theorem gS_pos {n d : Int} (h : 0 < d) : 0 < gS n d := by
  have a := gS_abs n d
  have p := gcd_pos (n := n) (d := d) (by omega)
  unfold gS at *
  rw [if_neg (show ¬ d < 0 by omega)] at *
  omega
theorem LD_pos {n d : Int} (h : d ≠ 0) : 0 < LD n d := by
  have e := LD_eq (n := n) h
  rcases Int.lt_or_gt_of_ne h with z | z
  · have g := gS_neg (n := n) z
    generalize gS n d = g' at *
    generalize LD n d = l at *
    rcases Int.lt_trichotomy l 0 with c | c | c
    · have := Int.mul_pos_of_neg_of_neg g c
      omega
    · rw [c] at e; omega
    · exact c
  · have g := gS_pos (n := n) z
    generalize gS n d = g' at *
    generalize LD n d = l at *
    rcases Int.lt_trichotomy l 0 with c | c | c
    · have := Int.mul_neg_of_pos_of_neg g c
      omega
    · rw [c] at e; omega
    · exact c
theorem gS_mul {k n d : Int} (hk : k ≠ 0) (hd : d ≠ 0) : gS (k * n) (k * d) = k * gS n d := by
  have ab : Nat.gcd (k * n).natAbs (k * d).natAbs = k.natAbs * Nat.gcd n.natAbs d.natAbs := by rw [Int.natAbs_mul, Int.natAbs_mul, Nat.gcd_mul_left]
  unfold gS
  rw [ab, Int.natCast_mul]
  generalize ((Nat.gcd n.natAbs d.natAbs : Nat) : Int) = g
  rcases Int.lt_or_gt_of_ne hk with hk | hk <;> rcases Int.lt_or_gt_of_ne hd with hd | hd
  · rw [if_neg (by have := Int.mul_pos_of_neg_of_neg hk hd; omega), if_pos hd, show (k.natAbs : Int) = -k by omega, Int.neg_mul, Int.mul_neg]
  · rw [if_pos (Int.mul_neg_of_neg_of_pos hk hd), if_neg (by omega), show (k.natAbs : Int) = -k by omega, Int.neg_mul, Int.neg_neg]
  · rw [if_pos (Int.mul_neg_of_pos_of_neg hk hd), if_pos hd, show (k.natAbs : Int) = k by omega, Int.mul_neg]
  · rw [if_neg (by have := Int.mul_pos hk hd; omega), if_neg (by omega), show (k.natAbs : Int) = k by omega]
theorem LN_mul {k n d : Int} (hk : k ≠ 0) (hd : d ≠ 0) : LN (k * n) (k * d) = LN n d := by
  have e := LN_eq (n := n) hd
  have g0 := gS_ne (n := n) hd
  show (k * n).fdiv (gS (k * n) (k * d)) = LN n d
  rw [gS_mul hk hd]
  generalize LN n d = l at *
  generalize gS n d = g at *
  rw [e, ← Int.mul_assoc, Int.mul_fdiv_cancel_left _ (Int.mul_ne_zero hk g0)]
theorem LD_mul {k n d : Int} (hk : k ≠ 0) (hd : d ≠ 0) : LD (k * n) (k * d) = LD n d := by
  have e := LD_eq (n := n) hd
  have g0 := gS_ne (n := n) hd
  show (k * d).fdiv (gS (k * n) (k * d)) = LD n d
  rw [gS_mul hk hd]
  generalize LD n d = l at *
  generalize gS n d = g at *
  rw [e, ← Int.mul_assoc, Int.mul_fdiv_cancel_left _ (Int.mul_ne_zero hk g0)]
theorem low_mul {k n d n' d' : Int} (hk : k ≠ 0) (hd : d ≠ 0) (hn : n' = k * n) (hd' : d' = k * d) : LN n d = LN n' d' ∧ LD n d = LD n' d' := by
  subst hn hd'
  exact ⟨(LN_mul hk hd).symm, (LD_mul hk hd).symm⟩
section
variable {n1 d1 n2 d2 : Int}
theorem low_add (h1 : d1 ≠ 0) (h2 : d2 ≠ 0) : LN (oAdd (LN n1 d1) (LD n1 d1) (LN n2 d2) (LD n2 d2)).1 (oAdd (LN n1 d1) (LD n1 d1) (LN n2 d2) (LD n2 d2)).2 = LN (n1 * d2 + n2 * d1) (d1 * d2) ∧ LD (oAdd (LN n1 d1) (LD n1 d1) (LN n2 d2) (LD n2 d2)).1 (oAdd (LN n1 d1) (LD n1 d1) (LN n2 d2) (LD n2 d2)).2 = LD (n1 * d2 + n2 * d1) (d1 * d2) := by
  have a1 := LN_eq (n := n1) h1
  have a2 := LD_eq (n := n1) h1
  have b1 := LN_eq (n := n2) h2
  have b2 := LD_eq (n := n2) h2
  refine low_mul (k := gS n1 d1 * gS n2 d2) (Int.mul_ne_zero (gS_ne h1) (gS_ne h2)) (Int.mul_ne_zero (Int.ne_of_gt (LD_pos h1)) (Int.ne_of_gt (LD_pos h2))) ?_ ?_
  all_goals
    simp only [oAdd]
    generalize LN n1 d1 = x1 at *
    generalize LD n1 d1 = y1 at *
    generalize LN n2 d2 = x2 at *
    generalize LD n2 d2 = y2 at *
    generalize gS n1 d1 = g1 at *
    generalize gS n2 d2 = g2 at *
    subst a1 a2 b1 b2
    simp only [Int.mul_add, Int.mul_sub, Int.mul_assoc, Int.mul_comm, Int.mul_left_comm]
theorem low_sub (h1 : d1 ≠ 0) (h2 : d2 ≠ 0) : LN (oSub (LN n1 d1) (LD n1 d1) (LN n2 d2) (LD n2 d2)).1 (oSub (LN n1 d1) (LD n1 d1) (LN n2 d2) (LD n2 d2)).2 = LN (n1 * d2 - n2 * d1) (d1 * d2) ∧ LD (oSub (LN n1 d1) (LD n1 d1) (LN n2 d2) (LD n2 d2)).1 (oSub (LN n1 d1) (LD n1 d1) (LN n2 d2) (LD n2 d2)).2 = LD (n1 * d2 - n2 * d1) (d1 * d2) := by
  have a1 := LN_eq (n := n1) h1
  have a2 := LD_eq (n := n1) h1
  have b1 := LN_eq (n := n2) h2
  have b2 := LD_eq (n := n2) h2
  refine low_mul (k := gS n1 d1 * gS n2 d2) (Int.mul_ne_zero (gS_ne h1) (gS_ne h2)) (Int.mul_ne_zero (Int.ne_of_gt (LD_pos h1)) (Int.ne_of_gt (LD_pos h2))) ?_ ?_
  all_goals
    simp only [oSub]
    generalize LN n1 d1 = x1 at *
    generalize LD n1 d1 = y1 at *
    generalize LN n2 d2 = x2 at *
    generalize LD n2 d2 = y2 at *
    generalize gS n1 d1 = g1 at *
    generalize gS n2 d2 = g2 at *
    subst a1 a2 b1 b2
    simp only [Int.mul_add, Int.mul_sub, Int.mul_assoc, Int.mul_comm, Int.mul_left_comm]
theorem low_prod (h1 : d1 ≠ 0) (h2 : d2 ≠ 0) : LN (oMul (LN n1 d1) (LD n1 d1) (LN n2 d2) (LD n2 d2)).1 (oMul (LN n1 d1) (LD n1 d1) (LN n2 d2) (LD n2 d2)).2 = LN (n1 * n2) (d1 * d2) ∧ LD (oMul (LN n1 d1) (LD n1 d1) (LN n2 d2) (LD n2 d2)).1 (oMul (LN n1 d1) (LD n1 d1) (LN n2 d2) (LD n2 d2)).2 = LD (n1 * n2) (d1 * d2) := by
  have a1 := LN_eq (n := n1) h1
  have a2 := LD_eq (n := n1) h1
  have b1 := LN_eq (n := n2) h2
  have b2 := LD_eq (n := n2) h2
  refine low_mul (k := gS n1 d1 * gS n2 d2) (Int.mul_ne_zero (gS_ne h1) (gS_ne h2)) (Int.mul_ne_zero (Int.ne_of_gt (LD_pos h1)) (Int.ne_of_gt (LD_pos h2))) ?_ ?_
  all_goals
    simp only [oMul]
    generalize LN n1 d1 = x1 at *
    generalize LD n1 d1 = y1 at *
    generalize LN n2 d2 = x2 at *
    generalize LD n2 d2 = y2 at *
    generalize gS n1 d1 = g1 at *
    generalize gS n2 d2 = g2 at *
    subst a1 a2 b1 b2
    simp only [Int.mul_assoc, Int.mul_comm, Int.mul_left_comm]
theorem low_div (h1 : d1 ≠ 0) (h2 : d2 ≠ 0) (h0 : n2 ≠ 0) : LN (LN n1 d1 * LD n2 d2) (LD n1 d1 * LN n2 d2) = LN (n1 * d2) (d1 * n2) ∧ LD (LN n1 d1 * LD n2 d2) (LD n1 d1 * LN n2 d2) = LD (n1 * d2) (d1 * n2) := by
  have a1 := LN_eq (n := n1) h1
  have a2 := LD_eq (n := n1) h1
  have b1 := LN_eq (n := n2) h2
  have b2 := LD_eq (n := n2) h2
  have p2 : LN n2 d2 ≠ 0 := fun z => h0 (by rw [z, Int.mul_zero] at b1; exact b1)
  refine low_mul (k := gS n1 d1 * gS n2 d2) (Int.mul_ne_zero (gS_ne h1) (gS_ne h2)) (Int.mul_ne_zero (Int.ne_of_gt (LD_pos h1)) p2) ?_ ?_
  all_goals
    generalize LN n1 d1 = x1 at *
    generalize LD n1 d1 = y1 at *
    generalize LN n2 d2 = x2 at *
    generalize LD n2 d2 = y2 at *
    generalize gS n1 d1 = g1 at *
    generalize gS n2 d2 = g2 at *
    subst a1 a2 b1 b2
    simp only [Int.mul_assoc, Int.mul_comm, Int.mul_left_comm]
theorem low_zero (h2 : d2 ≠ 0) : LN n2 d2 = 0 ↔ n2 = 0 := by
  have b1 := LN_eq (n := n2) h2
  refine ⟨fun z => by rw [z, Int.mul_zero] at b1; exact b1, fun z => ?_⟩
  subst z
  have g0 := gS_ne (n := 0) h2
  rcases Int.mul_eq_zero.mp b1.symm with h | h
  · exact absurd h g0
  · exact h
theorem low_same (h1 : d1 ≠ 0) (h2 : d2 ≠ 0) : (LN n1 d1 = LN n2 d2 ∧ LD n1 d1 = LD n2 d2) ↔ n1 * d2 = n2 * d1 := by
  refine ⟨fun ⟨x, y⟩ => ?_, fun z => ?_⟩
  · have a1 := LN_eq (n := n1) h1
    have a2 := LD_eq (n := n1) h1
    have b1 := LN_eq (n := n2) h2
    have b2 := LD_eq (n := n2) h2
    rw [← x] at b1
    rw [← y] at b2
    generalize LN n1 d1 = x1 at *
    generalize LD n1 d1 = y1 at *
    generalize gS n1 d1 = g1 at *
    generalize gS n2 d2 = g2 at *
    rw [a1, a2, b1, b2]
    simp only [Int.mul_assoc, Int.mul_comm, Int.mul_left_comm]
  · have u := low_mul (k := d2) (n := n1) h2 h1 rfl rfl
    have v := low_mul (k := d1) (n := n2) h1 h2 rfl rfl
    rw [u.1, u.2, v.1, v.2, Int.mul_comm d2 n1, z, Int.mul_comm n2 d1, Int.mul_comm d2 d1]
    exact ⟨rfl, rfl⟩
/-- the law's way to compare -/
def sg (x : Int) : Int := 1 - 2 * (if x < 0 then 1 else 0)
theorem low_less (h1 : d1 ≠ 0) (h2 : d2 ≠ 0) : (LN n1 d1 * LD n2 d2 < LN n2 d2 * LD n1 d1) ↔ n1 * d2 * sg (d1 * d2) < n2 * d1 * sg (d1 * d2) := by
  have a1 := LN_eq (n := n1) h1
  have a2 := LD_eq (n := n1) h1
  have b1 := LN_eq (n := n2) h2
  have b2 := LD_eq (n := n2) h2
  have q1 := LD_pos (n := n1) h1
  have q2 := LD_pos (n := n2) h2
  have g0 : gS n1 d1 * gS n2 d2 ≠ 0 := Int.mul_ne_zero (gS_ne h1) (gS_ne h2)
  have e1 : n1 * d2 = gS n1 d1 * gS n2 d2 * (LN n1 d1 * LD n2 d2) := by
    generalize LN n1 d1 = x1 at *
    generalize LD n2 d2 = y2 at *
    generalize gS n1 d1 = g1 at *
    generalize gS n2 d2 = g2 at *
    rw [a1, b2]
    simp only [Int.mul_assoc, Int.mul_comm, Int.mul_left_comm]
  have e2 : n2 * d1 = gS n1 d1 * gS n2 d2 * (LN n2 d2 * LD n1 d1) := by
    generalize LN n2 d2 = x1 at *
    generalize LD n1 d1 = y2 at *
    generalize gS n1 d1 = g1 at *
    generalize gS n2 d2 = g2 at *
    rw [a2, b1]
    simp only [Int.mul_assoc, Int.mul_comm, Int.mul_left_comm]
  have e3 : d1 * d2 = gS n1 d1 * gS n2 d2 * (LD n1 d1 * LD n2 d2) := by
    generalize LD n1 d1 = x1 at *
    generalize LD n2 d2 = y2 at *
    generalize gS n1 d1 = g1 at *
    generalize gS n2 d2 = g2 at *
    rw [a2, b2]
    simp only [Int.mul_assoc, Int.mul_comm, Int.mul_left_comm]
  have pp : 0 < LD n1 d1 * LD n2 d2 := Int.mul_pos q1 q2
  rw [e1, e2, e3]
  generalize gS n1 d1 * gS n2 d2 = g at *
  generalize LN n1 d1 * LD n2 d2 = x at *
  generalize LN n2 d2 * LD n1 d1 = y at *
  generalize LD n1 d1 * LD n2 d2 = p at *
  rcases Int.lt_or_gt_of_ne g0 with h | h
  · have s : sg (g * p) = -1 := by
      unfold sg
      rw [if_pos (Int.mul_neg_of_neg_of_pos h pp)]
      rfl
    rw [s]
    have k : ∀ z : Int, g * z * -1 = -g * z := fun z => by rw [Int.mul_neg, Int.mul_one, Int.neg_mul]
    rw [k, k]
    exact ⟨fun z => Int.mul_lt_mul_of_pos_left z (by omega), fun z => Int.lt_of_mul_lt_mul_left z (by omega)⟩
  · have s : sg (g * p) = 1 := by
      unfold sg
      rw [if_neg (by have := Int.mul_pos h pp; omega)]
      rfl
    rw [s, Int.mul_one, Int.mul_one]
    exact ⟨fun z => Int.mul_lt_mul_of_pos_left z h, fun z => Int.lt_of_mul_lt_mul_left z (by omega)⟩
theorem low_le {B : Nat} (h : d1 ≠ 0) (hn : n1.natAbs < B) (hd : d1.natAbs < B) : (LN n1 d1).natAbs < B ∧ (LD n1 d1).natAbs < B := by
  have a1 := congrArg Int.natAbs (LN_eq (n := n1) h)
  have a2 := congrArg Int.natAbs (LD_eq (n := n1) h)
  rw [Int.natAbs_mul] at a1 a2
  have g : 1 ≤ (gS n1 d1).natAbs := by
    have := gS_ne (n := n1) h
    omega
  have m1 : 1 * (LN n1 d1).natAbs ≤ (gS n1 d1).natAbs * (LN n1 d1).natAbs := Nat.mul_le_mul_right _ g
  have m2 : 1 * (LD n1 d1).natAbs ≤ (gS n1 d1).natAbs * (LD n1 d1).natAbs := Nat.mul_le_mul_right _ g
  omega
end
end K02
namespace K02
open PySem PySem.Spec PyProof.Rows L2 Own OwnHot OwnExN
/-- o.m(k = v): a method whose parameters beside self are called by their names -/
def tMethN (C : Addr) (m : Str) (n : Nat) (sp : Sp) (E : XK) (ta : TE) (tk : TA) : TE := fun σ H Q => ta σ H fun x H1 => ∃ a dx fs, x = .ref a ∧ H1 a = some (.ins C dx fs) ∧ fs.lookup m = none ∧ tk σ H1 fun zs H2 => zs.length = n ∧ sp (x :: zs) H2 Q E
theorem pe_methN {X : Cx} {CX : CXT} {k : Nat} {f C : Addr} {fd : FuncData} {ps ks : List Str} {sp : Sp} {E : XK} {m : Str} {pos apos : Pos} {o : Expr} {kws : List Keyword} {ta : TE} {tk : TA} {pl : Sem Bool} (he : PE X o ta) (c : Cls X.K C) (hm : Meth X.K C m f)
    (F : FnOk X.prog X.w X.K X.mg X.base CX k f fd ps sp) (hr : Room k X.A) (hb : KBn X.K fd ps 1 ks (fun us ws => us ++ ws) (fun vs zs => vs ++ zs)) (hx : Passes CX X E) (hkw : PK X kws tk)
    (hall : (backToKw pos (keywordEach kws X.env)).all (·.1.isSome) = true := by rfl) (hks : (backToKw pos (keywordEach kws X.env)).filterMap (·.1) = ks := by rfl)
    (hpl : ((backTo pos (starEach [] X.env)).any (·.1) || (backToKw pos (keywordEach kws X.env)).any (·.1.isNone)) = false := by rfl)
    (ht : eval (.Call (.Attribute o m apos) [] kws pos) X.env = (do
      let ov ← eval o X.env
      standAt apos.atName
      let (f, first) ← holding [ov] (getMethod ov m pl)
      callWith pos f first (backTo pos (starEach [] X.env)) (backToKw pos (keywordEach kws X.env))) := by rfl) :
    PE X (.Call (.Attribute o m apos) [] kws pos) (tMethN C m ks.length sp E ta tk) := by
  refine ⟨fun pins s σ H Q I h => PySem.W.methodCall_KW (pl := pl) (thn (he.run pins s σ H _ I h) ?_) ht⟩
  rintro u s1 ⟨x, H1, I1, rx, a, dx, fs, rfl, ea, l, q⟩
  obtain rfl : u = Value.ref a := rx
  refine getmeth_ok I1 ea c hm l (PySem.W.callWith_KW0 (first := [.ref a]) (h₀ := X.base) I.ok.mod.kin hm.kp hall (thn (hkw.run pos pins s1 σ H1 _ I1 q) ?_) hpl)
  rintro ws s2 ⟨zs, H2, I2, rz, lz, q2⟩
  refine ⟨I2.kIn, ?_⟩
  rw [hks]
  have rs := hb.rel (vs := [V.ref a]) (us := [Value.ref a]) (.cons rfl .nil) rz
  refine wpAny_call (codeAny_mono (F.run X.A X.stack s2 H2 ⟨[Value.ref a], ks.zip ws⟩ _ _ Q E hr I2.env0 (hb.to s2 [Value.ref a] ws I2.kIn rfl (rz.length.symm.trans lz)) rs q2) ?_)
  rintro (e | fl) s' z
  · exact hx pins σ H2 s2 e s' I2 z
  · cases fl with
    | ret u => exact I2.after z
    | next => exact z.elim
    | brk => exact z.elim
    | cont => exact z.elim
/-- a def called by names behind its first parameters -/
theorem kbn_of {K : PySem.W.Frag} {x qual : Str} {st : Stmt} {f : Addr} {fd : FuncData} {ps : List Str} (n : Nat) (ks : List Str) (F : Fun K x qual st f fd)
    (h : ∀ (kV doc pm : Value) (an : Option Addr) (cdv ct : Value) (us ws : List Value), us.length = n → ws.length = ks.length → bindArgs (PySem.W.fnOf x qual (defArgs st) (defBody st) (defScope st) .none kV doc pm an cdv ct) ⟨us, ks.zip ws⟩ = pure (ps.zip (us ++ ws))) :
    KBn K fd ps n ks (fun us ws => us ++ ws) (fun vs zs => vs ++ zs) :=
  match F.ex with
  | ⟨_, _, kV, doc, pm, an, cdv, ct, _, e, _, _⟩ => ⟨fun s us ws _ l1 l2 => .of_eq (by rw [e]; exact h kV doc pm an cdv ct us ws l1 l2), fun r1 r2 => r1.append r2⟩
local macro_rules | `(tactic| walk_at "rd") => `(tactic| simp only [tSeq, tAsg, tOp, tUn, tVar, gName, gSub, rIxL, rIxT, rSetL, tC, rI0, rI, rU, rEq, rNe, tCons, tNil, tCB, tLst, tTup, tIfS, tAnd, tOr, tNot, tAndV, tOrV, tNotV, tTest, tB, tIf, tRet, tDrop, tNext, tBreak, tCont, tCall, tCallS, tMeth, tMethN, rOwn, rOwnEq, tMake, tMkO, sFld, tOst, tNum, tDen, tNever, tBits, rIs, rIsB, clv, isB, rGcd,
  Rd.tFor_rng1, Rd.tFor_rng2, Rd.tFor_list, Rd.tFor_tup, Rd.tLc_list, Rd.tLc_tup, Rd.tLc_rng1, Rd.LcTurn, tYes, wipe, Rd.rLenL, Rd.rLenT, Rd.rIntI, Rd.rIxH, rIxHT, HO.tup.injEq, Rd.at0, Rd.at1, Rd.at2, Rd.at3, Rd.ixN40, Rd.ixN41, Rd.ixN42, Rd.ixN43, Rd.scal_ii, cxOf,
  List.length_cons, List.length_nil, List.length_map, List.map_cons, List.map_nil, upd_same, decide_eq_true_eq, decide_true, decide_false, if_true, if_false, Bool.false_eq_true, Bool.not_true, Bool.not_false, HO.lst.injEq, HO.ins.injEq, ff_inj, List.set_cons_zero, List.set_cons_succ, List.getElem?_cons_zero, List.getElem?_cons_succ, List.append_nil, List.nil_append, List.cons_append, Option.some.injEq, V.ref.injEq, V.int.injEq, V.bl.injEq, List.cons.injEq, exists_eq_left', exists_and_left, exists_eq_left, true_and, and_true, and_self, and_assoc, implies_true, reduceCtorEq, Nat.reduceAdd])

section
variable {P : Program} {w : World} {K : PySem.W.Frag} {mg : Str → Option Value} {base : Heap} {a : Ad}
theorem mid_low {n d : Int} (h : d ≠ 0) (a : Sm n) (b : Sm d) : Mid (LN n d) ∧ Mid (LD n d) :=
  let z := low_le h a b
  ⟨lt2 z.1 (by decide), lt2 z.2 (by decide)⟩
theorem sm_mul {x y : Int} (hx : Sm x) (hy : Sm y) : CMulW x y ∧ (x * y).natAbs < 2 ^ 3000 := ⟨wide_mul hx hy (by decide) (by decide) (by decide), wide_lt hx hy⟩
theorem sm_big {x : Int} (h : x.natAbs < 2 ^ 3000) : Big x := lt2 h (by decide)
theorem sm_add {x y : Int} (hx : x.natAbs < 2 ^ 3000) (hy : y.natAbs < 2 ^ 3000) : Big (x + y) ∧ Big (x - y) := big_add (lt2 hx (by decide)) (lt2 hy (by decide))
theorem call_intB {X : Cx} : CallR X (.type "int") (fun xs H Q => ∃ k, xs = [.bl k] ∧ Q (.int (if k then 1 else 0)) H) := Rd.CallR.imp call_int1 fun _ _ _ h => .inr h
theorem bin_any {C p q dx dy : Addr} {H : Hp} {n1 d1 n2 d2 N D : Int} {op : Int → Int → Int → Int → Int × Int} {R : VK} (hp : H p = some (.ins C dx (ff (LN n1 d1) (LD n1 d1)))) (hq : H q = some (.ins C dy (ff (LN n2 d2) (LD n2 d2)))) (b1 : Sm n1) (b2 : Sm d1) (b3 : Sm n2) (b4 : Sm d2) (z1 : d1 ≠ 0) (z2 : d2 ≠ 0)
    (hl : LN (op (LN n1 d1) (LD n1 d1) (LN n2 d2) (LD n2 d2)).1 (op (LN n1 d1) (LD n1 d1) (LN n2 d2) (LD n2 d2)).2 = LN N D ∧ LD (op (LN n1 d1) (LD n1 d1) (LN n2 d2) (LD n2 d2)).1 (op (LN n1 d1) (LD n1 d1) (LN n2 d2) (LD n2 d2)).2 = LD N D)
    (k : ∀ x dr H', H' x = some (.ins C dr (ff (LN N D) (LD N D))) → Same H H' → R (.ref x) H') : spBin C op [.ref p, .ref q] H R E0 :=
  ⟨p, q, dx, dy, _, _, _, _, rfl, hp, hq, Int.ne_of_gt (LD_pos z1), Int.ne_of_gt (LD_pos z2), (mid_low z1 b1 b2).1, (mid_low z1 b1 b2).2, (mid_low z2 b3 b4).1, (mid_low z2 b3 b4).2, fun x dr H1 _ h1 s1 => k x dr H1 (by rw [hl.1, hl.2] at h1; exact h1) s1⟩
/-- an operator's answer, held against integer arithmetic -/
theorem bin_is {C p q dx dy : Addr} {H : Hp} {n1 d1 n2 d2 N D : Int} {op : Int → Int → Int → Int → Int × Int} {R : VK} (hp : H p = some (.ins C dx (ff (LN n1 d1) (LD n1 d1)))) (hq : H q = some (.ins C dy (ff (LN n2 d2) (LD n2 d2)))) (b1 : Sm n1) (b2 : Sm d1) (b3 : Sm n2) (b4 : Sm d2) (z1 : d1 ≠ 0) (z2 : d2 ≠ 0)
    (hl : LN (op (LN n1 d1) (LD n1 d1) (LN n2 d2) (LD n2 d2)).1 (op (LN n1 d1) (LD n1 d1) (LN n2 d2) (LD n2 d2)).2 = LN N D ∧ LD (op (LN n1 d1) (LD n1 d1) (LN n2 d2) (LD n2 d2)).1 (op (LN n1 d1) (LD n1 d1) (LN n2 d2) (LD n2 d2)).2 = LD N D) (hD : D ≠ 0) (bN : Big N) (bD : Big D)
    (k : ∀ H', Same H H' → R (.bl true) H') : spBin C op [.ref p, .ref q] H (fun x H1 => spIs C [x, .int N, .int D] H1 R E0) E0 :=
  ⟨p, q, dx, dy, _, _, _, _, rfl, hp, hq, Int.ne_of_gt (LD_pos z1), Int.ne_of_gt (LD_pos z2), (mid_low z1 b1 b2).1, (mid_low z1 b1 b2).2, (mid_low z2 b3 b4).1, (mid_low z2 b3 b4).2, fun x dr H1 _ h1 s1 =>
    ⟨x, dr, N, D, rfl, by rw [hl.1, hl.2] at h1; exact h1, hD, bN, bD, fun H2 s2 => k H2 (s1.trans s2)⟩⟩
theorem kbDiv (T : Txt K mg a) : KBn K a.d_Frac_divided_by ["self", "other"] 1 ["other"] (fun us ws => us ++ ws) (fun vs zs => vs ++ zs) :=
  kbn_of 1 ["other"] T.fn_Frac_divided_by fun kV doc pm an cdv ct us ws hu hw => match us, ws, hu, hw with | [_], [_], _, _ => by first | rfl | with_unfolding_all rfl | kernel_rfl
/-! ### _law_pair -/
def spPair (C : Addr) : Sp := fun vs H Q _ => ∃ (p q f1 f2 dx dy : Addr) (n1 d1 n2 d2 : Int), vs = [.ref p, .ref q, .ref f1, .ref f2] ∧ H p = some (.ins C dx (ff (LN n1 d1) (LD n1 d1))) ∧ H q = some (.ins C dy (ff (LN n2 d2) (LD n2 d2))) ∧
  H f1 = some (.tup [.int n1, .int d1]) ∧ H f2 = some (.tup [.int n2, .int d2]) ∧ Sm n1 ∧ Sm d1 ∧ Sm n2 ∧ Sm d2 ∧ d1 ≠ 0 ∧ d2 ≠ 0 ∧ ∀ H', Same H H' → Q (.bl true) H'
theorem sc_law_pair : FnScope ["one", "two", "first", "second", "num", "more", "den", "sign"] ["one", "two", "first", "second"] (defScope s_law_pair) := ⟨rfl, rfl, rfl, by decide +kernel, rfl, by decide +kernel, by decide +kernel⟩
theorem ok_law_pair (T : Txt K mg a) : FnOk P w K mg base CX0 7 a.a_law_pair a.d_law_pair ["one", "two", "first", "second"] (spPair a.C_Frac) := by
  refine T.fn_law_pair.ok sc_law_pair (fun vs H Q E h => ?_) (fun cdv A outer s H vs Q E hr h => ?_)
  · obtain ⟨p, q, f1, f2, dx, dy, n1, d1, n2, d2, rfl, _⟩ := h
    rfl
  · obtain ⟨p, q, f1, f2, dx, dy, n1, d1, n2, d2, rfl, hp, hq, hf1, hf2, b1, b2, b3, b4, z1, z2, k⟩ := h
    refine ⟨_, (pss_cons (ps_set (i := 4) sc_law_pair.nd rfl (Or.inl rfl) (pe_op op_mulW (pe_ix ixHT (pv 2) pe_int (fun _ _ => rfl)) (pe_ix ixHT (pv 3) pe_int (fun _ _ => rfl))))
      (pss_cons (ps_set (i := 5) sc_law_pair.nd rfl (Or.inl rfl) (pe_op op_mulW (pe_ix ixHT (pv 3) pe_int (fun _ _ => rfl)) (pe_ix ixHT (pv 2) pe_int (fun _ _ => rfl))))
      (pss_cons (ps_set (i := 6) sc_law_pair.nd rfl (Or.inl rfl) (pe_op op_mulW (pe_ix ixHT (pv 2) pe_int (fun _ _ => rfl)) (pe_ix ixHT (pv 3) pe_int (fun _ _ => rfl))))
      (pss_cons (ps_if (PW.pt (pw_or (pt_not (pt_val (pe_call (ok_law_is T) (hr.mono (by decide)) (by rfl) T.mg_law_is T.fn_law_is.kp T.b_law_is .nil pass0 (pa_cons (pe_op (op_own (ok_Frac_add T) (hr.mono (by decide)) T.sf_Frac T.op_Frac_Add T.mt_Frac_add.fn T.b_Frac_add pass0) (pv 0) (pv 1)) (pa_cons (pe_op op_add (pv 4) (pv 5)) (pa_cons (pv 6) pa_nil)))))) (pw_or1 (pt_not (pt_val (pe_call (ok_law_is T) (hr.mono (by decide)) (by rfl) T.mg_law_is T.fn_law_is.kp T.b_law_is .nil pass0 (pa_cons (pe_op (op_own (ok_Frac_sub T) (hr.mono (by decide)) T.sf_Frac T.op_Frac_Sub T.mt_Frac_sub.fn T.b_Frac_sub pass0) (pv 0) (pv 1)) (pa_cons (pe_op op_sub (pv 4) (pv 5)) (pa_cons (pv 6) pa_nil))))))))) (pss_one (ps_ret pe_bl)) pss_nil)
      (pss_cons (ps_if (pt_not (pt_val (pe_call (ok_law_is T) (hr.mono (by decide)) (by rfl) T.mg_law_is T.fn_law_is.kp T.b_law_is .nil pass0 (pa_cons (pe_op (op_own (ok_Frac_mul T) (hr.mono (by decide)) T.sf_Frac T.op_Frac_Mult T.mt_Frac_mul.fn T.b_Frac_mul pass0) (pv 0) (pv 1)) (pa_cons (pe_op op_mulW (pe_ix ixHT (pv 2) pe_int (fun _ _ => rfl)) (pe_ix ixHT (pv 3) pe_int (fun _ _ => rfl))) (pa_cons (pv 6) pa_nil)))))) (pss_one (ps_ret pe_bl)) pss_nil)
      (pss_cons (ps_set (i := 7) sc_law_pair.nd rfl (Or.inl rfl) (pe_op op_sub pe_int (pe_op op_mul pe_int (pe_callTy call_intB (by rfl) T.no_int (by decide +kernel) (pa_cons (pe_cmpR op_lt (pv 6) pe_int (nomark _)) pa_nil)))))
      (pss_cons (ps_if (PW.pt (pw_or (pt_not (pt_val (pe_call (ok_law_truth T) (hr.mono (by decide)) (by rfl) T.mg_law_truth T.fn_law_truth.kp T.b_law_truth .nil pass0 (pa_cons (pe_cmpR (op_eqOwn (ok_Frac_eq T) (hr.mono (by decide)) T.mt_Frac_eq.at_ T.mt_Frac_eq.fn T.b_Frac_eq pass0) (pv 0) (pv 1) (nomark _)) (pa_cons (pe_cmpR op_eq (pv 4) (pv 5) (nomark _)) pa_nil))))) (pw_or1 (pt_not (pt_val (pe_call (ok_law_truth T) (hr.mono (by decide)) (by rfl) T.mg_law_truth T.fn_law_truth.kp T.b_law_truth .nil pass0 (pa_cons (pe_meth (pv 0) T.cl_Frac T.mt_Frac_is_below (ok_Frac_is_below T) (hr.mono (by decide)) T.b_Frac_is_below .nil pass0 (pa_cons (pv 1) pa_nil)) (pa_cons (pe_cmpR op_lt (pe_op op_mul (pv 4) (pv 7)) (pe_op op_mul (pv 5) (pv 7)) (nomark _)) pa_nil)))))))) (pss_one (ps_ret pe_bl)) pss_nil)
      (pss_cons (ps_if (pt_cmpR op_eq (pe_ix ixHT (pv 3) pe_int (fun _ _ => rfl)) pe_int (nomark _)) (pss_one (ps_ret (pe_call (ok_law_not_divided T) (hr.mono (by decide)) (by rfl) T.mg_law_not_divided T.fn_law_not_divided.kp T.b_law_not_divided .nil pass0 (pa_cons (pv 0) (pa_cons (pv 1) pa_nil))))) pss_nil)
      (pss_one (ps_ret (pe_call (ok_law_is T) (hr.mono (by decide)) (by rfl) T.mg_law_is T.fn_law_is.kp T.b_law_is .nil pass0 (pa_cons (pe_methN (pv 0) T.cl_Frac T.mt_Frac_divided_by (ok_Frac_divided_by T) (hr.mono (by decide)) (kbDiv T) passN (pk_cons (pv 1) pk_nil)) (pa_cons (pe_op op_mulW (pe_ix ixHT (pv 2) pe_int (fun _ _ => rfl)) (pe_ix ixHT (pv 3) pe_int (fun _ _ => rfl))) (pa_cons (pe_op op_mulW (pe_ix ixHT (pv 2) pe_int (fun _ _ => rfl)) (pe_ix ixHT (pv 3) pe_int (fun _ _ => rfl))) pa_nil)))))))))))))), ?_⟩
    show (_ : TS) _ [some (V.ref p), some (V.ref q), some (V.ref f1), some (V.ref f2), none, none, none, none] H
    walk_at "rd"
    simp only [hf1, hf2, hp, hq]
    walk_at "rd"
    have zD := mul_ne z1 z2
    have bD := sm_big (sm_mul b2 b4).2
    refine ⟨(sm_mul b1 b4).1, (sm_mul b3 b2).1, (sm_mul b2 b4).1, bin_is hp hq b1 b2 b3 b4 z1 z2 (low_add z1 z2) zD (sm_add (sm_mul b1 b4).2 (sm_mul b3 b2).2).1 bD fun H1 s1 => ⟨true, rfl, ?_⟩⟩
    rw [if_neg (by decide)]
    have hp1 := s1 _ _ hp
    have hq1 := s1 _ _ hq
    have hf1' := s1 _ _ hf1
    have hf2' := s1 _ _ hf2
    simp only [hp1, hq1]
    walk_at "rd"
    refine bin_is hp1 hq1 b1 b2 b3 b4 z1 z2 (low_sub z1 z2) zD (sm_add (sm_mul b1 b4).2 (sm_mul b3 b2).2).2 bD fun H2 s2 => ⟨true, rfl, ?_⟩
    rw [if_neg (by decide)]
    have hp2 := s2 _ _ hp1
    have hq2 := s2 _ _ hq1
    simp only [hp2, hq2]
    walk_at "rd"
    have s02 := s1.trans s2
    refine bin_any (N := n1 * n2) (D := d1 * d2) hp2 hq2 b1 b2 b3 b4 z1 z2 (low_prod z1 z2) fun x dr H3 h3 s3 => ?_
    have s03 := s02.trans s3
    simp only [s03 _ _ hf1, s03 _ _ hf2]
    walk_at "rd"
    refine ⟨(sm_mul b1 b3).1, x, dr, _, _, rfl, h3, zD, sm_big (sm_mul b1 b3).2, bD, fun H4 s4 => ⟨true, rfl, ?_⟩⟩
    rw [if_neg (by decide)]
    have s04 := s03.trans s4
    have hp4 := s04 _ _ hp
    have hq4 := s04 _ _ hq
    have hf14 := s04 _ _ hf1
    have hf24 := s04 _ _ hf2
    clear hp1 hq1 hf1' hf2' hp2 hq2 h3 s3 s4 s03 s02 s1 s2
    simp only [hp4, hq4, hf14, hf24]
    walk_at "rd"
    have eqb : (decide (LN n1 d1 = LN n2 d2) && decide (LD n1 d1 = LD n2 d2)) = decide (n1 * d2 = n2 * d1) := by
      rw [← Bool.decide_and]
      exact decide_eq_decide.mpr (low_same z1 z2)
    refine ⟨.inl ⟨by decide, by decide⟩, _, (Ty.fr hq4).x T, Ty.nf T .fr, p, dx, _, _, .ref q, rfl, hp4, .inr ⟨q, dy, _, _, rfl, hq4, decide (n1 * d2 = n2 * d1), by rw [eqb], true, rfl, ?_⟩⟩
    rw [if_neg (by decide)]
    simp only [hp4]
    walk_at "rd"
    have lt : decide (LN n1 d1 * LD n2 d2 < LN n2 d2 * LD n1 d1) = decide (n1 * d2 * sg (d1 * d2) < n2 * d1 * sg (d1 * d2)) := decide_eq_decide.mpr (low_less z1 z2)
    have sgs : -(2 ^ 64) < sg (d1 * d2) ∧ sg (d1 * d2) < 2 ^ 64 := by
      unfold sg
      split <;> decide
    have m1 := mid_low z1 b1 b2
    have m2 := mid_low z2 b3 b4
    refine ⟨ff_no _ _ (by decide +kernel) (by decide +kernel), p, q, dx, dy, _, _, _, _, rfl, hp4, hq4, m1.1, m1.2, m2.1, m2.2, .inr sgs, .inr sgs, decide (n1 * d2 * sg (d1 * d2) < n2 * d1 * sg (d1 * d2)), by rw [lt]; rfl, true, rfl, ?_⟩
    rw [if_neg (by decide)]
    simp only [hp4, hf14, hf24]
    walk_at "rd"
    refine ite2 (fun h0 => ⟨p, dx, _, _, .ref q, .fr, _, rfl, hp4, .fr hq4, .inl (.fr hq4), fun _ => ⟨q, dy, _, rfl, by rw [(low_zero z2).mpr h0] at hq4; exact hq4⟩, fun H5 s5 => k _ (s04.trans s5)⟩) fun h0 => ⟨ff_no _ _ (by decide +kernel) (by decide +kernel), p, dx, _, _, .ref q, .fr, rfl, hp4, .fr hq4, fun _ => ⟨q, dy, _, _, rfl, hq4⟩, fun q' dy' n' d' eq' hq' hn => ?_, fun hz d' H' _ _ _ => ?_⟩
    · cases eq'
      rw [hq4] at hq'
      simp only [Option.some.injEq, HO.ins.injEq, ff_inj, true_and] at hq'
      obtain ⟨_, rfl, rfl⟩ := hq'
      refine ⟨Int.ne_of_gt (LD_pos z1), Int.ne_of_gt (LD_pos z2), m1.1, m1.2, m2.1, m2.2, fun x dr H5 hx h5 s5 => ?_⟩
      simp only [s5 _ _ hf14, s5 _ _ hf24]
      walk_at "rd"
      have low := low_div (n1 := n1) z1 z2 h0
      exact ⟨(sm_mul b1 b4).1, (sm_mul b2 b3).1, x, dr, _, _, rfl, by rw [low.1, low.2] at h5; exact h5, mul_ne z1 h0, sm_big (sm_mul b1 b4).2, sm_big (sm_mul b2 b3).2, fun H6 s6 => k _ ((s04.trans s5).trans s6)⟩
    · obtain ⟨q', dy', d2', eq', hq'⟩ := hz rfl
      cases eq'
      rw [hq4] at hq'
      simp only [Option.some.injEq, HO.ins.injEq, ff_inj, true_and] at hq'
      exact absurd ((low_zero z2).mp hq'.2.1) h0
end
end K02
namespace K02
open PySem PySem.Spec PyProof.Rows L2 Own OwnHot OwnExN
local macro_rules | `(tactic| walk_at "rd") => `(tactic| simp only [tSeq, tAsg, tOp, tUn, tVar, gName, gSub, rIxL, rIxT, rSetL, tC, rI0, rI, rU, rEq, rNe, tCons, tNil, tCB, tLst, tTup, tIfS, tAnd, tOr, tNot, tAndV, tOrV, tNotV, tTest, tB, tIf, tRet, tDrop, tNext, tBreak, tCont, tCall, tCallS, tMeth, tMethN, rOwn, rOwnEq, tMakeKS, rIsB, L2.rIsB, tMake, tMkO, sFld, tOst, tNum, tDen, tNever, tBits, rIs, rIsB, clv, isB, rGcd,
  Rd.tFor_rng1, Rd.tFor_rng2, Rd.tFor_list, Rd.tFor_tup, Rd.tLc_list, Rd.tLc_tup, Rd.tLc_rng1, Rd.LcTurn, tYes, wipe, Rd.rLenL, Rd.rLenT, Rd.rIntI, Rd.rIxH, rIxHT, HO.tup.injEq, Rd.at0, Rd.at1, Rd.at2, Rd.at3, Rd.ixN40, Rd.ixN41, Rd.ixN42, Rd.ixN43, Rd.scal_ii, cxOf,
  List.length_cons, List.length_nil, List.length_map, List.map_cons, List.map_nil, upd_same, decide_eq_true_eq, decide_true, decide_false, if_true, if_false, Bool.false_eq_true, Bool.not_true, Bool.not_false, HO.lst.injEq, HO.ins.injEq, ff_inj, List.set_cons_zero, List.set_cons_succ, List.getElem?_cons_zero, List.getElem?_cons_succ, List.append_nil, List.nil_append, List.cons_append, Option.some.injEq, V.ref.injEq, V.int.injEq, V.bl.injEq, List.cons.injEq, exists_eq_left', exists_and_left, exists_eq_left, true_and, and_true, and_self, and_assoc, implies_true, reduceCtorEq, Nat.reduceAdd])

/-- a statement, then the rest: what stands between them -/
theorem cut {t u : TS} {D : Ends} {σ : L2.St} {H : Hp} (G : L2.St → Hp → Prop) (h : ∀ R : L2.St → Hp → Prop, (∀ σ H, G σ H → R σ H) → t { D with nx := R } σ H) (k : ∀ σ H, G σ H → u D σ H) : tSeq t u D σ H := h (u D) k
theorem passNA {X : Cx} {σ : L2.St} : PassesAt (L2N.CX X.prog X.w) X σ E0 := fun _ _ _ _ _ _ h => by
  obtain ⟨_, _, _, _, _, _, _, _, _, _, _, _, z⟩ := h
  exact z.elim
/-- the law's two pairs and their fractions -/
structure Two (K : PySem.W.Frag) (C : Addr) (H : Hp) (b c f1 f2 p q : Addr) (ns : List Int) (n1 d1 n2 d2 : Int) : Prop where
  box : BoxAt K H b c ns
  h1 : H f1 = some (.tup [.int n1, .int d1])
  h2 : H f2 = some (.tup [.int n2, .int d2])
  hp : ∃ dx, H p = some (.ins C dx (ff (LN n1 d1) (LD n1 d1)))
  hq : ∃ dy, H q = some (.ins C dy (ff (LN n2 d2) (LD n2 d2)))
theorem Two.same {K : PySem.W.Frag} {C : Addr} {H H' : Hp} {b c f1 f2 p q : Addr} {ns : List Int} {n1 d1 n2 d2 : Int} (t : Two K C H b c f1 f2 p q ns n1 d1 n2 d2) (e : Same H H') : Two K C H' b c f1 f2 p q ns n1 d1 n2 d2 :=
  ⟨t.box.same e, e _ _ t.h1, e _ _ t.h2, t.hp.imp fun _ h => e _ _ h, t.hq.imp fun _ h => e _ _ h⟩
theorem Two.but {K : PySem.W.Frag} {C : Addr} {H H' : Hp} {b c f1 f2 p q : Addr} {ns : List Int} {n1 d1 n2 d2 : Int} (t : Two K C H b c f1 f2 p q ns n1 d1 n2 d2) (B : BoxAt K H' b c ns) (e : But b H H') (x1 : f1 ≠ b) (x2 : f2 ≠ b) (x3 : p ≠ b) (x4 : q ≠ b) : Two K C H' b c f1 f2 p q ns n1 d1 n2 d2 :=
  ⟨B, e _ _ x1 t.h1, e _ _ x2 t.h2, t.hp.imp fun _ h => e _ _ x3 h, t.hq.imp fun _ h => e _ _ x4 h⟩
theorem yes {A B : Prop} (h : B) : ∃ c, V.bl true = V.bl c ∧ if (!c) = true then A else B := ⟨true, rfl, by rw [if_neg (by decide)]; exact h⟩
theorem frac_new {C IV : Addr} {n d : Int} {H : Hp} {R : Addr → Hp → Prop} {E : XK} (hd : d ≠ 0) (bn : Big n) (bd : Big d) (k : ∀ x dr H', H x = none → H' x = some (.ins C dr (ff (LN n d) (LD n d))) → Same H H' → R x H') :
    ∀ x dx, H x = none → H dx = none → dx ≠ x → spFrac C IV [.ref x, .int n, .int d] (upd (upd H dx (.own x)) x (.ins C dx [])) (fun v H2 => v = .non ∧ R x H2) E := fun x dx hx hdx hne =>
  ⟨x, dx, _, _, .int, .int, rfl, upd_same, .int n, .int d, fun n' d' e1 e2 _ => by
    cases e1
    cases e2
    refine ⟨bn, bd, fun H' h1 h2 => ⟨rfl, k x dx H' hx h1 fun b o e => ?_⟩⟩
    rw [h2 b (ne_of_none e hx), upd_ne (ne_of_none e hx), upd_ne (ne_of_none e hdx)]
    exact e, fun hb => absurd ⟨n, d, rfl, rfl, hd⟩ hb⟩
section
variable {P : Program} {w : World} {K : PySem.W.Frag} {mg : Str → Option Value} {base : Heap} {a : Ad}
theorem kbBel (T : Txt K mg a) : KBn K a.d_Frac_is_below ["self", "other"] 1 ["other"] (fun us ws => us ++ ws) (fun vs zs => vs ++ zs) :=
  kbn_of 1 ["other"] T.fn_Frac_is_below fun kV doc pm an cdv ct us ws hu hw => match us, ws, hu, hw with | [_], [_], _, _ => by first | rfl | with_unfolding_all rfl | kernel_rfl
def spAll (K : PySem.W.Frag) : Sp := fun vs H Q _ => ∃ (s : Addr) (ns : List Int), vs = [.ref s] ∧ SqL K H s (ns.map V.int) ∧ ns.length ≤ 63 ∧ ∀ H', Q (.bl true) H'
theorem sc_law_all : FnScope ["script", "box", "first", "second", "one", "two", "other"] ["script"] (defScope s_law_all) := ⟨rfl, rfl, rfl, by decide +kernel, rfl, by decide +kernel, by decide +kernel⟩
theorem ok_law_all (T : Txt K mg a) : FnOk P w K mg base CX0 8 a.a_law_all a.d_law_all ["script"] (spAll K) := by
  refine T.fn_law_all.ok sc_law_all (fun vs H Q E h => ?_) (fun cdv A outer s H vs Q E hr h => ?_)
  · obtain ⟨p, ns, rfl, _⟩ := h
    rfl
  · obtain ⟨p0, ns, rfl, hs, hl, k⟩ := h
    obtain ⟨b2d, b2v, b2b⟩ := b2 T
    obtain ⟨kb2d, kb2b⟩ := kb2 T
    obtain ⟨kb1d, kb1b⟩ := kb1 T
    refine ⟨_, (pss_cons (ps_set (i := 1) sc_law_all.nd rfl (Or.inl rfl) (pe_call (ok_law_box T) (hr.mono (by decide)) (by rfl) T.mg_law_box T.fn_law_box.kp T.b_law_box .nil pass0 (pa_cons (pv 0) pa_nil)))
      (pss_cons (ps_set (i := 2) sc_law_all.nd rfl (Or.inl rfl) (pe_call (ok_law_terms T) (hr.mono (by decide)) (by rfl) T.mg_law_terms T.fn_law_terms.kp T.b_law_terms .nil pass0 (pa_cons (pv 1) pa_nil)))
      (pss_cons (ps_set (i := 3) sc_law_all.nd rfl (Or.inl rfl) (pe_call (ok_law_second T) (hr.mono (by decide)) (by rfl) T.mg_law_second T.fn_law_second.kp T.b_law_second .nil pass0 (pa_cons (pv 1) (pa_cons (pv 2) pa_nil))))
      (pss_cons (ps_if (pt_cmpR op_eq (pe_call (ok_law_draw T) (hr.mono (by decide)) (by rfl) T.mg_law_draw T.fn_law_draw.kp T.b_law_draw .nil pass0 (pa_cons (pv 1) (pa_cons pe_int pa_nil))) pe_int (nomark _)) (pss_one (ps_set (i := 4) sc_law_all.nd rfl (Or.inl rfl) (pe_make T.mk_Frac (ok_Frac_init T) (hr.mono (by decide)) (by rfl) T.mg_Frac (b3 T) .nil passN (pa_cons (pe_ix ixHT (pv 2) pe_int (fun _ _ => rfl)) (pa_cons (pe_ix ixHT (pv 2) pe_int (fun _ _ => rfl)) pa_nil))))) (pss_one (ps_set (i := 4) sc_law_all.nd rfl (Or.inl rfl) (pe_makeKS T.mk_Frac (ok_Frac_init T) (hr.mono (by decide)) (by rfl) T.mg_Frac kb2b (fun _ _ => rfl) (fun _ _ => rfl) (fun _ => passNA) (pk_cons (pe_ix ixHT (pv 2) pe_int (fun _ _ => rfl)) (pk_cons (pe_ix ixHT (pv 2) pe_int (fun _ _ => rfl)) pk_nil))))))
      (pss_cons (ps_set (i := 5) sc_law_all.nd rfl (Or.inl rfl) (pe_make T.mk_Frac (ok_Frac_init T) (hr.mono (by decide)) (by rfl) T.mg_Frac (b3 T) .nil passN (pa_cons (pe_ix ixHT (pv 3) pe_int (fun _ _ => rfl)) (pa_cons (pe_ix ixHT (pv 3) pe_int (fun _ _ => rfl)) pa_nil))))
      (pss_cons (ps_if (PW.pt (pw_or (pt_not (pt_val (pe_call (ok_law_is T) (hr.mono (by decide)) (by rfl) T.mg_law_is T.fn_law_is.kp T.b_law_is .nil pass0 (pa_cons (pv 4) (pa_cons (pe_ix ixHT (pv 2) pe_int (fun _ _ => rfl)) (pa_cons (pe_ix ixHT (pv 2) pe_int (fun _ _ => rfl)) pa_nil)))))) (pw_or1 (pt_not (pt_val (pe_call (ok_law_is T) (hr.mono (by decide)) (by rfl) T.mg_law_is T.fn_law_is.kp T.b_law_is .nil pass0 (pa_cons (pv 5) (pa_cons (pe_ix ixHT (pv 3) pe_int (fun _ _ => rfl)) (pa_cons (pe_ix ixHT (pv 3) pe_int (fun _ _ => rfl)) pa_nil))))))))) (pss_one (ps_ret pe_bl)) pss_nil)
      (pss_cons (ps_if (PW.pt (pw_or (pt_not (pt_val (pe_call (ok_law_is T) (hr.mono (by decide)) (by rfl) T.mg_law_is T.fn_law_is.kp T.b_law_is .nil pass0 (pa_cons (pe_make T.mk_Frac (ok_Frac_init T) (hr.mono (by decide)) (by rfl) T.mg_Frac b2b b2v passN (pa_cons (pe_ix ixHT (pv 2) pe_int (fun _ _ => rfl)) pa_nil)) (pa_cons (pe_ix ixHT (pv 2) pe_int (fun _ _ => rfl)) (pa_cons pe_int pa_nil)))))) (pw_or1 (pt_not (pt_val (pe_call (ok_law_is T) (hr.mono (by decide)) (by rfl) T.mg_law_is T.fn_law_is.kp T.b_law_is .nil pass0 (pa_cons (pe_makeKS T.mk_Frac (ok_Frac_init T) (hr.mono (by decide)) (by rfl) T.mg_Frac kb1b (fun _ _ => rfl) (fun _ _ => rfl) (fun _ => passNA) (pk_cons (pe_ix ixHT (pv 3) pe_int (fun _ _ => rfl)) pk_nil)) (pa_cons (pe_ix ixHT (pv 3) pe_int (fun _ _ => rfl)) (pa_cons pe_int pa_nil))))))))) (pss_one (ps_ret pe_bl)) pss_nil)
      (pss_cons (ps_if (PW.pt (pw_or (pt_not (pt_val (pe_call (ok_law_pair T) (hr.mono (by decide)) (by rfl) T.mg_law_pair T.fn_law_pair.kp T.b_law_pair .nil pass0 (pa_cons (pv 4) (pa_cons (pv 5) (pa_cons (pv 2) (pa_cons (pv 3) pa_nil))))))) (pw_or1 (pt_not (pt_val (pe_call (ok_law_pair T) (hr.mono (by decide)) (by rfl) T.mg_law_pair T.fn_law_pair.kp T.b_law_pair .nil pass0 (pa_cons (pv 5) (pa_cons (pv 4) (pa_cons (pv 3) (pa_cons (pv 2) pa_nil)))))))))) (pss_one (ps_ret pe_bl)) pss_nil)
      (pss_cons (ps_if (PW.pt (pw_or (pt_not (pt_val (pe_call (ok_law_pair T) (hr.mono (by decide)) (by rfl) T.mg_law_pair T.fn_law_pair.kp T.b_law_pair .nil pass0 (pa_cons (pv 4) (pa_cons (pv 4) (pa_cons (pv 2) (pa_cons (pv 2) pa_nil))))))) (pw_or1 (pt_not (pt_val (pe_call (ok_law_truth T) (hr.mono (by decide)) (by rfl) T.mg_law_truth T.fn_law_truth.kp T.b_law_truth .nil pass0 (pa_cons (pe_methN (pv 4) T.cl_Frac T.mt_Frac_is_below (ok_Frac_is_below T) (hr.mono (by decide)) (kbBel T) pass0 (pk_cons (pv 4) pk_nil)) (pa_cons pe_bl pa_nil)))))))) (pss_one (ps_ret pe_bl)) pss_nil)
      (pss_cons (ps_if (pt_not (pt_val (pe_call (ok_law_bad T) (hr.mono (by decide)) (by rfl) T.mg_law_bad T.fn_law_bad.kp T.b_law_bad .nil pass0 (pa_cons (pv 1) (pa_cons (pv 2) pa_nil))))) (pss_one (ps_ret pe_bl)) pss_nil)
      (pss_cons (ps_set (i := 6) sc_law_all.nd rfl (Or.inl rfl) (pe_call (ok_law_wrong T) (hr.mono (by decide)) (by rfl) T.mg_law_wrong T.fn_law_wrong.kp T.b_law_wrong .nil pass0 (pa_cons (pv 1) (pa_cons (pv 2) pa_nil))))
      (pss_cons (ps_if (pt_not (pt_val (pe_callB (call_isF T) (by rfl) T.no_isinstance (by decide +kernel) (pa_cons (pv 6) (pa_cons (pe_glob (v := .ref a.C_Frac) rfl T.mg_Frac rfl) pa_nil))))) (pss_one (ps_if (PW.pt (pw_or (pt_not (pt_cmpR op_isBl (pe_cmpR (op_eqOwn (ok_Frac_eq T) (hr.mono (by decide)) T.mt_Frac_eq.at_ T.mt_Frac_eq.fn T.b_Frac_eq pass0) (pv 4) (pv 6) (nomark _)) pe_bl (nomark _))) (pw_or1 (pt_not (pt_val (pe_call (ok_law_not_divided T) (hr.mono (by decide)) (by rfl) T.mg_law_not_divided T.fn_law_not_divided.kp T.b_law_not_divided .nil pass0 (pa_cons (pv 4) (pa_cons (pv 6) pa_nil)))))))) (pss_one (ps_ret pe_bl)) pss_nil)) pss_nil)
      (pss_cons (ps_for PassesOwn.never rfl (pi_list (pe_lst (pa_cons (pe_num T (pv 4)) (pa_cons (pe_den T (pv 4)) (pa_cons (pe_tup (pa_cons (pe_num T (pv 4)) (pa_cons (pe_den T (pv 4)) pa_nil))) (pa_cons (pe_lst (pa_cons (pe_num T (pv 4)) (pa_cons (pe_den T (pv 4)) pa_nil))) (pa_cons pe_non (pa_cons pe_bl (pa_cons pe_bl (pa_cons pe_str pa_nil)))))))))) (pg_name (i := 6) sc_law_all.nd rfl (Or.inl rfl))
        (pss_one (ps_if (pt_not (pt_cmpR op_isBl (pe_cmpR (op_eqOwn (ok_Frac_eq T) (hr.mono (by decide)) T.mt_Frac_eq.at_ T.mt_Frac_eq.fn T.b_Frac_eq pass0) (pv 4) (pv 6) (nomark _)) pe_bl (nomark _))) (pss_one (ps_ret pe_bl)) pss_nil)))
      (pss_cons (ps_if (pt_not (pt_val (pe_call (ok_law_not_divided T) (hr.mono (by decide)) (by rfl) T.mg_law_not_divided T.fn_law_not_divided.kp T.b_law_not_divided .nil pass0 (pa_cons (pv 5) (pa_cons (pe_den T (pv 4)) pa_nil))))) (pss_one (ps_ret pe_bl)) pss_nil)
      (pss_one (ps_ret (pe_and (pe_call (ok_law_is T) (hr.mono (by decide)) (by rfl) T.mg_law_is T.fn_law_is.kp T.b_law_is .nil pass0 (pa_cons (pv 4) (pa_cons (pe_ix ixHT (pv 2) pe_int (fun _ _ => rfl)) (pa_cons (pe_ix ixHT (pv 2) pe_int (fun _ _ => rfl)) pa_nil)))) (pe_one (pe_call (ok_law_is T) (hr.mono (by decide)) (by rfl) T.mg_law_is T.fn_law_is.kp T.b_law_is .nil pass0 (pa_cons (pv 5) (pa_cons (pe_ix ixHT (pv 3) pe_int (fun _ _ => rfl)) (pa_cons (pe_ix ixHT (pv 3) pe_int (fun _ _ => rfl)) pa_nil)))))))))))))))))))))), ?_⟩
    show (_ : TS) _ [some (V.ref p0), none, none, none, none, none, none] H
    refine cut (fun σ H => ∃ b c, σ = [some (V.ref p0), some (V.ref b), none, none, none, none, none] ∧ BoxAt K H b c ns) (fun R hR => ?_) (fun σ H' h => ?_)
    · walk_at "rd"
      exact ⟨p0, ns, rfl, hs, hl, fun b c H' B _ _ => hR _ _ ⟨b, c, rfl, B⟩⟩
    obtain ⟨b, c, rfl, B⟩ := h
    clear hs hl
    refine cut (fun σ H => ∃ f1 n1 d1, σ = [some (V.ref p0), some (V.ref b), some (V.ref f1), none, none, none, none] ∧ BoxAt K H b c ns ∧ H f1 = some (.tup [.int n1, .int d1]) ∧ f1 ≠ b ∧ Tm n1 ∧ Tm d1 ∧ d1 ≠ 0) (fun R hR => ?_) (fun σ H' h => ?_)
    · walk_at "rd"
      refine ⟨b, c, ns, rfl, B, fun n d t H' z1 z2 z3 B2 e2 ht => hR _ _ ⟨t, n, d, rfl, B2, ht, fun e => ?_, z1, z2, z3⟩⟩
      obtain ⟨_, _, _, hb, _⟩ := B2.ob
      rw [e, hb] at ht
      cases ht
    obtain ⟨f1, n1, d1, rfl, B1, hf1, nf1, t1, t2, z1⟩ := h
    refine cut (fun σ H => ∃ f2 n2 d2, σ = [some (V.ref p0), some (V.ref b), some (V.ref f1), some (V.ref f2), none, none, none] ∧ BoxAt K H b c ns ∧ H f1 = some (.tup [.int n1, .int d1]) ∧ H f2 = some (.tup [.int n2, .int d2]) ∧ f2 ≠ b ∧ Sm n2 ∧ Sm d2 ∧ d2 ≠ 0) (fun R hR => ?_) (fun σ H' h => ?_)
    · walk_at "rd"
      refine ⟨b, c, f1, ns, n1, d1, rfl, B1, hf1, t1, t2, z1, fun n d t H' z1 z2 z3 B2 e2 ht => hR _ _ ⟨t, n, d, rfl, B2, e2 _ _ nf1 hf1, ht, fun e => ?_, z1, z2, z3⟩⟩
      obtain ⟨_, _, _, hb, _⟩ := B2.ob
      rw [e, hb] at ht
      cases ht
    obtain ⟨f2, n2, d2, rfl, B2, hf1, hf2, nf2, b3, b4, z2⟩ := h
    have b1 : Sm n1 := lt2 t1 (by decide)
    have b2 : Sm d1 := lt2 t2 (by decide)
    have g1 : Big n1 := lt2 b1 (by decide)
    have g2 : Big d1 := lt2 b2 (by decide)
    have g3 : Big n2 := lt2 b3 (by decide)
    have g4 : Big d2 := lt2 b4 (by decide)
    refine cut (fun σ H => ∃ p dx, σ = [some (V.ref p0), some (V.ref b), some (V.ref f1), some (V.ref f2), some (V.ref p), none, none] ∧ BoxAt K H b c ns ∧ H f1 = some (.tup [.int n1, .int d1]) ∧ H f2 = some (.tup [.int n2, .int d2]) ∧ H p = some (.ins a.C_Frac dx (ff (LN n1 d1) (LD n1 d1))) ∧ p ≠ b) (fun R hR => ?_) (fun σ H' h => ?_)
    · walk_at "rd"
      refine drw B2 (by decide) (by decide) fun d H3 p3 q3 B3 e3 => ?_
      have hf1 := e3 _ _ nf1 hf1
      have hf2 := e3 _ _ nf2 hf2
      simp only [hf1, hf2]
      walk_at "rd"
      exact ite2 (fun _ => frac_new z1 g1 g2 fun x dr H4 hx h4 e4 => hR _ _ ⟨x, dr, rfl, B3.same e4, e4 _ _ hf1, e4 _ _ hf2, h4, B3.ne_new hx⟩) (fun _ => frac_new z1 g1 g2 fun x dr H4 hx h4 e4 => hR _ _ ⟨x, dr, rfl, B3.same e4, e4 _ _ hf1, e4 _ _ hf2, h4, B3.ne_new hx⟩)
    obtain ⟨p, dx, rfl, B3, hf1, hf2, hp, np⟩ := h
    refine cut (fun σ H => ∃ q, σ = [some (V.ref p0), some (V.ref b), some (V.ref f1), some (V.ref f2), some (V.ref p), some (V.ref q), none] ∧ Two K a.C_Frac H b c f1 f2 p q ns n1 d1 n2 d2 ∧ q ≠ b) (fun R hR => ?_) (fun σ H' h => ?_)
    · walk_at "rd"
      simp only [hf2]
      walk_at "rd"
      exact frac_new z2 g3 g4 fun x dr H4 hx h4 e4 => hR _ _ ⟨x, rfl, ⟨B3.same e4, e4 _ _ hf1, e4 _ _ hf2, ⟨_, e4 _ _ hp⟩, ⟨_, h4⟩⟩, B3.ne_new hx⟩
    obtain ⟨q, rfl, tw, nq⟩ := h
    clear B B1 B2 B3 hf1 hf2 hp
    refine cut (fun σ H => σ = [some (V.ref p0), some (V.ref b), some (V.ref f1), some (V.ref f2), some (V.ref p), some (V.ref q), none] ∧ Two K a.C_Frac H b c f1 f2 p q ns n1 d1 n2 d2) (fun R hR => ?_) (fun σ H' h => ?_)
    · walk_at "rd"
      simp only [tw.h1]
      walk_at "rd"
      obtain ⟨dx1, hp⟩ := tw.hp
      refine ⟨p, dx1, n1, d1, rfl, hp, z1, g1, g2, fun H1 e1 => yes ?_⟩
      have tw1 := tw.same e1
      simp only [tw1.h2]
      walk_at "rd"
      obtain ⟨dy1, hq⟩ := tw1.hq
      exact ⟨q, dy1, n2, d2, rfl, hq, z2, g3, g4, fun H2 e2 => yes (hR _ _ ⟨rfl, tw1.same e2⟩)⟩
    obtain ⟨rfl, tw⟩ := h
    refine cut (fun σ H => σ = [some (V.ref p0), some (V.ref b), some (V.ref f1), some (V.ref f2), some (V.ref p), some (V.ref q), none] ∧ Two K a.C_Frac H b c f1 f2 p q ns n1 d1 n2 d2) (fun R hR => ?_) (fun σ H' h => ?_)
    · walk_at "rd"
      simp only [tw.h1]
      walk_at "rd"
      refine frac_new (by decide) g1 (by decide +kernel) fun x dr H1 hx h1 e1 => ?_
      have tw1 := tw.same e1
      simp only [tw1.h1]
      walk_at "rd"
      refine ⟨x, dr, n1, 1, rfl, h1, by decide, g1, by decide +kernel, fun H2 e2 => yes ?_⟩
      have tw2 := tw1.same e2
      simp only [tw2.h2]
      walk_at "rd"
      refine frac_new (by decide) g4 (by decide +kernel) fun x' dr' H3 hx' h3 e3 => ?_
      have tw3 := tw2.same e3
      simp only [tw3.h2]
      walk_at "rd"
      exact ⟨x', dr', d2, 1, rfl, h3, by decide, g4, by decide +kernel, fun H4 e4 => yes (hR _ _ ⟨rfl, tw3.same e4⟩)⟩
    obtain ⟨rfl, tw⟩ := h
    refine cut (fun σ H => σ = [some (V.ref p0), some (V.ref b), some (V.ref f1), some (V.ref f2), some (V.ref p), some (V.ref q), none] ∧ Two K a.C_Frac H b c f1 f2 p q ns n1 d1 n2 d2) (fun R hR => ?_) (fun σ H' h => ?_)
    · walk_at "rd"
      obtain ⟨dx1, hp⟩ := tw.hp
      obtain ⟨dy1, hq⟩ := tw.hq
      refine ⟨p, q, f1, f2, dx1, dy1, n1, d1, n2, d2, rfl, hp, hq, tw.h1, tw.h2, b1, b2, b3, b4, z1, z2, fun H1 e1 => yes ?_⟩
      have tw1 := tw.same e1
      exact ⟨q, p, f2, f1, dy1, dx1, n2, d2, n1, d1, rfl, e1 _ _ hq, e1 _ _ hp, tw1.h2, tw1.h1, b3, b4, b1, b2, z2, z1, fun H2 e2 => yes (hR _ _ ⟨rfl, tw1.same e2⟩)⟩
    obtain ⟨rfl, tw⟩ := h
    refine cut (fun σ H => σ = [some (V.ref p0), some (V.ref b), some (V.ref f1), some (V.ref f2), some (V.ref p), some (V.ref q), none] ∧ Two K a.C_Frac H b c f1 f2 p q ns n1 d1 n2 d2) (fun R hR => ?_) (fun σ H' h => ?_)
    · walk_at "rd"
      obtain ⟨dx1, hp⟩ := tw.hp
      refine ⟨p, p, f1, f1, dx1, dx1, n1, d1, n1, d1, rfl, hp, hp, tw.h1, tw.h1, b1, b2, b1, b2, z1, z1, fun H1 e1 => yes ?_⟩
      have hp1 := e1 _ _ hp
      simp only [hp1]
      walk_at "rd"
      have m := mid_low z1 b1 b2
      exact ⟨ff_no _ _ (by decide +kernel) (by decide +kernel), p, p, dx1, dx1, _, _, _, _, rfl, hp1, hp1, m.1, m.2, m.1, m.2, false, by rw [decide_eq_false (Int.lt_irrefl _)], yes (hR _ _ ⟨rfl, tw.same e1⟩)⟩
    obtain ⟨rfl, tw⟩ := h
    -- _law_bad
    refine cut (fun σ H => σ = [some (V.ref p0), some (V.ref b), some (V.ref f1), some (V.ref f2), some (V.ref p), some (V.ref q), none] ∧ Two K a.C_Frac H b c f1 f2 p q ns n1 d1 n2 d2) (fun R hR => ?_) (fun σ H' h => ?_)
    · walk_at "rd"
      exact ⟨b, c, f1, ns, n1, d1, rfl, tw.box, tw.h1, g1, g2, z1, fun H1 B1 e1 => yes (hR _ _ ⟨rfl, tw.but B1 e1 nf1 nf2 np nq⟩)⟩
    obtain ⟨rfl, tw⟩ := h
    -- other = _law_wrong
    refine cut (fun σ H => ∃ v, σ = [some (V.ref p0), some (V.ref b), some (V.ref f1), some (V.ref f2), some (V.ref p), some (V.ref q), some v] ∧ Two K a.C_Frac H b c f1 f2 p q ns n1 d1 n2 d2 ∧ Wr a.C_Frac H v) (fun R hR => ?_) (fun σ H' h => ?_)
    · walk_at "rd"
      exact ⟨b, c, f1, ns, n1, d1, rfl, tw.box, tw.h1, g1, g2, z1, fun v H1 wr B1 e1 => hR _ _ ⟨v, rfl, tw.but B1 e1 nf1 nf2 np nq, wr.same del_sub⟩⟩
    obtain ⟨v, rfl, tw, wr⟩ := h
    refine cut (fun σ H => ∃ v, σ = [some (V.ref p0), some (V.ref b), some (V.ref f1), some (V.ref f2), some (V.ref p), some (V.ref q), some v] ∧ Two K a.C_Frac H b c f1 f2 p q ns n1 d1 n2 d2) (fun R hR => ?_) (fun σ H' h => ?_)
    · walk_at "rd"
      obtain ⟨dx1, hp⟩ := tw.hp
      obtain ⟨g, t, _⟩ := wr.ty
      obtain ⟨dd, kd⟩ := wr.kd
      refine ⟨g, t, ?_⟩
      by_cases hf : g = .fr
      · rw [if_neg (by rw [hf]; decide)]
        exact hR _ _ ⟨v, rfl, tw⟩
      · rw [if_pos (by rw [decide_eq_false hf]; rfl)]
        simp only [hp]
        walk_at "rd"
        refine ⟨_, t.x T, Ty.nf T g, p, dx1, _, _, v, rfl, hp, .inl ⟨g, t, hf, false, rfl, ?_⟩⟩
        rw [if_neg (by decide)]
        exact ⟨p, dx1, _, _, v, g, dd, rfl, hp, t, Kd.up 3 _ _ kd, fun z => absurd z hf, fun H1 e1 => yes (hR _ _ ⟨v, rfl, tw.same e1⟩)⟩
    obtain ⟨vx, rfl, tw⟩ := h
    -- the loop
    refine cut (fun σ H => ∃ v, σ = [some (V.ref p0), some (V.ref b), some (V.ref f1), some (V.ref f2), some (V.ref p), some (V.ref q), some v] ∧ Two K a.C_Frac H b c f1 f2 p q ns n1 d1 n2 d2) (fun R hR => ?_) (fun σ H' h => ?_)
    · walk_at "rd"
      obtain ⟨dx1, hp⟩ := tw.hp
      simp only [hp]
      walk_at "rd"
      refine ⟨by decide, fun u1 hu1 => ?_⟩
      have e1 : Same H' (upd H' u1 (.tup [.int (LN n1 d1), .int (LD n1 d1)])) := same_upd hu1
      have hp1 := e1 _ _ hp
      simp only [hp1]
      walk_at "rd"
      refine ⟨by decide, fun u2 hu2 => ⟨by decide, fun u3 hu3 => ?_⟩⟩
      have h1 := (same_upd (o := .lst [.int (LN n1 d1), .int (LD n1 d1)]) hu2) _ _ (upd_same (H := H') (a := u1) (o := .tup [.int (LN n1 d1), .int (LD n1 d1)]))
      have h2 := upd_same (H := upd H' u1 (.tup [.int (LN n1 d1), .int (LD n1 d1)])) (a := u2) (o := .lst [.int (LN n1 d1), .int (LD n1 d1)])
      have e3 := (e1.trans (same_upd (o := .lst [.int (LN n1 d1), .int (LD n1 d1)]) hu2))
      generalize upd (upd H' u1 (.tup [.int (LN n1 d1), .int (LD n1 d1)])) u2 (.lst [.int (LN n1 d1), .int (LD n1 d1)]) = H2 at h1 h2 e3 hu3 ⊢
      generalize hvs : [V.int (LN n1 d1), V.int (LD n1 d1), V.ref u1, V.ref u2, V.non, V.bl true, V.bl false, V.str (Str.ofString "")] = vs
      have ty : ∀ x ∈ vs, ∃ g, Ty a.C_Frac (upd H2 u3 (.lst vs)) x g ∧ g ≠ .fr := fun x hx => by
        subst hvs
        simp only [List.mem_cons, List.not_mem_nil, or_false] at hx
        rcases hx with rfl | rfl | rfl | rfl | rfl | rfl | rfl | rfl
        · exact ⟨_, .int _, by decide⟩
        · exact ⟨_, .int _, by decide⟩
        · exact ⟨_, .tup ((same_upd hu3) _ _ h1), by decide⟩
        · exact ⟨_, .lst ((same_upd hu3) _ _ h2), by decide⟩
        · exact ⟨_, .non, by decide⟩
        · exact ⟨_, .bl _, by decide⟩
        · exact ⟨_, .bl _, by decide⟩
        · exact ⟨_, .str _, by decide⟩
      have h3 : (upd H2 u3 (.lst vs)) u3 = some (.lst vs) := upd_same
      have e4 := e3.trans (same_upd (o := .lst vs) hu3)
      generalize upd H2 u3 (.lst vs) = H3 at ty h3 e4 ⊢
      have tw3 := tw.same e4
      have hp3 := e4 _ _ hp
      refine ⟨⟨_, SqL.of h3⟩, Rd.loop_listC (xs := vs) (fun σ H' => H' = H3 ∧ ∃ v, σ = [some (V.ref p0), some (V.ref b), some (V.ref f1), some (V.ref f2), some (V.ref p), some (V.ref q), some v]) (fun _ σ H' => H' = H3 ∧ ∃ v, σ = [some (V.ref p0), some (V.ref b), some (V.ref f1), some (V.ref f2), some (V.ref p), some (V.ref q), some v]) ⟨rfl, _, rfl⟩ (fun _ _ _ _ h => by rw [h.1]; exact SqL.of h3) ?_ (fun _ _ z => z) ?_⟩
      · rintro bk hbk i x σ H4 hx ⟨rfl, v4, rfl⟩
        obtain ⟨g, t, hg⟩ := ty x (List.mem_of_getElem? hx)
        walk_at "rd"
        simp only [hp3]
        walk_at "rd"
        refine ⟨_, t.x T, Ty.nf T g, p, dx1, _, _, x, rfl, hp3, .inl ⟨g, t, hg, false, rfl, ?_⟩⟩
        rw [if_neg (by decide)]
        exact ⟨rfl, x, rfl⟩
      · rintro σ H4 ⟨rfl, v4, rfl⟩
        exact hR _ _ ⟨v4, rfl, tw3⟩
    obtain ⟨vy, rfl, tw⟩ := h
    refine cut (fun σ H => ∃ v, σ = [some (V.ref p0), some (V.ref b), some (V.ref f1), some (V.ref f2), some (V.ref p), some (V.ref q), some v] ∧ Two K a.C_Frac H b c f1 f2 p q ns n1 d1 n2 d2) (fun R hR => ?_) (fun σ H' h => ?_)
    · walk_at "rd"
      obtain ⟨dx1, hp⟩ := tw.hp
      obtain ⟨dy1, hq⟩ := tw.hq
      simp only [hp]
      walk_at "rd"
      exact ⟨q, dy1, _, _, .int _, .int, _, rfl, hq, .int _, .inl (.int _), fun z => absurd z (by decide), fun H1 e1 => yes (hR _ _ ⟨vy, rfl, tw.same e1⟩)⟩
    obtain ⟨vz, rfl, tw⟩ := h
    walk_at "rd"
    obtain ⟨dx1, hp⟩ := tw.hp
    simp only [tw.h1]
    walk_at "rd"
    refine ⟨p, dx1, n1, d1, rfl, hp, z1, g1, g2, fun H1 e1 => ⟨true, rfl, ?_⟩⟩
    rw [if_pos rfl]
    have tw1 := tw.same e1
    simp only [tw1.h2]
    walk_at "rd"
    obtain ⟨dy1, hq⟩ := tw1.hq
    exact ⟨q, dy1, n2, d2, rfl, hq, z2, g3, g4, fun H2 _ => k H2⟩
end
end K02
namespace K02
open PySem PySem.Spec PyProof.Rows L2 Own OwnHot OwnExN
local macro_rules | `(tactic| walk_at "rd") => `(tactic| simp only [tSeq, tAsg, tOp, tUn, tVar, gName, gSub, rIxL, rIxT, rSetL, tC, rI0, rI, rU, rEq, rNe, tCons, tNil, tCB, tLst, tTup, tIfS, tAnd, tOr, tNot, tAndV, tOrV, tNotV, tTest, tB, tIf, tRet, tDrop, tNext, tBreak, tCont, tCall, tMake, tMkO, sFld, tOst, tNum, tDen, tNever, tBits, rIs, rIsB, clv, isB, rGcd,
  Rd.tFor_rng1, Rd.tFor_rng2, Rd.tFor_list, Rd.tFor_tup, Rd.tLc_list, Rd.tLc_tup, Rd.tLc_rng1, Rd.LcTurn, tYes, wipe, Rd.rLenL, Rd.rLenT, Rd.rIntI, Rd.rIxH, rIxHT, HO.tup.injEq, Rd.at0, Rd.at1, Rd.at2, Rd.at3, Rd.ixN40, Rd.ixN41, Rd.ixN42, Rd.ixN43, Rd.scal_ii, cxOf,
  List.length_cons, List.length_nil, List.length_map, List.map_cons, List.map_nil, upd_same, decide_eq_true_eq, decide_true, decide_false, if_true, if_false, Bool.false_eq_true, Bool.not_true, Bool.not_false, HO.lst.injEq, HO.ins.injEq, ff_inj, List.set_cons_zero, List.set_cons_succ, List.getElem?_cons_zero, List.getElem?_cons_succ, List.append_nil, List.nil_append, List.cons_append, Option.some.injEq, V.ref.injEq, V.int.injEq, V.bl.injEq, List.cons.injEq, exists_eq_left', exists_and_left, exists_eq_left, true_and, and_true, and_self, and_assoc, implies_true, reduceCtorEq, Nat.reduceAdd])

section
variable {P : Program} {w : World} {K : PySem.W.Frag} {mg : Str → Option Value} {base : Heap} {a : Ad}
/-! ### law -/
def spLaw (K : PySem.W.Frag) : Sp := fun vs H Q _ => ∃ (a : Addr) (ns : List Int), vs = [.ref a] ∧ SqL K H a (ns.map V.int) ∧ ns.length ≤ 63 ∧ ∀ H', Q (.bl true) H'
theorem sc_law : FnScope ["script"] ["script"] (defScope s_law) := ⟨rfl, rfl, rfl, by decide +kernel, rfl, by decide +kernel, by decide +kernel⟩
theorem ok_law (T : Txt K mg a) : FnOk P w K mg base CX0 9 a.a_law a.d_law ["script"] (spLaw K) := by
  refine T.fn_law.ok sc_law (fun vs H Q E h => ?_) (fun cdv A outer s H vs Q E hr h => ?_)
  · obtain ⟨p, ns, rfl, _⟩ := h
    rfl
  · obtain ⟨p0, ns, rfl, hs, hl, k⟩ := h
    refine ⟨_, (pss_one (ps_try_thru0 (pss_one (ps_ret (pe_call (ok_law_all T) (hr.mono (by decide)) (by rfl) T.mg_law_all T.fn_law_all.kp T.b_law_all .nil pass0 (pa_cons (pv 0) pa_nil)))))), ?_⟩
    show (_ : TS) _ [some (V.ref p0)] H
    walk_at "rd"
    exact ⟨p0, ns, rfl, hs, hl, k⟩
end
end K02
namespace K02
open PySem PySem.Spec PyProof.Rows L2
theorem kit_self {K : PySem.W.Frag} {C : Addr} : PySem.W.kitOne K (.ref C) (.ref C) = some true := by
  unfold PySem.W.kitOne
  rw [if_pos (beq_self_eq_true _)]
theorem kit_own {K : PySem.W.Frag} {C : Addr} {t : String} {b : Bool} (h1 : PySem.W.isClsIn K C = true) (h2 : PySem.W.typeIn K (.ref C) = some (.type "type")) (h3 : PySem.W.subIn K (.type t) (.ref C) = some b) : PySem.W.kitOne K (.type t) (.ref C) = some b := by
  have e : (PySem.W.clsIn K C).isSome = true := h1
  unfold PySem.W.kitOne PySem.W.kitCls
  rw [if_neg (fun q => by cases beq_iff_eq.mp q)]
  simp only [e, h2, h3]
  rfl
theorem kit_bi {K : PySem.W.Frag} {C : Addr} {t : String} {b : Bool} (h : PySem.W.subIn K (.ref C) (.type t) = some b) (h1 : PySem.W.kitMeta t = true) : PySem.W.kitOne K (.ref C) (.type t) = some b := by
  unfold PySem.W.kitOne PySem.W.kitCls
  rw [if_neg (fun q => by cases beq_iff_eq.mp q)]
  simp only [h1, if_true, h]
theorem exm_self {K : PySem.W.Frag} {S : Addr} (h1 : PySem.W.subIn K (.ref S) (.type "BaseException") = some true) (h2 : PySem.W.isClsIn K S = true) (h3 : PySem.W.typeIn K (.ref S) = some (.type "type")) (h4 : PySem.W.subIn K (.ref S) (.ref S) = some true) :
    PySem.W.exmOne K (.ref S) (.ref S) = some true := by
  have e : (PySem.W.clsIn K S).isSome = true := h2
  unfold PySem.W.exmOne PySem.W.kitCls
  simp only [h1, e, h3, h4]
  rfl
theorem txt_mk {K : PySem.W.Frag} {h : Heap} {mg : Str → Option Value} {C_Frac C_InvalidFraction C_NextError a_InvalidFraction_init a_is_whole a_Frac_init a_Frac_add a_Frac_sub a_Frac_mul a_Frac_eq a_Frac_is_below a_Frac_divided_by a_law_box a_law_draw a_law_gcd a_law_low a_law_number a_law_signed a_law_terms a_law_second a_law_is a_law_truth a_law_wrong a_law_kind a_law_refused a_law_not_divided a_law_bad a_law_pair a_law_all a_law : Addr} (X : K.In h) (G : h.Ns mainGlobals mg)
    {od_InvalidFraction_init an_InvalidFraction_init od_is_whole an_is_whole od_Frac_init an_Frac_init od_Frac_add an_Frac_add od_Frac_sub an_Frac_sub od_Frac_mul an_Frac_mul od_Frac_eq an_Frac_eq od_Frac_is_below an_Frac_is_below od_Frac_divided_by an_Frac_divided_by od_law_box an_law_box od_law_draw an_law_draw od_law_gcd an_law_gcd od_law_low an_law_low od_law_number an_law_number od_law_signed an_law_signed od_law_terms an_law_terms od_law_second an_law_second od_law_is an_law_is od_law_truth an_law_truth od_law_wrong an_law_wrong od_law_kind an_law_kind od_law_refused an_law_refused od_law_not_divided an_law_not_divided od_law_bad an_law_bad od_law_pair an_law_pair od_law_all an_law_all od_law an_law : Option Addr} {sl_InvalidFraction_init sl_is_whole sl_Frac_init sl_Frac_add sl_Frac_sub sl_Frac_mul sl_Frac_eq sl_Frac_is_below sl_Frac_divided_by sl_law_box sl_law_draw sl_law_gcd sl_law_low sl_law_number sl_law_signed sl_law_terms sl_law_second sl_law_is sl_law_truth sl_law_wrong sl_law_kind sl_law_refused sl_law_not_divided sl_law_bad sl_law_pair sl_law_all sl_law : Array (Option Value)} {oc_InvalidFraction_init kV_InvalidFraction_init dc_InvalidFraction_init pm_InvalidFraction_init cd_InvalidFraction_init ct_InvalidFraction_init oc_is_whole kV_is_whole dc_is_whole pm_is_whole cd_is_whole ct_is_whole oc_Frac_init kV_Frac_init dc_Frac_init pm_Frac_init cd_Frac_init ct_Frac_init oc_Frac_add kV_Frac_add dc_Frac_add pm_Frac_add cd_Frac_add ct_Frac_add oc_Frac_sub kV_Frac_sub dc_Frac_sub pm_Frac_sub cd_Frac_sub ct_Frac_sub oc_Frac_mul kV_Frac_mul dc_Frac_mul pm_Frac_mul cd_Frac_mul ct_Frac_mul oc_Frac_eq kV_Frac_eq dc_Frac_eq pm_Frac_eq cd_Frac_eq ct_Frac_eq oc_Frac_is_below kV_Frac_is_below dc_Frac_is_below pm_Frac_is_below cd_Frac_is_below ct_Frac_is_below oc_Frac_divided_by kV_Frac_divided_by dc_Frac_divided_by pm_Frac_divided_by cd_Frac_divided_by ct_Frac_divided_by oc_law_box kV_law_box dc_law_box pm_law_box cd_law_box ct_law_box oc_law_draw kV_law_draw dc_law_draw pm_law_draw cd_law_draw ct_law_draw oc_law_gcd kV_law_gcd dc_law_gcd pm_law_gcd cd_law_gcd ct_law_gcd oc_law_low kV_law_low dc_law_low pm_law_low cd_law_low ct_law_low oc_law_number kV_law_number dc_law_number pm_law_number cd_law_number ct_law_number oc_law_signed kV_law_signed dc_law_signed pm_law_signed cd_law_signed ct_law_signed oc_law_terms kV_law_terms dc_law_terms pm_law_terms cd_law_terms ct_law_terms oc_law_second kV_law_second dc_law_second pm_law_second cd_law_second ct_law_second oc_law_is kV_law_is dc_law_is pm_law_is cd_law_is ct_law_is oc_law_truth kV_law_truth dc_law_truth pm_law_truth cd_law_truth ct_law_truth oc_law_wrong kV_law_wrong dc_law_wrong pm_law_wrong cd_law_wrong ct_law_wrong oc_law_kind kV_law_kind dc_law_kind pm_law_kind cd_law_kind ct_law_kind oc_law_refused kV_law_refused dc_law_refused pm_law_refused cd_law_refused ct_law_refused oc_law_not_divided kV_law_not_divided dc_law_not_divided pm_law_not_divided cd_law_not_divided ct_law_not_divided oc_law_bad kV_law_bad dc_law_bad pm_law_bad cd_law_bad ct_law_bad oc_law_pair kV_law_pair dc_law_pair pm_law_pair cd_law_pair ct_law_pair oc_law_all kV_law_all dc_law_all pm_law_all cd_law_all ct_law_all oc_law kV_law dc_law pm_law cd_law ct_law : Value}
    {nm_InvalidFraction qq_InvalidFraction : Str} {N_InvalidFraction : Addr} {bs_InvalidFraction : List Value} {sn_InvalidFraction : List Str} {sub_InvalidFraction : List Value} {ab_InvalidFraction : Bool} {col_InvalidFraction : Option Bool} {dd_InvalidFraction : Option Addr} {m0_InvalidFraction m1_InvalidFraction m2_InvalidFraction m3_InvalidFraction m5_InvalidFraction : Option Value}
    {T_Frac_init : Addr} {o_Frac_init : Obj} {m_Frac_init : Nat} {tk0_Frac_init : Tok}
    (hC_Frac : PySem.W.nsIn K mainGlobals "Frac" = some (some (.ref C_Frac)))
    (hC_InvalidFraction : PySem.W.nsIn K mainGlobals "InvalidFraction" = some (some (.ref C_InvalidFraction)))
    (hC_NextError : PySem.W.nsIn K mainGlobals "NextError" = some (some (.ref C_NextError)))
    (pg_Frac : PySem.W.plainGet K C_Frac Str.empty = true)
    (hd_Frac : PySem.W.hasDictIn K C_Frac = true)
    (po_Frac : PySem.W.plainOver K C_Frac = true)
    (sa_Frac : PySem.W.findIn K (.ref C_Frac) "__setattr__" = some (some (.builtin "object.__setattr__")))
    (mk_Frac : PySem.W.makesIn K C_Frac = true)
    (kc_Frac : PySem.W.keepIn K (.ref C_Frac) = true)
    (na_Frac_num : PySem.W.findIn K (.ref C_Frac) "num" = some none)
    (na_Frac_den : PySem.W.findIn K (.ref C_Frac) "den" = some none)
    (cg_Frac : PySem.W.findIn K (.ref C_Frac) "__class__" = some (some (.builtin "object.__class__")))
    (mr_Frac : PySem.W.mroIn K C_Frac (.type "object") = some true)
    (sf_Frac : PySem.W.selfFirst K C_Frac = true)
    (cget : PySem.W.specialIn K (.builtin "object.__class__") "__get__" = some (some (.builtin "getset_descriptor.__get__")))
    (ctk : PySem.W.takesIn K (.builtin "object.__class__") = some true)
    (f_InvalidFraction_init : PySem.W.findIn K (.ref C_InvalidFraction) "__init__" = some (some (.ref a_InvalidFraction_init)))
    (l_InvalidFraction_init : K.lookup a_InvalidFraction_init = some ⟨oc_InvalidFraction_init, od_InvalidFraction_init, .func (PySem.W.fnOf "__init__" "InvalidFraction.__init__" (defArgs s_InvalidFraction_init) (defBody s_InvalidFraction_init) (defScope s_InvalidFraction_init) .none kV_InvalidFraction_init dc_InvalidFraction_init pm_InvalidFraction_init an_InvalidFraction_init cd_InvalidFraction_init ct_InvalidFraction_init), sl_InvalidFraction_init⟩)
    (c_InvalidFraction_init : PySem.W.codeIn K cd_InvalidFraction_init "InvalidFraction.__init__" = true)
    (k_InvalidFraction_init : PySem.W.keepIn K (.ref a_InvalidFraction_init) = true)
    (n_is_whole : PySem.W.nsIn K mainGlobals "is_whole" = some (some (.ref a_is_whole)))
    (l_is_whole : K.lookup a_is_whole = some ⟨oc_is_whole, od_is_whole, .func (PySem.W.fnOf "is_whole" "is_whole" (defArgs s_is_whole) (defBody s_is_whole) (defScope s_is_whole) .none kV_is_whole dc_is_whole pm_is_whole an_is_whole cd_is_whole ct_is_whole), sl_is_whole⟩)
    (c_is_whole : PySem.W.codeIn K cd_is_whole "is_whole" = true)
    (k_is_whole : PySem.W.keepIn K (.ref a_is_whole) = true)
    (f_Frac_init : PySem.W.findIn K (.ref C_Frac) "__init__" = some (some (.ref a_Frac_init)))
    (i_Frac_init : PySem.W.isFn K (.ref a_Frac_init) = true)
    (l_Frac_init : K.lookup a_Frac_init = some ⟨oc_Frac_init, od_Frac_init, .func (PySem.W.fnOf "__init__" "Frac.__init__" (defArgs s_Frac_init) (defBody s_Frac_init) (defScope s_Frac_init) (.ref T_Frac_init) kV_Frac_init dc_Frac_init pm_Frac_init an_Frac_init cd_Frac_init ct_Frac_init), sl_Frac_init⟩)
    (c_Frac_init : PySem.W.codeIn K cd_Frac_init "Frac.__init__" = true)
    (k_Frac_init : PySem.W.keepIn K (.ref a_Frac_init) = true)
    (t_Frac_init : K.lookup T_Frac_init = some o_Frac_init)
    (u_Frac_init : o_Frac_init.data = .seq [Value.int 1 tk0_Frac_init].toArray m_Frac_init)
    (f_Frac_add : PySem.W.findIn K (.ref C_Frac) "__add__" = some (some (.ref a_Frac_add)))
    (i_Frac_add : PySem.W.isFn K (.ref a_Frac_add) = true)
    (l_Frac_add : K.lookup a_Frac_add = some ⟨oc_Frac_add, od_Frac_add, .func (PySem.W.fnOf "__add__" "Frac.__add__" (defArgs s_Frac_add) (defBody s_Frac_add) (defScope s_Frac_add) .none kV_Frac_add dc_Frac_add pm_Frac_add an_Frac_add cd_Frac_add ct_Frac_add), sl_Frac_add⟩)
    (c_Frac_add : PySem.W.codeIn K cd_Frac_add "Frac.__add__" = true)
    (k_Frac_add : PySem.W.keepIn K (.ref a_Frac_add) = true)
    (f_Frac_sub : PySem.W.findIn K (.ref C_Frac) "__sub__" = some (some (.ref a_Frac_sub)))
    (i_Frac_sub : PySem.W.isFn K (.ref a_Frac_sub) = true)
    (l_Frac_sub : K.lookup a_Frac_sub = some ⟨oc_Frac_sub, od_Frac_sub, .func (PySem.W.fnOf "__sub__" "Frac.__sub__" (defArgs s_Frac_sub) (defBody s_Frac_sub) (defScope s_Frac_sub) .none kV_Frac_sub dc_Frac_sub pm_Frac_sub an_Frac_sub cd_Frac_sub ct_Frac_sub), sl_Frac_sub⟩)
    (c_Frac_sub : PySem.W.codeIn K cd_Frac_sub "Frac.__sub__" = true)
    (k_Frac_sub : PySem.W.keepIn K (.ref a_Frac_sub) = true)
    (f_Frac_mul : PySem.W.findIn K (.ref C_Frac) "__mul__" = some (some (.ref a_Frac_mul)))
    (i_Frac_mul : PySem.W.isFn K (.ref a_Frac_mul) = true)
    (l_Frac_mul : K.lookup a_Frac_mul = some ⟨oc_Frac_mul, od_Frac_mul, .func (PySem.W.fnOf "__mul__" "Frac.__mul__" (defArgs s_Frac_mul) (defBody s_Frac_mul) (defScope s_Frac_mul) .none kV_Frac_mul dc_Frac_mul pm_Frac_mul an_Frac_mul cd_Frac_mul ct_Frac_mul), sl_Frac_mul⟩)
    (c_Frac_mul : PySem.W.codeIn K cd_Frac_mul "Frac.__mul__" = true)
    (k_Frac_mul : PySem.W.keepIn K (.ref a_Frac_mul) = true)
    (f_Frac_eq : PySem.W.findIn K (.ref C_Frac) "__eq__" = some (some (.ref a_Frac_eq)))
    (i_Frac_eq : PySem.W.isFn K (.ref a_Frac_eq) = true)
    (l_Frac_eq : K.lookup a_Frac_eq = some ⟨oc_Frac_eq, od_Frac_eq, .func (PySem.W.fnOf "__eq__" "Frac.__eq__" (defArgs s_Frac_eq) (defBody s_Frac_eq) (defScope s_Frac_eq) .none kV_Frac_eq dc_Frac_eq pm_Frac_eq an_Frac_eq cd_Frac_eq ct_Frac_eq), sl_Frac_eq⟩)
    (c_Frac_eq : PySem.W.codeIn K cd_Frac_eq "Frac.__eq__" = true)
    (k_Frac_eq : PySem.W.keepIn K (.ref a_Frac_eq) = true)
    (f_Frac_is_below : PySem.W.findIn K (.ref C_Frac) "is_below" = some (some (.ref a_Frac_is_below)))
    (i_Frac_is_below : PySem.W.isFn K (.ref a_Frac_is_below) = true)
    (l_Frac_is_below : K.lookup a_Frac_is_below = some ⟨oc_Frac_is_below, od_Frac_is_below, .func (PySem.W.fnOf "is_below" "Frac.is_below" (defArgs s_Frac_is_below) (defBody s_Frac_is_below) (defScope s_Frac_is_below) .none kV_Frac_is_below dc_Frac_is_below pm_Frac_is_below an_Frac_is_below cd_Frac_is_below ct_Frac_is_below), sl_Frac_is_below⟩)
    (c_Frac_is_below : PySem.W.codeIn K cd_Frac_is_below "Frac.is_below" = true)
    (k_Frac_is_below : PySem.W.keepIn K (.ref a_Frac_is_below) = true)
    (f_Frac_divided_by : PySem.W.findIn K (.ref C_Frac) "divided_by" = some (some (.ref a_Frac_divided_by)))
    (i_Frac_divided_by : PySem.W.isFn K (.ref a_Frac_divided_by) = true)
    (l_Frac_divided_by : K.lookup a_Frac_divided_by = some ⟨oc_Frac_divided_by, od_Frac_divided_by, .func (PySem.W.fnOf "divided_by" "Frac.divided_by" (defArgs s_Frac_divided_by) (defBody s_Frac_divided_by) (defScope s_Frac_divided_by) .none kV_Frac_divided_by dc_Frac_divided_by pm_Frac_divided_by an_Frac_divided_by cd_Frac_divided_by ct_Frac_divided_by), sl_Frac_divided_by⟩)
    (c_Frac_divided_by : PySem.W.codeIn K cd_Frac_divided_by "Frac.divided_by" = true)
    (k_Frac_divided_by : PySem.W.keepIn K (.ref a_Frac_divided_by) = true)
    (n_law_box : PySem.W.nsIn K mainGlobals "_law_box" = some (some (.ref a_law_box)))
    (l_law_box : K.lookup a_law_box = some ⟨oc_law_box, od_law_box, .func (PySem.W.fnOf "_law_box" "_law_box" (defArgs s_law_box) (defBody s_law_box) (defScope s_law_box) .none kV_law_box dc_law_box pm_law_box an_law_box cd_law_box ct_law_box), sl_law_box⟩)
    (c_law_box : PySem.W.codeIn K cd_law_box "_law_box" = true)
    (k_law_box : PySem.W.keepIn K (.ref a_law_box) = true)
    (n_law_draw : PySem.W.nsIn K mainGlobals "_law_draw" = some (some (.ref a_law_draw)))
    (l_law_draw : K.lookup a_law_draw = some ⟨oc_law_draw, od_law_draw, .func (PySem.W.fnOf "_law_draw" "_law_draw" (defArgs s_law_draw) (defBody s_law_draw) (defScope s_law_draw) .none kV_law_draw dc_law_draw pm_law_draw an_law_draw cd_law_draw ct_law_draw), sl_law_draw⟩)
    (c_law_draw : PySem.W.codeIn K cd_law_draw "_law_draw" = true)
    (k_law_draw : PySem.W.keepIn K (.ref a_law_draw) = true)
    (n_law_gcd : PySem.W.nsIn K mainGlobals "_law_gcd" = some (some (.ref a_law_gcd)))
    (l_law_gcd : K.lookup a_law_gcd = some ⟨oc_law_gcd, od_law_gcd, .func (PySem.W.fnOf "_law_gcd" "_law_gcd" (defArgs s_law_gcd) (defBody s_law_gcd) (defScope s_law_gcd) .none kV_law_gcd dc_law_gcd pm_law_gcd an_law_gcd cd_law_gcd ct_law_gcd), sl_law_gcd⟩)
    (c_law_gcd : PySem.W.codeIn K cd_law_gcd "_law_gcd" = true)
    (k_law_gcd : PySem.W.keepIn K (.ref a_law_gcd) = true)
    (n_law_low : PySem.W.nsIn K mainGlobals "_law_low" = some (some (.ref a_law_low)))
    (l_law_low : K.lookup a_law_low = some ⟨oc_law_low, od_law_low, .func (PySem.W.fnOf "_law_low" "_law_low" (defArgs s_law_low) (defBody s_law_low) (defScope s_law_low) .none kV_law_low dc_law_low pm_law_low an_law_low cd_law_low ct_law_low), sl_law_low⟩)
    (c_law_low : PySem.W.codeIn K cd_law_low "_law_low" = true)
    (k_law_low : PySem.W.keepIn K (.ref a_law_low) = true)
    (n_law_number : PySem.W.nsIn K mainGlobals "_law_number" = some (some (.ref a_law_number)))
    (l_law_number : K.lookup a_law_number = some ⟨oc_law_number, od_law_number, .func (PySem.W.fnOf "_law_number" "_law_number" (defArgs s_law_number) (defBody s_law_number) (defScope s_law_number) .none kV_law_number dc_law_number pm_law_number an_law_number cd_law_number ct_law_number), sl_law_number⟩)
    (c_law_number : PySem.W.codeIn K cd_law_number "_law_number" = true)
    (k_law_number : PySem.W.keepIn K (.ref a_law_number) = true)
    (n_law_signed : PySem.W.nsIn K mainGlobals "_law_signed" = some (some (.ref a_law_signed)))
    (l_law_signed : K.lookup a_law_signed = some ⟨oc_law_signed, od_law_signed, .func (PySem.W.fnOf "_law_signed" "_law_signed" (defArgs s_law_signed) (defBody s_law_signed) (defScope s_law_signed) .none kV_law_signed dc_law_signed pm_law_signed an_law_signed cd_law_signed ct_law_signed), sl_law_signed⟩)
    (c_law_signed : PySem.W.codeIn K cd_law_signed "_law_signed" = true)
    (k_law_signed : PySem.W.keepIn K (.ref a_law_signed) = true)
    (n_law_terms : PySem.W.nsIn K mainGlobals "_law_terms" = some (some (.ref a_law_terms)))
    (l_law_terms : K.lookup a_law_terms = some ⟨oc_law_terms, od_law_terms, .func (PySem.W.fnOf "_law_terms" "_law_terms" (defArgs s_law_terms) (defBody s_law_terms) (defScope s_law_terms) .none kV_law_terms dc_law_terms pm_law_terms an_law_terms cd_law_terms ct_law_terms), sl_law_terms⟩)
    (c_law_terms : PySem.W.codeIn K cd_law_terms "_law_terms" = true)
    (k_law_terms : PySem.W.keepIn K (.ref a_law_terms) = true)
    (n_law_second : PySem.W.nsIn K mainGlobals "_law_second" = some (some (.ref a_law_second)))
    (l_law_second : K.lookup a_law_second = some ⟨oc_law_second, od_law_second, .func (PySem.W.fnOf "_law_second" "_law_second" (defArgs s_law_second) (defBody s_law_second) (defScope s_law_second) .none kV_law_second dc_law_second pm_law_second an_law_second cd_law_second ct_law_second), sl_law_second⟩)
    (c_law_second : PySem.W.codeIn K cd_law_second "_law_second" = true)
    (k_law_second : PySem.W.keepIn K (.ref a_law_second) = true)
    (n_law_is : PySem.W.nsIn K mainGlobals "_law_is" = some (some (.ref a_law_is)))
    (l_law_is : K.lookup a_law_is = some ⟨oc_law_is, od_law_is, .func (PySem.W.fnOf "_law_is" "_law_is" (defArgs s_law_is) (defBody s_law_is) (defScope s_law_is) .none kV_law_is dc_law_is pm_law_is an_law_is cd_law_is ct_law_is), sl_law_is⟩)
    (c_law_is : PySem.W.codeIn K cd_law_is "_law_is" = true)
    (k_law_is : PySem.W.keepIn K (.ref a_law_is) = true)
    (n_law_truth : PySem.W.nsIn K mainGlobals "_law_truth" = some (some (.ref a_law_truth)))
    (l_law_truth : K.lookup a_law_truth = some ⟨oc_law_truth, od_law_truth, .func (PySem.W.fnOf "_law_truth" "_law_truth" (defArgs s_law_truth) (defBody s_law_truth) (defScope s_law_truth) .none kV_law_truth dc_law_truth pm_law_truth an_law_truth cd_law_truth ct_law_truth), sl_law_truth⟩)
    (c_law_truth : PySem.W.codeIn K cd_law_truth "_law_truth" = true)
    (k_law_truth : PySem.W.keepIn K (.ref a_law_truth) = true)
    (n_law_wrong : PySem.W.nsIn K mainGlobals "_law_wrong" = some (some (.ref a_law_wrong)))
    (l_law_wrong : K.lookup a_law_wrong = some ⟨oc_law_wrong, od_law_wrong, .func (PySem.W.fnOf "_law_wrong" "_law_wrong" (defArgs s_law_wrong) (defBody s_law_wrong) (defScope s_law_wrong) .none kV_law_wrong dc_law_wrong pm_law_wrong an_law_wrong cd_law_wrong ct_law_wrong), sl_law_wrong⟩)
    (c_law_wrong : PySem.W.codeIn K cd_law_wrong "_law_wrong" = true)
    (k_law_wrong : PySem.W.keepIn K (.ref a_law_wrong) = true)
    (n_law_kind : PySem.W.nsIn K mainGlobals "_law_kind" = some (some (.ref a_law_kind)))
    (l_law_kind : K.lookup a_law_kind = some ⟨oc_law_kind, od_law_kind, .func (PySem.W.fnOf "_law_kind" "_law_kind" (defArgs s_law_kind) (defBody s_law_kind) (defScope s_law_kind) .none kV_law_kind dc_law_kind pm_law_kind an_law_kind cd_law_kind ct_law_kind), sl_law_kind⟩)
    (c_law_kind : PySem.W.codeIn K cd_law_kind "_law_kind" = true)
    (k_law_kind : PySem.W.keepIn K (.ref a_law_kind) = true)
    (n_law_refused : PySem.W.nsIn K mainGlobals "_law_refused" = some (some (.ref a_law_refused)))
    (l_law_refused : K.lookup a_law_refused = some ⟨oc_law_refused, od_law_refused, .func (PySem.W.fnOf "_law_refused" "_law_refused" (defArgs s_law_refused) (defBody s_law_refused) (defScope s_law_refused) .none kV_law_refused dc_law_refused pm_law_refused an_law_refused cd_law_refused ct_law_refused), sl_law_refused⟩)
    (c_law_refused : PySem.W.codeIn K cd_law_refused "_law_refused" = true)
    (k_law_refused : PySem.W.keepIn K (.ref a_law_refused) = true)
    (n_law_not_divided : PySem.W.nsIn K mainGlobals "_law_not_divided" = some (some (.ref a_law_not_divided)))
    (l_law_not_divided : K.lookup a_law_not_divided = some ⟨oc_law_not_divided, od_law_not_divided, .func (PySem.W.fnOf "_law_not_divided" "_law_not_divided" (defArgs s_law_not_divided) (defBody s_law_not_divided) (defScope s_law_not_divided) .none kV_law_not_divided dc_law_not_divided pm_law_not_divided an_law_not_divided cd_law_not_divided ct_law_not_divided), sl_law_not_divided⟩)
    (c_law_not_divided : PySem.W.codeIn K cd_law_not_divided "_law_not_divided" = true)
    (k_law_not_divided : PySem.W.keepIn K (.ref a_law_not_divided) = true)
    (n_law_bad : PySem.W.nsIn K mainGlobals "_law_bad" = some (some (.ref a_law_bad)))
    (l_law_bad : K.lookup a_law_bad = some ⟨oc_law_bad, od_law_bad, .func (PySem.W.fnOf "_law_bad" "_law_bad" (defArgs s_law_bad) (defBody s_law_bad) (defScope s_law_bad) .none kV_law_bad dc_law_bad pm_law_bad an_law_bad cd_law_bad ct_law_bad), sl_law_bad⟩)
    (c_law_bad : PySem.W.codeIn K cd_law_bad "_law_bad" = true)
    (k_law_bad : PySem.W.keepIn K (.ref a_law_bad) = true)
    (n_law_pair : PySem.W.nsIn K mainGlobals "_law_pair" = some (some (.ref a_law_pair)))
    (l_law_pair : K.lookup a_law_pair = some ⟨oc_law_pair, od_law_pair, .func (PySem.W.fnOf "_law_pair" "_law_pair" (defArgs s_law_pair) (defBody s_law_pair) (defScope s_law_pair) .none kV_law_pair dc_law_pair pm_law_pair an_law_pair cd_law_pair ct_law_pair), sl_law_pair⟩)
    (c_law_pair : PySem.W.codeIn K cd_law_pair "_law_pair" = true)
    (k_law_pair : PySem.W.keepIn K (.ref a_law_pair) = true)
    (n_law_all : PySem.W.nsIn K mainGlobals "_law_all" = some (some (.ref a_law_all)))
    (l_law_all : K.lookup a_law_all = some ⟨oc_law_all, od_law_all, .func (PySem.W.fnOf "_law_all" "_law_all" (defArgs s_law_all) (defBody s_law_all) (defScope s_law_all) .none kV_law_all dc_law_all pm_law_all an_law_all cd_law_all ct_law_all), sl_law_all⟩)
    (c_law_all : PySem.W.codeIn K cd_law_all "_law_all" = true)
    (k_law_all : PySem.W.keepIn K (.ref a_law_all) = true)
    (n_law : PySem.W.nsIn K mainGlobals "law" = some (some (.ref a_law)))
    (l_law : K.lookup a_law = some ⟨oc_law, od_law, .func (PySem.W.fnOf "law" "law" (defArgs s_law) (defBody s_law) (defScope s_law) .none kV_law dc_law pm_law an_law cd_law ct_law), sl_law⟩)
    (c_law : PySem.W.codeIn K cd_law "law" = true)
    (k_law : PySem.W.keepIn K (.ref a_law) = true)
    (x_InvalidFraction : K.lookup C_InvalidFraction = some (excClassObj nm_InvalidFraction qq_InvalidFraction C_InvalidFraction N_InvalidFraction bs_InvalidFraction (.ref C_NextError :: [.type "ValueError", .type "Exception", .type "BaseException", .type "object"]) true sn_InvalidFraction sub_InvalidFraction ab_InvalidFraction col_InvalidFraction dd_InvalidFraction m0_InvalidFraction m1_InvalidFraction m2_InvalidFraction m3_InvalidFraction m5_InvalidFraction "ValueError.__new__"))
    (sa_InvalidFraction : PySem.W.findIn K (.ref C_InvalidFraction) "__setattr__" = some (some (.builtin "object.__setattr__")))
    (ex_InvalidFraction : PySem.W.subIn K (.ref C_InvalidFraction) (.type "BaseException") = some true)
    (ty_InvalidFraction : PySem.W.typeIn K (.ref C_InvalidFraction) = some (.type "type"))
    (kc_InvalidFraction : PySem.W.keepIn K (.ref C_InvalidFraction) = true)
    (ga_InvalidFraction : PySem.W.findIn K (.ref C_InvalidFraction) "__getattribute__" = some (some (.builtin "BaseException.__getattribute__")))
    (gg_InvalidFraction : PySem.W.findIn K (.ref C_InvalidFraction) "__getattr__" = some none)
    (hd_InvalidFraction : PySem.W.hasDictIn K C_InvalidFraction = true)
    (is_InvalidFraction : PySem.W.isClsIn K C_InvalidFraction = true)
    (ss_InvalidFraction : PySem.W.subIn K (.ref C_InvalidFraction) (.ref C_InvalidFraction) = some true)
    (na_InvalidFraction_value : PySem.W.findIn K (.ref C_InvalidFraction) "value" = some none)
    (ti_InvalidFraction : PySem.W.typeIn K (.ref a_InvalidFraction_init) = some (.type "function"))
    (z_isinstance : PySem.W.nsIn K mainGlobals "isinstance" = some none)
    (z_int : PySem.W.nsIn K mainGlobals "int" = some none)
    (z_bool : PySem.W.nsIn K mainGlobals "bool" = some none)
    (z_range : PySem.W.nsIn K mainGlobals "range" = some none)
    (z_len : PySem.W.nsIn K mainGlobals "len" = some none)
    (z_abs : PySem.W.nsIn K mainGlobals "abs" = some none)
    (z_max : PySem.W.nsIn K mainGlobals "max" = some none)
    (z_str : PySem.W.nsIn K mainGlobals "str" = some none)
    (z_list : PySem.W.nsIn K mainGlobals "list" = some none)
    (z_tuple : PySem.W.nsIn K mainGlobals "tuple" = some none)
    (v_gcd : PySem.W.nsIn K mainGlobals "gcd" = some (some (.builtin "math.gcd")))
    (is_Frac : PySem.W.isClsIn K C_Frac = true)
    (ty_Frac : PySem.W.typeIn K (.ref C_Frac) = some (.type "type"))
    (sb_F_int : PySem.W.subIn K (.ref C_Frac) (.type "int") = some false)
    (sb_none_F : PySem.W.subIn K (.type "NoneType") (.ref C_Frac) = some false)
    (sb_bool_F : PySem.W.subIn K (.type "bool") (.ref C_Frac) = some false)
    (sb_int_F : PySem.W.subIn K (.type "int") (.ref C_Frac) = some false)
    (sb_str_F : PySem.W.subIn K (.type "str") (.ref C_Frac) = some false)
    (sb_list_F : PySem.W.subIn K (.type "list") (.ref C_Frac) = some false)
    (sb_tuple_F : PySem.W.subIn K (.type "tuple") (.ref C_Frac) = some false)
    (nf_F : PySem.W.notFirst K C_Frac (.ref C_Frac) = true)
    (nf_none : PySem.W.notFirst K C_Frac (.type "NoneType") = true)
    (nf_bool : PySem.W.notFirst K C_Frac (.type "bool") = true)
    (nf_int : PySem.W.notFirst K C_Frac (.type "int") = true)
    (nf_str : PySem.W.notFirst K C_Frac (.type "str") = true)
    (nf_list : PySem.W.notFirst K C_Frac (.type "list") = true)
    (nf_tuple : PySem.W.notFirst K C_Frac (.type "tuple") = true)
    : Txt K mg ⟨C_Frac, C_InvalidFraction, C_NextError, a_InvalidFraction_init, a_is_whole, a_Frac_init, a_Frac_add, a_Frac_sub, a_Frac_mul, a_Frac_eq, a_Frac_is_below, a_Frac_divided_by, a_law_box, a_law_draw, a_law_gcd, a_law_low, a_law_number, a_law_signed, a_law_terms, a_law_second, a_law_is, a_law_truth, a_law_wrong, a_law_kind, a_law_refused, a_law_not_divided, a_law_bad, a_law_pair, a_law_all, a_law, PySem.W.fnOf "__init__" "InvalidFraction.__init__" (defArgs s_InvalidFraction_init) (defBody s_InvalidFraction_init) (defScope s_InvalidFraction_init) .none kV_InvalidFraction_init dc_InvalidFraction_init pm_InvalidFraction_init an_InvalidFraction_init cd_InvalidFraction_init ct_InvalidFraction_init, PySem.W.fnOf "is_whole" "is_whole" (defArgs s_is_whole) (defBody s_is_whole) (defScope s_is_whole) .none kV_is_whole dc_is_whole pm_is_whole an_is_whole cd_is_whole ct_is_whole, PySem.W.fnOf "__init__" "Frac.__init__" (defArgs s_Frac_init) (defBody s_Frac_init) (defScope s_Frac_init) (.ref T_Frac_init) kV_Frac_init dc_Frac_init pm_Frac_init an_Frac_init cd_Frac_init ct_Frac_init, PySem.W.fnOf "__add__" "Frac.__add__" (defArgs s_Frac_add) (defBody s_Frac_add) (defScope s_Frac_add) .none kV_Frac_add dc_Frac_add pm_Frac_add an_Frac_add cd_Frac_add ct_Frac_add, PySem.W.fnOf "__sub__" "Frac.__sub__" (defArgs s_Frac_sub) (defBody s_Frac_sub) (defScope s_Frac_sub) .none kV_Frac_sub dc_Frac_sub pm_Frac_sub an_Frac_sub cd_Frac_sub ct_Frac_sub, PySem.W.fnOf "__mul__" "Frac.__mul__" (defArgs s_Frac_mul) (defBody s_Frac_mul) (defScope s_Frac_mul) .none kV_Frac_mul dc_Frac_mul pm_Frac_mul an_Frac_mul cd_Frac_mul ct_Frac_mul, PySem.W.fnOf "__eq__" "Frac.__eq__" (defArgs s_Frac_eq) (defBody s_Frac_eq) (defScope s_Frac_eq) .none kV_Frac_eq dc_Frac_eq pm_Frac_eq an_Frac_eq cd_Frac_eq ct_Frac_eq, PySem.W.fnOf "is_below" "Frac.is_below" (defArgs s_Frac_is_below) (defBody s_Frac_is_below) (defScope s_Frac_is_below) .none kV_Frac_is_below dc_Frac_is_below pm_Frac_is_below an_Frac_is_below cd_Frac_is_below ct_Frac_is_below, PySem.W.fnOf "divided_by" "Frac.divided_by" (defArgs s_Frac_divided_by) (defBody s_Frac_divided_by) (defScope s_Frac_divided_by) .none kV_Frac_divided_by dc_Frac_divided_by pm_Frac_divided_by an_Frac_divided_by cd_Frac_divided_by ct_Frac_divided_by, PySem.W.fnOf "_law_box" "_law_box" (defArgs s_law_box) (defBody s_law_box) (defScope s_law_box) .none kV_law_box dc_law_box pm_law_box an_law_box cd_law_box ct_law_box, PySem.W.fnOf "_law_draw" "_law_draw" (defArgs s_law_draw) (defBody s_law_draw) (defScope s_law_draw) .none kV_law_draw dc_law_draw pm_law_draw an_law_draw cd_law_draw ct_law_draw, PySem.W.fnOf "_law_gcd" "_law_gcd" (defArgs s_law_gcd) (defBody s_law_gcd) (defScope s_law_gcd) .none kV_law_gcd dc_law_gcd pm_law_gcd an_law_gcd cd_law_gcd ct_law_gcd, PySem.W.fnOf "_law_low" "_law_low" (defArgs s_law_low) (defBody s_law_low) (defScope s_law_low) .none kV_law_low dc_law_low pm_law_low an_law_low cd_law_low ct_law_low, PySem.W.fnOf "_law_number" "_law_number" (defArgs s_law_number) (defBody s_law_number) (defScope s_law_number) .none kV_law_number dc_law_number pm_law_number an_law_number cd_law_number ct_law_number, PySem.W.fnOf "_law_signed" "_law_signed" (defArgs s_law_signed) (defBody s_law_signed) (defScope s_law_signed) .none kV_law_signed dc_law_signed pm_law_signed an_law_signed cd_law_signed ct_law_signed, PySem.W.fnOf "_law_terms" "_law_terms" (defArgs s_law_terms) (defBody s_law_terms) (defScope s_law_terms) .none kV_law_terms dc_law_terms pm_law_terms an_law_terms cd_law_terms ct_law_terms, PySem.W.fnOf "_law_second" "_law_second" (defArgs s_law_second) (defBody s_law_second) (defScope s_law_second) .none kV_law_second dc_law_second pm_law_second an_law_second cd_law_second ct_law_second, PySem.W.fnOf "_law_is" "_law_is" (defArgs s_law_is) (defBody s_law_is) (defScope s_law_is) .none kV_law_is dc_law_is pm_law_is an_law_is cd_law_is ct_law_is, PySem.W.fnOf "_law_truth" "_law_truth" (defArgs s_law_truth) (defBody s_law_truth) (defScope s_law_truth) .none kV_law_truth dc_law_truth pm_law_truth an_law_truth cd_law_truth ct_law_truth, PySem.W.fnOf "_law_wrong" "_law_wrong" (defArgs s_law_wrong) (defBody s_law_wrong) (defScope s_law_wrong) .none kV_law_wrong dc_law_wrong pm_law_wrong an_law_wrong cd_law_wrong ct_law_wrong, PySem.W.fnOf "_law_kind" "_law_kind" (defArgs s_law_kind) (defBody s_law_kind) (defScope s_law_kind) .none kV_law_kind dc_law_kind pm_law_kind an_law_kind cd_law_kind ct_law_kind, PySem.W.fnOf "_law_refused" "_law_refused" (defArgs s_law_refused) (defBody s_law_refused) (defScope s_law_refused) .none kV_law_refused dc_law_refused pm_law_refused an_law_refused cd_law_refused ct_law_refused, PySem.W.fnOf "_law_not_divided" "_law_not_divided" (defArgs s_law_not_divided) (defBody s_law_not_divided) (defScope s_law_not_divided) .none kV_law_not_divided dc_law_not_divided pm_law_not_divided an_law_not_divided cd_law_not_divided ct_law_not_divided, PySem.W.fnOf "_law_bad" "_law_bad" (defArgs s_law_bad) (defBody s_law_bad) (defScope s_law_bad) .none kV_law_bad dc_law_bad pm_law_bad an_law_bad cd_law_bad ct_law_bad, PySem.W.fnOf "_law_pair" "_law_pair" (defArgs s_law_pair) (defBody s_law_pair) (defScope s_law_pair) .none kV_law_pair dc_law_pair pm_law_pair an_law_pair cd_law_pair ct_law_pair, PySem.W.fnOf "_law_all" "_law_all" (defArgs s_law_all) (defBody s_law_all) (defScope s_law_all) .none kV_law_all dc_law_all pm_law_all an_law_all cd_law_all ct_law_all, PySem.W.fnOf "law" "law" (defArgs s_law) (defBody s_law) (defScope s_law) .none kV_law dc_law pm_law an_law cd_law ct_law⟩ :=
  { mg_Frac := PySem.W.mg_of X G hC_Frac
    mg_InvalidFraction := PySem.W.mg_of X G hC_InvalidFraction
    mg_NextError := PySem.W.mg_of X G hC_NextError
    cl_Frac := ⟨pg_Frac, hd_Frac, po_Frac, sa_Frac⟩
    na_Frac_num := na_Frac_num
    na_Frac_den := na_Frac_den
    cg_Frac := cg_Frac
    mr_Frac := mr_Frac
    sf_Frac := sf_Frac
    cget := cget
    ctk := ctk
    fn_InvalidFraction_init := fun_mk (st := s_InvalidFraction_init) l_InvalidFraction_init c_InvalidFraction_init k_InvalidFraction_init
    b_InvalidFraction_init := (fun_mk (st := s_InvalidFraction_init) l_InvalidFraction_init c_InvalidFraction_init k_InvalidFraction_init).binds (ps := ["self", "value"]) fun _ _ _ _ _ _ us hl => match us, hl with | [_, _], _ => rfl
    mg_is_whole := PySem.W.mg_of X G n_is_whole
    fn_is_whole := fun_mk (st := s_is_whole) l_is_whole c_is_whole k_is_whole
    b_is_whole := (fun_mk (st := s_is_whole) l_is_whole c_is_whole k_is_whole).binds (ps := ["value"]) fun _ _ _ _ _ _ us hl => match us, hl with | [_], _ => rfl
    fn_Frac_init := ⟨⟨_, _, _, _, _, _, _, _, _, _, rfl, l_Frac_init, c_Frac_init, .inr ⟨by simp, T_Frac_init, _, _, _, rfl, t_Frac_init, u_Frac_init, .cons ⟨_, rfl⟩ (.nil)⟩, .inl rfl⟩, k_Frac_init⟩
    mt_Frac_init := ⟨f_Frac_init, i_Frac_init, k_Frac_init⟩
    fn_Frac_add := fun_mk (st := s_Frac_add) l_Frac_add c_Frac_add k_Frac_add
    b_Frac_add := (fun_mk (st := s_Frac_add) l_Frac_add c_Frac_add k_Frac_add).binds (ps := ["self", "other"]) fun _ _ _ _ _ _ us hl => match us, hl with | [_, _], _ => rfl
    mt_Frac_add := ⟨f_Frac_add, i_Frac_add, k_Frac_add⟩
    fn_Frac_sub := fun_mk (st := s_Frac_sub) l_Frac_sub c_Frac_sub k_Frac_sub
    b_Frac_sub := (fun_mk (st := s_Frac_sub) l_Frac_sub c_Frac_sub k_Frac_sub).binds (ps := ["self", "other"]) fun _ _ _ _ _ _ us hl => match us, hl with | [_, _], _ => rfl
    mt_Frac_sub := ⟨f_Frac_sub, i_Frac_sub, k_Frac_sub⟩
    fn_Frac_mul := fun_mk (st := s_Frac_mul) l_Frac_mul c_Frac_mul k_Frac_mul
    b_Frac_mul := (fun_mk (st := s_Frac_mul) l_Frac_mul c_Frac_mul k_Frac_mul).binds (ps := ["self", "other"]) fun _ _ _ _ _ _ us hl => match us, hl with | [_, _], _ => rfl
    mt_Frac_mul := ⟨f_Frac_mul, i_Frac_mul, k_Frac_mul⟩
    fn_Frac_eq := fun_mk (st := s_Frac_eq) l_Frac_eq c_Frac_eq k_Frac_eq
    b_Frac_eq := (fun_mk (st := s_Frac_eq) l_Frac_eq c_Frac_eq k_Frac_eq).binds (ps := ["self", "other"]) fun _ _ _ _ _ _ us hl => match us, hl with | [_, _], _ => rfl
    mt_Frac_eq := ⟨f_Frac_eq, i_Frac_eq, k_Frac_eq⟩
    fn_Frac_is_below := fun_mk (st := s_Frac_is_below) l_Frac_is_below c_Frac_is_below k_Frac_is_below
    b_Frac_is_below := (fun_mk (st := s_Frac_is_below) l_Frac_is_below c_Frac_is_below k_Frac_is_below).binds (ps := ["self", "other"]) fun _ _ _ _ _ _ us hl => match us, hl with | [_, _], _ => rfl
    mt_Frac_is_below := ⟨f_Frac_is_below, i_Frac_is_below, k_Frac_is_below⟩
    fn_Frac_divided_by := fun_mk (st := s_Frac_divided_by) l_Frac_divided_by c_Frac_divided_by k_Frac_divided_by
    b_Frac_divided_by := (fun_mk (st := s_Frac_divided_by) l_Frac_divided_by c_Frac_divided_by k_Frac_divided_by).binds (ps := ["self", "other"]) fun _ _ _ _ _ _ us hl => match us, hl with | [_, _], _ => rfl
    mt_Frac_divided_by := ⟨f_Frac_divided_by, i_Frac_divided_by, k_Frac_divided_by⟩
    mg_law_box := PySem.W.mg_of X G n_law_box
    fn_law_box := fun_mk (st := s_law_box) l_law_box c_law_box k_law_box
    b_law_box := (fun_mk (st := s_law_box) l_law_box c_law_box k_law_box).binds (ps := ["script"]) fun _ _ _ _ _ _ us hl => match us, hl with | [_], _ => rfl
    mg_law_draw := PySem.W.mg_of X G n_law_draw
    fn_law_draw := fun_mk (st := s_law_draw) l_law_draw c_law_draw k_law_draw
    b_law_draw := (fun_mk (st := s_law_draw) l_law_draw c_law_draw k_law_draw).binds (ps := ["box", "limit"]) fun _ _ _ _ _ _ us hl => match us, hl with | [_, _], _ => rfl
    mg_law_gcd := PySem.W.mg_of X G n_law_gcd
    fn_law_gcd := fun_mk (st := s_law_gcd) l_law_gcd c_law_gcd k_law_gcd
    b_law_gcd := (fun_mk (st := s_law_gcd) l_law_gcd c_law_gcd k_law_gcd).binds (ps := ["one", "two"]) fun _ _ _ _ _ _ us hl => match us, hl with | [_, _], _ => rfl
    mg_law_low := PySem.W.mg_of X G n_law_low
    fn_law_low := fun_mk (st := s_law_low) l_law_low c_law_low k_law_low
    b_law_low := (fun_mk (st := s_law_low) l_law_low c_law_low k_law_low).binds (ps := ["num", "den"]) fun _ _ _ _ _ _ us hl => match us, hl with | [_, _], _ => rfl
    mg_law_number := PySem.W.mg_of X G n_law_number
    fn_law_number := fun_mk (st := s_law_number) l_law_number c_law_number k_law_number
    b_law_number := (fun_mk (st := s_law_number) l_law_number c_law_number k_law_number).binds (ps := ["box", "least"]) fun _ _ _ _ _ _ us hl => match us, hl with | [_, _], _ => rfl
    mg_law_signed := PySem.W.mg_of X G n_law_signed
    fn_law_signed := fun_mk (st := s_law_signed) l_law_signed c_law_signed k_law_signed
    b_law_signed := (fun_mk (st := s_law_signed) l_law_signed c_law_signed k_law_signed).binds (ps := ["box", "number"]) fun _ _ _ _ _ _ us hl => match us, hl with | [_, _], _ => rfl
    mg_law_terms := PySem.W.mg_of X G n_law_terms
    fn_law_terms := fun_mk (st := s_law_terms) l_law_terms c_law_terms k_law_terms
    b_law_terms := (fun_mk (st := s_law_terms) l_law_terms c_law_terms k_law_terms).binds (ps := ["box"]) fun _ _ _ _ _ _ us hl => match us, hl with | [_], _ => rfl
    mg_law_second := PySem.W.mg_of X G n_law_second
    fn_law_second := fun_mk (st := s_law_second) l_law_second c_law_second k_law_second
    b_law_second := (fun_mk (st := s_law_second) l_law_second c_law_second k_law_second).binds (ps := ["box", "first"]) fun _ _ _ _ _ _ us hl => match us, hl with | [_, _], _ => rfl
    mg_law_is := PySem.W.mg_of X G n_law_is
    fn_law_is := fun_mk (st := s_law_is) l_law_is c_law_is k_law_is
    b_law_is := (fun_mk (st := s_law_is) l_law_is c_law_is k_law_is).binds (ps := ["actual", "num", "den"]) fun _ _ _ _ _ _ us hl => match us, hl with | [_, _, _], _ => rfl
    mg_law_truth := PySem.W.mg_of X G n_law_truth
    fn_law_truth := fun_mk (st := s_law_truth) l_law_truth c_law_truth k_law_truth
    b_law_truth := (fun_mk (st := s_law_truth) l_law_truth c_law_truth k_law_truth).binds (ps := ["actual", "due"]) fun _ _ _ _ _ _ us hl => match us, hl with | [_, _], _ => rfl
    mg_law_wrong := PySem.W.mg_of X G n_law_wrong
    fn_law_wrong := fun_mk (st := s_law_wrong) l_law_wrong c_law_wrong k_law_wrong
    b_law_wrong := (fun_mk (st := s_law_wrong) l_law_wrong c_law_wrong k_law_wrong).binds (ps := ["box", "first"]) fun _ _ _ _ _ _ us hl => match us, hl with | [_, _], _ => rfl
    mg_law_kind := PySem.W.mg_of X G n_law_kind
    fn_law_kind := fun_mk (st := s_law_kind) l_law_kind c_law_kind k_law_kind
    b_law_kind := (fun_mk (st := s_law_kind) l_law_kind c_law_kind k_law_kind).binds (ps := ["value"]) fun _ _ _ _ _ _ us hl => match us, hl with | [_], _ => rfl
    mg_law_refused := PySem.W.mg_of X G n_law_refused
    fn_law_refused := fun_mk (st := s_law_refused) l_law_refused c_law_refused k_law_refused
    b_law_refused := (fun_mk (st := s_law_refused) l_law_refused c_law_refused k_law_refused).binds (ps := ["num", "den", "shape"]) fun _ _ _ _ _ _ us hl => match us, hl with | [_, _, _], _ => rfl
    mg_law_not_divided := PySem.W.mg_of X G n_law_not_divided
    fn_law_not_divided := fun_mk (st := s_law_not_divided) l_law_not_divided c_law_not_divided k_law_not_divided
    b_law_not_divided := (fun_mk (st := s_law_not_divided) l_law_not_divided c_law_not_divided k_law_not_divided).binds (ps := ["one", "other"]) fun _ _ _ _ _ _ us hl => match us, hl with | [_, _], _ => rfl
    mg_law_bad := PySem.W.mg_of X G n_law_bad
    fn_law_bad := fun_mk (st := s_law_bad) l_law_bad c_law_bad k_law_bad
    b_law_bad := (fun_mk (st := s_law_bad) l_law_bad c_law_bad k_law_bad).binds (ps := ["box", "first"]) fun _ _ _ _ _ _ us hl => match us, hl with | [_, _], _ => rfl
    mg_law_pair := PySem.W.mg_of X G n_law_pair
    fn_law_pair := fun_mk (st := s_law_pair) l_law_pair c_law_pair k_law_pair
    b_law_pair := (fun_mk (st := s_law_pair) l_law_pair c_law_pair k_law_pair).binds (ps := ["one", "two", "first", "second"]) fun _ _ _ _ _ _ us hl => match us, hl with | [_, _, _, _], _ => rfl
    mg_law_all := PySem.W.mg_of X G n_law_all
    fn_law_all := fun_mk (st := s_law_all) l_law_all c_law_all k_law_all
    b_law_all := (fun_mk (st := s_law_all) l_law_all c_law_all k_law_all).binds (ps := ["script"]) fun _ _ _ _ _ _ us hl => match us, hl with | [_], _ => rfl
    mg_law := PySem.W.mg_of X G n_law
    fn_law := fun_mk (st := s_law) l_law c_law k_law
    b_law := (fun_mk (st := s_law) l_law c_law k_law).binds (ps := ["script"]) fun _ _ _ _ _ _ us hl => match us, hl with | [_], _ => rfl
    mk_Frac := ⟨mk_Frac, f_Frac_init, i_Frac_init, kc_Frac⟩
    op_Frac_Add := f_Frac_add
    op_Frac_Sub := f_Frac_sub
    op_Frac_Mult := f_Frac_mul
    ex_InvalidFraction := ⟨⟨_, _, _, _, _, _, _, _, _, _, _, _, _, _, _, x_InvalidFraction, rfl⟩, sa_InvalidFraction, ex_InvalidFraction, ty_InvalidFraction, kc_InvalidFraction⟩
    xf_InvalidFraction := ⟨ga_InvalidFraction, gg_InvalidFraction, ex_InvalidFraction, hd_InvalidFraction⟩
    xm_InvalidFraction := exm_self ex_InvalidFraction is_InvalidFraction ty_InvalidFraction ss_InvalidFraction
    na_InvalidFraction_value := na_InvalidFraction_value
    xi_InvalidFraction := f_InvalidFraction_init
    ti_InvalidFraction := ti_InvalidFraction
    no_isinstance := PySem.W.mg_none_of X G z_isinstance
    no_int := PySem.W.mg_none_of X G z_int
    no_bool := PySem.W.mg_none_of X G z_bool
    no_range := PySem.W.mg_none_of X G z_range
    no_len := PySem.W.mg_none_of X G z_len
    no_abs := PySem.W.mg_none_of X G z_abs
    no_max := PySem.W.mg_none_of X G z_max
    no_str := PySem.W.mg_none_of X G z_str
    no_list := PySem.W.mg_none_of X G z_list
    no_tuple := PySem.W.mg_none_of X G z_tuple
    mg_gcd := PySem.W.mg_of X G v_gcd
    kit_F_F := kit_self
    kit_F_int := kit_bi sb_F_int (by decide +kernel)
    kit_none_F := kit_own is_Frac ty_Frac sb_none_F
    kit_bool_F := kit_own is_Frac ty_Frac sb_bool_F
    kit_int_F := kit_own is_Frac ty_Frac sb_int_F
    kit_str_F := kit_own is_Frac ty_Frac sb_str_F
    kit_list_F := kit_own is_Frac ty_Frac sb_list_F
    kit_tuple_F := kit_own is_Frac ty_Frac sb_tuple_F
    nf_F := nf_F
    nf_none := nf_none
    nf_bool := nf_bool
    nf_int := nf_int
    nf_str := nf_str
    nf_list := nf_list
    nf_tuple := nf_tuple }
end K02
namespace K02
open PySem PySem.Spec PyProof.Rows L2
theorem all_mk {l : PySem.W.OpenLaw} {w : World} {K : PySem.W.Frag} {mg : Str → Option Value} {fa : Addr} {a : Ad} (T : Txt K mg a) (hfa : mg "law" = some (.ref fa)) (hd : ∀ (s : Shared) (v : Value), BindsTo s a.d_law ⟨[v], []⟩ [("script", v)]) :
    ∃ fd : FuncData, (∀ (s : Shared) (v : Value), BindsTo s fd ⟨[v], []⟩ [("script", v)]) ∧ ∀ base : Heap, K.In base → base.Ns mainGlobals mg → FnOk l.prog w K mg base CX0 9 fa fd ["script"] (spLaw K) := by
  have e := hfa.symm.trans T.mg_law
  cases e
  exact ⟨a.d_law, hd, fun base _ _ => ok_law T⟩
theorem walk {l : PySem.W.OpenLaw} {q : Program} {loose : List Str} {XP : (Str → Option Value) → Heap → Prop} {YP : World → Heap → Prop} {d : DefRec} {K : Params → PySem.W.Frag} (hn : l.most = some 63) (hdf : d.params.defaults = [])
    (hY : ∀ (w : World) (h : Heap), YP w h → (K w.params).In h)
    (F : ∀ (w : World) (mg : Str → Option Value) (fa : Addr) (h : Heap), (K w.params).In h → h.Ns mainGlobals mg → mg d.name = some (.ref fa) →
      ∃ fd : FuncData, (∀ (s : Shared) (u : Value), BindsTo s fd ⟨[u], []⟩ [("script", u)]) ∧ ∀ base : Heap, (K w.params).In base → base.Ns mainGlobals mg → FnOk l.prog w (K w.params) mg base CX0 9 fa fd ["script"] (spLaw (K w.params))) :
    PySem.W.WalkO q loose XP YP l.row.toRowW d [] (fun f vs => PySem.call f vs) :=
  L2.walk_of (n := 63) (k := 9) (x := "script") (CX := fun _ => CX0) (sp := fun w => spLaw (K w.params)) hn (by decide) hdf ⟨rfl, by decide, by decide⟩ hY F (fun _ _ a ns hl _ hS => ⟨a, ns, rfl, hS, hl, fun _ => rfl⟩) fun _ _ _ _ _ z => z
end K02
open PySem PySem.W PyProof.Rows
set_option maxRecDepth 100000 in
set_option maxHeartbeats 0 in
theorem PySem.Challenge.cw_greatestnext_k02_fractions_holds : PySem.Challenge.rw_greatestnext_k02_fractions.Holds := by
  w_on; o_law; k_head; (case hw => w_witness2)
  k_fill
  refine K02.walk (l := PySem.Challenge.rw_greatestnext_k02_fractions) rfl rfl (fun w h Y => PySem.W.kIn_of Y) ?F
  case F =>
    intro w mg fa h KX G hmg
    refine' K02.all_mk (K02.txt_mk KX G ?hC_Frac ?hC_InvalidFraction ?hC_NextError ?pg_Frac ?hd_Frac ?po_Frac ?sa_Frac ?mk_Frac ?kc_Frac ?na_Frac_num ?na_Frac_den ?cg_Frac ?mr_Frac ?sf_Frac ?cget ?ctk ?f_InvalidFraction_init ?l_InvalidFraction_init ?c_InvalidFraction_init ?k_InvalidFraction_init ?n_is_whole ?l_is_whole ?c_is_whole ?k_is_whole ?f_Frac_init ?i_Frac_init ?l_Frac_init ?c_Frac_init ?k_Frac_init ?t_Frac_init ?u_Frac_init ?f_Frac_add ?i_Frac_add ?l_Frac_add ?c_Frac_add ?k_Frac_add ?f_Frac_sub ?i_Frac_sub ?l_Frac_sub ?c_Frac_sub ?k_Frac_sub ?f_Frac_mul ?i_Frac_mul ?l_Frac_mul ?c_Frac_mul ?k_Frac_mul ?f_Frac_eq ?i_Frac_eq ?l_Frac_eq ?c_Frac_eq ?k_Frac_eq ?f_Frac_is_below ?i_Frac_is_below ?l_Frac_is_below ?c_Frac_is_below ?k_Frac_is_below ?f_Frac_divided_by ?i_Frac_divided_by ?l_Frac_divided_by ?c_Frac_divided_by ?k_Frac_divided_by ?n_law_box ?l_law_box ?c_law_box ?k_law_box ?n_law_draw ?l_law_draw ?c_law_draw ?k_law_draw ?n_law_gcd ?l_law_gcd ?c_law_gcd ?k_law_gcd ?n_law_low ?l_law_low ?c_law_low ?k_law_low ?n_law_number ?l_law_number ?c_law_number ?k_law_number ?n_law_signed ?l_law_signed ?c_law_signed ?k_law_signed ?n_law_terms ?l_law_terms ?c_law_terms ?k_law_terms ?n_law_second ?l_law_second ?c_law_second ?k_law_second ?n_law_is ?l_law_is ?c_law_is ?k_law_is ?n_law_truth ?l_law_truth ?c_law_truth ?k_law_truth ?n_law_wrong ?l_law_wrong ?c_law_wrong ?k_law_wrong ?n_law_kind ?l_law_kind ?c_law_kind ?k_law_kind ?n_law_refused ?l_law_refused ?c_law_refused ?k_law_refused ?n_law_not_divided ?l_law_not_divided ?c_law_not_divided ?k_law_not_divided ?n_law_bad ?l_law_bad ?c_law_bad ?k_law_bad ?n_law_pair ?l_law_pair ?c_law_pair ?k_law_pair ?n_law_all ?l_law_all ?c_law_all ?k_law_all ?n_law ?l_law ?c_law ?k_law ?x_InvalidFraction ?sa_InvalidFraction ?ex_InvalidFraction ?ty_InvalidFraction ?kc_InvalidFraction ?ga_InvalidFraction ?gg_InvalidFraction ?hd_InvalidFraction ?is_InvalidFraction ?ss_InvalidFraction ?na_InvalidFraction_value ?ti_InvalidFraction ?z_isinstance ?z_int ?z_bool ?z_range ?z_len ?z_abs ?z_max ?z_str ?z_list ?z_tuple ?v_gcd ?is_Frac ?ty_Frac ?sb_F_int ?sb_none_F ?sb_bool_F ?sb_int_F ?sb_str_F ?sb_list_F ?sb_tuple_F ?nf_F ?nf_none ?nf_bool ?nf_int ?nf_str ?nf_list ?nf_tuple) hmg (fun s v => .of_eq rfl)
    (case hC_Frac => k_is)
    (case hC_InvalidFraction => k_is)
    (case hC_NextError => k_is)
    (case pg_Frac => k_is)
    (case hd_Frac => k_is)
    (case po_Frac => k_is)
    (case sa_Frac => k_is)
    (case mk_Frac => k_is)
    (case kc_Frac => k_is)
    (case na_Frac_num => k_is)
    (case na_Frac_den => k_is)
    (case cg_Frac => k_is)
    (case mr_Frac => k_is)
    (case sf_Frac => k_is)
    (case cget => k_is)
    (case ctk => k_is)
    (case f_InvalidFraction_init => k_is)
    (case l_InvalidFraction_init => k_is)
    (case c_InvalidFraction_init => k_is)
    (case k_InvalidFraction_init => k_is)
    (case n_is_whole => k_is)
    (case l_is_whole => k_is)
    (case c_is_whole => k_is)
    (case k_is_whole => k_is)
    (case f_Frac_init => k_is)
    (case i_Frac_init => k_is)
    (case l_Frac_init => k_is)
    (case c_Frac_init => k_is)
    (case k_Frac_init => k_is)
    (case t_Frac_init => k_is)
    (case u_Frac_init => first | rfl | k_is)
    (case f_Frac_add => k_is)
    (case i_Frac_add => k_is)
    (case l_Frac_add => k_is)
    (case c_Frac_add => k_is)
    (case k_Frac_add => k_is)
    (case f_Frac_sub => k_is)
    (case i_Frac_sub => k_is)
    (case l_Frac_sub => k_is)
    (case c_Frac_sub => k_is)
    (case k_Frac_sub => k_is)
    (case f_Frac_mul => k_is)
    (case i_Frac_mul => k_is)
    (case l_Frac_mul => k_is)
    (case c_Frac_mul => k_is)
    (case k_Frac_mul => k_is)
    (case f_Frac_eq => k_is)
    (case i_Frac_eq => k_is)
    (case l_Frac_eq => k_is)
    (case c_Frac_eq => k_is)
    (case k_Frac_eq => k_is)
    (case f_Frac_is_below => k_is)
    (case i_Frac_is_below => k_is)
    (case l_Frac_is_below => k_is)
    (case c_Frac_is_below => k_is)
    (case k_Frac_is_below => k_is)
    (case f_Frac_divided_by => k_is)
    (case i_Frac_divided_by => k_is)
    (case l_Frac_divided_by => k_is)
    (case c_Frac_divided_by => k_is)
    (case k_Frac_divided_by => k_is)
    (case n_law_box => k_is)
    (case l_law_box => k_is)
    (case c_law_box => k_is)
    (case k_law_box => k_is)
    (case n_law_draw => k_is)
    (case l_law_draw => k_is)
    (case c_law_draw => k_is)
    (case k_law_draw => k_is)
    (case n_law_gcd => k_is)
    (case l_law_gcd => k_is)
    (case c_law_gcd => k_is)
    (case k_law_gcd => k_is)
    (case n_law_low => k_is)
    (case l_law_low => k_is)
    (case c_law_low => k_is)
    (case k_law_low => k_is)
    (case n_law_number => k_is)
    (case l_law_number => k_is)
    (case c_law_number => k_is)
    (case k_law_number => k_is)
    (case n_law_signed => k_is)
    (case l_law_signed => k_is)
    (case c_law_signed => k_is)
    (case k_law_signed => k_is)
    (case n_law_terms => k_is)
    (case l_law_terms => k_is)
    (case c_law_terms => k_is)
    (case k_law_terms => k_is)
    (case n_law_second => k_is)
    (case l_law_second => k_is)
    (case c_law_second => k_is)
    (case k_law_second => k_is)
    (case n_law_is => k_is)
    (case l_law_is => k_is)
    (case c_law_is => k_is)
    (case k_law_is => k_is)
    (case n_law_truth => k_is)
    (case l_law_truth => k_is)
    (case c_law_truth => k_is)
    (case k_law_truth => k_is)
    (case n_law_wrong => k_is)
    (case l_law_wrong => k_is)
    (case c_law_wrong => k_is)
    (case k_law_wrong => k_is)
    (case n_law_kind => k_is)
    (case l_law_kind => k_is)
    (case c_law_kind => k_is)
    (case k_law_kind => k_is)
    (case n_law_refused => k_is)
    (case l_law_refused => k_is)
    (case c_law_refused => k_is)
    (case k_law_refused => k_is)
    (case n_law_not_divided => k_is)
    (case l_law_not_divided => k_is)
    (case c_law_not_divided => k_is)
    (case k_law_not_divided => k_is)
    (case n_law_bad => k_is)
    (case l_law_bad => k_is)
    (case c_law_bad => k_is)
    (case k_law_bad => k_is)
    (case n_law_pair => k_is)
    (case l_law_pair => k_is)
    (case c_law_pair => k_is)
    (case k_law_pair => k_is)
    (case n_law_all => k_is)
    (case l_law_all => k_is)
    (case c_law_all => k_is)
    (case k_law_all => k_is)
    (case n_law => k_is)
    (case l_law => k_is)
    (case c_law => k_is)
    (case k_law => k_is)
    (case x_InvalidFraction => k_is)
    (case sa_InvalidFraction => k_is)
    (case ex_InvalidFraction => k_is)
    (case ty_InvalidFraction => k_is)
    (case kc_InvalidFraction => k_is)
    (case ga_InvalidFraction => k_is)
    (case gg_InvalidFraction => k_is)
    (case hd_InvalidFraction => k_is)
    (case is_InvalidFraction => k_is)
    (case ss_InvalidFraction => first | rfl | k_is)
    (case na_InvalidFraction_value => k_is)
    (case ti_InvalidFraction => k_is)
    (case z_isinstance => k_is)
    (case z_int => k_is)
    (case z_bool => k_is)
    (case z_range => k_is)
    (case z_len => k_is)
    (case z_abs => k_is)
    (case z_max => k_is)
    (case z_str => k_is)
    (case z_list => k_is)
    (case z_tuple => k_is)
    (case v_gcd => k_is)
    (case is_Frac => k_is)
    (case ty_Frac => k_is)
    (case sb_F_int => k_is)
    (case sb_none_F => k_is)
    (case sb_bool_F => k_is)
    (case sb_int_F => k_is)
    (case sb_str_F => k_is)
    (case sb_list_F => k_is)
    (case sb_tuple_F => k_is)
    (case nf_F => k_is)
    (case nf_none => k_is)
    (case nf_bool => k_is)
    (case nf_int => k_is)
    (case nf_str => k_is)
    (case nf_list => k_is)
    (case nf_tuple => k_is)
