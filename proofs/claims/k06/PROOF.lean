import PyProof.Rows.All
import Wide.All
import OpenK.AllK
import Wide.FinOn
import HandS.ForMost
import HandS.IsInst
import HandS.Exc
import HandS.TryOnly
import HandS.ExcOwn
import HandS.WordsExc
import HandS.CallSlots
import HandS.Defaults
import HandS.MakeKw
import HandS.MakeKwOnly
import HandS.Wide
import HandS.WideBits
import HandS.Gcd
import HandS.HotCalls
import HandS.ExcInit
import HandS.ExcField
import HandS.OwnEq
import HandS.TupAny
import HandS.Style
import HandS.Hot
import HandS.ExcCtx
import HandS.Iter
import HandS.NoneIn
import PyProof.EnumMake
import KE.GoesMore
import KE.KUnpackStar
import HandS.AnyAll
import PySem.Challenge.RW_greatestnext_k06_endless_states
set_option Elab.async false
set_option linter.all false
set_option maxRecDepth 100000
set_option maxHeartbeats 4000000
set_option exponentiation.threshold 5000
/-! Readings brought to a plain form: loops folded, calls by kinds. -/
namespace Rd
open PySem PySem.Spec PyProof.Rows L2
/-- a loop whose iterator has come -/
def Loop (J : It) (g : TG) (tb : TS) (D : Ends) (σ : L2.St) (H : Hp) : Prop := tFor (fun _ H1 R => R J H1) g tb D σ H
theorem tFor_rng1 {ta : TA} {g : TG} {tb : TS} {D : Ends} {σ : L2.St} {H : Hp} : tFor (iRng1 ta) g tb D σ H = ta σ H (fun vs H1 => ∃ j : Int, vs = [.int j] ∧ -(2 ^ 62) ≤ j ∧ j < 2 ^ 62 ∧ Loop (Itr 0 j.toNat) g tb D σ H1) := rfl
theorem tFor_rng2 {ta : TA} {g : TG} {tb : TS} {D : Ends} {σ : L2.St} {H : Hp} : tFor (iRng2 ta) g tb D σ H = ta σ H (fun vs H1 => ∃ i j : Int, vs = [.int i, .int j] ∧ (-(2 ^ 62) ≤ i ∧ i < 2 ^ 62 ∧ -(2 ^ 62) ≤ j ∧ j < 2 ^ 62) ∧ Loop (Itr i (j - i).toNat) g tb D σ H1) := rfl
theorem tFor_list {K : PySem.W.Frag} {tl : TE} {g : TG} {tb : TS} {D : Ends} {σ : L2.St} {H : Hp} : tFor (iList K tl) g tb D σ H = tl σ H (fun x H1 => ∃ a, x = .ref a ∧ (∃ xs, SqL K H1 a xs) ∧ Loop (Itl K a) g tb D σ H1) := rfl
theorem tFor_tup {K : PySem.W.Frag} {tl : TE} {g : TG} {tb : TS} {D : Ends} {σ : L2.St} {H : Hp} : tFor (iTup K tl) g tb D σ H = tl σ H (fun x H1 => ∃ a, x = .ref a ∧ (∃ xs, SqT K H1 a xs) ∧ Loop (Itt K a) g tb D σ H1) := rfl
theorem loop_rng {lo : Int} {n : Nat} {g : TG} {tb : TS} {D : Ends} {σ : L2.St} {H : Hp} (Pv : Nat → L2.St → Hp → Prop) (h0 : Pv 0 σ H)
    (hs : ∀ i σ H, i < n → Pv i σ H → g (.int (lo + i)) σ H fun σ2 H2 => tb { D with nx := Pv (i + 1), ct := Pv (i + 1), bk := D.nx } σ2 H2) (hd : ∀ σ H, Pv n σ H → D.nx σ H) : Loop (Itr lo n) g tb D σ H := for_range Pv h0 hs hd
theorem loop_list {K : PySem.W.Frag} {a : Addr} {xs : List V} {g : TG} {tb : TS} {D : Ends} {σ : L2.St} {H : Hp} (Pv : Nat → L2.St → Hp → Prop) (h0 : Pv 0 σ H) (hl : ∀ i σ H, i ≤ xs.length → Pv i σ H → SqL K H a xs)
    (hs : ∀ i x σ H, xs[i]? = some x → Pv i σ H → g x σ H fun σ2 H2 => tb { D with nx := Pv (i + 1), ct := Pv (i + 1), bk := D.nx } σ2 H2) (hd : ∀ σ H, Pv xs.length σ H → D.nx σ H) : Loop (Itl K a) g tb D σ H := for_list Pv h0 hl hs hd
/-- a comprehension whose iterator has come -/
def LcL (J : It) (g : TG) (tt : TT) (te : TE) (vs : List Nat) (σ : L2.St) (H : Hp) (Q : VK) : Prop := tLc (fun _ H1 R => R J H1) g tt te vs σ H Q
theorem tLc_list {K : PySem.W.Frag} {tl : TE} {g : TG} {tt : TT} {te : TE} {vs : List Nat} {σ : L2.St} {H : Hp} {Q : VK} : tLc (iList K tl) g tt te vs σ H Q = tl σ H (fun x H1 => ∃ a, x = .ref a ∧ (∃ xs, SqL K H1 a xs) ∧ LcL (Itl K a) g tt te vs σ H1 Q) := rfl
theorem tLc_tup {K : PySem.W.Frag} {tl : TE} {g : TG} {tt : TT} {te : TE} {vs : List Nat} {σ : L2.St} {H : Hp} {Q : VK} : tLc (iTup K tl) g tt te vs σ H Q = tl σ H (fun x H1 => ∃ a, x = .ref a ∧ (∃ xs, SqT K H1 a xs) ∧ LcL (Itt K a) g tt te vs σ H1 Q) := rfl
theorem tLc_rng1 {ta : TA} {g : TG} {tt : TT} {te : TE} {vs : List Nat} {σ : L2.St} {H : Hp} {Q : VK} : tLc (iRng1 ta) g tt te vs σ H Q = ta σ H (fun ws H1 => ∃ j : Int, ws = [.int j] ∧ -(2 ^ 62) ≤ j ∧ j < 2 ^ 62 ∧ LcL (Itr 0 j.toNat) g tt te vs σ H1 Q) := rfl
/-- a turn of a comprehension: the element's value is appended at D -/
def LcTurn (te : TE) (tt : TT) (D : Addr) (σw σ2 : L2.St) (vs : List Nat) (H2 : Hp) (R : Hp → Prop) : Prop := wipe σ2 vs = σw ∧ tt σ2 H2 fun b H3 =>
  if b = true then te σ2 H3 fun y H4 => ∃ acc, H4 D = some (.lst acc) ∧ acc.length < sizeLine ∧ R (upd H4 D (.lst (acc ++ [y]))) else R H3
theorem lcl_list {K : PySem.W.Frag} {a : Addr} {xs : List V} {g : TG} {tt : TT} {te : TE} {vs : List Nat} {σ : L2.St} {H : Hp} {Q : VK} (Pv : Addr → Nat → Hp → Prop) (h0 : ∀ D, H D = none → Pv D 0 (upd H D (.lst []))) (hl : ∀ D i H1, i ≤ xs.length → Pv D i H1 → SqL K H1 a xs)
    (hs : ∀ D i x H1, xs[i]? = some x → Pv D i H1 → g x (wipe σ vs) H1 fun σ2 H2 => LcTurn te tt D (wipe σ vs) σ2 vs H2 (Pv D (i + 1))) (hd : ∀ D H1, H D = none → Pv D xs.length H1 → Q (.ref D) H1) : LcL (Itl K a) g tt te vs σ H Q :=
  fun D hD => lc_list (Pv D) (h0 D hD) (hl D) (hs D) fun H1 p => hd D H1 hD p
theorem lcl_rng {lo : Int} {n : Nat} {g : TG} {tt : TT} {te : TE} {vs : List Nat} {σ : L2.St} {H : Hp} {Q : VK} (Pv : Addr → Nat → Hp → Prop) (h0 : ∀ D, H D = none → Pv D 0 (upd H D (.lst [])))
    (hs : ∀ D i H1, i < n → Pv D i H1 → g (.int (lo + i)) (wipe σ vs) H1 fun σ2 H2 => LcTurn te tt D (wipe σ vs) σ2 vs H2 (Pv D (i + 1))) (hd : ∀ D H1, H D = none → Pv D n H1 → Q (.ref D) H1) : LcL (Itr lo n) g tt te vs σ H Q :=
  fun D hD => lc_range (Pv D) (h0 D hD) (hs D) fun H1 p => hd D H1 hD p
section
variable {X : Cx}
theorem CallR.imp {f : Value} {r r' : List V → Hp → VK → Prop} (h : CallR X f r) (i : ∀ xs H Q, r' xs H Q → r xs H Q) : CallR X f r' := fun pins s σ H xs us Q I v q => h pins s σ H xs us Q I v (i _ _ _ q)
def rLenL (K : PySem.W.Frag) : List V → Hp → VK → Prop := fun xs H Q => ∃ p ys, xs = [.ref p] ∧ SqL K H p ys ∧ Q (.int ys.length) H
def rLenT (K : PySem.W.Frag) : List V → Hp → VK → Prop := fun xs H Q => ∃ p ys, xs = [.ref p] ∧ SqT K H p ys ∧ Q (.int ys.length) H
def rIntI : List V → Hp → VK → Prop := fun xs H Q => ∃ i, xs = [.int i] ∧ Q (.int i) H
theorem call_lenL : CallR X (.builtin "len") (rLenL X.K) := CallR.imp call_len_seq fun xs H Q ⟨p, ys, e, h, q⟩ => ⟨p, ys, e, .inl h, q⟩
theorem call_lenT : CallR X (.builtin "len") (rLenT X.K) := CallR.imp call_len_seq fun xs H Q ⟨p, ys, e, h, q⟩ => ⟨p, ys, e, .inr h, q⟩
theorem call_intI : CallR X (.type "int") rIntI := CallR.imp call_int1 fun xs H Q ⟨i, e, q⟩ => .inl ⟨i, e, q⟩
end
/-- an item of a list that stands in H by itself -/
def rIxH : R2 := fun x y H Q => ∃ p xs i v, x = .ref p ∧ y = .int i ∧ H p = some (.lst xs) ∧ atI xs i = some v ∧ Q v H
theorem ixH {X : Cx} : IxR X rIxH := fun value slice pins s σ H x y v u Q I rx ry ⟨p, xs, i, z, e1, e2, h, e3, q⟩ hs => ix_list value slice pins s σ H x y v u Q I rx ry ⟨p, xs, i, z, e1, e2, SqL.of h, e3, q⟩ hs
theorem at0 {α : Type} {x : α} {xs : List α} : atI (x :: xs) 0 = some x := atI_nat (j := 0) rfl
theorem at1 {α : Type} {x y : α} {xs : List α} : atI (x :: y :: xs) 1 = some y := atI_nat (j := 1) rfl
theorem at2 {α : Type} {x y z : α} {xs : List α} : atI (x :: y :: z :: xs) 2 = some z := atI_nat (j := 2) rfl
theorem at3 {α : Type} {x y z u : α} {xs : List α} : atI (x :: y :: z :: u :: xs) 3 = some u := atI_nat (j := 3) rfl
theorem ixN40 : ixN 4 0 = some 0 := rfl
theorem ixN41 : ixN 4 1 = some 1 := rfl
theorem ixN42 : ixN 4 2 = some 2 := rfl
theorem ixN43 : ixN 4 3 = some 3 := rfl
theorem scal_ii (a b : Int) : scal (V.int a) (V.int b) = true := rfl
/-- a loop over a range whose break and end meet in Pe -/
theorem loop_rngC {lo : Int} {n : Nat} {g : TG} {tb : TS} {D : Ends} {σ : L2.St} {H : Hp} (Pe : L2.St → Hp → Prop) (Pv : Nat → L2.St → Hp → Prop) (h0 : Pv 0 σ H)
    (hs : ∀ (bk : L2.St → Hp → Prop), (∀ σ H, Pe σ H → bk σ H) → ∀ i σ H, i < n → Pv i σ H → g (.int (lo + i)) σ H fun σ2 H2 => tb { D with nx := Pv (i + 1), ct := Pv (i + 1), bk := bk } σ2 H2)
    (hd : ∀ σ H, Pv n σ H → Pe σ H) (he : ∀ σ H, Pe σ H → D.nx σ H) : Loop (Itr lo n) g tb D σ H := loop_rng Pv h0 (hs D.nx he) fun σ H p => he σ H (hd σ H p)
theorem loop_listC {K : PySem.W.Frag} {a : Addr} {xs : List V} {g : TG} {tb : TS} {D : Ends} {σ : L2.St} {H : Hp} (Pe : L2.St → Hp → Prop) (Pv : Nat → L2.St → Hp → Prop) (h0 : Pv 0 σ H) (hl : ∀ i σ H, i ≤ xs.length → Pv i σ H → SqL K H a xs)
    (hs : ∀ (bk : L2.St → Hp → Prop), (∀ σ H, Pe σ H → bk σ H) → ∀ i x σ H, xs[i]? = some x → Pv i σ H → g x σ H fun σ2 H2 => tb { D with nx := Pv (i + 1), ct := Pv (i + 1), bk := bk } σ2 H2)
    (hd : ∀ σ H, Pv xs.length σ H → Pe σ H) (he : ∀ σ H, Pe σ H → D.nx σ H) : Loop (Itl K a) g tb D σ H := loop_list Pv h0 hl (hs D.nx he) fun σ H p => he σ H (hd σ H p)
theorem ite_true_of {c : Bool} {A B : Prop} (hc : c = true) (h : A) : if c = true then A else B := by
  rw [if_pos hc]; exact h
theorem ite_false_of {c : Bool} {A B : Prop} (hc : c = false) (h : B) : if c = true then A else B := by
  rw [hc, if_neg Bool.false_ne_true]; exact h
end Rd
/-! Rules of our own over the hand layer: an own operator, an own ==, // by any divisor, classes made within a try, a method called by keywords. -/
namespace Own
open PySem PySem.Spec PyProof.Rows L2
abbrev St := L2.St
section
variable {X : Cx} {CX : CXT} {k n : Nat} {f C : Addr} {fd : FuncData} {ps : List Str} {sp : Sp}
/-- // by a divisor of any sign below 2 ^ 9000 in size -/
def CDivM (_ j : Int) : Prop := j ≠ 0 ∧ j.natAbs.log2 < 9000
theorem op_fdivWN : OpR X (binaryOp .FloorDiv) (rI CDivM fun i j => .int (i.fdiv j)) := opI fun i j _ _ _ _ _ hc q =>
  floordiv_int hc.1 q (.inl (PyProof.noPylong_of_log2 hc.2))
/-- x op y by the class's own method: x and y are instances of the class at C -/
def rOwn (C : Addr) (sp : Sp) (E : XK) : R2 := fun x y H Q => ∃ a b dx dy fs gs, x = .ref a ∧ y = .ref b ∧ H a = some (.ins C dx fs) ∧ H b = some (.ins C dy gs) ∧ sp [.ref a, .ref b] H Q E
theorem op_own {op : Operator} {E : XK} (F : FnOk X.prog X.w X.K X.mg X.base CX n f fd ps sp) (hr : Room n X.A) (hsf : PySem.W.selfFirst X.K C = true) (hs : PySem.W.findIn X.K (.ref C) (PySem.dunder op.info.2) = some (some (.ref f)))
    (hf : PySem.W.isFn X.K (.ref f) = true) (hb : Binds X.K fd ps []) (hx : Passes CX X E) : OpR X (binaryOp op) (rOwn C sp E) := by
  intro pins s σ H x y u v Q I rx ry h
  obtain ⟨a, b, dx, dy, fs, gs, rfl, rfl, ha, hb', hq⟩ := h
  cases rx
  cases ry
  obtain ⟨mA, J, _⟩ := ins_get I.hok ha
  obtain ⟨mB, J', _⟩ := ins_get I.hok hb'
  obtain ⟨od, J, _⟩ := J.look
  obtain ⟨od', J', _⟩ := J'.look
  obtain ⟨m, hF⟩ := I.fr
  refine PySem.W.binop_K hF I.ok.mod.kin J J'.type hsf hs hf ?_
  refine wpAny_mono (run_fn (us := [.ref a, .ref b]) (vs := [.ref a, .ref b]) F hr hb .nil hx I (.cons rfl (.cons rfl .nil)) (by rw [List.append_nil]; exact hq)) (fun u s' z => ?_) fun _ _ e => e
  obtain ⟨v', H', I', rv, q⟩ := id z
  cases u <;> first
    | exact z
    | (exfalso; cases v' <;> first | (cases rv; done) | (obtain ⟨_, rv⟩ := rv; cases rv))
/-- x == y by the class's own method: x is an instance of the class at C, y of any type that is not below it -/
def rOwnEq (K : PySem.W.Frag) (C : Addr) (sp : Sp) (E : XK) : R2 := fun x y H Q => ∃ a dx fs t, x = .ref a ∧ H a = some (.ins C dx fs) ∧ TyX K H y t ∧ PySem.W.notFirst K C t = true ∧ sp [.ref a, y] H Q E
theorem op_eqOwn {E : XK} (F : FnOk X.prog X.w X.K X.mg X.base CX n f fd ps sp) (hr : Room n X.A) (hs : PySem.W.findIn X.K (.ref C) "__eq__" = some (some (.ref f)))
    (hf : PySem.W.isFn X.K (.ref f) = true) (hb : Binds X.K fd ps []) (hx : Passes CX X E) : OpR X (compareOp .Eq) (rOwnEq X.K C sp E) := by
  intro pins s σ H x y u v Q I rx ry h
  obtain ⟨a, dx, fs, t, rfl, ha, ty, hn, hq⟩ := h
  cases rx
  obtain ⟨mA, J, _⟩ := ins_get I.hok ha
  obtain ⟨od, J, _⟩ := J.look
  obtain ⟨m, hF⟩ := I.fr
  obtain ⟨P, Z, p, hne⟩ := kit_of I ry ty
  refine PySem.W.cmp_K (op := .Eq) hr.units0 hF I.ok.mod.kin J (Z.ty _ _ I.kIn p) hn hs hf ?_
  refine wpAny_mono (run_fn (us := [.ref a, v]) (vs := [.ref a, y]) F hr hb .nil hx I (.cons rfl (.cons ry .nil)) (by rw [List.append_nil]; exact hq)) (fun u s' z => ?_) fun _ _ e => e
  obtain ⟨v', H', I', rv, q⟩ := id z
  cases u <;> first
    | exact z
    | (exfalso; cases v' <;> first | (cases rv; done) | (obtain ⟨_, rv⟩ := rv; cases rv))
end

/-! ### within a try: what is raised is wished for at the slots -/
/-- a new instance of C, its __init__ a def of one promise (ws: its values behind self, as they are bound) -/
theorem made_at {X : Cx} {CX : CXT} {k : Nat} {f C : Addr} {fd : FuncData} {ps : List Str} {sp : Sp} {E : XK} {pins : List (Addr × Obj)} {σ : St} {H : Hp} {s : Shared} {Q : VK} {us rest : List Value} {kw : List (Str × Value)} {zs : List V} (M : Mk X.K C f) (F : FnOk X.prog X.w X.K X.mg X.base CX k f fd ps sp) (hr : Room (k + 1) X.A)
    (hx : PassesAt CX X σ E) (I : Inv X pins σ H s) (r : Vals zs rest) (bd : ∀ (s' : Shared) (y : Value), X.K.In s'.heap → (y :: rest).length = ps.length → BindsTo s' fd ⟨y :: us, kw⟩ (ps.zip (y :: rest)))
    (h : ∀ x dx, H x = none → H dx = none → dx ≠ x → sp (.ref x :: zs) (upd (upd H dx (.own x)) x (.ins C dx [])) (fun v H2 => v = .non ∧ Q (.ref x) H2) E) :
    wpAny (model X.prog X.w) X.A (call (.ref C) us kw) (EP X pins σ Q) X.xe s := by
  have at1 := I.hok.fresh (Nat.le_succ s.heap.objs.size)
  have q := h (s.heap.objs.size + 1) s.heap.objs.size at1 (I.hok.fresh (Nat.le_refl _)) (Nat.ne_of_lt (Nat.lt_succ_self _))
  have J := Inv.made (C := C) I
  have args : Vals (V.ref (s.heap.objs.size + 1) :: zs) (Value.ref (s.heap.objs.size + 1) :: rest) := .cons rfl r
  have b := bd _ (Value.ref (s.heap.objs.size + 1)) J.kIn (args.length.symm.trans (F.len _ _ _ _ q))
  refine wpAny_call (make_map (f := f) I.kIn M.makes M.init (beq_iff_eq.mp M.fn) (codeAny_mono (F.run _ X.stack _ _ ⟨Value.ref (s.heap.objs.size + 1) :: us, kw⟩ _ _ _ E (hr.make C us kw) (J.env0.make C us kw) b args q) ?_))
  rintro (e | fl) s' z
  · exact hx pins _ _ e s' J z
  · cases fl with
    | ret u =>
      obtain ⟨v, H', I3, rv, ev, q3⟩ := J.after z
      subst ev
      exact ⟨rv, V.ref (s.heap.objs.size + 1), H', I3, rfl, q3⟩
    | next => exact z.elim
    | brk => exact z.elim
    | cont => exact z.elim
section
variable {X : Cx} {CX : CXT} {k : Nat} {f C : Addr} {fd : FuncData} {ps ks : List Str} {sp : Sp} {E : St → XK} {dvs : List V} {ds : List Value} {x m : Str} {p pos apos : Pos} {e o : Expr} {es : List Expr} {kws : List Keyword} {ta : TE} {t tk : TA}
/-- C(e, ..) -/
def tMakeS (C : Addr) (sp : Sp) (dvs : List V) (E : St → XK) (t : TA) : TE := fun σ H Q => t σ H fun vs H1 => ∀ x dx, H1 x = none → H1 dx = none → dx ≠ x →
  sp (.ref x :: (vs ++ dvs)) (upd (upd H1 dx (.own x)) x (.ins C dx [])) (fun v H2 => v = .non ∧ Q (.ref x) H2) (E σ)
theorem pe_makeS (M : Mk X.K C f) (F : FnOk X.prog X.w X.K X.mg X.base CX k f fd ps sp) (hr : Room (k + 1) X.A) (hg : Gl X x) (hm : X.mg x = some (.ref C)) (hb : Binds X.K fd ps ds) (hd : Vals dvs ds) (hx : ∀ σ, PassesAt CX X σ (E σ))
    (ha : PA X (e :: es) t) (hdb : (x == ("__debug__" : Str)) = false := by decide) (he : starEach (e :: es) X.env = (false, eval e X.env) :: starEach es X.env := by rfl) (hpl : (backTo pos (starEach es X.env)).any (·.1) = false := by rfl) :
    PE X (.Call (.Name x p) (e :: es) [] pos) (tMakeS C sp dvs E t) :=
  ⟨fun pins s σ H Q I h => wpAny_Call_Name_kw (ld_glob I hg hm (PySem.W.callWith_K (h₀ := X.base) I.ok.mod.kin M.kp (thn (ha.run pos pins s σ H _ I h) fun us s1 ⟨vs, H1, I1, r, q⟩ =>
    ⟨I1.kIn, made_at M F hr (hx σ) I1 (r.append hd) (fun s' y X' l => hb s' (y :: us) X' l) q⟩) he hpl) hdb)⟩
/-- C(k = v, ..) -/
def tMakeKS (C : Addr) (m : Nat) (sp : Sp) (gV : List V → List V → List V) (E : St → XK) (tk : TA) : TE := fun σ H Q => tk σ H fun zs H2 => zs.length = m ∧ ∀ x dx, H2 x = none → H2 dx = none → dx ≠ x →
  sp (gV [.ref x] zs) (upd (upd H2 dx (.own x)) x (.ins C dx [])) (fun v H3 => v = .non ∧ Q (.ref x) H3) (E σ)
/-- the keywords' order is told by g: self stands first -/
theorem pe_makeKS {g : List Value → List Value → List Value} {gV : List V → List V → List V} {g' : List Value → List Value} {gV' : List V → List V} (M : Mk X.K C f) (F : FnOk X.prog X.w X.K X.mg X.base CX k f fd ps sp) (hr : Room (k + 1) X.A) (hg : Gl X x) (hm : X.mg x = some (.ref C)) (hb : KBn X.K fd ps 1 ks g gV)
    (hg1 : ∀ y ws, g [y] ws = y :: g' ws) (hg2 : ∀ y zs, gV [y] zs = y :: gV' zs) (hx : ∀ σ, PassesAt CX X σ (E σ)) (hkw : PK X kws tk)
    (hall : (backToKw pos (keywordEach kws X.env)).all (·.1.isSome) = true := by rfl) (hks : (backToKw pos (keywordEach kws X.env)).filterMap (·.1) = ks := by rfl) (hdb : (x == ("__debug__" : Str)) = false := by decide)
    (hpl : ((backTo pos (starEach [] X.env)).any (·.1) || (backToKw pos (keywordEach kws X.env)).any (·.1.isNone)) = false := by rfl) :
    PE X (.Call (.Name x p) [] kws pos) (tMakeKS C ks.length sp gV E tk) := by
  refine ⟨fun pins s σ H Q I h => wpAny_Call_Name_kw (ld_glob I hg hm (PySem.W.callWith_KW0 (h₀ := X.base) I.ok.mod.kin M.kp hall (thn (hkw.run pos pins s σ H _ I h) ?_) hpl) hdb)⟩
  rintro ws s2 ⟨zs, H2, I2, rz, lz, q⟩
  rw [hks]
  have rr := hb.rel (vs := [V.non]) (us := [Value.none]) (.cons rfl .nil) rz
  rw [hg1, hg2] at rr
  cases rr with
  | cons _ rest =>
    refine ⟨I2.kIn, made_at (us := []) M F hr (hx σ) I2 rest (fun s' y X' _ => ?_) fun x dx a b c => ?_⟩
    · have z := hb.to s' [y] ws X' rfl (rz.length.symm.trans lz)
      rwa [hg1] at z
    · have z := q x dx a b c
      rwa [hg2] at z
/-- o.m(e, ..) -/
def tMethS (C : Addr) (m : Str) (sp : Sp) (E : St → XK) (ta : TE) (t : TA) : TE := fun σ H Q => ta σ H fun x H1 => ∃ a dx fs, x = .ref a ∧ H1 a = some (.ins C dx fs) ∧ fs.lookup m = none ∧ t σ H1 fun vs H2 => sp (x :: vs) H2 Q (E σ)
theorem pe_methS {pl : Sem Bool} (he : PE X o ta) (c : Cls X.K C) (hm : Meth X.K C m f) (F : FnOk X.prog X.w X.K X.mg X.base CX k f fd ps sp) (hr : Room k X.A) (hb : Binds X.K fd ps []) (hx : ∀ σ, PassesAt CX X σ (E σ)) (ha : PA X (e :: es) t)
    (hst : starEach (e :: es) X.env = (false, eval e X.env) :: starEach es X.env := by rfl) (hpl : (backTo pos (starEach es X.env)).any (·.1) = false := by rfl)
    (ht : eval (.Call (.Attribute o m apos) (e :: es) [] pos) X.env = (do
      let ov ← eval o X.env
      standAt apos.atName
      let (f, first) ← holding [ov] (getMethod ov m pl)
      callWith pos f first (backTo pos (starEach (e :: es) X.env)) (backToKw pos (keywordEach [] X.env))) := by rfl) :
    PE X (.Call (.Attribute o m apos) (e :: es) [] pos) (tMethS C m sp E ta t) := by
  refine ⟨fun pins s σ H Q I h => PySem.W.methodCall_KW (pl := pl) (thn (he.run pins s σ H _ I h) ?_) ht⟩
  rintro u s1 ⟨x, H1, I1, rx, a, dx, fs, rfl, ea, l, q⟩
  obtain rfl : u = Value.ref a := rx
  refine getmeth_ok I1 ea c hm l (PySem.W.callWith_K (first := [.ref a]) (h₀ := X.base) I.ok.mod.kin hm.kp (thn (ha.run pos pins s1 σ H1 _ I1 q) ?_) hst hpl)
  rintro us s2 ⟨vs, H2, I2, r, q2⟩
  exact ⟨I2.kIn, run_fnS (us := .ref a :: us) (vs := .ref a :: vs) F hr hb (hx σ) I2 (.cons rfl r) q2⟩
end
end Own
/-! A list comprehension within a def that runs while an exception is handled. -/
namespace OwnHot
open PySem PySem.Spec PyProof.Rows L2 L2H HotX
section
variable {prog : Program} {w : World} {A : Around} {E : Value → Shared → Prop} {s : Shared}
/-- what stands behind an iterator's last item: a StopIteration, taken by the one who asked -/
theorem stop_hot {α : Type} {Qa : α → Shared → Prop} {t : Sem α} {k : Value → Sem α} (et : t = newExc (.type "StopIteration") [] >>= k) (ek : ∀ a, k (.ref a) = raiseNew (.ref a)) {x1 : Addr} {Q : Option Value → Shared → Prop} (hot : HotAt A x1 s.heap)
    (hQ : ∀ h', (∀ b o, s.heap.get? b = some o → h'.get? b = some o) → Q none { s with heap := h' }) :
    wpAny (model prog w) A.in1 t Qa (fun e s' => wpAny (model prog w) A (do let b ← isInstance e (.type "StopIteration"); if b = true then pure none else throw e) Q E s') s := by
  obtain ⟨hh, o1, vs1, g1, d1, c1⟩ := hot
  rw [et]
  refine wpAny_bind ?_
  simp only [newExc, newTuple]
  refine wpAny_bind (wpAny_newObj_type ?_ (by size_fits))
  refine wpAny_bind (m := firstArgMember _ _) (wpAny_of_eq (a := Value.none) (by first | rfl | (simp only [firstArgMember]; rfl)) ?_)
  refine wpAny_newObj_type ?_ (by size_fits)
  rw [ek]
  refine raiseNew_hot ⟨hh, o1, vs1, Heap.get?_push_of_some _ (Heap.get?_push_of_some _ g1), d1, c1⟩ (Nat.ne_of_lt (Heap.lt_size (Heap.get?_push_of_some _ g1))) (Heap.get?_push_size _ rfl) rfl (by first | (simp; done) | (simp; omega) | (simp only [Array.size_append]; simp; omega)) ?_
  refine wpAny_bind (wpAny_isInstance (T := "StopIteration") (b := true) ⟨_, Heap.get?_update_self _ (Heap.get?_push_size _ rfl) rfl, rfl⟩ isSubtype_stop (wpAny_pure (hQ _ fun b o e => ?_)))
  rw [Heap.get?_update_other _ _ (Nat.ne_of_gt (Heap.lt_size (Heap.get?_push_of_some _ e)))]
  exact Heap.get?_push_of_some _ (Heap.get?_push_of_some _ e)
theorem list_end {it l x1 : Addr} {i : Nat} {items : Array Value} {Q : Option Value → Shared → Prop} (hot : HotAt A x1 s.heap) (ne : x1 ≠ it) (hit : s.heap.IsListIter it l i) (hl : s.heap.IsList l items) (hx : items[i]? = none)
    (hQ : ∀ h', Heap.ExtBut it s.heap h' → Q none { s with heap := h' }) : wpAny (model prog w) A (pyNext (.ref it)) Q E s := by
  obtain ⟨o, ho, hc, hd⟩ := id hit
  obtain ⟨ol, hol, _, nl, hdl⟩ := hl
  unfold pyNext
  refine wpAny_bind (wpAny_attempt (wpAny_callSpecial?_slot (name := Str.ofString "__next__") hit.typeIs slot_listiter_next (wpAny_call_entry slot_listiter_next hit.typeIs entry_listiter_next ?_ (args_listiter_next _))))
  show wpAny _ _ (field (.ref it) 0 >>= _) _ _ s
  refine wpAny_bind (wpAny_field ho hd (x := .ref l) rfl ?_)
  rw [if_neg (show ¬ ((Value.ref l == Value.none) = true) from Bool.false_ne_true)]
  refine wpAny_bind (wpAny_field ho hd (x := .int i 0) rfl (wpAny_bind (wpAny_seqItems hol hdl ?_)))
  simp only [Int.toNat_natCast, hx]
  refine wpAny_bind (wpAny_rule (wpAny_bind (wpAny_setField ho hd (by simp) ?_)))
  obtain ⟨hh, o1, vs1, g1, d1, c1⟩ := hot
  refine stop_hot (k := fun e => raiseNew e) rfl (fun _ => rfl) ⟨hh, o1, vs1, (Heap.get?_update_other _ _ ne.symm).trans g1, d1, c1⟩ fun h' kp => hQ h' fun b ob hb e => kp b ob ((Heap.get?_update_other _ _ (Ne.symm hb)).trans e)
theorem tuple_end {it l x1 : Addr} {i : Nat} {items : Array Value} {Q : Option Value → Shared → Prop} (hot : HotAt A x1 s.heap) (ne : x1 ≠ it) (hit : s.heap.IsTupleIter it l i) (hl : s.heap.IsTuple l items) (hx : items[i]? = none)
    (hQ : ∀ h', Heap.ExtBut it s.heap h' → Q none { s with heap := h' }) : wpAny (model prog w) A (pyNext (.ref it)) Q E s := by
  obtain ⟨o, ho, hc, hd⟩ := id hit
  obtain ⟨ol, hol, _, nl, hdl⟩ := hl
  unfold pyNext
  refine wpAny_bind (wpAny_attempt (wpAny_callSpecial?_slot (name := Str.ofString "__next__") hit.typeIs F.slot_tuple_iterator_next (wpAny_call_entry F.slot_tuple_iterator_next hit.typeIs F.entry_tuple_iterator_next ?_ (F.args_tuple_iterator_next_1 _))))
  show wpAny _ _ (field (.ref it) 0 >>= _) _ _ s
  refine wpAny_bind (wpAny_field ho hd (x := .ref l) rfl ?_)
  rw [if_neg (show ¬ ((Value.ref l == Value.none) = true) from Bool.false_ne_true)]
  refine wpAny_bind (wpAny_field ho hd (x := .int i 0) rfl (wpAny_bind (wpAny_seqItems hol hdl ?_)))
  simp only [Int.toNat_natCast, hx]
  refine wpAny_bind (wpAny_rule (wpAny_bind (wpAny_setField ho hd (by simp) ?_)))
  obtain ⟨hh, o1, vs1, g1, d1, c1⟩ := hot
  refine stop_hot (k := fun e => raiseNew e) rfl (fun _ => rfl) ⟨hh, o1, vs1, (Heap.get?_update_other _ _ ne.symm).trans g1, d1, c1⟩ fun h' kp => hQ h' fun b ob hb e => kp b ob ((Heap.get?_update_other _ _ (Ne.symm hb)).trans e)
end
/-! ### walks -/
section
variable {P : Program} {w : World} {K : PySem.W.Frag} {tg : Expr}
theorem hot_of {X : Cx} {pins : List (Addr × Obj)} {σ : L2.St} {H : Hp} {s : Shared} {it : Addr} (hc : HotC X) (I : Inv X pins σ H s) (hf : FpOk X pins H it) : ∃ x1, HotAt X.A x1 s.heap ∧ x1 ≠ it := by
  obtain ⟨p, ⟨hh, v1, e1, c1⟩, hp⟩ := hc
  exact ⟨p.1, ⟨hh, p.2, v1, (I.pin p (List.mem_append_left _ hp)).1, e1, c1⟩, hf.2.2.2.2.2 p (List.mem_append_left _ hp)⟩
theorem turnL (a it : Addr) : TurnH P w K tg (Itl K a) [it] it (fun i h => h.IsListIter it a i) :=
  let T : Turn P w K tg (Itl K a) [it] it (fun i h => h.IsListIter it a i) := turn_list a it
  { mem := T.mem, obj := T.obj, keep := T.keep, self := T.self
    item := fun X hP hw hK hc i pins s σ H E I hf st ⟨xs, x, hq, hx⟩ => by
      subst hP hw hK
      obtain ⟨f0, f1, f2, f3, f4, f5⟩ := hf it (List.mem_singleton.mpr rfl)
      obtain ⟨its, rv, p, _⟩ := I.list hq
      obtain ⟨u, hu, ru⟩ := rv.get hx
      refine wpAny_pyNext_list_item st p.isList (x := u) (by simpa using hu) fun h' st' sb => ?_
      have I1 := I.turned (t' := s.toks) (fun b o hb e => (sb.2 b hb).trans e) f0 f1 f3 f4 f5
      obtain ⟨o, e, c, d⟩ := id st'
      exact ⟨u, rfl, go_of (s := { s with heap := h' }) e c d (by decide) ⟨x, H, I1, ru, ⟨rfl, fun ys hy => (congrArg (·[i]?) (I.list_inj hy hq)).trans hx⟩, st', fun b hb => (hf b hb).1⟩⟩
    done := fun X hP hw hK hc i pins s σ H E I hf st ⟨xs, hq, hx⟩ => by
      subst hP hw hK
      have ff := hf it (List.mem_singleton.mpr rfl)
      obtain ⟨f0, f1, f2, f3, f4, f5⟩ := id ff
      obtain ⟨its, rv, p, _⟩ := I.list hq
      obtain ⟨x1, hot, ne⟩ := hot_of hc I ff
      have hl := rv.length
      exact list_end hot ne st p.isList (by simp; omega) fun h' eb => ⟨rfl, I.turned (t' := s.toks) (fun b o hb e => eb b o hb e) f0 f1 f3 f4 f5⟩ }
theorem turnT (a it : Addr) : TurnH P w K tg (Itt K a) [it] it (fun i h => h.IsTupleIter it a i) :=
  let T : Turn P w K tg (Itt K a) [it] it (fun i h => h.IsTupleIter it a i) := turn_tuple a it
  { mem := T.mem, obj := T.obj, keep := T.keep, self := T.self
    item := fun X hP hw hK hc i pins s σ H E I hf st ⟨xs, x, hq, hx⟩ => by
      subst hP hw hK
      obtain ⟨f0, f1, f2, f3, f4, f5⟩ := hf it (List.mem_singleton.mpr rfl)
      obtain ⟨its, rv, p, _⟩ := I.tuple hq
      obtain ⟨u, hu, ru⟩ := rv.get hx
      refine wpAny_pyNext_tuple_item st (show s.heap.IsTuple a its.toArray from p) (x := u) (by simpa using hu) fun h' st' sb => ?_
      have I1 := I.turned (t' := s.toks) (fun b o hb e => (sb.2 b hb).trans e) f0 f1 f3 f4 f5
      obtain ⟨o, e, c, d⟩ := id st'
      exact ⟨u, rfl, go_of (s := { s with heap := h' }) e c d (by decide) ⟨x, H, I1, ru, ⟨rfl, fun ys hy => (congrArg (·[i]?) (I.tuple_inj hy hq)).trans hx⟩, st', fun b hb => (hf b hb).1⟩⟩
    done := fun X hP hw hK hc i pins s σ H E I hf st ⟨xs, hq, hx⟩ => by
      subst hP hw hK
      have ff := hf it (List.mem_singleton.mpr rfl)
      obtain ⟨f0, f1, f2, f3, f4, f5⟩ := id ff
      obtain ⟨its, rv, p, _⟩ := I.tuple hq
      obtain ⟨x1, hot, ne⟩ := hot_of hc I ff
      have hl := rv.length
      exact tuple_end hot ne st (show s.heap.IsTuple a its.toArray from p) (by simp; omega) fun h' eb => ⟨rfl, I.turned (t' := s.toks) (fun b o hb e => eb b o hb e) f0 f1 f3 f4 f5⟩ }
end
section
variable {X : Cx} {tg l : Expr} {tl : TE}
theorem pi_listH (hl : PE X l tl) : PIH X tg l (iList X.K tl) := ⟨fun pins s σ H R I h => thn (hl.run pins s σ H _ I h) fun v s1 ⟨x, H1, I1, r1, a, e, ⟨xs, hq⟩, q⟩ => by
  subst e
  cases r1
  obtain ⟨its, rv, p, _⟩ := I1.list hq
  exact wpAny_pyIter_list p.isList ⟨s1.heap.objs.size, [s1.heap.objs.size], _, _, H1, rfl, I1.kept (t' := s1.toks) fun b o e => Heap.get?_push_of_some _ e, turnL a _, ⟨_, Heap.get?_push_size _ rfl, rfl, rfl⟩, fun b hb => by
    rw [List.mem_singleton.mp hb]
    exact I1.fpOk (Nat.le_refl _) (I1.hok.fresh (Nat.le_refl _)), q⟩⟩
theorem pi_tupH (hl : PE X l tl) : PIH X tg l (iTup X.K tl) := ⟨fun pins s σ H R I h => thn (hl.run pins s σ H _ I h) fun v s1 ⟨x, H1, I1, r1, a, e, ⟨xs, hq⟩, q⟩ => by
  subst e
  cases r1
  obtain ⟨its, rv, p, _⟩ := I1.tuple hq
  exact wpAny_pyIter_tuple (show s1.heap.IsTuple a its.toArray from p) ⟨s1.heap.objs.size, [s1.heap.objs.size], _, _, H1, rfl, I1.kept (t' := s1.toks) fun b o e => Heap.get?_push_of_some _ e, turnT a _, ⟨_, Heap.get?_push_size _ rfl, rfl, rfl⟩, fun b hb => by
    rw [List.mem_singleton.mp hb]
    exact I1.fpOk (Nat.le_refl _) (I1.hok.fresh (Nat.le_refl _)), q⟩⟩
end
/-! ### the block -/
/-- a comprehension's block whose pins stay -/
abbrev blkP (X : Cx) (s : Shared) (H : Hp) (scope : Scope) (cenv : Env) (fp : List Addr) : Cx := { X.blk s H scope cenv fp with pn := X.pn }
theorem toP {X : Cx} {s0 : Shared} {H0 : Hp} {scope : Scope} {cenv : Env} {fp : List Addr} {pins : List (Addr × Obj)} {σ : L2.St} {H : Hp} {s : Shared} (I : Inv (X.blk s0 H0 scope cenv fp) pins σ H s)
    (hp : ∀ p ∈ X.pn, s.heap.get? p.1 = some p.2 ∧ H p.1 = none ∧ p.1 ≠ cenv.locals ∧ p.1 ∉ frs X.stack ∧ ∀ v, p.2.data ≠ .cell v) : Inv (blkP X s0 H0 scope cenv fp) pins σ H s :=
  let o := I.ok
  { ok := ⟨o.mod, o.kind, o.glob, o.blt, o.above, o.inj, o.has, o.cab, o.hd, o.frames, o.stk, o.exf, o.bs, o.bsz, o.noex, o.exfs, o.funs, o.frf⟩
    os := I.os, bare := I.bare, base := I.base, loc := I.loc, cell := I.cell, free := I.free, freeC := I.freeC, hok := I.hok, len := I.len
    pin := fun p h => (List.mem_append.mp h).elim (hp p) fun h => I.pin p (List.mem_append_right _ h) }
/-- [elt for target in iter], an exception being handled -/
theorem pe_lcH {X : Cx} {elt tg iter : Expr} {scope : Scope} {own : List (Str × Nat)} {pos : Pos} {wi : TI} {g : TG} {te : TE} (hc : HotC X) (hN : X.N.Nodup) (hi : PIH X tg iter wi) (ok : BlkOk X.N X.env.scope scope own)
    (hg : ∀ (s : Shared) (H : Hp) (C : Addr) (cl : List (Str × Addr)) (fp : List Addr), PG (blkP X s H scope (compEnvC scope cl C X.env) fp) tg g)
    (he : ∀ (s : Shared) (H : Hp) (C : Addr) (cl : List (Str × Addr)) (fp : List Addr), PE (blkP X s H scope (compEnvC scope cl C X.env) fp) elt te) (hs : ∀ x, foldedSetIterable iter X.env x = pure x := by intro _; rfl) :
    PE X (.ListComp elt [⟨tg, iter, [], 0⟩] scope pos) (tLc wi g tYes te (own.map (·.2))) := by
  refine ⟨fun pins s σ H Q I h => ?_⟩
  have free : ∀ y ∈ scope.names, y.2 = .free → ∃ c, X.env.cells.lookup y.1 = some c := fun y hy e => I.ok.has _ ((ok.free y hy e).imp (fun k => k) fun k => k)
  rw [eval_ListComp]
  refine wpAny_comprehension_free (use := none) rfl hs (closure_ok free) ok.kind (fun y hy e => (ok.uniq y hy).trans (congrArg some e)) (thn (hi.run pins s σ H _ I h) fun _ s1 h1 => thn h1 fun _ s2 ⟨it, fp, tn, J, H2, e, I2, T, st2, f2, q⟩ => ?_)
  subst e
  refine wpAny_newObj_type (newEnv_comp ?_) (Nat.zero_le sizeLine)
  -- the new list stands at D
  obtain ⟨W, ⟨m0, w0⟩, turn⟩ := q _ (I2.hok.fresh (Nat.le_refl s2.heap.objs.size))
  have I3 : Inv X pins σ (upd H2 s2.heap.objs.size (.lst [])) { s2 with heap := s2.heap.push { cls := .type "list", data := .seq ([] : List Value).toArray } } :=
    I2.laid (t' := s2.toks) (fun b o e => Heap.get?_push_of_some _ e) (Nat.le_refl _) ⟨Nat.zero_le _, [], 0, .nil, Heap.get?_push_size _ rfl⟩
  have below : ∀ b ∈ fp, b < s2.heap.objs.size := fun b hb => by
    obtain ⟨o, e, _⟩ := T.obj _ _ st2 b hb
    exact Heap.lt_size e
  have f3 : ∀ b ∈ fp, FpOk X pins (upd H2 s2.heap.objs.size (.lst [])) b ∧ b < ({ s2 with heap := s2.heap.push { cls := .type "list", data := .seq ([] : List Value).toArray } } : Shared).heap.objs.size := fun b hb =>
    ⟨⟨(upd_ne (Nat.ne_of_lt (below b hb))).trans (f2 b hb).1, (f2 b hb).2⟩, by rw [Heap.size_push]; exact Nat.lt_succ_of_lt (below b hb)⟩
  have st3 : tn 0 ({ s2 with heap := s2.heap.push { cls := .type "list", data := .seq ([] : List Value).toArray } } : Shared).heap := T.keep _ _ _ st2 fun b _ o e => Heap.get?_push_of_some _ e
  generalize hD : s2.heap.objs.size = D at turn I3 f3 st3 w0 ⊢
  generalize hs3 : ({ s2 with heap := s2.heap.push { cls := .type "list", data := .seq ([] : List Value).toArray } } : Shared) = s3 at I3 f3 st3
  have B0 := block_start I3 ok hN f3
  have pg := hg s3 (upd H2 D (.lst [])) s3.heap.objs.size (cellsFrom (s3.heap.objs.size + 1) scope.names (cloFrom X.env.cells scope.names [])) fp
  have pe := he s3 (upd H2 D (.lst [])) s3.heap.objs.size (cellsFrom (s3.heap.objs.size + 1) scope.names (cloFrom X.env.cells scope.names [])) fp
  show codeAny _ _ (.compStart (.ListComp elt [⟨tg, iter, [], 0⟩] scope pos) 0 (.ref it) (.ref D) (compEnvC scope (cellsFrom (s3.heap.objs.size + 1) scope.names (cloFrom X.env.cells scope.names [])) s3.heap.objs.size X.env)) (compPost (model X.prog X.w) X.A X.xe none (EP X pins σ Q) (.ref D) s3.heap.objs.size) { s3 with heap := pushCells (s3.heap.push { cls := .type "dict", data := .dict #[] }) scope.names }
  have cL : (compEnvC scope (cellsFrom (s3.heap.objs.size + 1) scope.names (cloFrom X.env.cells scope.names [])) s3.heap.objs.size X.env).locals = s3.heap.objs.size := rfl
  generalize compEnvC scope (cellsFrom (s3.heap.objs.size + 1) scope.names (cloFrom X.env.cells scope.names [])) s3.heap.objs.size X.env = ce at B0 pg pe cL ⊢
  have B := toP B0 fun p hp => by
    obtain ⟨g1, g2, g3, g4, g5⟩ := I3.pin p (List.mem_append_left _ hp)
    exact ⟨pushCells_keeps _ _ _ _ (Heap.get?_push_of_some _ g1), g2, by rw [cL]; exact Nat.ne_of_lt (Heap.lt_size g1), fun hm => (List.mem_cons.mp (I3.stkSub p.1 hm)).elim g3 g4, g5⟩
  have st4 : tn 0 ({ s3 with heap := pushCells (s3.heap.push { cls := .type "dict", data := .dict #[] }) scope.names } : Shared).heap := T.keep _ _ _ st3 fun b _ o e => pushCells_keeps _ _ _ _ (Heap.get?_push_of_some _ e)
  generalize ({ s3 with heap := pushCells (s3.heap.push { cls := .type "dict", data := .dict #[] }) scope.names } : Shared) = s4 at B st4 ⊢
  have fpk : ∀ {σ' : L2.St} {H' : Hp} {s' : Shared}, Inv (blkP X s3 (upd H2 D (.lst [])) scope ce fp) [] σ' H' s' → (∀ b ∈ fp, H' b = none) → ∀ b ∈ fp, FpOk (blkP X s3 (upd H2 D (.lst [])) scope ce fp) [] H' b := fun I' hn b hb =>
    ⟨hn b hb, (I'.ok.exf b hb).1, I'.ok.exfs b hb, .inl hb, (I'.ok.exf b hb).2, fun p hp => (f3 b hb).1.2.2.2.2.2 p (List.mem_append_left _ (by rw [List.append_nil] at hp; exact hp))⟩
  have L : codeAny (model X.prog X.w) X.A (.compLoop (.ListComp elt [⟨tg, iter, [], 0⟩] scope pos) 0 (.ref it) (.ref D) ce) (compPost (model X.prog X.w) X.A X.xe none (EP X pins σ Q) (.ref D) s3.heap.objs.size) s4 := by
    refine compLoop_any (fun n s' => ∃ i H', Inv (blkP X s3 (upd H2 D (.lst [])) scope ce fp) [] (wipe σ (own.map (·.2))) H' s' ∧ tn i s'.heap ∧ (∀ b ∈ fp, H' b = none) ∧ W i n H') ?_ m0 ⟨0, _, B, st4, fun b hb => (f3 b hb).1.1, w0⟩
    rintro n s5 ⟨i, H5, I5, st5, n5, w5⟩
    rcases turn i n H5 w5 with ⟨stop, done⟩ | ⟨go, Nx, next, step⟩
    · refine thnF (T.done (blkP X s3 (upd H2 D (.lst [])) scope ce fp) rfl rfl rfl hc i [] s5 _ H5 (fun _ _ => False) I5 (fpk I5 n5) st5 stop) fun r s6 ⟨hr, I6⟩ => ?_
      subst hr
      obtain ⟨m, hn, _⟩ := I6.loc
      have hn : s6.heap.Ns ce.locals m := hn
      have nC : H5 ce.locals = none := I6.free
      rw [cL] at hn nC
      obtain ⟨f0, f1, f2', f4, f5, f6⟩ := I3.fpOk (H' := H5) (Nat.le_refl _) nC
      have I7 : Inv X pins σ H5 s6 := I3.call' (ch := fp) I6.os I6.base I6.hok I6.bare fun b hb =>
        let ⟨_, a1, a2, a3, a4, a5⟩ := (f3 b hb).1
        ⟨a3, a1, a4, a5⟩
      exact ⟨m, hn, fun h' sb => ⟨.ref D, H5, I7.turned (t' := s6.toks) (fun b o hb e => (sb.2 b hb).trans e) f0 f1 f4 f5 f6, rfl, done⟩⟩
    · refine thnF (T.item (blkP X s3 (upd H2 D (.lst [])) scope ce fp) rfl rfl rfl hc i [] s5 _ H5 (fun _ _ => False) I5 (fpk I5 n5) st5 go) fun r s6 ⟨u, hr, h6⟩ => ?_
      subst hr
      refine thnF h6 fun _ s7 ⟨x, H7, I7, r7, y7, st7, n7⟩ => ?_
      refine thnF (pg.run _ s7 _ H7 x u _ (I7.pinned (fpk I7 n7) (T.obj _ _ st7)) r7 (step x H7 y7)) fun _ s8 ⟨σ8, H8, I8, hw, q8⟩ => ?_
      refine wpAny_tests_nil ?_
      have q8 : te σ8 H8 fun y H4 => ∃ acc, H4 D = some (.lst acc) ∧ acc.length < sizeLine ∧ Nx (upd H4 D (.lst (acc ++ [y]))) := q8
      refine thnF (pe.run _ s8 σ8 H8 _ I8 q8) fun z s9 ⟨yv, H9, I9, r9, acc, hD9, hz9, nx⟩ => ?_
      refine app_ok (X := blkP X s3 (upd H2 D (.lst [])) scope ce fp) I9 hD9 hz9 r9 fun s10 I10 => ?_
      obtain ⟨m', hm, w'⟩ := next _ nx
      have kept : ∀ b ∈ fp, ∀ o, s7.heap.get? b = some o → s10.heap.get? b = some o ∧ (upd H9 D (.lst (acc ++ [yv]))) b = none := fun b hb o e =>
        let z := I10.pin (b, o) (List.mem_append_right _ (List.mem_append_right _ (mem_pinsAt hb e)))
        ⟨z.1, z.2.1⟩
      refine ⟨m', hm, i + 1, _, (I10.unpinned (pins := [])).weak (by rw [← hw, wipe_length]) (fun j v e => ?_), T.keep _ _ _ st7 fun b hb o e => (kept b hb o e).1, fun b hb => ?_, w'⟩
      · rw [← hw] at e
        exact (wipe_some e).1
      · obtain ⟨o, e, _⟩ := T.obj _ _ st7 b hb
        exact (kept b hb o e).2
  exact codeAny_compStart_list L (T.self X.A 0 _ _ _ st4 L)
end OwnHot
/-! Own exceptions with a known context: what is raised by an own class, told so that a suite may call defs. -/
namespace OwnExN
open PySem PySem.Spec PyProof.Rows L2
section
variable {X : Cx} {CX : CXT} {x : Str} {C fI : Addr} {k : Nat} {fd : FuncData} {ps : List Str} {sp : Sp} {e : Expr} {es : List Expr} {ta : TA} {p pos : Pos}
/-- an own exception's call, its __init__ a def of one promise: what stands behind it -/
theorem raised_new {pins : List (Addr × Obj)} {σ : L2.St} {H1 : Hp} {s1 : Shared} {us : List Value} {vs : List V} {Q : XK} (T : OexC X.K C) (iC : PySem.W.findIn X.K (.ref C) "__init__" = some (some (.ref fI))) (tI : PySem.W.typeIn X.K (.ref fI) = some (.type "function"))
    (F1 : FnOk X.prog X.w X.K X.mg X.base CX k fI fd ps sp) (hr : Room (k + 1) X.A) (hb : Binds X.K fd ps []) (hx : Passes CX X (fun _ _ _ => False)) (I1 : Inv X pins σ H1 s1) (r1 : Vals vs us) (hz : vs.length ≤ 1000)
    (h : ∀ a, H1 a = none → sp (.ref a :: vs) (upd H1 a (exo a C none)) (fun v H2 => v = .non ∧ ∃ (d : Addr) (fs : List (Str × V)), H2 a = some (exo a C (some d)) ∧ H2 d = some (exd d fs) ∧ H1 d = none ∧ Q (.ref C) (some d) (upd (del H2 a) d (.xd fs))) (fun _ _ _ => False)) :
    wpAny (model X.prog X.w) X.A (call (.ref C) us) (L2N.MkP X pins σ Q) X.xe s1 := by
  obtain ⟨_, _, _, _, bm, _, _, _, _, _, _, _, _, _, _, inK, bmOk⟩ := T.cls
  have small : us.length ≤ sizeLine := Nat.le_trans (Nat.le_of_eq (Paired.length r1).symm) (Nat.le_trans hz (by decide))
  cases s1 with | mk hp g dr tk os =>
  -- the address of the new exception; what it promises there
  have q := h (hp.objs.size + 1) (I1.hok.fresh (Nat.le_succ _))
  have args : Vals (V.ref (hp.objs.size + 1) :: vs) (Value.ref (hp.objs.size + 1) :: us) := .cons rfl r1
  have J := I1.laid (t' := tk) (a := hp.objs.size + 1) (o := exo (hp.objs.size + 1) C none) (h' := (hp.push (PySem.W.kdv_tup us)).push (PySem.HandSPX.excO C hp.objs.size)) (fun b o z => Heap.get?_push_of_some _ (Heap.get?_push_of_some _ z)) (Nat.le_succ _) (exo_ok (by heap_get))
  have bd := hb _ (Value.ref (hp.objs.size + 1) :: us) J.kIn (by rw [List.append_nil]; exact args.length.symm.trans (F1.len _ _ _ _ q))
  rw [List.append_nil] at bd
  refine wpAny_call (PySem.HandSPX.call_own F.excBase_ValueError (PySem.HandSPX.refsVE_contains · bm bmOk) (I1.kIn _ _ inK) (PySem.W.looks_findIn I1.kIn iC) (fun self => PySem.W.bind_fn I1.kIn self tI) small ?_)
  refine codeAny_mono (F1.run _ X.stack _ _ ⟨Value.ref (hp.objs.size + 1) :: us, []⟩ _ _ _ (fun _ _ _ => False) (hr.make C us []) (J.env0.make C us []) bd args q) ?_
  rintro (er | fl) s' z
  · exact hx pins σ _ _ er s' J z
  · cases fl with
    | ret u =>
      obtain ⟨v, H2, o1, o2, o3, o4, rv, ev, d, fs, m1, m2, m3, fin⟩ := z
      subst ev
      cases s' with | mk h2 g2 d2 t2 os' =>
      obtain ⟨t0, G, JG, kG, nG, at2, free⟩ := mk_end0 (d2 := d2) (t2 := t2) I1 (Nat.le_succ _) (fun b o z => Heap.get?_push_of_some _ (Heap.get?_push_of_some _ z)) o3 o4 o1 o2 m1 m2 m3
      exact ⟨rv, hp.objs.size + 1, _, _, ⟨G, g2, d2, t2, os'⟩, _, .ref C, some d, rfl, JG, kG, nG, at2, ⟨rfl, rfl, fun vs hv => by cases hv; rfl⟩, rfl, rfl, free, rfl, o2, raises_own T.exC T.tyC, fin⟩
    | next => exact z.elim
    | brk => exact z.elim
    | cont => exact z.elim
theorem pmk_oexN (T : OexC X.K C) (iC : PySem.W.findIn X.K (.ref C) "__init__" = some (some (.ref fI))) (tI : PySem.W.typeIn X.K (.ref fI) = some (.type "function"))
    (F1 : FnOk X.prog X.w X.K X.mg X.base CX k fI fd ps sp) (hr : Room (k + 1) X.A) (hb : Binds X.K fd ps []) (hx : Passes CX X (fun _ _ _ => False)) (hg : Gl X x) (hm : X.mg x = some (.ref C)) (ha : PA X (e :: es) ta)
    (hdb : (x == ("__debug__" : Str)) = false := by decide) (he : starEach (e :: es) X.env = (false, eval e X.env) :: starEach es X.env := by rfl) (hpl : (backTo pos (starEach es X.env)).any (·.1) = false := by rfl) :
    L2N.PMk X (.Call (.Name x p) (e :: es) [] pos) (tMkO C sp [] ta) := fun pins s σ H Q I h =>
  wpAny_Call_Name_kw (ld_glob I hg hm (PySem.W.callWith_K (h₀ := X.base) I.ok.mod.kin T.kC (thn (ha.run pos pins s σ H _ I h) fun us s1 ⟨vs, H1, I1, r1, hz, q1⟩ => ⟨I1.kIn, raised_new T iC tI F1 hr hb hx I1 r1 hz fun a n => by
    have z := q1 a n
    rw [List.append_nil] at z
    exact z⟩) he hpl) hdb)
end
theorem passN {X : Cx} : Passes (L2N.CX X.prog X.w) X E0 := fun _ _ _ _ _ _ _ h => by
  obtain ⟨_, _, _, _, _, _, _, _, _, _, _, _, z⟩ := h
  exact z.elim
theorem takesN0 {X : Cx} : L2N.Takes X (fun _ _ _ _ => False) := fun _ _ x => by
  obtain ⟨_, _, _, _, _, _, _, _, _, _, _, _, _, _, _, _, z⟩ := x
  exact z.elim
/-- the rule of a def that may raise, the exception's context known -/
theorem okN {P : Program} {w : World} {K : PySem.W.Frag} {mg : Str → Option Value} {base : Heap} {x qual : Str} {st : Stmt} {f : Addr} {fd : FuncData} {N ps : List Str} {k : Nat} {sp : Sp} (F : Fun K x qual st f fd) (S : FnScope N ps (defScope st)) (len : ∀ vs H Q E, sp vs H Q E → vs.length = ps.length)
    (hbody : ∀ (cdv : Value) (A : Around) (outer : List Env) (s : Shared) (H : Hp) (vs : List V) (Q : VK) (E : XK), Room k (A.deeper (envOfC qual (defScope st) s.heap.objs.size f cdv)) → sp vs H Q E →
      ∃ t, PSs (cxOf (L2N.CX P w) P w K mg base N qual (defScope st) f cdv A outer s H E) (defBody st) t ∧ t { nx := fun _ H' => Q .non H', rt := Q } (L2.start N vs) H) : FnOk P w K mg base (L2N.CX P w) (k + 1) f fd ps sp :=
  match F.ex with
  | ⟨_, _, _, _, _, _, _, _, _, e, lk, hcd⟩ => e ▸ fn_of (e ▸ lk) hcd S len fun A outer s H vs Q E hr hsp => hbody _ A outer s H vs Q E hr hsp
end OwnExN
/-! Rules of our own for what may be a list or a tuple: walked, taken apart, enumerated. -/
namespace OwnSeq
open PySem PySem.Spec PyProof.Rows L2
/-! ### enumerate of a tuple -/
theorem enum_made (t : Addr) (items : Array Value) :
    Meets (Builtin.«enumerate.__new__» ⟨[.type "enumerate", .ref t], []⟩) (fun _ R s => s.heap.IsTuple t items ∧
      R (.ok (.ret (.ref (s.heap.push { cls := .type "tuple_iterator", data := .fields #[.ref t, .int 0 0] }).objs.size)))
        { s with heap := (s.heap.push { cls := .type "tuple_iterator", data := .fields #[.ref t, .int 0 0] }).push { cls := .type "enumerate", data := .fields #[.none, .bool false, .ref s.heap.objs.size, rawInt 0, .none, .none] } }) :=
  .of_wp fun prog w A R s ⟨hL, h⟩ => by
    cases s with | mk hp g d tk os =>
    have below := sub_enumerate
    wp_walk
    refine wpAny_stack_any fun st => wpAny_pure ?_
    split
    · rename_i c _ _ _ _ _
      cases (c == Value.type "enumerate") <;> (wp_walk using wpAny_pyIter_tuple hL; exact ⟨_, rfl, h⟩)
    · wp_walk using wpAny_pyIter_tuple hL
      exact ⟨_, rfl, h⟩
theorem enum_tuple {prog : Program} {w : World} {A : Around} {E : Value → Shared → Prop} {s : Shared} {t : Addr} {items : Array Value} {Q : Value → Shared → Prop} (hL : s.heap.IsTuple t items)
    (h : ∀ h', IsEnum h' (s.heap.objs.size + 1) s.heap.objs.size 0 .none → h'.IsTupleIter s.heap.objs.size t 0 → (∀ b o, s.heap.get? b = some o → h'.get? b = some o) → Q (.ref (s.heap.objs.size + 1)) { s with heap := h' }) :
    wpAny (model prog w) A (call (.type "enumerate") [.ref t]) Q E s := by
  refine callType_new F.called_enumerate (by decide) (F.typeCall_enumerate_1 _) (F.newCall_enumerate_1 _) (fun obj => F.args_object_init_2 obj _) F.entry_enumerate_new (enum_made t items) ⟨hL, ?_⟩
  have grown : (s.heap.push { cls := .type "tuple_iterator", data := .fields #[.ref t, .int 0 0] }).objs.size = s.heap.objs.size + 1 := Heap.size_push ..
  have at2 := Heap.get?_push_size (s.heap.push { cls := .type "tuple_iterator", data := .fields #[.ref t, .int 0 0] }) (o := { cls := .type "enumerate", data := .fields #[.none, .bool false, .ref s.heap.objs.size, rawInt 0, .none, .none] }) rfl
  rw [grown] at at2
  show _ ∧ _
  rw [grown]
  exact ⟨⟨_, at2, rfl⟩, h _ at2 ⟨_, Heap.get?_push_of_some _ (Heap.get?_push_size _ rfl), rfl, rfl⟩ fun b o x => Heap.get?_push_of_some _ (Heap.get?_push_of_some _ x)⟩
/-- the tuple at a as it stands at each turn, each item in a new pair -/
def IteT (K : PySem.W.Frag) (a : Addr) : It :=
  ⟨fun i H => ∃ (xs : List V) (x : V), SqT K H a xs ∧ xs[i]? = some x, fun i H v H' => ∃ T x, v = .ref T ∧ H T = none ∧ H' = upd H T (.tup [.int (i : Nat), x]) ∧ ∀ xs, SqT K H a xs → xs[i]? = some x, fun i H => ∃ xs : List V, SqT K H a xs ∧ xs.length = i⟩
theorem turn_enumT {P : Program} {w : World} {K : PySem.W.Frag} {elts : List Expr} {kk : Nat} {tpos : Pos} (a e it : Addr) :
    Turn P w K (.Tuple elts kk tpos) (IteT K a) [e, it] e (fun i h => (∃ old, IsEnum h e it ((i : Nat) : Int) old) ∧ h.IsTupleIter it a i ∧ e ≠ it) where
  mem := List.mem_cons_self
  obj := fun i h ⟨⟨old, he⟩, ⟨o, ho, hc, hd⟩, _⟩ b hb => by
    rcases List.mem_cons.mp hb with rfl | hb
    · exact ⟨_, he, fun v q => nomatch q⟩
    · rw [List.mem_singleton.mp hb]
      exact ⟨o, ho, fun v q => by rw [hd] at q; cases q⟩
  keep := fun i h h' ⟨⟨old, he⟩, hi, hne⟩ k => ⟨⟨old, k e (by simp) _ he⟩, hi.at fun o q => k it (by simp) o q, hne⟩
  item := fun X hP hw hK hc i pins s σ H E I hf ⟨⟨old, he⟩, hit, hne⟩ ⟨xs, x, hq, hx⟩ => by
    subst hP hw hK
    obtain ⟨its, rv, p, hz⟩ := I.tuple hq
    obtain ⟨u, hu, ru⟩ := rv.get hx
    have p : s.heap.IsTuple a its.toArray := p
    have old1 : e < s.heap.objs.size := Heap.lt_size he
    have old2 : it < s.heap.objs.size := let ⟨_, q, _⟩ := hit; Heap.lt_size q
    have ai : a ≠ it := fun z => by
      obtain ⟨o1, g1, c1, _⟩ := hit
      obtain ⟨o2, g2, c2, _⟩ := p
      rw [z, g1] at g2
      cases g2
      exact absurd (Value.type.inj (c1.symm.trans c2)) (by decide)
    have ae : e ≠ a := fun z => by
      obtain ⟨o2, g2, c2, _⟩ := p
      have he : s.heap.get? e = some _ := he
      rw [← z, he] at g2
      cases g2
      exact absurd (Value.type.inj c2) (by decide)
    have li : i < its.toArray.size := by
      have z := (List.getElem?_eq_some_iff.mp hu).1
      simpa using z
    refine wpAny_pyNext_enum_itemD (Draws.tuple (show X.A.in1.handled = none from I.ok.hd hc) it a ai its.toArray) he ⟨hit, p⟩ li hne (by simp [hne, ae]) fun y h' tk hy ho st' hT hsz hk => ?_
    obtain rfl : y = u := by
      have z : its.toArray[i]? = some u := by simpa using hu
      rw [z] at hy
      exact (Option.some.inj hy).symm
    refine ⟨_, rfl, wpAny_letOwnedTupleGo_enum (s := { s with heap := h', toks := tk + 1 }) ho fun h'' he' sb => ?_⟩
    have hT2 : h''.get? s.heap.objs.size = some { cls := .type "tuple", data := .seq #[.int i tk, y] } := (sb.2 _ (Nat.ne_of_gt old1)).trans hT
    have new : ObjOk X.prog X.w (upd H s.heap.objs.size (.tup [.int (i : Nat), x])) h'' s.heap.objs.size (.tup [.int (i : Nat), x]) :=
      ⟨by show 2 ≤ sizeLine; decide, [.int i tk, y], .cons ⟨_, rfl⟩ (.cons ru .nil), ⟨_, hT2, rfl, _, rfl⟩⟩
    have I1 : Inv X pins σ (upd H s.heap.objs.size (.tup [.int (i : Nat), x])) { s with heap := h'', toks := tk + 1 } :=
      I.turnedNew (ch := [e, it]) (fun b ob hb q => (sb.2 b (fun z => hb (by simp [z]))).trans (hk b ob (fun z => hb (by simp [z])) (fun z => hb (by simp [z])) q)) hf (Nat.le_refl _) new
    refine ⟨.ref s.heap.objs.size, _, I1, rfl, ⟨_, x, rfl, I.hok.fresh (Nat.le_refl _), rfl, fun ys hy => by rw [I.tuple_inj hy hq]; exact hx⟩, ⟨⟨y, ?_⟩, st'.1.at fun o q => (sb.2 it (Ne.symm hne)).trans q, hne⟩, fun b hb => ?_⟩
    · rw [show ((i + 1 : Nat) : Int) = (i : Int) + 1 by omega]
      exact he'
    · have hb' : b < s.heap.objs.size := by
        rcases List.mem_cons.mp hb with rfl | hb
        · exact old1
        · rw [List.mem_singleton.mp hb]; exact old2
      rw [upd_ne (Nat.ne_of_lt hb')]
      exact (hf b hb).1
  done := fun X hP hw hK hc i pins s σ H E I hf ⟨⟨old, he⟩, hit, hne⟩ ⟨xs, hq, hx⟩ => by
    subst hP hw hK
    obtain ⟨its, rv, p, hz⟩ := I.tuple hq
    have p : s.heap.IsTuple a its.toArray := p
    obtain ⟨f0, f1, f2, f3, f4, f5⟩ := hf it (by simp)
    have hl := rv.length
    have ai : a ≠ it := fun z => by
      obtain ⟨o1, g1, c1, _⟩ := hit
      obtain ⟨o2, g2, c2, _⟩ := p
      rw [z, g1] at g2
      cases g2
      exact absurd (Value.type.inj (c1.symm.trans c2)) (by decide)
    have e' : i = its.toArray.size := by rw [List.size_toArray, ← hl, hx]
    exact wpAny_pyNext_enum_endD (Draws.tuple (show X.A.in1.handled = none from I.ok.hd hc) it a ai its.toArray) he ⟨by rw [← e']; exact hit, p⟩ fun h' eb => ⟨rfl, I.turned (t' := s.toks) (fun b o hb q => eb b o hb q) f0 f1 f3 f4 f5⟩
  self := fun A i s Q E ⟨⟨_, he⟩, _⟩ h => wpAny_pyIter_enum he h
def iEnumT (K : PySem.W.Frag) (ta : TA) : TI := fun σ H R => ta σ H fun vs H1 => ∃ a xs, vs = [.ref a] ∧ SqT K H1 a xs ∧ R (IteT K a) H1
section
variable {X : Cx} {e tg : Expr} {te : TE} {ta : TA} {p pos tpos : Pos} {elts : List Expr} {kk : Nat}
theorem pi_enumT (hg : Gl X "enumerate") (hm : X.mg "enumerate" = none) (ha : PA X [e] ta) (hs : starEach [e] X.env = [(false, eval e X.env)] := by rfl) : PI X (.Tuple elts kk tpos) (.Call (.Name "enumerate" p) [e] [] pos) (iEnumT X.K ta) :=
  ⟨fun pins s σ H R I h => Call_ (ld_blt I hg hm boot_enumerate (PyProof.Rows.callWith_type1 (thn (ha.run pos pins s σ H _ I h) fun us s1 ⟨vs, H1, I1, r1, a, xs, ex, hq, q⟩ => by
    subst ex
    cases r1 with
    | cons r rr =>
      cases rr
      cases r
      obtain ⟨its, rv, p', hz⟩ := I1.tuple hq
      refine enum_tuple (show s1.heap.IsTuple a its.toArray from p') fun h' he hit hk => wpAny_pyIter_enum he ?_
      refine ⟨s1.heap.objs.size + 1, [s1.heap.objs.size + 1, s1.heap.objs.size], _, _, H1, rfl, I1.kept (t' := s1.toks) hk, turn_enumT a (s1.heap.objs.size + 1) s1.heap.objs.size, ⟨⟨.none, he⟩, hit, Nat.succ_ne_self _⟩, fun b hb => ?_, q⟩
      have le : s1.heap.objs.size ≤ b := by
        rcases List.mem_cons.mp hb with rfl | hb
        · exact Nat.le_succ _
        · exact Nat.le_of_eq (List.mem_singleton.mp hb).symm
      exact I1.fpOk le (I1.hok.fresh le)) hs rfl))⟩
/-! ### a list or a tuple -/
theorem PI.or {w1 w2 : TI} {it : Expr} (a : PI X tg it w1) (b : PI X tg it w2) : PI X tg it (fun σ H R => w1 σ H R ∨ w2 σ H R) := ⟨fun pins s σ H R I h => h.elim (a.run pins s σ H R I) (b.run pins s σ H R I)⟩
theorem PG.or {g1 g2 : TG} (a : PG X tg g1) (b : PG X tg g2) : PG X tg (fun v σ H Q => g1 v σ H Q ∨ g2 v σ H Q) := ⟨fun pins s σ H v u Q I r h => h.elim (a.run pins s σ H v u Q I r) (b.run pins s σ H v u Q I r)⟩
/-- l: a list; else a tuple -/
def sq (l : Bool) (xs : List V) : HO := if l = true then .lst xs else .tup xs
theorem sq_l {K : PySem.W.Frag} {H : Hp} {a : Addr} {xs : List V} (h : H a = some (sq true xs)) : SqL K H a xs := SqL.of h
theorem sq_t {K : PySem.W.Frag} {H : Hp} {a : Addr} {xs : List V} (h : H a = some (sq false xs)) : SqT K H a xs := SqT.of h
def iSeq (K : PySem.W.Frag) (te : TE) : TI := fun σ H R => te σ H fun x H1 => ∃ a l xs, x = .ref a ∧ H1 a = some (sq l xs) ∧ R (if l = true then Itl K a else Itt K a) H1
theorem pi_seq (he : PE X e te) : PI X tg e (iSeq X.K te) := ⟨fun pins s σ H R I h => thn (he.run pins s σ H _ I h) fun v s1 ⟨x, H1, I1, rx, a, l, xs, ex, hx, q⟩ => by
  subst ex
  cases rx
  cases l with
  | true =>
    obtain ⟨its, rv, p, _⟩ := I1.list (SqL.of hx)
    exact wpAny_pyIter_list p.isList ⟨s1.heap.objs.size, [s1.heap.objs.size], _, _, H1, rfl, I1.kept (t' := s1.toks) fun b o e => Heap.get?_push_of_some _ e, turn_list a _, ⟨_, Heap.get?_push_size _ rfl, rfl, rfl⟩, fun b hb => by
      rw [List.mem_singleton.mp hb]
      exact I1.fpOk (Nat.le_refl _) (I1.hok.fresh (Nat.le_refl _)), q⟩
  | false =>
    obtain ⟨its, rv, p, _⟩ := I1.tuple (SqT.of hx)
    exact wpAny_pyIter_tuple (show s1.heap.IsTuple a its.toArray from p) ⟨s1.heap.objs.size, [s1.heap.objs.size], _, _, H1, rfl, I1.kept (t' := s1.toks) fun b o e => Heap.get?_push_of_some _ e, turn_tuple a _, ⟨_, Heap.get?_push_size _ rfl, rfl, rfl⟩, fun b hb => by
      rw [List.mem_singleton.mp hb]
      exact I1.fpOk (Nat.le_refl _) (I1.hok.fresh (Nat.le_refl _)), q⟩⟩
def iEnumS (K : PySem.W.Frag) (ta : TA) : TI := fun σ H R => ta σ H fun vs H1 => ∃ a l xs, vs = [.ref a] ∧ H1 a = some (sq l xs) ∧ R (if l = true then Ite K a else IteT K a) H1
theorem pi_enumS (hg : Gl X "enumerate") (hm : X.mg "enumerate" = none) (ha : PA X [e] ta) (hs : starEach [e] X.env = [(false, eval e X.env)] := by rfl) : PI X (.Tuple elts kk tpos) (.Call (.Name "enumerate" p) [e] [] pos) (iEnumS X.K ta) :=
  ⟨fun pins s σ H R I h => Call_ (ld_blt I hg hm boot_enumerate (PyProof.Rows.callWith_type1 (thn (ha.run pos pins s σ H _ I h) fun us s1 ⟨vs, H1, I1, r1, a, l, xs, ex, hq, q⟩ => by
    subst ex
    have young : ∀ b ∈ [s1.heap.objs.size + 1, s1.heap.objs.size], FpOk X pins H1 b := fun b hb => by
      have le : s1.heap.objs.size ≤ b := by
        rcases List.mem_cons.mp hb with rfl | hb
        · exact Nat.le_succ _
        · exact Nat.le_of_eq (List.mem_singleton.mp hb).symm
      exact I1.fpOk le (I1.hok.fresh le)
    cases r1 with
    | cons r rr =>
      cases rr
      cases r
      cases l with
      | true =>
        obtain ⟨its, rv, p', hz⟩ := I1.list (SqL.of hq)
        exact call_enumerate_list p'.isList fun h' he hit hsz hk => wpAny_pyIter_enum he ⟨_, _, _, _, H1, rfl, I1.kept (t' := s1.toks) hk, turn_enum a (s1.heap.objs.size + 1) s1.heap.objs.size, ⟨⟨.none, he⟩, hit, Nat.succ_ne_self _⟩, young, q⟩
      | false =>
        obtain ⟨its, rv, p', hz⟩ := I1.tuple (SqT.of hq)
        exact enum_tuple (show s1.heap.IsTuple a its.toArray from p') fun h' he hit hk => wpAny_pyIter_enum he ⟨_, _, _, _, H1, rfl, I1.kept (t' := s1.toks) hk, turn_enumT a (s1.heap.objs.size + 1) s1.heap.objs.size, ⟨⟨.none, he⟩, hit, Nat.succ_ne_self _⟩, young, q⟩) hs rfl))⟩
end
/-! ### loops over what walks n items -/
structure Goes (J : It) (S : Hp → Prop) (n : Nat) (y : Nat → Hp → V → Hp → Prop) : Prop where
  go : ∀ i H, i < n → S H → J.go i H
  stop : ∀ H, S H → J.stop n H
  yld : ∀ i H x H', S H → J.yld i H x H' → y i H x H'
theorem goes_seq {K : PySem.W.Frag} {a : Addr} {l : Bool} {xs : List V} : Goes (if l = true then Itl K a else Itt K a) (fun H => H a = some (sq l xs)) xs.length (fun i H x H' => H' = H ∧ xs[i]? = some x) := by
  cases l with
  | true => exact ⟨fun i H hi h => ⟨xs, xs[i], SqL.of h, by simp [hi]⟩, fun H h => ⟨xs, SqL.of h, Nat.le_refl _⟩, fun i H x H' h y => ⟨y.1, y.2 xs (SqL.of h)⟩⟩
  | false => exact ⟨fun i H hi h => ⟨xs, xs[i], SqT.of h, by simp [hi]⟩, fun H h => ⟨xs, SqT.of h, Nat.le_refl _⟩, fun i H x H' h y => ⟨y.1, y.2 xs (SqT.of h)⟩⟩
theorem goes_enum {K : PySem.W.Frag} {a : Addr} {l : Bool} {xs : List V} : Goes (if l = true then Ite K a else IteT K a) (fun H => H a = some (sq l xs)) xs.length (fun i H x H' => ∃ T z, x = .ref T ∧ H T = none ∧ H' = upd H T (.tup [.int (i : Nat), z]) ∧ xs[i]? = some z) := by
  cases l with
  | true => exact ⟨fun i H hi h => ⟨xs, xs[i], SqL.of h, by simp [hi]⟩, fun H h => ⟨xs, SqL.of h, Nat.le_refl _⟩, fun i H x H' h ⟨T, z, a, b, c, d⟩ => ⟨T, z, a, b, c, d xs (SqL.of h)⟩⟩
  | false => exact ⟨fun i H hi h => ⟨xs, xs[i], SqT.of h, by simp [hi]⟩, fun H h => ⟨xs, SqT.of h, rfl⟩, fun i H x H' h ⟨T, z, a, b, c, d⟩ => ⟨T, z, a, b, c, d xs (SqT.of h)⟩⟩
theorem loop_goes {J : It} {S : Hp → Prop} {n : Nat} {y : Nat → Hp → V → Hp → Prop} {g : TG} {tb : TS} {D : Ends} {σ : L2.St} {H : Hp} (G : Goes J S n y) (Pe : L2.St → Hp → Prop) (Pv : Nat → L2.St → Hp → Prop) (h0 : Pv 0 σ H) (hl : ∀ i σ H, i ≤ n → Pv i σ H → S H)
    (hs : ∀ (bk : L2.St → Hp → Prop), (∀ σ H, Pe σ H → bk σ H) → ∀ i x σ H H', i < n → Pv i σ H → y i H x H' → g x σ H' fun σ2 H2 => tb { D with nx := Pv (i + 1), ct := Pv (i + 1), bk := bk } σ2 H2)
    (hd : ∀ σ H, Pv n σ H → Pe σ H) (he : ∀ σ H, Pe σ H → D.nx σ H) : Rd.Loop J g tb D σ H :=
  ⟨fun i m σ H => m = n - i ∧ i ≤ n ∧ Pv i σ H, ⟨n, rfl, Nat.zero_le _, h0⟩, fun i m σ H ⟨e, hi, p⟩ => by
    subst e
    have q := hl i σ H hi p
    rcases Nat.lt_or_eq_of_le hi with lt | eq
    · exact .inr ⟨G.go i H lt q, Pv (i + 1), fun σ' H' p' => ⟨n - (i + 1), by omega, rfl, lt, p'⟩, fun x H' z => hs D.nx he i x σ H H' lt p (G.yld i H x H' q z)⟩
    · subst eq
      exact .inl ⟨G.stop H q, he σ H (hd σ H p)⟩⟩
theorem lcl_goes {J : It} {S : Hp → Prop} {n : Nat} {y : Nat → Hp → V → Hp → Prop} {g : TG} {tt : TT} {te : TE} {vs : List Nat} {σ : L2.St} {H : Hp} {Q : VK} (G : Goes J S n y) (Pv : Addr → Nat → Hp → Prop) (h0 : ∀ D, H D = none → Pv D 0 (upd H D (.lst []))) (hl : ∀ D i H1, i ≤ n → Pv D i H1 → S H1)
    (hs : ∀ D i x H1 H', i < n → Pv D i H1 → y i H1 x H' → g x (wipe σ vs) H' fun σ2 H2 => Rd.LcTurn te tt D (wipe σ vs) σ2 vs H2 (Pv D (i + 1))) (hd : ∀ D H1, H D = none → Pv D n H1 → Q (.ref D) H1) : Rd.LcL J g tt te vs σ H Q := fun D hD =>
  ⟨fun i m H => m = n - i ∧ i ≤ n ∧ Pv D i H, ⟨n, rfl, Nat.zero_le _, h0 D hD⟩, fun i m H1 ⟨e, hi, p⟩ => by
    subst e
    have q := hl D i H1 hi p
    rcases Nat.lt_or_eq_of_le hi with lt | eq
    · exact .inr ⟨G.go i H1 lt q, Pv D (i + 1), fun H' p' => ⟨n - (i + 1), by omega, rfl, lt, p'⟩, fun x H' z => hs D i x H1 H' lt p (G.yld i H1 x H' q z)⟩
    · subst eq
      exact .inl ⟨G.stop H1 q, hd D H1 hD p⟩⟩
theorem tFor_seq {K : PySem.W.Frag} {te : TE} {g : TG} {tb : TS} {D : Ends} {σ : L2.St} {H : Hp} : tFor (iSeq K te) g tb D σ H = te σ H (fun x H1 => ∃ a l xs, x = .ref a ∧ H1 a = some (sq l xs) ∧ Rd.Loop (if l = true then Itl K a else Itt K a) g tb D σ H1) := rfl
theorem tFor_enumS {K : PySem.W.Frag} {ta : TA} {g : TG} {tb : TS} {D : Ends} {σ : L2.St} {H : Hp} : tFor (iEnumS K ta) g tb D σ H = ta σ H (fun vs H1 => ∃ a l xs, vs = [.ref a] ∧ H1 a = some (sq l xs) ∧ Rd.Loop (if l = true then Ite K a else IteT K a) g tb D σ H1) := rfl
theorem tLc_seq {K : PySem.W.Frag} {te0 : TE} {g : TG} {tt : TT} {te : TE} {vs : List Nat} {σ : L2.St} {H : Hp} {Q : VK} : tLc (iSeq K te0) g tt te vs σ H Q = te0 σ H (fun x H1 => ∃ a l xs, x = .ref a ∧ H1 a = some (sq l xs) ∧ Rd.LcL (if l = true then Itl K a else Itt K a) g tt te vs σ H1 Q) := rfl
theorem tLc_enumS {K : PySem.W.Frag} {ta : TA} {g : TG} {tt : TT} {te : TE} {vs : List Nat} {σ : L2.St} {H : Hp} {Q : VK} : tLc (iEnumS K ta) g tt te vs σ H Q = ta σ H (fun ws H1 => ∃ a l xs, ws = [.ref a] ∧ H1 a = some (sq l xs) ∧ Rd.LcL (if l = true then Ite K a else IteT K a) g tt te vs σ H1 Q) := rfl
/-! ### x, *rest = a list or a tuple -/
section
variable {prog : Program} {w : World} {A : Around} {E : Value → Shared → Prop} {s : Shared}
theorem rest_list {l : Addr} {x : Value} {xs : List Value} {Q : List Value → Shared → Prop} (hl : s.heap.IsList l (x :: xs).toArray) (hh : A.handled = none) (hz : xs.length ≤ 1000)
    (h : ∀ (h' : Heap) (tk : Nat), (∀ b o, s.heap.get? b = some o → h'.get? b = some o) → Q [x, .ref h'.objs.size] { s with heap := h'.push { cls := .type "list", data := .seq xs.toArray }, toks := tk }) : wpAny (model prog w) A (unpackItems (.ref l) 2 (some 1)) Q E s := by
  have ne : l ≠ s.heap.objs.size := let ⟨_, g, _⟩ := hl; Nat.ne_of_lt (Heap.lt_size g)
  unfold unpackItems notIterableAtAll
  refine wpAny_bind (wpAny_bind (wpAny_specialOf hl.typeIs slot_list_iter.lookup (wpAny_pure ?_)))
  simp only [Bool.false_eq_true, if_false]
  refine wpAny_bind (wpAny_holding (wpAny_pyIter_list hl (wpAny_bind (wpAny_holding (PySem.W.kun_draw ne 1 0 _ _ ⟨_, Heap.get?_push_size _ rfl, rfl, rfl⟩ (hl.push _) (by simp) fun h1 it1 sb1 => ?_)))))
  have e1 : ((x :: xs).toArray.toList.drop 0).take 1 = [x] := rfl
  rw [e1]
  have it1 : h1.IsListIter s.heap.objs.size l 1 := it1
  have l1 : h1.IsList l (x :: xs).toArray := (hl.push _).extBut sb1.extBut ne
  have lt1 : s.heap.objs.size < h1.objs.size := let ⟨_, g, _⟩ := it1; Heap.lt_size g
  have lt2 : l < h1.objs.size := let ⟨_, g, _⟩ := l1; Heap.lt_size g
  rw [if_neg (show ¬ ([x] : List Value).length < 1 from Nat.lt_irrefl 1)]
  refine wpAny_bind (wpAny_holding (PySem.W.kun_collect (s := { s with heap := h1 }) (T := "list_iterator") (.inr (.inr (.inl rfl))) (Walks.list (A := A.in1) hh s.heap.objs.size l ne (x :: xs).toArray) (fun j u st => st.1.typeIs) (k := 1) (by simp) ⟨it1, l1⟩ lt1 lt2 (fun h2 tk k2 => ?_) (by simp; exact Nat.le_trans (Nat.succ_le_succ hz) (by decide))))
  rw [if_neg (Nat.not_lt_zero _)]
  have e2 : (x :: xs).toArray.toList.drop 1 = xs := rfl
  have e3 : xs.take (xs.length - (2 - 1 - 1)) = xs := List.take_length
  have e4 : xs.drop (xs.length - (2 - 1 - 1)) = [] := List.drop_length
  rw [e2, e3, e4]
  exact wpAny_bind (wpAny_newList (wpAny_pure (h h2 tk fun b o g => k2 b o (Nat.ne_of_lt (Heap.lt_size g)) (sb1.extBut b o (Nat.ne_of_lt (Heap.lt_size g)) (Heap.get?_push_of_some _ g)))) (Nat.le_trans hz (by decide)))
theorem rest_tuple {l : Addr} {x : Value} {xs : List Value} {Q : List Value → Shared → Prop} (hl : s.heap.IsTuple l (x :: xs).toArray) (hh : A.handled = none) (hz : xs.length ≤ 1000)
    (h : ∀ (h' : Heap) (tk : Nat), (∀ b o, s.heap.get? b = some o → h'.get? b = some o) → Q [x, .ref h'.objs.size] { s with heap := h'.push { cls := .type "list", data := .seq xs.toArray }, toks := tk }) : wpAny (model prog w) A (unpackItems (.ref l) 2 (some 1)) Q E s := by
  have ne : l ≠ s.heap.objs.size := let ⟨_, g, _⟩ := hl; Nat.ne_of_lt (Heap.lt_size g)
  unfold unpackItems notIterableAtAll
  refine wpAny_bind (wpAny_bind (wpAny_specialOf hl.typeIs slot_tuple_iter.lookup (wpAny_pure ?_)))
  simp only [Bool.false_eq_true, if_false]
  refine wpAny_bind (wpAny_holding (wpAny_pyIter_tuple hl (wpAny_bind (wpAny_holding (wpAny_draw_tuple ne 1 0 _ _ ⟨_, Heap.get?_push_size _ rfl, rfl, rfl⟩ (hl.push _) (by simp) fun h1 it1 sb1 => ?_)))))
  have e1 : ((x :: xs).toArray.toList.drop 0).take 1 = [x] := rfl
  rw [e1]
  have it1 : h1.IsTupleIter s.heap.objs.size l 1 := it1
  have l1 : h1.IsTuple l (x :: xs).toArray := (hl.push _).extBut sb1.extBut ne
  have lt1 : s.heap.objs.size < h1.objs.size := let ⟨_, g, _⟩ := it1; Heap.lt_size g
  have lt2 : l < h1.objs.size := let ⟨_, g, _⟩ := l1; Heap.lt_size g
  rw [if_neg (show ¬ ([x] : List Value).length < 1 from Nat.lt_irrefl 1)]
  refine wpAny_bind (wpAny_holding (PySem.W.kun_collect (s := { s with heap := h1 }) (T := "tuple_iterator") (.inr (.inr (.inr rfl))) (Walks.tuple (A := A.in1) hh s.heap.objs.size l ne (x :: xs).toArray) (fun j u st => st.1.typeIs) (k := 1) (by simp) ⟨it1, l1⟩ lt1 lt2 (fun h2 tk k2 => ?_) (by simp; exact Nat.le_trans (Nat.succ_le_succ hz) (by decide))))
  rw [if_neg (Nat.not_lt_zero _)]
  have e2 : (x :: xs).toArray.toList.drop 1 = xs := rfl
  have e3 : xs.take (xs.length - (2 - 1 - 1)) = xs := List.take_length
  have e4 : xs.drop (xs.length - (2 - 1 - 1)) = [] := List.drop_length
  rw [e2, e3, e4]
  exact wpAny_bind (wpAny_newList (wpAny_pure (h h2 tk fun b o g => k2 b o (Nat.ne_of_lt (Heap.lt_size g)) (sb1.extBut b o (Nat.ne_of_lt (Heap.lt_size g)) (Heap.get?_push_of_some _ g)))) (Nat.le_trans hz (by decide)))
end
def gRest (t : TGs) : TG := fun v σ H Q => ∃ a l x xs, v = .ref a ∧ H a = some (sq l (x :: xs)) ∧ xs.length ≤ 1000 ∧ ∀ D, H D = none → t [x, .ref D] σ (upd H D (.lst xs)) Q
theorem pg_rest {X : Cx} {t1 t2 : Expr} {p pos : Pos} {k : Nat} {t : TGs} (hc : X.calm = true) (h : PGs X [t1, t2] t) (he : (assignEach [t1, .Starred t2 p] X.env).map (·.2) = (assignEach [t1, t2] X.env).map (·.2) := by rfl)
    (hn : (assignEach [t1, .Starred t2 p] X.env).length = 2 := by rfl) (hst : (assignEach [t1, .Starred t2 p] X.env).findIdx? (·.1) = some 1 := by rfl) : PG X (.Tuple [t1, .Starred t2 p] k pos) (gRest t) := by
  refine ⟨fun pins s σ H v u Q I r ⟨a, l, x, xs, e1, hq, hz, hw⟩ => ?_⟩
  subst e1
  cases r
  rw [assign_Tuple]
  refine wpAny_bind (wpAny_standAt ?_)
  unfold unpack
  rw [hn, hst, he]
  have fin : ∀ {u : Value} {us : List Value}, RelV x u → Vals xs us → ∀ (h' : Heap) (tk : Nat), (∀ b o, s.heap.get? b = some o → h'.get? b = some o) →
      wpAny (model X.prog X.w) X.A (assignInOrder ((assignEach [t1, t2] X.env).map (·.2)) [u, .ref h'.objs.size]) (fun _ s' => ∃ σ' H', Inv X pins σ' H' s' ∧ Q σ' H') X.xe { s with heap := h'.push { cls := .type "list", data := .seq us.toArray }, toks := tk } := fun {u us} ru rus h' tk kp => by
    have I1 : Inv X pins σ H { s with heap := h', toks := tk } := I.kept (t' := tk) kp
    have I2 := I1.laid (t' := tk) (a := h'.objs.size) (o := .lst xs) (h' := h'.push { cls := .type "list", data := .seq us.toArray }) (fun b o e => Heap.get?_push_of_some _ e) (Nat.le_refl _) ⟨Nat.le_trans hz (by decide), us, 0, rus, Heap.get?_push_size _ rfl⟩
    exact h.run pins _ σ _ [x, .ref h'.objs.size] _ Q I2 (.cons ru (.cons rfl .nil)) (hw h'.objs.size (I1.hok.fresh (Nat.le_refl _)))
  cases l with
  | true =>
    obtain ⟨its, rv, pl, _⟩ := I.list (SqL.of hq)
    cases rv with
    | cons ru rus => exact wpAny_bind (wpAny_holding (rest_list pl.isList (I.ok.hd hc) (by rw [← rus.length]; exact hz) (fin ru rus)))
  | false =>
    obtain ⟨its, rv, pl, _⟩ := I.tuple (SqT.of hq)
    cases rv with
    | cons ru rus => exact wpAny_bind (wpAny_holding (rest_tuple (show s.heap.IsTuple a _ from pl) (I.ok.hd hc) (by rw [← rus.length]; exact hz) (fin ru rus)))
/-- x, y, .. = a list or a tuple of that length -/
def gSeq (n : Nat) (t : TGs) : TG := fun v σ H Q => ∃ a l xs, v = .ref a ∧ H a = some (sq l xs) ∧ xs.length = n ∧ t xs σ H Q
theorem pg_seq {X : Cx} {es : List Expr} {k n : Nat} {pos : Pos} {t : TGs} (hc : X.calm = true) (h : PGs X es t) (hn : (assignEach es X.env).length = n := by rfl) (hst : (assignEach es X.env).findIdx? (·.1) = none := by rfl) : PG X (.Tuple es k pos) (gSeq n t) := by
  refine ⟨fun pins s σ H v u Q I r ⟨a, l, xs, e1, hq, hl, hw⟩ => ?_⟩
  cases l with
  | true => exact (pg_unl hc h hn hst).run pins s σ H v u Q I r ⟨a, xs, e1, SqL.of hq, hl, hw⟩
  | false => exact (pg_tup hc h hn hst).run pins s σ H v u Q I r ⟨a, xs, e1, SqT.of hq, hl, hw⟩
end OwnSeq
/-! Rules of our own: len of an own instance; a try with several handlers, named or not. -/
namespace OwnProj
open PySem PySem.Spec PyProof.Rows L2
section
variable {X : Cx} {CX : CXT} {n : Nat} {f C : Addr} {fd : FuncData} {ps : List Str} {sp : Sp} {E : XK}
/-- len(x) by the class's own __len__ -/
def rLenO (C : Addr) (sp : Sp) (E : XK) : List V → Hp → VK → Prop := fun xs H Q => ∃ a dx fs, xs = [.ref a] ∧ H a = some (.ins C dx fs) ∧ sp [.ref a] H (fun v H' => ∃ k : Nat, v = .int k ∧ k < 2 ^ 62 ∧ Q v H') E
theorem call_lenO (F : FnOk X.prog X.w X.K X.mg X.base CX n f fd ps sp) (hr : Room (n + 1) X.A) (m : Meth X.K C "__len__" f) (hb : Binds X.K fd ps []) (hx : Passes CX X E) : CallR X (.builtin "len") (rLenO C sp E) := by
  rintro pins s σ H xs us Q I r ⟨a, dx, fs, rfl, ha, hq⟩
  obtain ⟨u, rfl, rx⟩ := vals1 r
  cases rx
  obtain ⟨mA, J, _⟩ := ins_get I.hok ha
  obtain ⟨od, J, _⟩ := J.look
  obtain ⟨m0, hF⟩ := I.fr
  have args : Vals [V.ref a] [Value.ref a] := .cons rfl .nil
  have bd := hb s [Value.ref a] I.kIn (by rw [List.append_nil]; exact args.length.symm.trans (F.len _ _ _ _ hq))
  rw [List.append_nil] at bd
  refine PySem.W.len_K hF I.ok.mod.kin J m.at_ m.fn (wpAny_call (codeAny_mono (F.run X.A.in1 X.stack s H ⟨[Value.ref a], []⟩ _ _ _ E hr.in1 I.env0.in1 bd args hq) ?_))
  rintro (e | fl) s' z
  · exact hx pins σ H s e s' I z
  · cases fl with
    | ret u =>
      obtain ⟨v, H', I', rv, k, ev, hk, q⟩ := I.after z
      subst ev
      obtain ⟨t, rfl⟩ := rv
      refine ⟨⟨by omega, by omega⟩, ?_⟩
      exact ⟨.int k, H', I'.tok _, ⟨_, rfl⟩, q⟩
    | next => exact z.elim
    | brk => exact z.elim
    | cont => exact z.elim
end
/-! ### several handlers, some with a name -/
structure HdD where
  c : Value
  i : Option Nat
  ts : Addr → Value → Option Addr → TS
def endsAt (D : Ends) : Option Nat → Ends
  | none => D
  | some i => { nx := fun σ' H' => D.nx (σ'.set i none) H', rt := D.rt, bk := fun σ' H' => D.bk (σ'.set i none) H', ct := fun σ' H' => D.ct (σ'.set i none) H' }
def slotAt (σ : L2.St) (a : Addr) : Option Nat → L2.St
  | none => σ
  | some i => σ.set i (some (.ref a))
/-- what is wished of a body's exception: the first handler that takes it -/
def wHds (K : PySem.W.Frag) (Wout : WX) (D : Ends) : List HdD → WX
  | [] => Wout
  | h :: r => fun cls d σ H => ∃ b, PySem.W.exmOne K cls h.c = some b ∧ (b = true → ∀ a, H a = none → h.ts a cls d (endsAt D h.i) (slotAt σ a h.i) H) ∧ (b = false → wHds K Wout D r cls d σ H)
inductive Hds (X : Cx) : List ExceptHandler → List HdD → Prop
  | nil : Hds X [] []
  | bare {x : Str} {c : Value} {ts : Addr → Value → Option Addr → TS} {b₀ : Stmt} {suite : List Stmt} {np pos' : Pos} {hds : List ExceptHandler} {l : List HdD} (hc : Names X x c)
      (su : ∀ (ea : Addr) (oe : Obj) (cls : Value) (d : Option Addr) (pn : List (Addr × Obj)), L2N.Zn cls d oe → (∃ vs, oe.data = .fields vs) → PSs (X.suite ea ((ea, oe) :: pn)) (b₀ :: suite) (ts ea cls d)) (r : Hds X hds l) :
      Hds X (.ExceptHandler (some (.Name x np)) none (b₀ :: suite) pos' :: hds) (⟨c, none, ts⟩ :: l)
  | named {x n : Str} {c : Value} {i : Nat} {ts : Addr → Value → Option Addr → TS} {b₀ : Stmt} {suite : List Stmt} {np pos' : Pos} {hds : List ExceptHandler} {l : List HdD} (hN : X.N.Nodup) (hi : X.N[i]? = some n) (hn : X.env.kindOf n = some .local) (hc : Names X x c)
      (su : ∀ (ea : Addr) (oe : Obj) (cls : Value) (d : Option Addr) (pn : List (Addr × Obj)), L2N.Zn cls d oe → (∃ vs, oe.data = .fields vs) → PSs (X.suite ea ((ea, oe) :: pn)) (b₀ :: suite) (ts ea cls d)) (r : Hds X hds l) :
      Hds X (.ExceptHandler (some (.Name x np)) (some n) (b₀ :: suite) pos' :: hds) (⟨c, some i, ts⟩ :: l)
section
variable {X : Cx} {body : List Stmt} {h₀ : ExceptHandler} {hds : List ExceptHandler} {l : List HdD} {pos : Pos} {tb : WX → TS} {Wout : WX}
/-- where an exception has landed in our frame: the handlers in their order -/
theorem hds_run {pins : List (Addr × Obj)} {σ : L2.St} {H : Hp} {D : Ends} {ea : Addr} {B : Heap} {sI : Shared} {cls : Value} {d : Option Addr} {s : Shared} {h3 : Heap} (own : X.stack = X.env :: X.outer) (fr : X.env.frame = some X.env.locals) (tk : L2N.Takes X Wout) (ok : X.Ok)
    (J : Inv X pins σ H sI) (nb : ∀ b o, sI.heap.get? b = some o → b ∉ frs X.stack → B.get? b = some o) (up3 : sI.heap.UpToSlots h3) (fl3 : HandSPX.FlyingZ B (X.env :: X.outer) ea (L2N.Zn cls d) h3) (na : H ea = none) (os : s.os = sI.os) (ag : AllBare s.gens) :
    ∀ {hds : List ExceptHandler} {l : List HdD}, Hds X hds l → wHds X.K Wout D l cls d σ H → wpAny (model X.prog X.w) X.A (handleBy (.ref ea) X.env hds) (SP X pins D) X.xe { s with heap := h3 } := by
  have landed : ∀ {h : Heap}, HandSPX.FlyingZ B (X.env :: X.outer) ea (L2N.Zn cls d) h → sI.heap.UpToSlots h → Inv X pins σ H { s with heap := h } := fun fl up => J.landed nb fl.1 up os ag
  obtain ⟨oe3, vs3, he3, hz3, hd3⟩ := fl3.there
  have apart : ea ∉ frs (X.env :: X.outer) := fun hm => by
    obtain ⟨_, o, at1, no⟩ := fl3.2.2.1.mem hm
    rw [he3] at at1
    cases at1
    exact no _ hd3
  have n1 : ea ≠ X.env.locals := fun z => apart (List.mem_filterMap.mpr ⟨X.env, List.mem_cons_self, by rw [fr, z]⟩)
  have n2 : ea ∉ X.fs := fun hm => let ⟨e, he, q⟩ := List.mem_filterMap.mp hm; apart (List.mem_filterMap.mpr ⟨e, List.mem_cons_of_mem _ he, q⟩)
  have I3 := (landed fl3 up3).suite he3 hd3 na n1 n2
  -- a handler's test
  have asks : ∀ {x : Str} {c : Value} {np : Pos} {b : Bool} {Qs : Bool → Shared → Prop} {Es Et : Value → Shared → Prop}, Names X x c → PySem.W.exmOne X.K cls c = some b → Qs b { s with heap := h3 } →
      wpAny (model X.prog X.w) (X.A.mark (some (.ref ea))) (eval (.Name x np) X.env) (fun t s' => wpAny (model X.prog X.w) (X.A.mark (some (.ref ea))) (excMatches (.ref ea) t) Qs Es s') Et { s with heap := h3 } := fun {x c np b Qs Es Et} hc hb q => by
    have kind : PySem.W.Looks (model X.prog X.w) h3 (typeOf (.ref ea)) cls := fun A Q E s k q => wpAny_typeOf_ref (k _ _ he3) (by rw [hz3.1]; exact q)
    have m := PySem.W.exm_one (M := model X.prog X.w) I3.kIn kind hb
    obtain ⟨hg, hdbg, hm | ⟨hm, hv, hnn⟩⟩ := hc
    · exact ld_glob (X := X.suite ea ((ea, oe3) :: (X.pn ++ pins))) I3 hg hm (m.here q) hdbg
    · exact ld_blt (X := X.suite ea ((ea, oe3) :: (X.pn ++ pins))) I3 hg hm hv (m.here q) hnn hdbg
  intro hds l hk
  induction hk with
  | nil =>
    intro out
    refine wpAny_handleBy_nil ?_
    obtain ⟨_, _, _, _, _, T, _, _, at1, _, data, head, _⟩ := id fl3
    have flies : wpAny (model X.prog X.w) X.A (setFlight (.ref ea) X.env.frame) (fun _ s4 => wpAny (model X.prog X.w) X.A (throw (.ref ea) : Sem Flow) (SP X pins D) X.xe s4) X.xe { s with heap := h3 } := by
      rw [fr]
      exact HandSPX.setFlight_upZ fl3 fun h4 held up4 => wpAny_throw (tk _ _ ⟨ea, B, sI, pins, σ, H, cls, d, rfl, J, nb, up3.trans up4, .inr (.inr (by rw [own]; exact held)), na, os, ag, out⟩)
    unfold PySem.passOn
    refine wpAny_bind (wpAny_field at1 data head ?_)
    rw [if_neg (show ¬ ((Value.ref T == Value.none) = true) by simp)]
    first
      | exact wpAny_bind flies
      | exact wpAny_bind (wpAny_pure (wpAny_bind flies))
  | @bare x c ts b₀ suite np pos' hds2 l2 hc su r ih =>
    rintro ⟨b, hb, yes, no⟩
    refine wpAny_handleBy_cons (codeAny_handlers_test (asks hc hb ?_)) (by intro q; cases q)
    cases b with
    | false => exact ih (no rfl)
    | true =>
      refine codeAny_handlers_suite (HandSPX.lands_againZ fl3 fun h4 fl4 up4 => ?_)
      obtain ⟨oe4, vs4, he4, hz4, hd4⟩ := fl4.there
      refine wpAny_mono ((su ea oe4 cls d (X.pn ++ pins) hz4 ⟨_, hd4⟩).run [] _ _ H _ ((landed fl4 (up3.trans up4)).suite he4 hd4 na n1 n2) (yes rfl ea na)) (fun f s6 z => ?_) (fun _ _ z => z.elim)
      cases f with
      | next => exact let ⟨_, _, S6, q6⟩ := z; ⟨_, _, S6.unsuite ok, q6⟩
      | brk => exact let ⟨_, _, S6, q6⟩ := z; ⟨_, _, S6.unsuite ok, q6⟩
      | cont => exact let ⟨_, _, S6, q6⟩ := z; ⟨_, _, S6.unsuite ok, q6⟩
      | ret u => exact let ⟨_, _, _, S6, r6, q6⟩ := z; ⟨_, _, _, S6.unsuite ok, r6, q6⟩
  | @named x n c i ts b₀ suite np pos' hds2 l2 hN hi hn hc su r ih =>
    rintro ⟨b, hb, yes, no⟩
    refine wpAny_handleBy_cons (codeAny_handlers_test (asks hc hb ?_)) (by intro q; cases q)
    cases b with
    | false => exact ih (no rfl)
    | true =>
      refine codeAny_handlers_suite_as (HandSPX.lands_againZ fl3 fun h4 fl4 up4 => ?_)
      obtain ⟨oe4, vs4, he4, hz4, hd4⟩ := fl4.there
      refine store_ok (X := X.suite ea ((ea, oe4) :: (X.pn ++ pins))) (v := .ref ea) ((landed fl4 (up3.trans up4)).suite he4 hd4 na n1 n2) hN hi (.inl hn) rfl (fun s5 S5 => ?_) (.inr hn)
      refine wpAny_mono ((su ea oe4 cls d (X.pn ++ pins) hz4 ⟨_, hd4⟩).run [] s5 _ H _ S5 (yes rfl ea na)) (fun f s6 z => ?_) (fun _ _ z => z.elim)
      have gone : ∀ {σ6 : L2.St} {H6 : Hp} {Q : Shared → Prop}, Inv (X.suite ea ((ea, oe4) :: (X.pn ++ pins))) [] σ6 H6 s6 → (∀ s7, Inv X pins (σ6.set i none) H6 s7 → Q s7) → wpAny (model X.prog X.w) X.A (do bindName X.env n .none; unbindBehindTheSuite X.env n pos') (fun _ s7 => Q s7) X.xe s6 := fun S6 hq => gone_ok (S6.unsuite ok) hN hi hn hq
      cases f with
      | next => exact let ⟨_, _, S6, q6⟩ := z; gone S6 fun s7 J7 => ⟨_, _, J7, q6⟩
      | brk => exact let ⟨_, _, S6, q6⟩ := z; gone S6 fun s7 J7 => ⟨_, _, J7, q6⟩
      | cont => exact let ⟨_, _, S6, q6⟩ := z; gone S6 fun s7 J7 => ⟨_, _, J7, q6⟩
      | ret u => exact let ⟨_, _, _, S6, r6, q6⟩ := z; gone S6 fun s7 J7 => ⟨_, _, _, J7, r6, q6⟩
theorem ps_try_hds (own : X.stack = X.env :: X.outer) (fr : X.env.frame = some X.env.locals) (tk : L2N.Takes X Wout)
    (hb : ∀ (W : WX) (pn : List (Addr × Obj)) (xe : Value → Shared → Prop), L2N.Takes (X.tr pn xe) W → PassesOwn (model X.prog X.w) X.A X.env xe → PSs (X.tr pn xe) body (tb W)) (hh : Hds X (h₀ :: hds) l) :
    PS X (.Try body (h₀ :: hds) [] [] pos) (fun D σ H => tb (wHds X.K Wout D l) D σ H) := ⟨fun pins s σ H D I h => by
  have frames : X.A.frames = some (X.env :: X.outer) := by rw [I.ok.frames, own]
  let caught : Value → Shared → Prop := fun e s₁ => wpAny (model X.prog X.w) X.A (noteFrame e X.env) (fun _ s₂ => wpAny (model X.prog X.w) X.A (setFlight e none) (fun _ s₃ => wpAny (model X.prog X.w) X.A (handleBy e X.env (h₀ :: hds)) (SP X pins D) X.xe s₃) X.xe s₂) X.xe s₁
  have inner := hb (wHds X.K Wout D l) (X.pn ++ pins) caught (fun u s' ⟨ea, B, sI, pins', σ', H', cls, d, e, J, nb, up, sky, na, os, ag, w⟩ => by
    subst e
    have sky' : Sky B (X.env :: X.outer) ea (L2N.Zn cls d) X.env.locals s'.heap := by rw [← own]; exact sky
    exact L2N.Sky.land L2N.Zn.steady frames fr sky' fun h3 fl3 up3 => hds_run own fr tk I.ok (J.ofTry I.ok) nb (up.trans up3) fl3 na os ag hh w) PassesOwn.looking
  refine wpAny_Try_except (wpAny_mono (inner.run [] s σ H D (I.toTry _) h) (fun f s1 z => ?_) (fun e s1 he => he))
  cases f with
  | next => exact let ⟨_, _, J, q⟩ := z; wpAny_execs_nil ⟨_, _, J.ofTry I.ok, q⟩
  | brk => exact let ⟨_, _, J, q⟩ := z; ⟨_, _, J.ofTry I.ok, q⟩
  | cont => exact let ⟨_, _, J, q⟩ := z; ⟨_, _, J.ofTry I.ok, q⟩
  | ret u => exact let ⟨_, _, _, J, r, q⟩ := z; ⟨_, _, _, J.ofTry I.ok, r, q⟩⟩
end
end OwnProj
namespace K06
open PySem PySem.Spec PyProof.Rows L2
def topS (i : Nat) : Stmt := PySem.Challenge.pw_greatestnext_k06_endless_states.main.body.getD i (.Pass ⟨0, 0, 0, 0⟩)
abbrev s_InvalidFraction_init : Stmt := inClass (topS 4) 0
abbrev s_InvalidProject_init : Stmt := inClass (topS 5) 0
abbrev s_Endless_init : Stmt := inClass (topS 6) 0
abbrev s_is_whole : Stmt := topS 8
abbrev s_is_within : Stmt := topS 9
abbrev s_is_row_of : Stmt := topS 10
abbrev s_Frac_init : Stmt := inClass (topS 15) 0
abbrev s_as_frac : Stmt := topS 16
abbrev s_is_amount : Stmt := topS 23
abbrev s_is_cost : Stmt := topS 24
abbrev s_are_goals : Stmt := topS 25
abbrev s_clean_row : Stmt := topS 26
abbrev s_first_endless : Stmt := topS 27
abbrev s_is_step_into : Stmt := topS 28
abbrev s_clean_rows : Stmt := topS 29
abbrev s_Project_init : Stmt := inClass (topS 30) 0
abbrev s_Project_len : Stmt := inClass (topS 30) 1
abbrev s_Project_kind : Stmt := inClass (topS 30) 3
abbrev s_law_box : Stmt := topS 32
abbrev s_law_draw : Stmt := topS 33
abbrev s_law_shape : Stmt := topS 34
abbrev s_law_goals : Stmt := topS 35
abbrev s_law_rows : Stmt := topS 36
abbrev s_law_first : Stmt := topS 37
abbrev s_law_handed : Stmt := topS 38
abbrev s_law_right : Stmt := topS 39
abbrev s_law_all : Stmt := topS 40
abbrev s_law : Stmt := topS 41
structure Ad where
  C_Frac : Addr
  C_Project : Addr
  C_InvalidFraction : Addr
  C_InvalidProject : Addr
  C_Endless : Addr
  C_NextError : Addr
  a_InvalidFraction_init : Addr
  a_InvalidProject_init : Addr
  a_Endless_init : Addr
  a_is_whole : Addr
  a_is_within : Addr
  a_is_row_of : Addr
  a_Frac_init : Addr
  a_as_frac : Addr
  a_is_amount : Addr
  a_is_cost : Addr
  a_are_goals : Addr
  a_clean_row : Addr
  a_first_endless : Addr
  a_is_step_into : Addr
  a_clean_rows : Addr
  a_Project_init : Addr
  a_Project_len : Addr
  a_Project_kind : Addr
  a_law_box : Addr
  a_law_draw : Addr
  a_law_shape : Addr
  a_law_goals : Addr
  a_law_rows : Addr
  a_law_first : Addr
  a_law_handed : Addr
  a_law_right : Addr
  a_law_all : Addr
  a_law : Addr
  d_InvalidFraction_init : FuncData
  d_InvalidProject_init : FuncData
  d_Endless_init : FuncData
  d_is_whole : FuncData
  d_is_within : FuncData
  d_is_row_of : FuncData
  d_Frac_init : FuncData
  d_as_frac : FuncData
  d_is_amount : FuncData
  d_is_cost : FuncData
  d_are_goals : FuncData
  d_clean_row : FuncData
  d_first_endless : FuncData
  d_is_step_into : FuncData
  d_clean_rows : FuncData
  d_Project_init : FuncData
  d_Project_len : FuncData
  d_Project_kind : FuncData
  d_law_box : FuncData
  d_law_draw : FuncData
  d_law_shape : FuncData
  d_law_goals : FuncData
  d_law_rows : FuncData
  d_law_first : FuncData
  d_law_handed : FuncData
  d_law_right : FuncData
  d_law_all : FuncData
  d_law : FuncData
structure Txt (K : PySem.W.Frag) (mg : Str → Option Value) (a : Ad) : Prop where
  mg_Frac : mg "Frac" = some (.ref a.C_Frac)
  mg_Project : mg "Project" = some (.ref a.C_Project)
  mg_InvalidFraction : mg "InvalidFraction" = some (.ref a.C_InvalidFraction)
  mg_InvalidProject : mg "InvalidProject" = some (.ref a.C_InvalidProject)
  mg_Endless : mg "Endless" = some (.ref a.C_Endless)
  mg_NextError : mg "NextError" = some (.ref a.C_NextError)
  cl_Frac : Cls K a.C_Frac
  na_Frac_num : NoAttr K a.C_Frac "num"
  na_Frac_den : NoAttr K a.C_Frac "den"
  cg_Frac : PySem.W.findIn K (.ref a.C_Frac) "__class__" = some (some (.builtin "object.__class__"))
  mr_Frac : PySem.W.mroIn K a.C_Frac (.type "object") = some true
  cl_Project : Cls K a.C_Project
  na_Project_rows : NoAttr K a.C_Project "rows"
  cg_Project : PySem.W.findIn K (.ref a.C_Project) "__class__" = some (some (.builtin "object.__class__"))
  mr_Project : PySem.W.mroIn K a.C_Project (.type "object") = some true
  cget : PySem.W.specialIn K (.builtin "object.__class__") "__get__" = some (some (.builtin "getset_descriptor.__get__"))
  ctk : PySem.W.takesIn K (.builtin "object.__class__") = some true
  fn_InvalidFraction_init : Fun K "__init__" "InvalidFraction.__init__" s_InvalidFraction_init a.a_InvalidFraction_init a.d_InvalidFraction_init
  b_InvalidFraction_init : Binds K a.d_InvalidFraction_init ["self", "value"] []
  fn_InvalidProject_init : Fun K "__init__" "InvalidProject.__init__" s_InvalidProject_init a.a_InvalidProject_init a.d_InvalidProject_init
  b_InvalidProject_init : Binds K a.d_InvalidProject_init ["self", "state"] []
  fn_Endless_init : Fun K "__init__" "Endless.__init__" s_Endless_init a.a_Endless_init a.d_Endless_init
  b_Endless_init : Binds K a.d_Endless_init ["self", "state"] []
  mg_is_whole : mg "is_whole" = some (.ref a.a_is_whole)
  fn_is_whole : Fun K "is_whole" "is_whole" s_is_whole a.a_is_whole a.d_is_whole
  b_is_whole : Binds K a.d_is_whole ["value"] []
  mg_is_within : mg "is_within" = some (.ref a.a_is_within)
  fn_is_within : Fun K "is_within" "is_within" s_is_within a.a_is_within a.d_is_within
  b_is_within : Binds K a.d_is_within ["value", "least", "most"] []
  mg_is_row_of : mg "is_row_of" = some (.ref a.a_is_row_of)
  fn_is_row_of : Fun K "is_row_of" "is_row_of" s_is_row_of a.a_is_row_of a.d_is_row_of
  b_is_row_of : Binds K a.d_is_row_of ["value", "least", "most"] []
  fn_Frac_init : FunD K "__init__" "Frac.__init__" (defArgs s_Frac_init) (defBody s_Frac_init) (defScope s_Frac_init) [.int 1] [] a.a_Frac_init a.d_Frac_init
  mt_Frac_init : Meth K a.C_Frac "__init__" a.a_Frac_init
  mg_as_frac : mg "as_frac" = some (.ref a.a_as_frac)
  fn_as_frac : Fun K "as_frac" "as_frac" s_as_frac a.a_as_frac a.d_as_frac
  b_as_frac : Binds K a.d_as_frac ["value"] []
  mg_is_amount : mg "is_amount" = some (.ref a.a_is_amount)
  fn_is_amount : Fun K "is_amount" "is_amount" s_is_amount a.a_is_amount a.d_is_amount
  b_is_amount : Binds K a.d_is_amount ["value"] []
  mg_is_cost : mg "is_cost" = some (.ref a.a_is_cost)
  fn_is_cost : Fun K "is_cost" "is_cost" s_is_cost a.a_is_cost a.d_is_cost
  b_is_cost : Binds K a.d_is_cost ["value"] []
  mg_are_goals : mg "are_goals" = some (.ref a.a_are_goals)
  fn_are_goals : Fun K "are_goals" "are_goals" s_are_goals a.a_are_goals a.d_are_goals
  b_are_goals : Binds K a.d_are_goals ["goals", "states"] []
  mg_clean_row : mg "clean_row" = some (.ref a.a_clean_row)
  fn_clean_row : Fun K "clean_row" "clean_row" s_clean_row a.a_clean_row a.d_clean_row
  b_clean_row : Binds K a.d_clean_row ["row", "states"] []
  mg_first_endless : mg "first_endless" = some (.ref a.a_first_endless)
  fn_first_endless : Fun K "first_endless" "first_endless" s_first_endless a.a_first_endless a.d_first_endless
  b_first_endless : Binds K a.d_first_endless ["rows"] []
  mg_is_step_into : mg "is_step_into" = some (.ref a.a_is_step_into)
  fn_is_step_into : Fun K "is_step_into" "is_step_into" s_is_step_into a.a_is_step_into a.d_is_step_into
  b_is_step_into : Binds K a.d_is_step_into ["row", "marks"] []
  mg_clean_rows : mg "clean_rows" = some (.ref a.a_clean_rows)
  fn_clean_rows : Fun K "clean_rows" "clean_rows" s_clean_rows a.a_clean_rows a.d_clean_rows
  b_clean_rows : Binds K a.d_clean_rows ["rows"] []
  fn_Project_init : Fun K "__init__" "Project.__init__" s_Project_init a.a_Project_init a.d_Project_init
  b_Project_init : Binds K a.d_Project_init ["self", "rows"] []
  mt_Project_init : Meth K a.C_Project "__init__" a.a_Project_init
  fn_Project_len : Fun K "__len__" "Project.__len__" s_Project_len a.a_Project_len a.d_Project_len
  b_Project_len : Binds K a.d_Project_len ["self"] []
  mt_Project_len : Meth K a.C_Project "__len__" a.a_Project_len
  fn_Project_kind : Fun K "kind" "Project.kind" s_Project_kind a.a_Project_kind a.d_Project_kind
  b_Project_kind : Binds K a.d_Project_kind ["self", "state"] []
  mt_Project_kind : Meth K a.C_Project "kind" a.a_Project_kind
  mg_law_box : mg "_law_box" = some (.ref a.a_law_box)
  fn_law_box : Fun K "_law_box" "_law_box" s_law_box a.a_law_box a.d_law_box
  b_law_box : Binds K a.d_law_box ["script"] []
  mg_law_draw : mg "_law_draw" = some (.ref a.a_law_draw)
  fn_law_draw : Fun K "_law_draw" "_law_draw" s_law_draw a.a_law_draw a.d_law_draw
  b_law_draw : Binds K a.d_law_draw ["box", "limit"] []
  mg_law_shape : mg "_law_shape" = some (.ref a.a_law_shape)
  fn_law_shape : Fun K "_law_shape" "_law_shape" s_law_shape a.a_law_shape a.d_law_shape
  b_law_shape : Binds K a.d_law_shape ["box", "parts"] []
  mg_law_goals : mg "_law_goals" = some (.ref a.a_law_goals)
  fn_law_goals : Fun K "_law_goals" "_law_goals" s_law_goals a.a_law_goals a.d_law_goals
  b_law_goals : Binds K a.d_law_goals ["box", "many", "state", "way"] []
  mg_law_rows : mg "_law_rows" = some (.ref a.a_law_rows)
  fn_law_rows : Fun K "_law_rows" "_law_rows" s_law_rows a.a_law_rows a.d_law_rows
  b_law_rows : Binds K a.d_law_rows ["box", "many"] []
  mg_law_first : mg "_law_first" = some (.ref a.a_law_first)
  fn_law_first : Fun K "_law_first" "_law_first" s_law_first a.a_law_first a.d_law_first
  b_law_first : Binds K a.d_law_first ["rows"] []
  mg_law_handed : mg "_law_handed" = some (.ref a.a_law_handed)
  fn_law_handed : Fun K "_law_handed" "_law_handed" s_law_handed a.a_law_handed a.d_law_handed
  b_law_handed : Binds K a.d_law_handed ["box", "rows"] []
  mg_law_right : mg "_law_right" = some (.ref a.a_law_right)
  fn_law_right : Fun K "_law_right" "_law_right" s_law_right a.a_law_right a.d_law_right
  b_law_right : Binds K a.d_law_right ["box", "rows"] []
  mg_law_all : mg "_law_all" = some (.ref a.a_law_all)
  fn_law_all : Fun K "_law_all" "_law_all" s_law_all a.a_law_all a.d_law_all
  b_law_all : Binds K a.d_law_all ["script"] []
  mg_law : mg "law" = some (.ref a.a_law)
  fn_law : Fun K "law" "law" s_law a.a_law a.d_law
  b_law : Binds K a.d_law ["script"] []
  mk_Frac : Mk K a.C_Frac a.a_Frac_init
  mk_Project : Mk K a.C_Project a.a_Project_init
  ex_InvalidFraction : OexC K a.C_InvalidFraction
  xf_InvalidFraction : XfC K a.C_InvalidFraction
  xm_InvalidFraction : PySem.W.exmOne K (.ref a.C_InvalidFraction) (.ref a.C_InvalidFraction) = some true
  na_InvalidFraction_value : PySem.W.findIn K (.ref a.C_InvalidFraction) "value" = some none
  xi_InvalidFraction : PySem.W.findIn K (.ref a.C_InvalidFraction) "__init__" = some (some (.ref a.a_InvalidFraction_init))
  ti_InvalidFraction : PySem.W.typeIn K (.ref a.a_InvalidFraction_init) = some (.type "function")
  ex_InvalidProject : OexC K a.C_InvalidProject
  xf_InvalidProject : XfC K a.C_InvalidProject
  xm_InvalidProject : PySem.W.exmOne K (.ref a.C_InvalidProject) (.ref a.C_InvalidProject) = some true
  na_InvalidProject_state : PySem.W.findIn K (.ref a.C_InvalidProject) "state" = some none
  xi_InvalidProject : PySem.W.findIn K (.ref a.C_InvalidProject) "__init__" = some (some (.ref a.a_InvalidProject_init))
  ti_InvalidProject : PySem.W.typeIn K (.ref a.a_InvalidProject_init) = some (.type "function")
  ex_Endless : OexC K a.C_Endless
  xf_Endless : XfC K a.C_Endless
  xm_Endless : PySem.W.exmOne K (.ref a.C_Endless) (.ref a.C_Endless) = some true
  na_Endless_state : PySem.W.findIn K (.ref a.C_Endless) "state" = some none
  xi_Endless : PySem.W.findIn K (.ref a.C_Endless) "__init__" = some (some (.ref a.a_Endless_init))
  ti_Endless : PySem.W.typeIn K (.ref a.a_Endless_init) = some (.type "function")
  xm_Endless_InvalidProject : PySem.W.exmOne K (.ref a.C_Endless) (.ref a.C_InvalidProject) = some false
  no_isinstance : mg "isinstance" = none
  no_int : mg "int" = none
  no_bool : mg "bool" = none
  no_range : mg "range" = none
  no_len : mg "len" = none
  no_abs : mg "abs" = none
  no_max : mg "max" = none
  no_min : mg "min" = none
  no_str : mg "str" = none
  no_list : mg "list" = none
  no_tuple : mg "tuple" = none
  no_enumerate : mg "enumerate" = none
  no_any : mg "any" = none
  mg_MOST_STATES : ∃ t, mg "MOST_STATES" = some (.int 8 t)
  mg_MOST_GOALS : ∃ t, mg "MOST_GOALS" = some (.int 8 t)
  mg_MOST_WEIGHT : ∃ t, mg "MOST_WEIGHT" = some (.int 999 t)
  mg_MOST_NUM : ∃ t, mg "MOST_NUM" = some (.int 9999 t)
  mg_MOST_DEN : ∃ t, mg "MOST_DEN" = some (.int 99 t)
  mg_gcd : mg "gcd" = some (.builtin "math.gcd")
  kit_F_F : PySem.W.kitOne K (.ref a.C_Frac) (.ref a.C_Frac) = some true
  kit_F_int : PySem.W.kitOne K (.ref a.C_Frac) (.type "int") = some false
  kit_none_F : PySem.W.kitOne K (.type "NoneType") (.ref a.C_Frac) = some false
  kit_bool_F : PySem.W.kitOne K (.type "bool") (.ref a.C_Frac) = some false
  kit_int_F : PySem.W.kitOne K (.type "int") (.ref a.C_Frac) = some false
  kit_str_F : PySem.W.kitOne K (.type "str") (.ref a.C_Frac) = some false
  kit_list_F : PySem.W.kitOne K (.type "list") (.ref a.C_Frac) = some false
  kit_tuple_F : PySem.W.kitOne K (.type "tuple") (.ref a.C_Frac) = some false
end K06
namespace K06
open PySem PySem.Spec PyProof.Rows L2 Own OwnExN
/-! ### a fraction's fields -/
theorem nd_ne : ¬ (("num" : Str) = "den") := by decide +kernel
def ff (n d : Int) : List (Str × V) := putF "den" (.int d) (putF "num" (.int n) [])
theorem ff_num (n d : Int) : (ff n d).lookup ("num" : Str) = some (.int n) := by
  unfold ff
  rw [lookup_putF, if_neg nd_ne, lookup_putF, if_pos rfl]
theorem ff_den (n d : Int) : (ff n d).lookup ("den" : Str) = some (.int d) := by
  unfold ff
  rw [lookup_putF, if_pos rfl]
theorem ff_no (n d : Int) {m : Str} (h1 : ¬ m = "den") (h2 : ¬ m = "num") : (ff n d).lookup m = none := by
  unfold ff
  rw [lookup_putF, if_neg h1, lookup_putF, if_neg h2]
  all_goals rfl
/-! ### values by their kinds -/
inductive Tg | non | bl | int | str | lst | tup | fr
  deriving DecidableEq
inductive Ty (C : Addr) (H : Hp) : V → Tg → Prop
  | non : Ty C H .non .non
  | bl (b : Bool) : Ty C H (.bl b) .bl
  | int (i : Int) : Ty C H (.int i) .int
  | str (x : Str) : Ty C H (.str x) .str
  | lst {p : Addr} {xs : List V} (h : H p = some (.lst xs)) : Ty C H (.ref p) .lst
  | tup {p : Addr} {xs : List V} (h : H p = some (.tup xs)) : Ty C H (.ref p) .tup
  | fr {p dx : Addr} {fs : List (Str × V)} (h : H p = some (.ins C dx fs)) : Ty C H (.ref p) .fr
theorem Ty.same {C : Addr} {H H' : Hp} {v : V} {g : Tg} (e : Same H H') (t : Ty C H v g) : Ty C H' v g := by
  cases t with
  | non => exact .non
  | bl b => exact .bl b
  | int i => exact .int i
  | str x => exact .str x
  | lst h => exact .lst (e _ _ h)
  | tup h => exact .tup (e _ _ h)
  | fr h => exact .fr (e _ _ h)
def tyv (C : Addr) : Tg → Value
  | .non => .type "NoneType"
  | .bl => .type "bool"
  | .int => .type "int"
  | .str => .type "str"
  | .lst => .type "list"
  | .tup => .type "tuple"
  | .fr => .ref C
def isB (g : Tg) : Tg → Bool
  | .int => decide (g = .int) || decide (g = .bl)
  | c => decide (g = c)
def clv (C : Addr) : Tg → V
  | .non => .ty "NoneType"
  | .bl => .ty "bool"
  | .int => .ty "int"
  | .str => .ty "str"
  | .lst => .ty "list"
  | .tup => .ty "tuple"
  | .fr => .ref C
section
variable {P : Program} {w : World} {K : PySem.W.Frag} {mg : Str → Option Value} {base : Heap} {a : Ad}
theorem Ty.x (T : Txt K mg a) {H : Hp} {v : V} {g : Tg} (t : Ty a.C_Frac H v g) : TyX K H v (tyv a.C_Frac g) := by
  cases t with
  | non => exact .base .non
  | bl b => exact .base (.bl b)
  | int i => exact .base (.int i)
  | str x => exact .base (.str x)
  | lst h => exact .base (.lst h)
  | tup h => exact .base (.tup h)
  | fr h => exact .base (.ins h T.cl_Frac T.cg_Frac T.cget T.ctk T.mr_Frac)
/-- isinstance with one of the classes -/
def rIs (C : Addr) (c : Tg) : List V → Hp → VK → Prop := fun xs H Q => ∃ v g, xs = [v, clv C c] ∧ Ty C H v g ∧ Q (.bl (isB g c)) H
theorem kit_frac (T : Txt K mg a) (g : Tg) : PySem.W.kitOne K (tyv a.C_Frac g) (.ref a.C_Frac) = some (isB g .fr) := by
  cases g with
  | non => exact T.kit_none_F
  | bl => exact T.kit_bool_F
  | int => exact T.kit_int_F
  | str => exact T.kit_str_F
  | lst => exact T.kit_list_F
  | tup => exact T.kit_tuple_F
  | fr => exact T.kit_F_F
theorem call_isF {X : Cx} (T : Txt X.K mg a) : CallR X (.builtin "isinstance") (rIs a.C_Frac .fr) := Rd.CallR.imp call_isi fun xs H Q ⟨v, g, e, t, q⟩ => ⟨v, .ref a.C_Frac, tyv a.C_Frac g, .ref a.C_Frac, isB g .fr, e, .own _, t.x T, kit_frac T g, q⟩
theorem kit_by (T : Txt K mg a) (g c : Tg) (h1 : c ≠ .fr) (h2 : c ≠ .non) (h3 : g = .fr → c = .int) : ∃ n : String, clv a.C_Frac c = .ty n ∧ PySem.W.kitOne K (tyv a.C_Frac g) (.type n) = some (isB g c) := by
  cases c with
  | fr => exact absurd rfl h1
  | non => exact absurd rfl h2
  | int =>
    refine ⟨"int", rfl, ?_⟩
    cases g with
    | fr => exact T.kit_F_int
    | non => exact kit_ty (by decide +kernel)
    | bl => exact kit_ty (by decide +kernel)
    | int => exact kit_ty (by decide +kernel)
    | str => exact kit_ty (by decide +kernel)
    | lst => exact kit_ty (by decide +kernel)
    | tup => exact kit_ty (by decide +kernel)
  | bl =>
    refine ⟨"bool", rfl, ?_⟩
    cases g with
    | fr => exact absurd (h3 rfl) (by decide)
    | non => exact kit_ty (by decide +kernel)
    | bl => exact kit_ty (by decide +kernel)
    | int => exact kit_ty (by decide +kernel)
    | str => exact kit_ty (by decide +kernel)
    | lst => exact kit_ty (by decide +kernel)
    | tup => exact kit_ty (by decide +kernel)
  | str =>
    refine ⟨"str", rfl, ?_⟩
    cases g with
    | fr => exact absurd (h3 rfl) (by decide)
    | non => exact kit_ty (by decide +kernel)
    | bl => exact kit_ty (by decide +kernel)
    | int => exact kit_ty (by decide +kernel)
    | str => exact kit_ty (by decide +kernel)
    | lst => exact kit_ty (by decide +kernel)
    | tup => exact kit_ty (by decide +kernel)
  | lst =>
    refine ⟨"list", rfl, ?_⟩
    cases g with
    | fr => exact absurd (h3 rfl) (by decide)
    | non => exact kit_ty (by decide +kernel)
    | bl => exact kit_ty (by decide +kernel)
    | int => exact kit_ty (by decide +kernel)
    | str => exact kit_ty (by decide +kernel)
    | lst => exact kit_ty (by decide +kernel)
    | tup => exact kit_ty (by decide +kernel)
  | tup =>
    refine ⟨"tuple", rfl, ?_⟩
    cases g with
    | fr => exact absurd (h3 rfl) (by decide)
    | non => exact kit_ty (by decide +kernel)
    | bl => exact kit_ty (by decide +kernel)
    | int => exact kit_ty (by decide +kernel)
    | str => exact kit_ty (by decide +kernel)
    | lst => exact kit_ty (by decide +kernel)
    | tup => exact kit_ty (by decide +kernel)
/-- .. with a built-in one (of an own instance only int is asked) -/
def rIsB (C : Addr) (c : Tg) : List V → Hp → VK → Prop := fun xs H Q => ∃ v g, xs = [v, clv C c] ∧ Ty C H v g ∧ (g = .fr → c = .int) ∧ Q (.bl (isB g c)) H
theorem call_isB {X : Cx} (T : Txt X.K mg a) (c : Tg) (h1 : c ≠ .fr := by decide) (h2 : c ≠ .non := by decide) : CallR X (.builtin "isinstance") (rIsB a.C_Frac c) := Rd.CallR.imp call_isi fun xs H Q ⟨v, g, e, t, h3, q⟩ => by
  obtain ⟨n, e1, k⟩ := kit_by T g c h1 h2 h3
  exact ⟨v, .ty n, tyv a.C_Frac g, .type n, isB g c, by rw [e, e1], .ty n, t.x T, k, q⟩
end
end K06
namespace K06
open PySem PySem.Spec PyProof.Rows L2 Own OwnExN
theorem ff_eq (n d : Int) : ff n d = [(("num" : Str), V.int n), (("den" : Str), V.int d)] := by
  show (if ("num" : Str) = "den" then [(("num" : Str), V.int d)] else (("num" : Str), V.int n) :: putF "den" (V.int d) []) = [(("num" : Str), V.int n), (("den" : Str), V.int d)]
  rw [if_neg nd_ne]
  all_goals rfl
theorem ff_inj {n d n' d' : Int} : (ff n d = ff n' d') = (n = n' ∧ d = d') := by
  rw [ff_eq, ff_eq]
  simp
theorem PE.imp {X : Cx} {e : Expr} {t t' : TE} (h : PE X e t) (i : ∀ σ H Q, t' σ H Q → t σ H Q) : PE X e t' := ⟨fun pins s σ H Q I q => h.run pins s σ H Q I (i σ H Q q)⟩
def tNum (C : Addr) (te : TE) : TE := fun σ H Q => te σ H fun x H1 => ∃ p dx n d, x = .ref p ∧ H1 p = some (.ins C dx (ff n d)) ∧ Q (.int n) H1
def tDen (C : Addr) (te : TE) : TE := fun σ H Q => te σ H fun x H1 => ∃ p dx n d, x = .ref p ∧ H1 p = some (.ins C dx (ff n d)) ∧ Q (.int d) H1
local macro_rules | `(tactic| walk_at "rd") => `(tactic| simp only [tSeq, tAsg, tOp, tUn, tVar, gName, gSub, rIxL, rIxT, rSetL, tC, rI0, rI, rU, rEq, rNe, tCons, tNil, tCB, tLst, tTup, tIfS, tAnd, tOr, tNot, tAndV, tOrV, tNotV, tTest, tB, tIf, tRet, tDrop, tNext, tBreak, tCont, tCall, tMake, tMkO, sFld, tOst, tNum, tDen, tNever, tBits, rIs, rIsB, clv, isB, rGcd,
  Rd.tFor_rng1, Rd.tFor_rng2, Rd.tFor_list, Rd.tFor_tup, Rd.tLc_list, Rd.tLc_tup, Rd.tLc_rng1, Rd.LcTurn, tYes, wipe, Rd.rLenL, Rd.rLenT, Rd.rIntI, Rd.rIxH, Rd.at0, Rd.at1, Rd.at2, Rd.at3, Rd.ixN40, Rd.ixN41, Rd.ixN42, Rd.ixN43, Rd.scal_ii, cxOf,
  List.length_cons, List.length_nil, List.length_map, List.map_cons, List.map_nil, upd_same, decide_eq_true_eq, decide_true, decide_false, if_true, if_false, Bool.false_eq_true, Bool.not_true, Bool.not_false, HO.lst.injEq, HO.ins.injEq, ff_inj, List.set_cons_zero, List.set_cons_succ, List.getElem?_cons_zero, List.getElem?_cons_succ, List.append_nil, List.nil_append, List.cons_append, Option.some.injEq, V.ref.injEq, V.int.injEq, V.bl.injEq, List.cons.injEq, exists_eq_left', exists_and_left, exists_eq_left, true_and, and_true, and_self, and_assoc, implies_true, reduceCtorEq, Nat.reduceAdd])

section
variable {P : Program} {w : World} {K : PySem.W.Frag} {mg : Str → Option Value} {base : Heap} {a : Ad}
/-- the sign of the divisor on the greatest common divisor -/
def gS (n d : Int) : Int := if d < 0 then -((Nat.gcd n.natAbs d.natAbs : Nat) : Int) else ((Nat.gcd n.natAbs d.natAbs : Nat) : Int)
def LN (n d : Int) : Int := n.fdiv (gS n d)
def LD (n d : Int) : Int := d.fdiv (gS n d)
abbrev Big (x : Int) : Prop := x.natAbs < 2 ^ 4000
theorem gcd_pos {n d : Int} (h : d ≠ 0) : 0 < Nat.gcd n.natAbs d.natAbs := Nat.gcd_pos_of_pos_right _ (by omega)
theorem gcd_le {n d : Int} (h : d ≠ 0) : Nat.gcd n.natAbs d.natAbs ≤ d.natAbs := Nat.le_of_dvd (by omega) (Nat.gcd_dvd_right _ _)
theorem gS_div {n d : Int} (h : d ≠ 0) (hb : Big d) : CDivM n (gS n d) := by
  have p := gcd_pos (n := n) h
  have l := gcd_le (n := n) h
  have e : (gS n d).natAbs = Nat.gcd n.natAbs d.natAbs := by
    unfold gS
    split
    · rw [Int.natAbs_neg, Int.natAbs_natCast]
    · rw [Int.natAbs_natCast]
  refine ⟨by omega, ?_⟩
  rw [e]
  have z : Nat.log2 (Nat.gcd n.natAbs d.natAbs) < 4000 := PySem.Flt.log2_lt_of (by decide) (Nat.lt_of_le_of_lt l hb)
  omega
/-! ### InvalidFraction.__init__ -/
def spIv (C : Addr) : Sp := fun vs H Q _ => ∃ (p : Addr) (v : V), vs = [.ref p, v] ∧ H p = some (exo p C none) ∧ ∀ d, H d = none → d ≠ p → Q .non (upd (upd H d (exd d [("value", v)])) p (exo p C (some d)))
theorem sc_InvalidFraction_init : FnScope ["self", "value"] ["self", "value"] (defScope s_InvalidFraction_init) := ⟨rfl, rfl, rfl, by decide +kernel, rfl, by decide +kernel, by decide +kernel⟩
theorem ok_InvalidFraction_init (T : Txt K mg a) : FnOk P w K mg base CX0 1 a.a_InvalidFraction_init a.d_InvalidFraction_init ["self", "value"] (spIv a.C_InvalidFraction) := by
  refine T.fn_InvalidFraction_init.ok sc_InvalidFraction_init (fun vs H Q E h => ?_) (fun cdv A outer s H vs Q E hr h => ?_)
  · obtain ⟨p, v, rfl, _⟩ := h
    rfl
  · obtain ⟨p, v, rfl, hp, k⟩ := h
    refine ⟨_, (pss_one (ps_ost (pv 0) (pv 1))), ?_⟩
    refine ⟨_, rfl, _, rfl, p, _, rfl, T.ex_InvalidFraction, T.na_InvalidFraction_value, .inl ⟨hp, fun dx hd hne => k dx hd hne⟩⟩
/-- a made error: its dict d is new -/
theorem iv_made {C x : Addr} {v : V} {H1 : Hp} {E : XK} (hx : H1 x = none) (k : ∀ d H', H1 d = none → H' d = some (.xd [("value", v)]) → Same H1 H' → E (.ref C) (some d) H') :
    spIv C [.ref x, v] (upd H1 x (exo x C none)) (fun v' H2 => v' = .non ∧ ∃ d, H2 x = some (exo x C (some d)) ∧ ∃ fs, H2 d = some (exd d fs) ∧ H1 d = none ∧ E (.ref C) (some d) (upd (del H2 x) d (.xd fs))) (fun _ _ _ => False) := by
  refine ⟨x, v, rfl, upd_same, fun d hd hne => ?_⟩
  rw [upd_ne hne] at hd
  refine ⟨rfl, d, upd_same, _, (upd_ne hne).trans upd_same, hd, k d _ hd upd_same fun b o e => ?_⟩
  have nd : b ≠ d := ne_of_none e hd
  have nx : b ≠ x := ne_of_none e hx
  rw [upd_ne nd, del_ne nx, upd_ne nx, upd_ne nd, upd_ne nx]
  exact e
/-! ### is_whole -/
def spWhole (C : Addr) : Sp := fun vs H Q _ => ∃ (v : V) (g : Tg), vs = [v] ∧ Ty C H v g ∧ Q (.bl (decide (g = .int))) H
theorem sc_is_whole : FnScope ["value"] ["value"] (defScope s_is_whole) := ⟨rfl, rfl, rfl, by decide +kernel, rfl, by decide +kernel, by decide +kernel⟩
theorem ok_is_whole (T : Txt K mg a) : FnOk P w K mg base CX0 1 a.a_is_whole a.d_is_whole ["value"] (spWhole a.C_Frac) := by
  refine T.fn_is_whole.ok sc_is_whole (fun vs H Q E h => ?_) (fun cdv A outer s H vs Q E hr h => ?_)
  · obtain ⟨v, g, rfl, _⟩ := h
    rfl
  · obtain ⟨v, g, rfl, t, k⟩ := h
    refine ⟨_, (pss_one (ps_ret (pe_and (pe_callB (call_isB T .int) (by rfl) T.no_isinstance (by decide +kernel) (pa_cons (pv 0) (pa_cons (pe_bltn (v := .ty "int") (u := .type "int") (by rfl) T.no_int (by decide +kernel) rfl) pa_nil))) (pe_one (pe_not (pe_callB (call_isB T .bl) (by rfl) T.no_isinstance (by decide +kernel) (pa_cons (pv 0) (pa_cons (pe_bltn (v := .ty "bool") (u := .type "bool") (by rfl) T.no_bool (by decide +kernel) rfl) pa_nil)))))))), ?_⟩
    show (_ : TS) _ [some v] H
    walk_at "rd"
    refine ⟨g, t, ?_⟩
    cases g with
    | int => exact iteT ⟨.int, t, by decide, k⟩
    | bl => exact iteT ⟨.bl, t, by decide, k⟩
    | non => exact iteF k
    | str => exact iteF k
    | lst => exact iteF k
    | tup => exact iteF k
    | fr => exact iteF k
/-! ### Frac.__init__ -/
def good (v1 v2 : V) : Prop := ∃ n d : Int, v1 = .int n ∧ v2 = .int d ∧ d ≠ 0
def spFrac (C IV : Addr) : Sp := fun vs H Q E => ∃ (p dx : Addr) (v1 v2 : V) (g1 g2 : Tg), vs = [.ref p, v1, v2] ∧ H p = some (.ins C dx []) ∧ Ty C H v1 g1 ∧ Ty C H v2 g2 ∧
  (∀ n d : Int, v1 = .int n → v2 = .int d → d ≠ 0 → Big n ∧ Big d ∧ ∀ H', H' p = some (.ins C dx (ff (LN n d) (LD n d))) → (∀ b, b ≠ p → H' b = H b) → Q .non H') ∧
  (¬ good v1 v2 → ∀ (t d : Addr) (H' : Hp), H t = none → H d = none → H' t = some (.tup [v1, v2]) → H' d = some (.xd [("value", .ref t)]) → Same H H' → E (.ref IV) (some d) H')
theorem sc_Frac_init : FnScope ["self", "num", "den", "common"] ["self", "num", "den"] (defScope s_Frac_init) := ⟨rfl, rfl, rfl, by decide +kernel, rfl, by decide +kernel, by decide +kernel⟩
theorem ok_Frac_init (T : Txt K mg a) : FnOk P w K mg base (L2N.CX P w) 3 a.a_Frac_init a.d_Frac_init ["self", "num", "den"] (spFrac a.C_Frac a.C_InvalidFraction) := by
  refine T.fn_Frac_init.ok sc_Frac_init (fun vs H Q E h => ?_) (fun cdv A outer s H vs Q E hr h => ?_)
  · obtain ⟨p, dx, v1, v2, g1, g2, rfl, _⟩ := h
    rfl
  · obtain ⟨p, dx, v1, v2, g1, g2, rfl, hp, t1, t2, kok, kbad⟩ := h
    refine ⟨_, (pss_cons (ps_if (PW.pt (pw_or (pt_not (pt_val (pe_call (ok_is_whole T) (hr.mono (by decide)) (by rfl) T.mg_is_whole T.fn_is_whole.kp T.b_is_whole .nil pass0 (pa_cons (pv 1) pa_nil)))) (pw_or (pt_not (pt_val (pe_call (ok_is_whole T) (hr.mono (by decide)) (by rfl) T.mg_is_whole T.fn_is_whole.kp T.b_is_whole .nil pass0 (pa_cons (pv 2) pa_nil)))) (pw_or1 (pt_cmpR op_eq (pv 2) pe_int (nomark _)))))) (pss_one (L2N.ps_raise rfl (L2N.takes_of rfl rfl rfl rfl) (pmk_oexN T.ex_InvalidFraction T.xi_InvalidFraction T.ti_InvalidFraction (ok_InvalidFraction_init T) (hr.mono (by decide)) T.b_InvalidFraction_init pass0 (by rfl) T.mg_InvalidFraction (pa_cons (pe_tup (pa_cons (pv 1) (pa_cons (pv 2) pa_nil))) pa_nil)))) pss_nil)
      (pss_cons (ps_set (i := 3) sc_Frac_init.nd rfl (Or.inl rfl) (pe_callBfun cr_gcd (by rfl) T.mg_gcd (pa_cons (pv 1) (pa_cons (pv 2) pa_nil))))
      (pss_cons (ps_if (pt_cmpR op_lt (pv 2) pe_int (nomark _)) (pss_one (ps_set (i := 3) sc_Frac_init.nd rfl (Or.inl rfl) (pe_un un_neg (pv 3)))) pss_nil)
      (pss_cons (ps_fld (pv 0) (pe_op op_fdivWN (pv 1) (pv 3)) rfl)
      (pss_one (ps_fld (pv 0) (pe_op op_fdivWN (pv 2) (pv 3)) rfl)))))), ?_⟩
    show (_ : TS) _ [some (V.ref p), some v1, some v2, none] H
    walk_at "rd"
    have bad : ¬ good v1 v2 → ∀ (t x : Addr), H t = none → upd H t (.tup [v1, v2]) x = none → ∀ (d : Addr) (H' : Hp), upd H t (.tup [v1, v2]) d = none → H' d = some (.xd [("value", .ref t)]) → Same (upd H t (.tup [v1, v2])) H' → E (.ref a.C_InvalidFraction) (some d) H' := fun hg t x ht _ d H' hd e s =>
      kbad hg t d H' ht (by rw [upd_ne (fun z => by rw [z, upd_same] at hd; cases hd)] at hd; exact hd) (s _ _ upd_same) e fun b o z => s b o (by rw [upd_ne (ne_of_none z ht)]; exact z)
    refine ⟨v1, g1, rfl, t1, _, rfl, ite2 (fun h => ⟨by decide, fun t ht => ⟨by decide, fun x hx => iv_made hx (bad (fun ⟨n, d, e1, _⟩ => ?_) t x ht hx)⟩⟩) fun h => ?_⟩
    · subst e1
      cases t1
      simp at h
    refine ⟨v2, g2, rfl, t2, _, rfl, ite2 (fun h => ⟨by decide, fun t ht => ⟨by decide, fun x hx => iv_made hx (bad (fun ⟨n, d, _, e2, _⟩ => ?_) t x ht hx)⟩⟩) fun h' => ?_⟩
    · subst e2
      cases t2
      simp at h
    have i1 : g1 = .int := by simpa using h
    have i2 : g2 = .int := by simpa using h'
    subst i1 i2
    cases t1 with
    | int n =>
    cases t2 with
    | int d =>
    walk_at "rd"
    refine ite2 (fun h0 => ⟨by decide, fun t ht => ⟨by decide, fun x hx => iv_made hx (bad (fun ⟨n', d', _, e2, e3⟩ => ?_) t x ht hx)⟩⟩) fun h0 => ?_
    · cases e2
      exact e3 h0
    obtain ⟨bn, bd, k⟩ := kok n d rfl rfl h0
    have gd := gS_div (n := n) h0 bd
    refine ite2 (fun hn => ?_) (fun hn => ?_)
    · have e : gS n d = -((Nat.gcd n.natAbs d.natAbs : Nat) : Int) := if_pos hn
      rw [e] at gd
      refine ⟨gd, _, _, _, hp, T.cl_Frac, T.na_Frac_num, (by show 0 < 1000; decide), gd, T.cl_Frac, T.na_Frac_den, (by show 1 < 1000; decide), k _ ?_ fun b hb => by rw [upd_ne hb, upd_ne hb]⟩
      rw [upd_same]
      unfold ff LN LD
      rw [e]
    · have e : gS n d = ((Nat.gcd n.natAbs d.natAbs : Nat) : Int) := if_neg hn
      rw [e] at gd
      refine ⟨gd, _, _, _, hp, T.cl_Frac, T.na_Frac_num, (by show 0 < 1000; decide), gd, T.cl_Frac, T.na_Frac_den, (by show 1 < 1000; decide), k _ ?_ fun b hb => by rw [upd_ne hb, upd_ne hb]⟩
      rw [upd_same]
      unfold ff LN LD
      rw [e]
/-! ### how Frac is called -/
theorem b3 (T : Txt K mg a) : Binds K a.d_Frac_init ["self", "num", "den"] [] := by
  obtain ⟨ds, v, b⟩ := T.fn_Frac_init.binds1 (ps := ["self", "num", "den"]) 3 1 (by decide) rfl fun Tt kV doc pm an cdv ct us its hu hi => match us, its, hu, hi with | [_, _, _], [_], _, _ => ⟨_, rfl, by first | rfl | with_unfolding_all rfl | kernel_rfl⟩
  cases v
  exact b
theorem b2 (T : Txt K mg a) : ∃ ds, Vals [.int 1] ds ∧ Binds K a.d_Frac_init ["self", "num", "den"] ds :=
  T.fn_Frac_init.binds1 2 0 (by decide) rfl fun Tt kV doc pm an cdv ct us its hu hi => match us, its, hu, hi with | [_, _], [_], _, _ => ⟨_, rfl, by first | rfl | with_unfolding_all rfl | kernel_rfl⟩
def g2 {α : Type} (us _ ws : List α) : List α := us ++ ws.reverse
theorem kb2 (T : Txt K mg a) : ∃ its : List Value, KBn K a.d_Frac_init ["self", "num", "den"] 1 ["den", "num"] (fun us ws => g2 us its ws) (fun vs zs => g2 vs [.int 1] zs) :=
  T.fn_Frac_init.kbindsD 1 ["den", "num"] g2 (by decide) (fun r1 _ r2 => r1.append r2.reverse) fun Tt kV doc pm an cdv ct us its ws hu hi hw => match us, its, ws, hu, hi, hw with | [_], [_], [_, _], _, _, _ => ⟨_, rfl, by first | rfl | with_unfolding_all rfl | kernel_rfl⟩
def g1 {α : Type} (us ds ws : List α) : List α := us ++ (ws ++ ds)
theorem kb1 (T : Txt K mg a) : ∃ its : List Value, KBn K a.d_Frac_init ["self", "num", "den"] 1 ["num"] (fun us ws => g1 us its ws) (fun vs zs => g1 vs [.int 1] zs) :=
  T.fn_Frac_init.kbindsD 1 ["num"] g1 (by decide) (fun r1 r2 r3 => r1.append (r3.append r2)) fun Tt kV doc pm an cdv ct us its ws hu hi hw => match us, its, ws, hu, hi, hw with | [_], [_], [_], _, _, _ => ⟨_, rfl, by first | rfl | with_unfolding_all rfl | kernel_rfl⟩
end
end K06
namespace K06
open PySem PySem.Spec PyProof.Rows L2 Own OwnHot OwnExN OwnSeq
section
variable {P : Program} {w : World} {K : PySem.W.Frag} {mg : Str → Option Value} {base : Heap} {a : Ad}
theorem pe_num {X : Cx} {e : Expr} {te : TE} {pos : Pos} (T : Txt X.K mg a) (he : PE X e te) (hb : attributeBase e "num" X.env (eval e X.env) = eval e X.env := by rfl) : PE X (.Attribute e "num" pos) (tNum a.C_Frac te) :=
  ⟨fun pins s σ H Q I h => attr_of hb (thn (he.run pins s σ H _ I h) fun u s1 ⟨x, H1, I1, rx, p, dx, n, d, ex, ea, q⟩ => by
    subst ex
    cases rx
    exact getattr_ok I1 ea T.cl_Frac T.na_Frac_num (ff_num n d) fun u' s2 I2 ru => ⟨_, H1, I2, ru, q⟩)⟩
theorem pe_den {X : Cx} {e : Expr} {te : TE} {pos : Pos} (T : Txt X.K mg a) (he : PE X e te) (hb : attributeBase e "den" X.env (eval e X.env) = eval e X.env := by rfl) : PE X (.Attribute e "den" pos) (tDen a.C_Frac te) :=
  ⟨fun pins s σ H Q I h => attr_of hb (thn (he.run pins s σ H _ I h) fun u s1 ⟨x, H1, I1, rx, p, dx, n, d, ex, ea, q⟩ => by
    subst ex
    cases rx
    exact getattr_ok I1 ea T.cl_Frac T.na_Frac_den (ff_den n d) fun u' s2 I2 ru => ⟨_, H1, I2, ru, q⟩)⟩
/-- Frac(n, d) of right integers -/
theorem frac_new {C IV : Addr} {n d : Int} {H : Hp} {R : Addr → Hp → Prop} {E : XK} (hd : d ≠ 0) (bn : Big n) (bd : Big d) (k : ∀ x dr H', H x = none → H' x = some (.ins C dr (ff (LN n d) (LD n d))) → Same H H' → R x H') :
    ∀ x dx, H x = none → H dx = none → dx ≠ x → spFrac C IV [.ref x, .int n, .int d] (upd (upd H dx (.own x)) x (.ins C dx [])) (fun v H2 => v = .non ∧ R x H2) E := fun x dx hx hdx hne =>
  ⟨x, dx, _, _, .int, .int, rfl, upd_same, .int n, .int d, fun n' d' e1 e2 _ => by
    cases e1
    cases e2
    refine ⟨bn, bd, fun H' h1 h2 => ⟨rfl, k x dx H' hx h1 fun b o e => ?_⟩⟩
    rw [h2 b (ne_of_none e hx), upd_ne (ne_of_none e hx), upd_ne (ne_of_none e hdx)]
    exact e, fun hb => absurd ⟨n, d, rfl, rfl, hd⟩ hb⟩
theorem same_upd {H : Hp} {p : Addr} {o : HO} (h : H p = none) : Same H (upd H p o) := fun b x e => by
  rw [upd_ne (ne_of_none e h)]
  exact e
theorem kit_any (T : Txt K mg a) (g : Tg) (h : g ≠ .fr) : PySem.W.kitAny K (tyv a.C_Frac g) [.type "list", .type "tuple"] = some (decide (g = .lst) || decide (g = .tup)) := by
  obtain ⟨n1, e1, k1⟩ := kit_by T g .lst (by decide) (by decide) (fun z => absurd z h)
  obtain ⟨n2, e2, k2⟩ := kit_by T g .tup (by decide) (by decide) (fun z => absurd z h)
  have e1 : V.ty "list" = V.ty n1 := e1
  have e2 : V.ty "tuple" = V.ty n2 := e2
  cases e1
  cases e2
  have k1 : PySem.W.kitOne K (tyv a.C_Frac g) (.type "list") = some (decide (g = .lst)) := k1
  have k2 : PySem.W.kitOne K (tyv a.C_Frac g) (.type "tuple") = some (decide (g = .tup)) := k2
  unfold PySem.W.kitAny
  rw [k1]
  cases decide (g = .lst) with
  | true => rfl
  | false =>
    unfold PySem.W.kitAny
    show (match PySem.W.kitOne K (tyv a.C_Frac g) (.type "tuple") with | some true => some true | some false => PySem.W.kitAny K (tyv a.C_Frac g) [] | none => none) = _
    rw [k2]
    cases decide (g = .tup) <;> rfl
def rIsS (C : Addr) : List V → Hp → VK → Prop := fun xs H Q => ∃ v g tp, xs = [v, .ref tp] ∧ H tp = some (.tup [.ty "list", .ty "tuple"]) ∧ Ty C H v g ∧ g ≠ .fr ∧ Q (.bl (decide (g = .lst) || decide (g = .tup))) H
theorem call_isS {X : Cx} (T : Txt X.K mg a) : CallR X (.builtin "isinstance") (rIsS a.C_Frac) := Rd.CallR.imp call_isiT fun xs H Q ⟨v, g, tp, e, ht, t, hg, q⟩ =>
  ⟨v, tp, _, _, _, _, e, ht, .cons (.ty "list") (.cons (.ty "tuple") .nil), t.x T, kit_any T g hg, q⟩
end
end K06
namespace K06
open PySem PySem.Spec PyProof.Rows L2 Own OwnHot OwnExN OwnSeq
local macro_rules | `(tactic| walk_at "rd") => `(tactic| simp only [tSeq, tAsg, tOp, tUn, tVar, gName, gSub, rIxL, rIxT, rSetL, tC, rI0, rI, rU, rEq, rNe, tCons, tNil, tCB, tLst, tTup, tIfS, tAnd, tOr, tNot, tAndV, tOrV, tNotV, tTest, tB, tIf, tRet, tDrop, tNext, tBreak, tCont, tCall, tCallS, rIsS, tChain, tMake, tMkO, sFld, tOst, tNum, tDen, tNever, tBits, rIs, rIsB, clv, isB, rGcd,
  Rd.tFor_rng1, Rd.tFor_rng2, Rd.tFor_list, Rd.tFor_tup, Rd.tLc_list, Rd.tLc_tup, Rd.tLc_rng1, Rd.LcTurn, tYes, wipe, Rd.rLenL, Rd.rLenT, Rd.rIntI, Rd.rIxH, Rd.at0, Rd.at1, Rd.at2, Rd.at3, Rd.ixN40, Rd.ixN41, Rd.ixN42, Rd.ixN43, Rd.scal_ii, cxOf,
  List.length_cons, List.length_nil, List.length_map, List.map_cons, List.map_nil, upd_same, decide_eq_true_eq, decide_true, decide_false, if_true, if_false, Bool.false_eq_true, Bool.not_true, Bool.not_false, HO.lst.injEq, HO.ins.injEq, ff_inj, List.set_cons_zero, List.set_cons_succ, List.getElem?_cons_zero, List.getElem?_cons_succ, List.append_nil, List.nil_append, List.cons_append, Option.some.injEq, V.ref.injEq, V.int.injEq, V.bl.injEq, List.cons.injEq, exists_eq_left', exists_and_left, exists_eq_left, true_and, and_true, and_self, and_assoc, implies_true, reduceCtorEq, Nat.reduceAdd])

theorem gS_one (n : Int) : gS n 1 = 1 := by
  unfold gS
  rw [if_neg (by decide)]
  show ((Nat.gcd n.natAbs 1 : Nat) : Int) = 1
  rw [Nat.gcd_one_right]
  rfl
theorem LN_one (n : Int) : LN n 1 = n := by
  unfold LN
  rw [gS_one, Int.fdiv_one]
theorem LD_one (n : Int) : LD n 1 = 1 := by
  unfold LD
  rw [gS_one, Int.fdiv_one]
section
variable {P : Program} {w : World} {K : PySem.W.Frag} {mg : Str → Option Value} {base : Heap} {a : Ad}
/-! ### is_within -/
def spWithin (C : Addr) : Sp := fun vs H Q _ => ∃ (v : V) (g : Tg) (lo hi : Int), vs = [v, .int lo, .int hi] ∧ Ty C H v g ∧ (∀ z, v = .int z → Q (.bl (decide (lo ≤ z) && decide (z ≤ hi))) H) ∧ (g ≠ .int → Q (.bl false) H)
theorem sc_is_within : FnScope ["value", "least", "most"] ["value", "least", "most"] (defScope s_is_within) := ⟨rfl, rfl, rfl, by decide +kernel, rfl, by decide +kernel, by decide +kernel⟩
theorem ok_is_within (T : Txt K mg a) : FnOk P w K mg base CX0 2 a.a_is_within a.d_is_within ["value", "least", "most"] (spWithin a.C_Frac) := by
  refine T.fn_is_within.ok sc_is_within (fun vs H Q E h => ?_) (fun cdv A outer s H vs Q E hr h => ?_)
  · obtain ⟨v, g, lo, hi, rfl, _⟩ := h
    rfl
  · obtain ⟨v, g, lo, hi, rfl, t, k1, k2⟩ := h
    refine ⟨_, (pss_one (ps_ret (pe_and (pe_call (ok_is_whole T) (hr.mono (by decide)) (by rfl) T.mg_is_whole T.fn_is_whole.kp T.b_is_whole .nil pass0 (pa_cons (pv 0) pa_nil)) (pe_one (pe_chain op_le op_le (pv 1) (pv 0) (pv 2)))))), ?_⟩
    show (_ : TS) _ [some v, some (V.int lo), some (V.int hi)] H
    walk_at "rd"
    refine ⟨v, g, rfl, t, _, rfl, ?_⟩
    cases t with
    | int z =>
      rw [if_pos (by decide)]
      have k := k1 z rfl
      exact ⟨z, rfl, ite2 (fun h => ⟨z, rfl, by rw [decide_eq_true h, Bool.true_and] at k; exact k⟩) (fun h => by rw [decide_eq_false h, Bool.false_and] at k; exact k)⟩
    | _ =>
      rw [if_neg (by decide)]
      exact k2 (by decide)
/-! ### is_row_of -/
def spRowOf (C : Addr) : Sp := fun vs H Q _ => ∃ (v : V) (g : Tg) (lo hi : Int), vs = [v, .int lo, .int hi] ∧ Ty C H v g ∧ g ≠ .fr ∧
  (∀ p l xs, v = .ref p → H p = some (sq l xs) → ∀ H', Same H H' → Q (.bl (decide (lo ≤ xs.length) && decide ((xs.length : Int) ≤ hi))) H') ∧ (g ≠ .lst ∧ g ≠ .tup → ∀ H', Same H H' → Q (.bl false) H')
theorem sc_is_row_of : FnScope ["value", "least", "most"] ["value", "least", "most"] (defScope s_is_row_of) := ⟨rfl, rfl, rfl, by decide +kernel, rfl, by decide +kernel, by decide +kernel⟩
theorem ok_is_row_of (T : Txt K mg a) : FnOk P w K mg base CX0 1 a.a_is_row_of a.d_is_row_of ["value", "least", "most"] (spRowOf a.C_Frac) := by
  refine T.fn_is_row_of.ok sc_is_row_of (fun vs H Q E h => ?_) (fun cdv A outer s H vs Q E hr h => ?_)
  · obtain ⟨v, g, lo, hi, rfl, _⟩ := h
    rfl
  · obtain ⟨v, g, lo, hi, rfl, t, hg, k1, k2⟩ := h
    refine ⟨_, (pss_one (ps_ret (pe_and (pe_callB (call_isS T) (by rfl) T.no_isinstance (by decide +kernel) (pa_cons (pv 0) (pa_cons (pe_tup (pa_cons (pe_bltn (v := .ty "list") (u := .type "list") (by rfl) T.no_list (by decide +kernel) rfl) (pa_cons (pe_bltn (v := .ty "tuple") (u := .type "tuple") (by rfl) T.no_tuple (by decide +kernel) rfl) pa_nil))) pa_nil))) (pe_one (pe_chain op_le op_le (pv 1) (pe_callB call_len_seq (by rfl) T.no_len PySem.boot_len (pa_cons (pv 0) pa_nil)) (pv 2)))))), ?_⟩
    show (_ : TS) _ [some v, some (V.int lo), some (V.int hi)] H
    walk_at "rd"
    refine ⟨by decide, fun p hp => ⟨g, t.same (same_upd hp), hg, ?_⟩⟩
    have fin : ∀ q l xs, v = .ref q → H q = some (sq l xs) → (if lo ≤ ↑xs.length then Q (V.bl (decide ((xs.length : Int) ≤ hi))) (upd H p (HO.tup [V.ty "list", V.ty "tuple"])) else Q (V.bl false) (upd H p (HO.tup [V.ty "list", V.ty "tuple"]))) := fun q l xs e h => by
      have k := k1 q l xs e h (upd H p (HO.tup [V.ty "list", V.ty "tuple"])) (same_upd hp)
      exact ite2 (fun z => by rw [decide_eq_true z, Bool.true_and] at k; exact k) (fun z => by rw [decide_eq_false z, Bool.false_and] at k; exact k)
    cases t with
    | @lst q xs h =>
      rw [if_pos (by decide)]
      exact ⟨q, rfl, xs, .inl (SqL.of ((same_upd hp) _ _ h)), fin q true xs rfl h⟩
    | @tup q xs h =>
      rw [if_pos (by decide)]
      exact ⟨q, rfl, xs, .inr (SqT.of ((same_upd hp) _ _ h)), fin q false xs rfl h⟩
    | fr h => exact absurd rfl hg
    | _ =>
      rw [if_neg (by decide)]
      exact k2 (by decide) _ (same_upd hp)
/-! ### as_frac -/
/-- an amount: an integer or a fraction n / d -/
def AmV (C : Addr) (H : Hp) (v : V) (n d : Int) : Prop := (v = .int n ∧ d = 1) ∨ ∃ p dx, v = .ref p ∧ H p = some (.ins C dx (ff n d))
def spAs (C : Addr) : Sp := fun vs H Q _ => ∃ (v : V) (n d : Int), vs = [v] ∧ AmV C H v n d ∧ Big n ∧ ∀ q dq H', Same H H' → H' q = some (.ins C dq (ff n d)) → Q (.ref q) H'
theorem sc_as_frac : FnScope ["value"] ["value"] (defScope s_as_frac) := ⟨rfl, rfl, rfl, by decide +kernel, rfl, by decide +kernel, by decide +kernel⟩
theorem ok_as_frac (T : Txt K mg a) : FnOk P w K mg base CX0 5 a.a_as_frac a.d_as_frac ["value"] (spAs a.C_Frac) := by
  refine T.fn_as_frac.ok sc_as_frac (fun vs H Q E h => ?_) (fun cdv A outer s H vs Q E hr h => ?_)
  · obtain ⟨v, n, d, rfl, _⟩ := h
    rfl
  · obtain ⟨v, n, d, rfl, am, bn, k⟩ := h
    obtain ⟨b2d, b2v, b2b⟩ := b2 T
    refine ⟨_, (pss_cons (ps_if (pt_val (pe_callB (call_isF T) (by rfl) T.no_isinstance (by decide +kernel) (pa_cons (pv 0) (pa_cons (pe_glob (v := .ref a.C_Frac) rfl T.mg_Frac rfl) pa_nil)))) (pss_one (ps_ret (pv 0))) pss_nil)
      (pss_cons (ps_if (pt_not (pt_val (pe_call (ok_is_whole T) (hr.mono (by decide)) (by rfl) T.mg_is_whole T.fn_is_whole.kp T.b_is_whole .nil pass0 (pa_cons (pv 0) pa_nil)))) (pss_one ps_never) pss_nil)
      (pss_one (ps_ret (pe_make T.mk_Frac (ok_Frac_init T) (hr.mono (by decide)) (by rfl) T.mg_Frac b2b b2v passN (pa_cons (pv 0) pa_nil)))))), ?_⟩
    show (_ : TS) _ [some v] H
    walk_at "rd"
    rcases am with ⟨rfl, rfl⟩ | ⟨p, dx, rfl, hp⟩
    · refine ⟨.int, .int n, ?_⟩
      rw [if_neg (by decide)]
      refine ⟨_, .int, rfl, .int n, _, rfl, ?_⟩
      rw [if_neg (by decide)]
      refine frac_new (by decide) bn (by decide +kernel) fun x dr H' _ h e => k x dr H' e ?_
      rw [LN_one, LD_one] at h
      exact h
    · refine ⟨.fr, .fr hp, ?_⟩
      rw [if_pos rfl]
      exact k p dx H (fun _ _ z => z) hp
end
end K06
namespace K06
open PySem PySem.Spec PyProof.Rows L2 Own OwnHot OwnExN OwnSeq
local macro_rules | `(tactic| walk_at "rd") => `(tactic| simp only [tSeq, tAsg, tOp, tUn, tVar, gName, gSub, rIxL, rIxT, rSetL, tC, rI0, rI, rU, rEq, rNe, tCons, tNil, tCB, tLst, tTup, tIfS, tAnd, tOr, tNot, tAndV, tOrV, tNotV, tTest, tB, tIf, tRet, tDrop, tNext, tBreak, tCont, tCall, tCallS, rIsS, tChain, gSeq, gRest, gCons, gNil, tFor_seq, tFor_enumS, tLc_seq, tLc_enumS, tMake, tMkO, sFld, tOst, tNum, tDen, tNever, tBits, rIs, rIsB, clv, isB, rGcd,
  Rd.tFor_rng1, Rd.tFor_rng2, Rd.tFor_list, Rd.tFor_tup, Rd.tLc_list, Rd.tLc_tup, Rd.tLc_rng1, Rd.LcTurn, tYes, wipe, Rd.rLenL, Rd.rLenT, Rd.rIntI, Rd.rIxH, HO.tup.injEq, Rd.at0, Rd.at1, Rd.at2, Rd.at3, Rd.ixN40, Rd.ixN41, Rd.ixN42, Rd.ixN43, Rd.scal_ii, cxOf,
  List.length_cons, List.length_nil, List.length_map, List.map_cons, List.map_nil, upd_same, decide_eq_true_eq, decide_true, decide_false, if_true, if_false, Bool.false_eq_true, Bool.not_true, Bool.not_false, HO.lst.injEq, HO.ins.injEq, ff_inj, List.set_cons_zero, List.set_cons_succ, List.getElem?_cons_zero, List.getElem?_cons_succ, List.append_nil, List.nil_append, List.cons_append, Option.some.injEq, V.ref.injEq, V.int.injEq, V.bl.injEq, List.cons.injEq, exists_eq_left', exists_and_left, exists_eq_left, true_and, and_true, and_self, and_assoc, implies_true, reduceCtorEq, Nat.reduceAdd])

section
variable {P : Program} {w : World} {K : PySem.W.Frag} {mg : Str → Option Value} {base : Heap} {a : Ad}
theorem AmV.same {C : Addr} {H H' : Hp} {v : V} {n d : Int} (e : Same H H') (h : AmV C H v n d) : AmV C H' v n d := h.imp (fun z => z) fun ⟨p, dx, x, y⟩ => ⟨p, dx, x, e _ _ y⟩
theorem AmV.ty {C : Addr} {H : Hp} {v : V} {n d : Int} (h : AmV C H v n d) : ∃ g, Ty C H v g ∧ (g = .fr ∨ g = .int) := by
  rcases h with ⟨rfl, _⟩ | ⟨p, dx, rfl, h⟩
  · exact ⟨_, .int _, .inr rfl⟩
  · exact ⟨_, .fr h, .inl rfl⟩
theorem sq_inj {l l' : Bool} {xs xs' : List V} (h : sq l xs = sq l' xs') : l = l' ∧ xs = xs' := by
  cases l <;> cases l' <;> first
    | exact ⟨rfl, HO.lst.inj h⟩
    | exact ⟨rfl, HO.tup.inj h⟩
    | (exfalso; have h : (_ : HO) = _ := h; simp [sq] at h)
theorem ty_sq {C : Addr} {H : Hp} {p : Addr} {l : Bool} {xs : List V} (h : H p = some (sq l xs)) : ∃ g, Ty C H (.ref p) g ∧ g ≠ .fr ∧ ¬ (g ≠ .lst ∧ g ≠ .tup) := by
  cases l with
  | true => exact ⟨.lst, .lst h, by decide, by decide⟩
  | false => exact ⟨.tup, .tup h, by decide, by decide⟩
theorem row_ok {C : Addr} {H : Hp} {p : Addr} {l : Bool} {xs : List V} {lo hi : Int} {Q : VK} {E : XK} (h : H p = some (sq l xs)) (k : ∀ H', Same H H' → Q (.bl (decide (lo ≤ xs.length) && decide ((xs.length : Int) ≤ hi))) H') : spRowOf C [.ref p, .int lo, .int hi] H Q E := by
  obtain ⟨g, t, g1, g2⟩ := ty_sq (C := C) h
  refine ⟨_, g, lo, hi, rfl, t, g1, fun p' l' xs' e h' H' s => ?_, fun z => absurd z g2⟩
  cases e
  rw [h] at h'
  obtain ⟨_, rfl⟩ := sq_inj (Option.some.inj h')
  exact k H' s
theorem within_ok {C : Addr} {H : Hp} {z lo hi : Int} {Q : VK} {E : XK} (h1 : lo ≤ z) (h2 : z ≤ hi) (k : Q (.bl true) H) : spWithin C [.int z, .int lo, .int hi] H Q E :=
  ⟨.int z, .int, lo, hi, rfl, .int z, fun z' e => by cases e; rw [decide_eq_true h1, decide_eq_true h2]; exact k, fun h => absurd rfl h⟩
/-! ### is_amount, is_cost -/
def spAmt (C : Addr) (lo : Int) : Sp := fun vs H Q _ => ∃ (v : V) (n d : Int), vs = [v] ∧ AmV C H v n d ∧ lo ≤ n ∧ n ≤ 9999 ∧ d ≤ 99 ∧ ∀ H', Same H H' → Q (.bl true) H'
theorem sc_is_amount : FnScope ["value", "frac"] ["value"] (defScope s_is_amount) := ⟨rfl, rfl, rfl, by decide +kernel, rfl, by decide +kernel, by decide +kernel⟩
theorem ok_is_amount (T : Txt K mg a) : FnOk P w K mg base CX0 6 a.a_is_amount a.d_is_amount ["value"] (spAmt a.C_Frac (-9999)) := by
  refine T.fn_is_amount.ok sc_is_amount (fun vs H Q E h => ?_) (fun cdv A outer s H vs Q E hr h => ?_)
  · obtain ⟨v, n, d, rfl, _⟩ := h
    rfl
  · obtain ⟨v, n, d, rfl, am, q1, q2, q3, k⟩ := h
    obtain ⟨t1, mg_MOST_NUM⟩ := T.mg_MOST_NUM
    obtain ⟨t2, mg_MOST_DEN⟩ := T.mg_MOST_DEN
    refine ⟨_, (pss_cons (ps_if (PW.pt (pw_and (pt_not (pt_val (pe_callB (call_isF T) (by rfl) T.no_isinstance (by decide +kernel) (pa_cons (pv 0) (pa_cons (pe_glob (v := .ref a.C_Frac) rfl T.mg_Frac rfl) pa_nil))))) (pw_and1 (pt_not (pt_val (pe_call (ok_is_whole T) (hr.mono (by decide)) (by rfl) T.mg_is_whole T.fn_is_whole.kp T.b_is_whole .nil pass0 (pa_cons (pv 0) pa_nil))))))) (pss_one (ps_ret pe_bl)) pss_nil)
      (pss_cons (ps_set (i := 1) sc_is_amount.nd rfl (Or.inl rfl) (pe_call (ok_as_frac T) (hr.mono (by decide)) (by rfl) T.mg_as_frac T.fn_as_frac.kp T.b_as_frac .nil pass0 (pa_cons (pv 0) pa_nil)))
      (pss_one (ps_ret (pe_and (pe_chain op_le op_le (pe_un un_neg (pe_glob (v := .int 9999) rfl mg_MOST_NUM ⟨_, rfl⟩)) (pe_num T (pv 1)) (pe_glob (v := .int 9999) rfl mg_MOST_NUM ⟨_, rfl⟩)) (pe_one (pe_cmpR op_le (pe_den T (pv 1)) (pe_glob (v := .int 99) rfl mg_MOST_DEN ⟨_, rfl⟩) (nomark _)))))))), ?_⟩
    show (_ : TS) _ [some v, none] H
    walk_at "rd"
    obtain ⟨g, t, hg⟩ := am.ty
    have bn : Big n := Nat.lt_of_lt_of_le (show n.natAbs < 2 ^ 14 by omega) (Nat.pow_le_pow_right (by decide) (by decide))
    refine ⟨g, t, ?_⟩
    rcases hg with rfl | rfl
    · rw [if_neg (by decide)]
      refine ⟨v, n, d, rfl, am, bn, fun q dq H' e' hq => ⟨q, rfl, dq, n, d, hq, ?_⟩⟩
      rw [if_pos q1, if_pos q2]
      exact ⟨q, rfl, dq, n, d, hq, by rw [decide_eq_true q3]; exact k _ e'⟩
    · rw [if_pos (by decide)]
      refine ⟨v, .int, rfl, t, _, rfl, ?_⟩
      rw [if_neg (by decide)]
      refine ⟨v, n, d, rfl, am, bn, fun q dq H' e' hq => ⟨q, rfl, dq, n, d, hq, ?_⟩⟩
      rw [if_pos q1, if_pos q2]
      exact ⟨q, rfl, dq, n, d, hq, by rw [decide_eq_true q3]; exact k _ e'⟩
theorem sc_is_cost : FnScope ["value"] ["value"] (defScope s_is_cost) := ⟨rfl, rfl, rfl, by decide +kernel, rfl, by decide +kernel, by decide +kernel⟩
theorem ok_is_cost (T : Txt K mg a) : FnOk P w K mg base CX0 7 a.a_is_cost a.d_is_cost ["value"] (spAmt a.C_Frac 0) := by
  refine T.fn_is_cost.ok sc_is_cost (fun vs H Q E h => ?_) (fun cdv A outer s H vs Q E hr h => ?_)
  · obtain ⟨v, n, d, rfl, _⟩ := h
    rfl
  · obtain ⟨v, n, d, rfl, am, q1, q2, q3, k⟩ := h
    refine ⟨_, (pss_one (ps_ret (pe_and (pe_call (ok_is_amount T) (hr.mono (by decide)) (by rfl) T.mg_is_amount T.fn_is_amount.kp T.b_is_amount .nil pass0 (pa_cons (pv 0) pa_nil)) (pe_one (pe_cmpR op_ge (pe_num T (pe_call (ok_as_frac T) (hr.mono (by decide)) (by rfl) T.mg_as_frac T.fn_as_frac.kp T.b_as_frac .nil pass0 (pa_cons (pv 0) pa_nil))) pe_int (nomark _)))))), ?_⟩
    show (_ : TS) _ [some v] H
    walk_at "rd"
    have bn : Big n := Nat.lt_of_lt_of_le (show n.natAbs < 2 ^ 14 by omega) (Nat.pow_le_pow_right (by decide) (by decide))
    refine ⟨v, n, d, rfl, am, by omega, q2, q3, fun H1 e1 => ⟨true, rfl, ?_⟩⟩
    rw [if_pos rfl]
    exact ⟨v, n, d, rfl, am.same e1, bn, fun q dq H' e' hq => ⟨q, rfl, dq, n, d, hq, by rw [decide_eq_true q1]; exact k _ (e1.trans e')⟩⟩
/-! ### are_goals -/
def PairV (H : Hp) (v : V) (g : Int × Int) : Prop := ∃ q l, v = .ref q ∧ H q = some (sq l [.int g.1, .int g.2])
def PairsV (H : Hp) : List V → List (Int × Int) → Prop
  | [], [] => True
  | v :: vs, g :: gs => PairV H v g ∧ PairsV H vs gs
  | _, _ => False
theorem PairsV.len {H : Hp} : ∀ {xs : List V} {gs : List (Int × Int)}, PairsV H xs gs → xs.length = gs.length
  | [], [], _ => rfl
  | _ :: _, _ :: _, h => congrArg (· + 1) h.2.len
  | [], _ :: _, h => h.elim
  | _ :: _, [], h => h.elim
theorem PairsV.at {H : Hp} : ∀ {xs : List V} {gs : List (Int × Int)} {i : Nat} {x : V}, PairsV H xs gs → xs[i]? = some x → ∃ g, gs[i]? = some g ∧ PairV H x g
  | _ :: _, g :: _, 0, _, h, e => ⟨g, rfl, by cases Option.some.inj e; exact h.1⟩
  | _ :: _, _ :: _, i + 1, _, h, e => PairsV.at (i := i) h.2 e
  | [], [], _, _, _, e => by cases e
  | [], _ :: _, _, _, h, _ => h.elim
  | _ :: _, [], _, _, h, _ => h.elim
/-- goals in order, from a least state on, below states -/
def Rising (states : Int) : Int → List (Int × Int) → Prop
  | _, [] => True
  | least, g :: gs => 1 ≤ g.1 ∧ g.1 ≤ 999 ∧ least ≤ g.2 ∧ g.2 ≤ states - 1 ∧ Rising states (g.2 + 1) gs
def spGoals : Sp := fun vs H Q _ => ∃ (p : Addr) (l : Bool) (xs : List V) (gs : List (Int × Int)) (n : Int), vs = [.ref p, .int n] ∧ H p = some (sq l xs) ∧ PairsV H xs gs ∧ 1 ≤ gs.length ∧ gs.length ≤ 8 ∧ Rising n 0 gs ∧ ∀ H', Same H H' → Q (.bl true) H'
theorem sc_are_goals : FnScope ["goals", "states", "least", "goal", "weight", "state"] ["goals", "states"] (defScope s_are_goals) := ⟨rfl, rfl, rfl, by decide +kernel, rfl, by decide +kernel, by decide +kernel⟩
theorem ok_are_goals (T : Txt K mg a) : FnOk P w K mg base CX0 3 a.a_are_goals a.d_are_goals ["goals", "states"] spGoals := by
  refine T.fn_are_goals.ok sc_are_goals (fun vs H Q E h => ?_) (fun cdv A outer s H vs Q E hr h => ?_)
  · obtain ⟨p, l, xs, gs, n, rfl, _⟩ := h
    rfl
  · obtain ⟨p, l, xs, gs, n, rfl, hp, prs, n1, n8, rise, k⟩ := h
    obtain ⟨t1, mg_MOST_GOALS⟩ := T.mg_MOST_GOALS
    obtain ⟨t2, mg_MOST_WEIGHT⟩ := T.mg_MOST_WEIGHT
    refine ⟨_, (pss_cons (ps_if (pt_not (pt_val (pe_call (ok_is_row_of T) (hr.mono (by decide)) (by rfl) T.mg_is_row_of T.fn_is_row_of.kp T.b_is_row_of .nil pass0 (pa_cons (pv 0) (pa_cons pe_int (pa_cons (pe_glob (v := .int 8) rfl mg_MOST_GOALS ⟨_, rfl⟩) pa_nil)))))) (pss_one (ps_ret pe_bl)) pss_nil)
      (pss_cons (ps_set (i := 2) sc_are_goals.nd rfl (Or.inl rfl) pe_int)
      (pss_cons (ps_for PassesOwn.never rfl (pi_seq (pv 0)) (pg_name (i := 3) sc_are_goals.nd rfl (Or.inl rfl))
        (pss_cons (ps_if (pt_not (pt_val (pe_call (ok_is_row_of T) (hr.mono (by decide)) (by rfl) T.mg_is_row_of T.fn_is_row_of.kp T.b_is_row_of .nil pass0 (pa_cons (pv 3) (pa_cons pe_int (pa_cons pe_int pa_nil)))))) (pss_one (ps_ret pe_bl)) pss_nil)
        (pss_cons (ps_asg (pv 3) (pg_seq (n := 2) rfl (pgs_cons (pg_name (i := 4) sc_are_goals.nd rfl (Or.inl rfl)) (pgs_cons (pg_name (i := 5) sc_are_goals.nd rfl (Or.inl rfl)) pgs_nil))))
        (pss_cons (ps_if (PW.pt (pw_or (pt_not (pt_val (pe_call (ok_is_within T) (hr.mono (by decide)) (by rfl) T.mg_is_within T.fn_is_within.kp T.b_is_within .nil pass0 (pa_cons (pv 4) (pa_cons pe_int (pa_cons (pe_glob (v := .int 999) rfl mg_MOST_WEIGHT ⟨_, rfl⟩) pa_nil)))))) (pw_or1 (pt_not (pt_val (pe_call (ok_is_within T) (hr.mono (by decide)) (by rfl) T.mg_is_within T.fn_is_within.kp T.b_is_within .nil pass0 (pa_cons (pv 5) (pa_cons (pv 2) (pa_cons (pe_op op_sub (pv 1) pe_int) pa_nil))))))))) (pss_one (ps_ret pe_bl)) pss_nil)
        (pss_one (ps_set (i := 2) sc_are_goals.nd rfl (Or.inl rfl) (pe_op op_add (pv 5) pe_int)))))))
      (pss_one (ps_ret pe_bl))))), ?_⟩
    show (_ : TS) _ [some (V.ref p), some (V.int n), none, none, none, none] H
    walk_at "rd"
    have len := prs.len
    refine row_ok hp fun H1 e1 => ⟨_, rfl, ?_⟩
    rw [decide_eq_true (show (1 : Int) ≤ (xs.length : Int) by omega), decide_eq_true (show ((xs.length : Nat) : Int) ≤ 8 by omega), if_neg (by decide)]
    refine ⟨l, xs, e1 _ _ hp, loop_goes goes_seq (fun σ H' => (∃ z o3 o4 o5, σ = [some (V.ref p), some (V.int n), some (V.int z), o3, o4, o5]) ∧ Same H H') (fun i σ H' => ∃ z o3 o4 o5, σ = [some (V.ref p), some (V.int n), some (V.int z), o3, o4, o5] ∧ Same H H' ∧ Rising n z (gs.drop i))
      ⟨0, none, none, none, rfl, e1, rise⟩ (fun i σ H' _ ⟨_, _, _, _, _, e, _⟩ => e _ _ hp) ?_ (fun σ H' ⟨z, o3, o4, o5, a, b, _⟩ => ⟨⟨z, o3, o4, o5, a⟩, b⟩) ?_⟩
    · rintro bk hbk i x σ H2 H2' hi ⟨z, o3, o4, o5, rfl, e2, rs⟩ ⟨rfl, hx⟩
      obtain ⟨g, hg, q, l', rfl, hq⟩ := prs.at hx
      have dr : gs.drop i = g :: gs.drop (i + 1) := by
        rw [List.drop_eq_getElem_cons (List.getElem?_eq_some_iff.mp hg).1, (List.getElem?_eq_some_iff.mp hg).2]
      rw [dr] at rs
      obtain ⟨w1, w2, s1, s2, rs⟩ := rs
      walk_at "rd"
      refine row_ok (e2 _ _ hq) fun H3 e3 => ⟨true, rfl, ?_⟩
      rw [if_neg (by decide)]
      refine ⟨l', _, e3 _ _ (e2 _ _ hq), rfl, _, _, rfl, _, _, rfl, rfl, within_ok w1 w2 ⟨true, rfl, ?_⟩⟩
      rw [if_neg (by decide)]
      refine within_ok s1 s2 ⟨true, rfl, ?_⟩
      rw [if_neg (by decide)]
      exact ⟨_, rfl, e2.trans e3, rs⟩
    · rintro σ H2 ⟨⟨z, o3, o4, o5, rfl⟩, e⟩
      exact k _ e
end
end K06
namespace K06
open PySem PySem.Spec PyProof.Rows L2 Own OwnHot OwnExN OwnSeq
local macro_rules | `(tactic| walk_at "rd") => `(tactic| simp only [tSeq, tAsg, tOp, tUn, tVar, gName, gSub, rIxL, rIxT, rSetL, tC, rI0, rI, rU, rEq, rNe, tCons, tNil, tCB, tLst, tTup, tIfS, tAnd, tOr, tNot, tAndV, tOrV, tNotV, tTest, tB, tIf, tRet, tDrop, tNext, tBreak, tCont, tCall, tCallS, rIsS, tChain, gSeq, gRest, gCons, gNil, tFor_seq, tFor_enumS, tLc_seq, tLc_enumS, tMake, tMkO, sFld, tOst, tNum, tDen, tNever, tBits, rIs, rIsB, clv, isB, rGcd,
  Rd.tFor_rng1, Rd.tFor_rng2, Rd.tFor_list, Rd.tFor_tup, Rd.tLc_list, Rd.tLc_tup, Rd.tLc_rng1, Rd.LcTurn, tYes, wipe, Rd.rLenL, Rd.rLenT, Rd.rIntI, Rd.rIxH, HO.tup.injEq, Rd.at0, Rd.at1, Rd.at2, Rd.at3, Rd.ixN40, Rd.ixN41, Rd.ixN42, Rd.ixN43, Rd.scal_ii, cxOf,
  List.length_cons, List.length_nil, List.length_map, List.map_cons, List.map_nil, upd_same, decide_eq_true_eq, decide_true, decide_false, if_true, if_false, Bool.false_eq_true, Bool.not_true, Bool.not_false, HO.lst.injEq, HO.ins.injEq, ff_inj, List.set_cons_zero, List.set_cons_succ, List.getElem?_cons_zero, List.getElem?_cons_succ, List.append_nil, List.nil_append, List.cons_append, Option.some.injEq, V.ref.injEq, V.int.injEq, V.bl.injEq, List.cons.injEq, exists_eq_left', exists_and_left, exists_eq_left, true_and, and_true, and_self, and_assoc, implies_true, reduceCtorEq, Nat.reduceAdd])

/-! ### rows -/
inductive RowD
  | void
  | fin (n d : Int)
  | step (n d : Int) (gs : List (Int × Int))
/-- a row as it may be handed in -/
def RawV (C : Addr) (H : Hp) (v : V) (r : RowD) : Prop := ∃ p l xs, v = .ref p ∧ H p = some (sq l xs) ∧ match r with
  | .void => xs = [.str "void"]
  | .fin n d => ∃ x, xs = [.str "end", x] ∧ AmV C H x n d
  | .step n d gs => ∃ x q l' ys, xs = [.str "step", x, .ref q] ∧ AmV C H x n d ∧ H q = some (sq l' ys) ∧ PairsV H ys gs
def Right (states : Int) : RowD → Prop
  | .void => True
  | .fin n d => -9999 ≤ n ∧ n ≤ 9999 ∧ d ≤ 99
  | .step n d gs => 0 ≤ n ∧ n ≤ 9999 ∧ d ≤ 99 ∧ 1 ≤ gs.length ∧ gs.length ≤ 8 ∧ Rising states 0 gs
/-- a goal's pair as a new tuple -/
def TupV (H : Hp) : List V → List (Int × Int) → Prop
  | [], [] => True
  | v :: vs, g :: gs => (∃ q, v = .ref q ∧ H q = some (.tup [.int g.1, .int g.2])) ∧ TupV H vs gs
  | _, _ => False
theorem TupV.same {H H' : Hp} (e : Same H H') : ∀ {vs : List V} {gs : List (Int × Int)}, TupV H vs gs → TupV H' vs gs
  | [], [], _ => trivial
  | _ :: _, _ :: _, ⟨⟨q, a, b⟩, r⟩ => ⟨⟨q, a, e _ _ b⟩, TupV.same e r⟩
  | [], _ :: _, h => h.elim
  | _ :: _, [], h => h.elim
theorem TupV.upd {H : Hp} {D : Addr} {xs : List V} {o : HO} (h : H D = some (.lst xs)) : ∀ {vs : List V} {gs : List (Int × Int)}, TupV H vs gs → TupV (upd H D o) vs gs
  | [], [], _ => trivial
  | _ :: _, _ :: _, ⟨⟨q, a, b⟩, r⟩ => ⟨⟨q, a, by rw [upd_ne (fun z => by rw [z, h] at b; cases b)]; exact b⟩, TupV.upd h r⟩
  | [], _ :: _, h => h.elim
  | _ :: _, [], h => h.elim
theorem TupV.app {H : Hp} : ∀ {vs ws : List V} {gs hs : List (Int × Int)}, TupV H vs gs → TupV H ws hs → TupV H (vs ++ ws) (gs ++ hs)
  | [], _, [], _, _, h => h
  | _ :: _, _, _ :: _, _, ⟨a, r⟩, h => ⟨a, TupV.app r h⟩
  | [], _, _ :: _, _, h, _ => h.elim
  | _ :: _, _, [], _, h, _ => h.elim
theorem PairsV.same {H H' : Hp} (e : Same H H') : ∀ {vs : List V} {gs : List (Int × Int)}, PairsV H vs gs → PairsV H' vs gs
  | [], [], _ => trivial
  | _ :: _, _ :: _, ⟨⟨q, l, a, b⟩, r⟩ => ⟨⟨q, l, a, e _ _ b⟩, PairsV.same e r⟩
  | [], _ :: _, h => h.elim
  | _ :: _, [], h => h.elim
/-- a row as it is kept -/
def CleanV (C : Addr) (H : Hp) (v : V) (r : RowD) : Prop := ∃ p, v = .ref p ∧ match r with
  | .void => H p = some (.tup [.str "void"])
  | .fin n d => ∃ q dx, H p = some (.tup [.str "end", .ref q]) ∧ H q = some (.ins C dx (ff n d))
  | .step n d gs => ∃ q dx t ys, H p = some (.tup [.str "step", .ref q, .ref t]) ∧ H q = some (.ins C dx (ff n d)) ∧ H t = some (.tup ys) ∧ TupV H ys gs
section
variable {P : Program} {w : World} {K : PySem.W.Frag} {mg : Str → Option Value} {base : Heap} {a : Ad}
/-! ### clean_row -/
def spClean (C : Addr) : Sp := fun vs H Q _ => ∃ (v : V) (n : Int) (r : RowD), vs = [v, .int n] ∧ RawV C H v r ∧ Right n r ∧ ∀ v' H', Same H H' → CleanV C H' v' r → Q v' H'
theorem sc_clean_row : FnScope ["row", "states", "kind", "parts", "goals", "weight", "state"] ["row", "states"] (defScope s_clean_row) := ⟨rfl, rfl, rfl, by decide +kernel, rfl, by decide +kernel, by decide +kernel⟩
theorem ok_clean_row (T : Txt K mg a) : FnOk P w K mg base CX0 8 a.a_clean_row a.d_clean_row ["row", "states"] (spClean a.C_Frac) := by
  refine T.fn_clean_row.ok sc_clean_row (fun vs H Q E h => ?_) (fun cdv A outer s H vs Q E hr h => ?_)
  · obtain ⟨v, n, r, rfl, _⟩ := h
    rfl
  · obtain ⟨v, n, r, rfl, raw, right, k⟩ := h
    refine ⟨_, (pss_cons (ps_if (pt_not (pt_val (pe_call (ok_is_row_of T) (hr.mono (by decide)) (by rfl) T.mg_is_row_of T.fn_is_row_of.kp T.b_is_row_of .nil pass0 (pa_cons (pv 0) (pa_cons pe_int (pa_cons pe_int pa_nil)))))) (pss_one (ps_ret pe_non)) pss_nil)
      (pss_cons (ps_asg (pv 0) (pg_rest rfl (pgs_cons (pg_name (i := 2) sc_clean_row.nd rfl (Or.inl rfl)) (pgs_cons (pg_name (i := 3) sc_clean_row.nd rfl (Or.inl rfl)) pgs_nil))))
      (pss_cons (ps_if (PW.pt (pw_and (pt_cmpR op_eq (pv 2) pe_str (nomark _)) (pw_and1 (pt_cmpR op_eq (pe_callB call_len_seq (by rfl) T.no_len PySem.boot_len (pa_cons (pv 3) pa_nil)) pe_int (nomark _))))) (pss_one (ps_ret (pe_tup (pa_cons pe_str pa_nil)))) pss_nil)
      (pss_cons (ps_if (PW.pt (pw_and (pt_cmpR op_eq (pv 2) pe_str (nomark _)) (pw_and (pt_cmpR op_eq (pe_callB call_len_seq (by rfl) T.no_len PySem.boot_len (pa_cons (pv 3) pa_nil)) pe_int (nomark _)) (pw_and1 (pt_val (pe_call (ok_is_amount T) (hr.mono (by decide)) (by rfl) T.mg_is_amount T.fn_is_amount.kp T.b_is_amount .nil pass0 (pa_cons (pe_ix Rd.ixH (pv 3) pe_int (fun _ _ => rfl)) pa_nil))))))) (pss_one (ps_ret (pe_tup (pa_cons pe_str (pa_cons (pe_call (ok_as_frac T) (hr.mono (by decide)) (by rfl) T.mg_as_frac T.fn_as_frac.kp T.b_as_frac .nil pass0 (pa_cons (pe_ix Rd.ixH (pv 3) pe_int (fun _ _ => rfl)) pa_nil)) pa_nil))))) pss_nil)
      (pss_cons (ps_if (PW.pt (pw_and (pt_cmpR op_eq (pv 2) pe_str (nomark _)) (pw_and (pt_cmpR op_eq (pe_callB call_len_seq (by rfl) T.no_len PySem.boot_len (pa_cons (pv 3) pa_nil)) pe_int (nomark _)) (pw_and (pt_val (pe_call (ok_is_cost T) (hr.mono (by decide)) (by rfl) T.mg_is_cost T.fn_is_cost.kp T.b_is_cost .nil pass0 (pa_cons (pe_ix Rd.ixH (pv 3) pe_int (fun _ _ => rfl)) pa_nil))) (pw_and1 (pt_val (pe_call (ok_are_goals T) (hr.mono (by decide)) (by rfl) T.mg_are_goals T.fn_are_goals.kp T.b_are_goals .nil pass0 (pa_cons (pe_ix Rd.ixH (pv 3) pe_int (fun _ _ => rfl)) (pa_cons (pv 1) pa_nil))))))))) (pss_cons (ps_setLc (i := 4) (own := [("weight", 5), ("state", 6)]) (by rfl) sc_clean_row.nd rfl rfl (sw_true rfl rfl rfl (by decide +kernel)) (pi_seq (pe_ix Rd.ixH (pv 3) pe_int (fun _ _ => rfl))) (blkOk_by (own := [("weight", 5), ("state", 6)]) (N := ["row", "states", "kind", "parts", "goals", "weight", "state"]) (sc := defScope s_clean_row) (by decide +kernel)) (fun _ _ _ _ _ => pg_seq (n := 2) rfl (pgs_cons (pg_name (i := 5) sc_clean_row.nd rfl (Or.inl rfl)) (pgs_cons (pg_name (i := 6) sc_clean_row.nd rfl (Or.inl rfl)) pgs_nil))) (fun _ _ _ _ _ => pts_nil) (fun _ _ _ _ _ => (pe_tup (pa_cons (pv 5) (pa_cons (pv 6) pa_nil)))))
        (pss_one (ps_ret (pe_tup (pa_cons pe_str (pa_cons (pe_call (ok_as_frac T) (hr.mono (by decide)) (by rfl) T.mg_as_frac T.fn_as_frac.kp T.b_as_frac .nil pass0 (pa_cons (pe_ix Rd.ixH (pv 3) pe_int (fun _ _ => rfl)) pa_nil)) (pa_cons (pe_callTy call_tuple_of (by rfl) T.no_tuple (by decide +kernel) (pa_cons (pv 4) pa_nil)) pa_nil))))))) pss_nil)
      (pss_one (ps_ret pe_non))))))), ?_⟩
    show (_ : TS) _ [some v, some (V.int n), none, none, none, none, none] H
    walk_at "rd"
    obtain ⟨p, l, xs, rfl, hp, hr⟩ := raw
    have ne1 : ¬ V.str "end" = V.str "void" := fun z => absurd (V.str.inj z) (by decide +kernel)
    have ne2 : ¬ V.str "step" = V.str "void" := fun z => absurd (V.str.inj z) (by decide +kernel)
    have ne3 : ¬ V.str "step" = V.str "end" := fun z => absurd (V.str.inj z) (by decide +kernel)
    refine row_ok hp fun H1 e1 => ⟨_, rfl, ?_⟩
    cases r with
    | void =>
      have hr : xs = [.str "void"] := hr
      subst hr
      rw [if_neg (by decide)]
      refine ⟨p, rfl, l, _, _, e1 _ _ hp, by show 0 ≤ 1000; decide, fun D hD => ⟨rfl, ?_⟩⟩
      rw [if_pos rfl]
      refine ⟨[], .inl (SqL.of upd_same), ?_⟩
      rw [if_pos (show (([] : List V).length : Int) = 0 from rfl)]
      exact ⟨by decide, fun q hq => k _ _ ((e1.trans (same_upd hD)).trans (same_upd hq)) ⟨q, rfl, upd_same⟩⟩
    | fin m d =>
      obtain ⟨x, hr, am⟩ := hr
      subst hr
      obtain ⟨q1, q2, q3⟩ := right
      rw [if_neg (by simp)]
      refine ⟨p, rfl, l, _, _, e1 _ _ hp, by show 1 ≤ 1000; decide, fun D hD => ⟨rfl, ?_⟩⟩
      have e2 := e1.trans (same_upd (o := .lst [x]) hD)
      have at2 := upd_same (H := H1) (a := D) (o := .lst [x])
      generalize upd H1 D (.lst [x]) = H2 at e2 at2 ⊢
      rw [if_neg ne1]
      refine ⟨rfl, ?_⟩
      rw [if_pos rfl]
      refine ⟨[x], .inl (SqL.of at2), ?_⟩
      rw [if_pos (show (([x] : List V).length : Int) = 1 from rfl)]
      refine ⟨x, Rd.at0, x, m, d, rfl, am.same e2, q1, q2, q3, fun H3 e3 => ⟨true, rfl, ?_⟩⟩
      rw [if_pos rfl]
      refine ⟨_, e3 _ _ at2, x, Rd.at0, x, m, d, rfl, am.same (e2.trans e3), ?_, fun q dq H4 e4 hq => ⟨by decide, fun t ht => ?_⟩⟩
      · exact Nat.lt_of_lt_of_le (show m.natAbs < 2 ^ 14 by omega) (Nat.pow_le_pow_right (by decide) (by decide))
      · exact k _ _ (((e2.trans e3).trans e4).trans (same_upd ht)) ⟨t, rfl, q, dq, upd_same, (same_upd ht) _ _ hq⟩
    | step m d gs =>
      obtain ⟨x, q, l', ys, hr, am, hq, prs⟩ := hr
      subst hr
      obtain ⟨q1, q2, q3, q4, q5, rise⟩ := right
      rw [if_neg (by simp)]
      refine ⟨p, rfl, l, _, _, e1 _ _ hp, by show 2 ≤ 1000; decide, fun D hD => ⟨rfl, ?_⟩⟩
      have e2 := e1.trans (same_upd (o := .lst [x, .ref q]) hD)
      have at2 := upd_same (H := H1) (a := D) (o := .lst [x, .ref q])
      generalize upd H1 D (.lst [x, .ref q]) = H2 at e2 at2 ⊢
      rw [if_neg ne2]
      refine ⟨rfl, ?_⟩
      rw [if_neg ne3]
      refine ⟨rfl, ?_⟩
      rw [if_pos rfl]
      refine ⟨[x, .ref q], .inl (SqL.of at2), ?_⟩
      rw [if_pos (show (([x, .ref q] : List V).length : Int) = 2 from rfl)]
      refine ⟨x, Rd.at0, x, m, d, rfl, am.same e2, q1, q2, q3, fun H3 e3 => ⟨true, rfl, ?_⟩⟩
      rw [if_pos rfl]
      simp only [e3 _ _ at2]
      walk_at "rd"
      have e03 := e2.trans e3
      refine ⟨q, l', ys, gs, n, rfl, e03 _ _ hq, prs.same e03, q4, q5, rise, fun H4 e4 => ⟨true, rfl, ?_⟩⟩
      rw [if_pos rfl]
      have e04 := e03.trans e4
      have at4 := e4 _ _ (e3 _ _ at2)
      simp only [at4]
      walk_at "rd"
      refine ⟨l', ys, e04 _ _ hq, lcl_goes goes_seq (fun D' i H5 => H4 D' = none ∧ Same H4 H5 ∧ ∃ acc, H5 D' = some (.lst acc) ∧ acc.length = i ∧ TupV H5 acc (gs.take i)) (fun D' hD' => ⟨hD', same_upd hD', [], upd_same, rfl, trivial⟩)
        (fun D' i H5 _ h => h.2.1 _ _ (e04 _ _ hq)) (fun D' i x' H5 H5' hi ⟨n5, e5, acc, a5, l5, t5⟩ ⟨eq5, hx⟩ => ?_) (fun D' H5 _ ⟨n5, e5, acc, a5, l5, t5⟩ => ?_)⟩
      · subst eq5
        obtain ⟨g, hg, q', l6, rfl, hq'⟩ := prs.at hx
        walk_at "rd"
        have il : i < 8 := by have := prs.len; omega
        refine ⟨l6, _, e5 _ _ (e04 _ _ hq'), rfl, _, _, rfl, _, _, rfl, rfl, by decide, fun t ht => ⟨acc, (same_upd ht) _ _ a5, small1000 (by omega), n5, fun b o hb => ?_, by rw [List.length_append, l5]; rfl, ?_⟩⟩
        · rw [upd_ne (ne_of_none hb n5)]
          exact (e5.trans (same_upd ht)) _ _ hb
        · rw [List.take_add_one, hg]
          exact TupV.upd ((same_upd ht) _ _ a5) (TupV.app (t5.same (same_upd ht)) ⟨⟨t, rfl, upd_same⟩, trivial⟩)
      · rw [prs.len, List.take_length] at t5
        have at5 := e5 _ _ at4
        simp only [at5]
        walk_at "rd"
        refine ⟨x, m, d, rfl, am.same (e04.trans e5), ?_, fun f df H6 e6 hf => ⟨acc, .inl ⟨SqL.of (e6 _ _ a5), fun t ht => ⟨by decide, fun r hr => ?_⟩⟩⟩⟩
        · exact Nat.lt_of_lt_of_le (show m.natAbs < 2 ^ 14 by omega) (Nat.pow_le_pow_right (by decide) (by decide))
        · have e7 := (same_upd (o := .tup acc) ht).trans (same_upd (o := .tup [.str "step", .ref f, .ref t]) hr)
          exact k _ _ (((e04.trans e5).trans e6).trans e7) ⟨r, rfl, f, df, t, acc, upd_same, e7 _ _ hf, (same_upd hr) _ _ upd_same, (t5.same e6).same e7⟩
end
end K06
namespace K06
open PySem PySem.Spec PyProof.Rows L2 Own OwnHot OwnExN OwnSeq
/-- an item of a tuple that stands in H by itself -/
def rIxHT : R2 := fun x y H Q => ∃ p xs i v, x = .ref p ∧ y = .int i ∧ H p = some (.tup xs) ∧ atI xs i = some v ∧ Q v H
theorem ixHT {X : Cx} : IxR X rIxHT := fun value slice pins s σ H x y v u Q I rx ry ⟨p, xs, i, z, e1, e2, h, e3, q⟩ hs => ix_tup value slice pins s σ H x y v u Q I rx ry ⟨p, xs, i, z, e1, e2, SqT.of h, e3, q⟩ hs
local macro_rules | `(tactic| walk_at "rd") => `(tactic| simp only [tSeq, tAsg, tOp, tUn, tVar, gName, gSub, rIxL, rIxT, rSetL, tC, rI0, rI, rU, rEq, rNe, tCons, tNil, tCB, tLst, tTup, tIfS, tAnd, tOr, tNot, tAndV, tOrV, tNotV, tTest, tB, tIf, tRet, tDrop, tNext, tBreak, tCont, tCall, tCallS, rIsS, tChain, gSeq, gRest, gCons, gNil, tFor_seq, tFor_enumS, tLc_seq, tLc_enumS, rAny, tMake, tMkO, sFld, tOst, tNum, tDen, tNever, tBits, rIs, rIsB, clv, isB, rGcd,
  Rd.tFor_rng1, Rd.tFor_rng2, Rd.tFor_list, Rd.tFor_tup, Rd.tLc_list, Rd.tLc_tup, Rd.tLc_rng1, Rd.LcTurn, tYes, wipe, Rd.rLenL, Rd.rLenT, Rd.rIntI, Rd.rIxH, rIxHT, HO.tup.injEq, Rd.at0, Rd.at1, Rd.at2, Rd.at3, Rd.ixN40, Rd.ixN41, Rd.ixN42, Rd.ixN43, Rd.scal_ii, cxOf,
  List.length_cons, List.length_nil, List.length_map, List.map_cons, List.map_nil, upd_same, decide_eq_true_eq, decide_true, decide_false, if_true, if_false, Bool.false_eq_true, Bool.not_true, Bool.not_false, HO.lst.injEq, HO.ins.injEq, ff_inj, List.set_cons_zero, List.set_cons_succ, List.getElem?_cons_zero, List.getElem?_cons_succ, List.append_nil, List.nil_append, List.cons_append, Option.some.injEq, V.ref.injEq, V.int.injEq, V.bl.injEq, List.cons.injEq, exists_eq_left', exists_and_left, exists_eq_left, true_and, and_true, and_self, and_assoc, implies_true, reduceCtorEq, Nat.reduceAdd])

def hit (bs : List Bool) (gs : List (Int × Int)) : Bool := gs.any fun g => bs.getD g.2.toNat false
theorem TupV.len {H : Hp} : ∀ {xs : List V} {gs : List (Int × Int)}, TupV H xs gs → xs.length = gs.length
  | [], [], _ => rfl
  | _ :: _, _ :: _, h => congrArg (· + 1) h.2.len
  | [], _ :: _, h => h.elim
  | _ :: _, [], h => h.elim
theorem TupV.at {H : Hp} : ∀ {xs : List V} {gs : List (Int × Int)} {i : Nat} {x : V}, TupV H xs gs → xs[i]? = some x → ∃ g, gs[i]? = some g ∧ ∃ q, x = .ref q ∧ H q = some (.tup [.int g.1, .int g.2])
  | _ :: _, g :: _, 0, _, h, e => ⟨g, rfl, by cases Option.some.inj e; exact h.1⟩
  | _ :: _, _ :: _, i + 1, _, h, e => TupV.at (i := i) h.2 e
  | [], [], _, _, _, e => by cases e
  | [], _ :: _, _, _, h, _ => h.elim
  | _ :: _, [], _, _, h, _ => h.elim
section
variable {P : Program} {w : World} {K : PySem.W.Frag} {mg : Str → Option Value} {base : Heap} {a : Ad}
/-! ### is_step_into -/
def spInto (C : Addr) : Sp := fun vs H Q _ => ∃ (v : V) (mk : Addr) (m d : Int) (gs : List (Int × Int)) (bs : List Bool), vs = [v, .ref mk] ∧ CleanV C H v (.step m d gs) ∧ H mk = some (.lst (bs.map V.bl)) ∧ gs.length ≤ 8 ∧ (∀ g ∈ gs, 0 ≤ g.2 ∧ g.2 < bs.length) ∧
  ∀ H', Same H H' → Q (.bl (hit bs gs)) H'
theorem sc_is_step_into : FnScope ["row", "marks", "_", "state"] ["row", "marks"] (defScope s_is_step_into) := ⟨rfl, rfl, rfl, by decide +kernel, rfl, by decide +kernel, by decide +kernel⟩
theorem ok_is_step_into (T : Txt K mg a) : FnOk P w K mg base CX0 1 a.a_is_step_into a.d_is_step_into ["row", "marks"] (spInto a.C_Frac) := by
  refine T.fn_is_step_into.ok sc_is_step_into (fun vs H Q E h => ?_) (fun cdv A outer s H vs Q E hr h => ?_)
  · obtain ⟨v, mk, m, d, gs, bs, rfl, _⟩ := h
    rfl
  · obtain ⟨v, mk, m, d, gs, bs, rfl, ⟨p, rfl, q, dx, t, ys, hp, hq, ht, tv⟩, hm, g8, hin, k⟩ := h
    refine ⟨_, (pss_one (ps_ret (pe_callB (cr_any rfl) (by rfl) T.no_any (by decide +kernel) (pa_cons (pe_lc (own := [("_", 2), ("state", 3)]) (by rfl) sc_is_step_into.nd (pi_seq (pe_ix ixHT (pv 0) pe_int (fun _ _ => rfl))) (blkOk_by (own := [("_", 2), ("state", 3)]) (N := ["row", "marks", "_", "state"]) (sc := defScope s_is_step_into) (by decide +kernel)) (fun _ _ _ _ _ => pg_seq (n := 2) rfl (pgs_cons (pg_name (i := 2) sc_is_step_into.nd rfl (Or.inl rfl)) (pgs_cons (pg_name (i := 3) sc_is_step_into.nd rfl (Or.inl rfl)) pgs_nil))) (fun _ _ _ _ _ => pts_nil) (fun _ _ _ _ _ => (pe_ix Rd.ixH (pv 1) (pv 3) (fun _ _ => rfl)))) pa_nil)))), ?_⟩
    show (_ : TS) _ [some (V.ref p), some (V.ref mk), none, none] H
    walk_at "rd"
    simp only [hp]
    walk_at "rd"
    refine ⟨false, ys, ht, lcl_goes goes_seq (fun D i H5 => H D = none ∧ Same H H5 ∧ H5 D = some (.lst (((gs.take i).map fun g => bs.getD g.2.toNat false).map V.bl))) (fun D hD => ⟨hD, same_upd hD, upd_same⟩)
      (fun D i H5 _ h => h.2.1 _ _ ht) (fun D i x H5 H5' hi ⟨n5, e5, a5⟩ ⟨eq5, hx⟩ => ?_) (fun D H5 _ ⟨n5, e5, a5⟩ => ?_)⟩
    · subst eq5
      obtain ⟨g, hg, q', rfl, hq'⟩ := tv.at hx
      have il : i < 8 := by have := tv.len; omega
      have gr := hin g (List.mem_of_getElem? hg)
      have at5 := e5 _ _ hm
      walk_at "rd"
      refine ⟨false, _, e5 _ _ hq', rfl, _, _, rfl, _, _, rfl, rfl, ?_⟩
      have ij : g.2.toNat < bs.length := by omega
      have ix : atI (bs.map V.bl) g.2 = some (V.bl (bs.getD g.2.toNat false)) := by
        rw [show g.2 = ((g.2.toNat : Nat) : Int) by omega]
        refine atI_nat ?_
        rw [Int.toNat_natCast, List.getElem?_map, List.getElem?_eq_getElem ij, List.getD_eq_getElem?_getD, List.getElem?_eq_getElem ij]
        rfl
      refine ⟨_, g.2, rfl, at5, _, ix, _, a5, ?_, n5, fun b o hb => ?_, ?_⟩
      · rw [List.length_map, List.length_map, List.length_take]
        exact small1000 (by omega)
      · rw [upd_ne (ne_of_none hb n5)]
        exact e5 _ _ hb
      · rw [List.take_add_one, hg, List.map_append, List.map_append]
        rfl
    · rw [tv.len, List.take_length] at a5
      exact ⟨D, rfl, _, SqL.of a5, by rw [List.any_map]; exact k _ e5⟩
end
end K06
namespace K06
open PySem PySem.Spec PyProof.Rows L2 Own OwnHot OwnExN OwnSeq
local macro_rules | `(tactic| walk_at "rd") => `(tactic| simp only [tSeq, tAsg, tOp, tUn, tVar, gName, gSub, rIxL, rIxT, rSetL, tC, rI0, rI, rU, rEq, rNe, tCons, tNil, tCB, tLst, tTup, tIfS, tAnd, tOr, tNot, tAndV, tOrV, tNotV, tTest, tB, tIf, tRet, tDrop, tNext, tBreak, tCont, tCall, tCallS, rIsS, tChain, gSeq, gRest, gCons, gNil, tFor_seq, tFor_enumS, tLc_seq, tLc_enumS, rAny, tMake, tMkO, sFld, tOst, tNum, tDen, tNever, tBits, rIs, rIsB, clv, isB, rGcd,
  Rd.tFor_rng1, Rd.tFor_rng2, Rd.tFor_list, Rd.tFor_tup, Rd.tLc_list, Rd.tLc_tup, Rd.tLc_rng1, Rd.LcTurn, tYes, wipe, Rd.rLenL, Rd.rLenT, Rd.rIntI, Rd.rIxH, rIxHT, HO.tup.injEq, Rd.at0, Rd.at1, Rd.at2, Rd.at3, Rd.ixN40, Rd.ixN41, Rd.ixN42, Rd.ixN43, Rd.scal_ii, cxOf,
  List.length_cons, List.length_nil, List.length_map, List.map_cons, List.map_nil, upd_same, decide_eq_true_eq, decide_true, decide_false, if_true, if_false, Bool.false_eq_true, Bool.not_true, Bool.not_false, HO.lst.injEq, HO.ins.injEq, ff_inj, List.set_cons_zero, List.set_cons_succ, List.getElem?_cons_zero, List.getElem?_cons_succ, List.append_nil, List.nil_append, List.cons_append, Option.some.injEq, V.ref.injEq, V.int.injEq, V.bl.injEq, List.cons.injEq, exists_eq_left', exists_and_left, exists_eq_left, true_and, and_true, and_self, and_assoc, implies_true, reduceCtorEq, Nat.reduceAdd])

def ends : RowD → Bool
  | .step .. => false
  | _ => true
def goalsOf : RowD → List (Int × Int)
  | .step _ _ gs => gs
  | _ => []
/-- one turn of the rows' marks -/
def turn (rs : List RowD) (bs : List Bool) : List Bool := (List.range rs.length).map fun i => bs.getD i false || hit bs (((rs[i]?).map goalsOf).getD [])
def after (rs : List RowD) : Nat → List Bool
  | 0 => rs.map ends
  | n + 1 => turn rs (after rs n)
def firstOpen (bs : List Bool) : Option Nat := bs.findIdx? fun b => !b
def opt : Option Nat → V
  | none => .non
  | some k => .int k
def CleansV (C : Addr) (H : Hp) : List V → List RowD → Prop
  | [], [] => True
  | v :: vs, r :: rs => CleanV C H v r ∧ CleansV C H vs rs
  | _, _ => False
theorem CleanV.same {C : Addr} {H H' : Hp} {v : V} {r : RowD} (e : Same H H') (h : CleanV C H v r) : CleanV C H' v r := by
  obtain ⟨p, rfl, h⟩ := h
  cases r with
  | void => exact ⟨p, rfl, e _ _ h⟩
  | fin n d => exact let ⟨q, dx, a, b⟩ := h; ⟨p, rfl, q, dx, e _ _ a, e _ _ b⟩
  | step n d gs => exact let ⟨q, dx, t, ys, a, b, c, z⟩ := h; ⟨p, rfl, q, dx, t, ys, e _ _ a, e _ _ b, e _ _ c, z.same e⟩
theorem CleansV.same {C : Addr} {H H' : Hp} (e : Same H H') : ∀ {vs : List V} {rs : List RowD}, CleansV C H vs rs → CleansV C H' vs rs
  | [], [], _ => trivial
  | _ :: _, _ :: _, ⟨a, r⟩ => ⟨a.same e, CleansV.same e r⟩
  | [], _ :: _, h => h.elim
  | _ :: _, [], h => h.elim
theorem CleansV.len {C : Addr} {H : Hp} : ∀ {vs : List V} {rs : List RowD}, CleansV C H vs rs → vs.length = rs.length
  | [], [], _ => rfl
  | _ :: _, _ :: _, h => congrArg (· + 1) h.2.len
  | [], _ :: _, h => h.elim
  | _ :: _, [], h => h.elim
theorem CleansV.at {C : Addr} {H : Hp} : ∀ {xs : List V} {rs : List RowD} {i : Nat} {x : V}, CleansV C H xs rs → xs[i]? = some x → ∃ r, rs[i]? = some r ∧ CleanV C H x r
  | _ :: _, r :: _, 0, _, h, e => ⟨r, rfl, by cases Option.some.inj e; exact h.1⟩
  | _ :: _, _ :: _, i + 1, _, h, e => CleansV.at (i := i) h.2 e
  | [], [], _, _, _, e => by cases e
  | [], _ :: _, _, _, h, _ => h.elim
  | _ :: _, [], _, _, h, _ => h.elim
theorem CleanV.head {C : Addr} {H : Hp} {v : V} {r : RowD} (h : CleanV C H v r) : ∃ p wd rest, v = .ref p ∧ H p = some (.tup (.str wd :: rest)) ∧ (!decide (V.str wd = V.str "step")) = ends r := by
  obtain ⟨p, rfl, h⟩ := h
  cases r with
  | void => exact ⟨p, _, _, rfl, h, by decide +kernel⟩
  | fin n d => exact let ⟨q, dx, a, b⟩ := h; ⟨p, _, _, rfl, a, show (!decide (V.str "end" = V.str "step")) = true by decide +kernel⟩
  | step n d gs => exact let ⟨q, dx, t, ys, a, _⟩ := h; ⟨p, _, _, rfl, a, show (!decide (V.str "step" = V.str "step")) = false by decide +kernel⟩
theorem turn_len {rs : List RowD} {bs : List Bool} : (turn rs bs).length = rs.length := by
  unfold turn
  rw [List.length_map, List.length_range]
theorem after_len {rs : List RowD} : ∀ n, (after rs n).length = rs.length
  | 0 => List.length_map _
  | n + 1 => turn_len
theorem mark_at {rs : List RowD} {n j : Nat} (h : j < rs.length) : atI ((after rs n).map V.bl) (j : Nat) = some (V.bl ((after rs n).getD j false)) := by
  refine atI_nat ?_
  have h' : j < (after rs n).length := by rw [after_len]; exact h
  rw [List.getElem?_map, List.getElem?_eq_getElem h', List.getD_eq_getElem?_getD, List.getElem?_eq_getElem h']
  rfl
theorem turn_at {rs : List RowD} {bs : List Bool} {j : Nat} {r : RowD} (h : rs[j]? = some r) : (turn rs bs)[j]? = some (bs.getD j false || hit bs (goalsOf r)) := by
  have jl := (List.getElem?_eq_some_iff.mp h).1
  unfold turn
  rw [List.getElem?_map, List.getElem?_range jl]
  show some (bs.getD j false || hit bs (((rs[j]?).map goalsOf).getD [])) = _
  rw [h]
  rfl
theorem after_ends {rs : List RowD} {j : Nat} {r : RowD} (h : rs[j]? = some r) (e : ends r = true) : ∀ n, (after rs n).getD j false = true
  | 0 => by
    show (rs.map ends).getD j false = true
    rw [List.getD_eq_getElem?_getD, List.getElem?_map, h]
    exact e
  | n + 1 => by
    show (turn rs (after rs n)).getD j false = true
    rw [List.getD_eq_getElem?_getD, turn_at h, after_ends h e n]
    rfl
/-- the steps' goals are states -/
def InR (rs : List RowD) : Prop := ∀ r ∈ rs, (goalsOf r).length ≤ 8 ∧ ∀ g ∈ goalsOf r, 0 ≤ g.2 ∧ g.2 < rs.length
section
variable {P : Program} {w : World} {K : PySem.W.Frag} {mg : Str → Option Value} {base : Heap} {a : Ad}
/-! ### first_endless -/
def spFirst (C : Addr) : Sp := fun vs H Q _ => ∃ (p : Addr) (xs : List V) (rs : List RowD), vs = [.ref p] ∧ H p = some (.lst xs) ∧ CleansV C H xs rs ∧ rs.length ≤ 8 ∧ InR rs ∧ ∀ H', Same H H' → Q (opt (firstOpen (after rs rs.length))) H'
theorem sc_first_endless : FnScope ["rows", "closing", "_", "state", "closes", "row"] ["rows"] (defScope s_first_endless) := ⟨rfl, rfl, rfl, by decide +kernel, rfl, by decide +kernel, by decide +kernel⟩
theorem ok_first_endless (T : Txt K mg a) : FnOk P w K mg base CX0 2 a.a_first_endless a.d_first_endless ["rows"] (spFirst a.C_Frac) := by
  refine T.fn_first_endless.ok sc_first_endless (fun vs H Q E h => ?_) (fun cdv A outer s H vs Q E hr h => ?_)
  · obtain ⟨p, xs, rs, rfl, _⟩ := h
    rfl
  · obtain ⟨p, xs, rs, rfl, hp, cl, r8, inr, k⟩ := h
    refine ⟨_, (pss_cons (ps_set (i := 1) sc_first_endless.nd rfl (Or.inr rfl) (pe_lc (own := [("row", 5)]) (by rfl) sc_first_endless.nd (pi_seq (pv 0)) (blkOk_by (own := [("row", 5)]) (N := ["rows", "closing", "_", "state", "closes", "row"]) (sc := defScope s_first_endless) (by decide +kernel)) (fun _ _ _ _ _ => pg_name (i := 5) sc_first_endless.nd rfl (Or.inl rfl)) (fun _ _ _ _ _ => pts_nil) (fun _ _ _ _ _ => (pe_cmpR op_ne (pe_ix ixHT (pv 5) pe_int (fun _ _ => rfl)) pe_str (nomark _)))))
      (pss_cons (ps_for PassesOwn.never rfl (pi_seq (pv 0)) (pg_name (i := 2) sc_first_endless.nd rfl (Or.inl rfl))
        (pss_one (ps_set (i := 1) sc_first_endless.nd rfl (Or.inr rfl) (pe_lc (own := [("state", 3), ("row", 5)]) (by rfl) sc_first_endless.nd (pi_enumS (by rfl) T.no_enumerate (pa_cons (pv 0) pa_nil)) (blkOk_by (own := [("state", 3), ("row", 5)]) (N := ["rows", "closing", "_", "state", "closes", "row"]) (sc := defScope s_first_endless) (by decide +kernel)) (fun _ _ _ _ _ => pg_seq (n := 2) rfl (pgs_cons (pg_name (i := 3) sc_first_endless.nd rfl (Or.inl rfl)) (pgs_cons (pg_name (i := 5) sc_first_endless.nd rfl (Or.inl rfl)) pgs_nil))) (fun _ _ _ _ _ => pts_nil) (fun _ _ _ _ _ => (pe_or (pe_ix Rd.ixH (pv 1) (pv 3) (fun _ _ => rfl)) (pe_one (pe_call (ok_is_step_into T) (hr.mono (by decide)) (by rfl) T.mg_is_step_into T.fn_is_step_into.kp T.b_is_step_into .nil pass0 (pa_cons (pv 5) (pa_cons (pv 1) pa_nil))))))))))
      (pss_cons (ps_for PassesOwn.never rfl (pi_enumS (by rfl) T.no_enumerate (pa_cons (pv 1) pa_nil)) (pg_seq (n := 2) rfl (pgs_cons (pg_name (i := 3) sc_first_endless.nd rfl (Or.inl rfl)) (pgs_cons (pg_name (i := 4) sc_first_endless.nd rfl (Or.inl rfl)) pgs_nil)))
        (pss_one (ps_if (pt_not (pt_val (pv 4))) (pss_one (ps_ret (pv 3))) pss_nil)))
      (pss_one (ps_ret pe_non))))), ?_⟩
    show (_ : TS) _ [some (V.ref p), none, none, none, none, none] H
    walk_at "rd"
    have len := cl.len
    refine ⟨true, xs, hp, lcl_goes goes_seq (fun D i H5 => H D = none ∧ Same H H5 ∧ H5 D = some (.lst (((rs.take i).map ends).map V.bl))) (fun D hD => ⟨hD, same_upd hD, upd_same⟩)
      (fun D i H5 _ h => h.2.1 _ _ hp) (fun D i x H5 H5' hi ⟨n5, e5, a5⟩ ⟨eq5, hx⟩ => ?_) (fun D H5 nD ⟨n5, e5, a5⟩ => ?_)⟩
    · subst eq5
      obtain ⟨r, hr1, cr⟩ := cl.at hx
      obtain ⟨q, wd, rest, rfl, hq, hw⟩ := (cr.same e5).head
      walk_at "rd"
      simp only [hq]
      walk_at "rd"
      rw [hw]
      refine ⟨rfl, _, a5, ?_, n5, fun b o hb => ?_, ?_⟩
      · rw [List.length_map, List.length_map, List.length_take]
        exact small1000 (by omega)
      · rw [upd_ne (ne_of_none hb n5)]
        exact e5 _ _ hb
      · rw [List.take_add_one, hr1, List.map_append, List.map_append]
        rfl
    · rw [len, List.take_length] at a5
      refine ⟨true, xs, e5 _ _ hp, loop_goes goes_seq (fun σ H' => ∃ c o2 o3 o4 o5, σ = [some (V.ref p), some (V.ref c), o2, o3, o4, o5] ∧ Same H H' ∧ H' c = some (.lst ((after rs rs.length).map V.bl)))
        (fun i σ H' => ∃ c o2 o3 o4 o5, σ = [some (V.ref p), some (V.ref c), o2, o3, o4, o5] ∧ Same H H' ∧ H' c = some (.lst ((after rs i).map V.bl)))
        ⟨D, none, none, none, none, rfl, e5, a5⟩ (fun i σ H' _ ⟨_, _, _, _, _, _, e, _⟩ => e _ _ hp) ?_ (fun σ H' z => by rw [len] at z; exact z) ?_⟩
      · rintro bk hbk i x σ H6 H6' hi ⟨c, o2, o3, o4, o5, rfl, e6, a6⟩ ⟨rfl, hx⟩
        walk_at "rd"
        refine ⟨true, xs, e6 _ _ hp, lcl_goes goes_enum (fun D j H7 => H6' D = none ∧ Same H6' H7 ∧ H7 D = some (.lst (((turn rs (after rs i)).take j).map V.bl))) (fun D hD => ⟨hD, same_upd hD, upd_same⟩)
          (fun D j H7 _ h => h.2.1 _ _ (e6 _ _ hp)) (fun D j y H7 H7' hj ⟨n7, e7, a7⟩ ⟨t, z, ey, ht, eH, hz⟩ => ?_) (fun D H7 _ ⟨n7, e7, a7⟩ => ?_)⟩
        · subst ey eH
          obtain ⟨r, hr2, cr⟩ := cl.at hz
          have jl : j < rs.length := by omega
          have te := same_upd (o := .tup [.int (j : Nat), z]) ht
          have at7 := te _ _ (e7 _ _ a6)
          have ix := mark_at (rs := rs) (n := i) jl
          walk_at "rd"
          refine ⟨false, _, rfl, rfl, _, _, rfl, _, _, rfl, rfl, _, _, rfl, at7, _, ix, _, rfl, ?_⟩
          have fin : ∀ (b : Bool) (H9 : Hp), Same (upd H7 t (.tup [.int (j : Nat), z])) H9 → (turn rs (after rs i))[j]? = some b →
              ∃ acc, H9 D = some (.lst acc) ∧ acc.length < sizeLine ∧ H6' D = none ∧ Same H6' (upd H9 D (.lst (acc ++ [V.bl b]))) ∧ acc ++ [V.bl b] = ((turn rs (after rs i)).take (j + 1)).map V.bl := fun b H9 e9 hb => by
            refine ⟨_, e9 _ _ (te _ _ a7), ?_, n7, fun q o hq => ?_, ?_⟩
            · rw [List.length_map, List.length_take]
              exact small1000 (by omega)
            · rw [upd_ne (ne_of_none hq n7)]
              exact e9 _ _ (te _ _ (e7 _ _ hq))
            · rw [List.take_add_one, hb, List.map_append]
              rfl
          have tat := turn_at (bs := after rs i) hr2
          cases hv : (after rs i).getD j false with
          | true =>
            rw [if_pos rfl]
            rw [hv, Bool.true_or] at tat
            exact fin true _ (fun _ _ z => z) tat
          | false =>
            rw [if_neg (by decide)]
            rw [hv, Bool.false_or] at tat
            have ne : ends r = false := by
              cases e : ends r with
              | false => rfl
              | true => rw [after_ends hr2 e i] at hv; cases hv
            cases r with
            | void => cases ne
            | fin m d => cases ne
            | step m d gs =>
              have g := inr _ (List.mem_of_getElem? hr2)
              exact ⟨z, c, m, d, gs, after rs i, rfl, cr.same (((e6.trans e7).trans te)), at7, g.1, fun q hq => by rw [after_len]; exact g.2 q hq, fun H9 e9 => fin _ H9 e9 tat⟩
        · rw [len, show (turn rs (after rs i)).take rs.length = turn rs (after rs i) by rw [← turn_len (bs := after rs i), List.take_length]] at a7
          exact ⟨D, rfl, e6.trans e7, a7⟩
      · rintro σ H6 ⟨c, o2, o3, o4, o5, rfl, e6, a6⟩
        walk_at "rd"
        refine ⟨true, _, a6, loop_goes goes_enum (fun σ H' => (∀ b ∈ after rs rs.length, b = true) ∧ Same H H' ∧ ∃ o1 o2 o3 o4 o5, σ = [some (V.ref p), o1, o2, o3, o4, o5])
          (fun j σ H' => (∀ b ∈ (after rs rs.length).take j, b = true) ∧ Same H H' ∧ H' c = some (.lst ((after rs rs.length).map V.bl)) ∧ ∃ o2 o3 o4 o5, σ = [some (V.ref p), some (V.ref c), o2, o3, o4, o5])
          ⟨by simp, e6, a6, _, _, _, _, rfl⟩ (fun _ σ H' _ h => h.2.2.1) ?_ (fun σ H' ⟨al, e, _, o2, o3, o4, o5, q⟩ => ⟨by rw [List.length_map, List.take_length] at al; exact al, e, _, o2, o3, o4, o5, q⟩) ?_⟩
        · rintro bk hbk j y σ H8 H8' hj ⟨al, e8, a8, o2, o3, o4, o5, rfl⟩ ⟨t, z, rfl, ht, rfl, hz⟩
          obtain ⟨b, hb, rfl⟩ : ∃ b, (after rs rs.length)[j]? = some b ∧ z = V.bl b := by
            rw [List.getElem?_map] at hz
            cases e : (after rs rs.length)[j]? with
            | none => rw [e] at hz; cases hz
            | some b => rw [e] at hz; exact ⟨b, rfl, (Option.some.inj hz).symm⟩
          obtain ⟨hj2, hb2⟩ := List.getElem?_eq_some_iff.mp hb
          walk_at "rd"
          refine ⟨false, _, rfl, rfl, _, _, rfl, _, _, rfl, rfl, b, rfl, ?_⟩
          have te := same_upd (o := .tup [.int (j : Nat), V.bl b]) ht
          cases b with
          | false =>
            rw [if_pos (by decide)]
            have z := k _ (e8.trans te)
            have fo : firstOpen (after rs rs.length) = some j := by
              unfold firstOpen
              rw [List.findIdx?_eq_some_iff_getElem]
              refine ⟨hj2, by rw [hb2]; rfl, fun i hi => ?_⟩
              have m : (after rs rs.length)[i] ∈ (after rs rs.length).take j := List.mem_take_iff_getElem.mpr ⟨i, by omega, rfl⟩
              rw [al _ m]
              decide
            rw [fo] at z
            exact z
          | true =>
            rw [if_neg (by decide)]
            refine ⟨fun b hb' => ?_, e8.trans te, te _ _ a8, _, rfl⟩
            rw [List.take_add_one, hb] at hb'
            rcases List.mem_append.mp hb' with m | m
            · exact al b m
            · exact List.mem_singleton.mp m
        · rintro σ H8 ⟨al, e8, o1, o2, o3, o4, o5, rfl⟩
          walk_at "rd"
          have z := k _ e8
          rw [show firstOpen (after rs rs.length) = none by unfold firstOpen; rw [List.findIdx?_eq_none_iff]; intro b hb; rw [al b hb]; rfl] at z
          exact z
end
end K06
namespace K06
open PySem PySem.Spec PyProof.Rows L2 Own OwnHot OwnExN OwnSeq
local macro_rules | `(tactic| walk_at "rd") => `(tactic| simp only [tSeq, tAsg, tOp, tUn, tVar, gName, gSub, rIxL, rIxT, rSetL, tC, rI0, rI, rU, rEq, rNe, tCons, tNil, tCB, tLst, tTup, tIfS, tAnd, tOr, tNot, tAndV, tOrV, tNotV, tTest, tB, tIf, tRet, tDrop, tNext, tBreak, tCont, tCall, tCallS, rIsS, tChain, gSeq, gRest, gCons, gNil, tFor_seq, tFor_enumS, tLc_seq, tLc_enumS, rAny, tMake, tMkO, sFld, tOst, tNum, tDen, tNever, tBits, rIs, rIsB, clv, isB, rGcd,
  Rd.tFor_rng1, Rd.tFor_rng2, Rd.tFor_list, Rd.tFor_tup, Rd.tLc_list, Rd.tLc_tup, Rd.tLc_rng1, Rd.LcTurn, tYes, wipe, Rd.rLenL, Rd.rLenT, Rd.rIntI, Rd.rIxH, rIxHT, HO.tup.injEq, Rd.at0, Rd.at1, Rd.at2, Rd.at3, Rd.ixN40, Rd.ixN41, Rd.ixN42, Rd.ixN43, Rd.scal_ii, cxOf,
  List.length_cons, List.length_nil, List.length_map, List.map_cons, List.map_nil, upd_same, decide_eq_true_eq, decide_true, decide_false, if_true, if_false, Bool.false_eq_true, Bool.not_true, Bool.not_false, HO.lst.injEq, HO.ins.injEq, ff_inj, List.set_cons_zero, List.set_cons_succ, List.getElem?_cons_zero, List.getElem?_cons_succ, List.append_nil, List.nil_append, List.cons_append, Option.some.injEq, V.ref.injEq, V.int.injEq, V.bl.injEq, List.cons.injEq, exists_eq_left', exists_and_left, exists_eq_left, true_and, and_true, and_self, and_assoc, implies_true, reduceCtorEq, Nat.reduceAdd])

def RawsV (C : Addr) (H : Hp) : List V → List RowD → Prop
  | [], [] => True
  | v :: vs, r :: rs => RawV C H v r ∧ RawsV C H vs rs
  | _, _ => False
theorem RawV.same {C : Addr} {H H' : Hp} {v : V} {r : RowD} (e : Same H H') (h : RawV C H v r) : RawV C H' v r := by
  obtain ⟨p, l, xs, rfl, hp, h⟩ := h
  refine ⟨p, l, xs, rfl, e _ _ hp, ?_⟩
  cases r with
  | void => exact h
  | fin n d => exact let ⟨x, a, b⟩ := h; ⟨x, a, b.same e⟩
  | step n d gs => exact let ⟨x, q, l', ys, a, b, c, z⟩ := h; ⟨x, q, l', ys, a, b.same e, e _ _ c, z.same e⟩
theorem RawsV.len {C : Addr} {H : Hp} : ∀ {vs : List V} {rs : List RowD}, RawsV C H vs rs → vs.length = rs.length
  | [], [], _ => rfl
  | _ :: _, _ :: _, h => congrArg (· + 1) h.2.len
  | [], _ :: _, h => h.elim
  | _ :: _, [], h => h.elim
theorem RawsV.at {C : Addr} {H : Hp} : ∀ {xs : List V} {rs : List RowD} {i : Nat} {x : V}, RawsV C H xs rs → xs[i]? = some x → ∃ r, rs[i]? = some r ∧ RawV C H x r
  | _ :: _, r :: _, 0, _, h, e => ⟨r, rfl, by cases Option.some.inj e; exact h.1⟩
  | _ :: _, _ :: _, i + 1, _, h, e => RawsV.at (i := i) h.2 e
  | [], [], _, _, _, e => by cases e
  | [], _ :: _, _, _, h, _ => h.elim
  | _ :: _, [], _, _, h, _ => h.elim
theorem CleansV.app {C : Addr} {H : Hp} : ∀ {vs ws : List V} {rs ss : List RowD}, CleansV C H vs rs → CleansV C H ws ss → CleansV C H (vs ++ ws) (rs ++ ss)
  | [], _, [], _, _, h => h
  | _ :: _, _, _ :: _, _, ⟨a, r⟩, h => ⟨a, CleansV.app r h⟩
  | [], _, _ :: _, _, h, _ => h.elim
  | _ :: _, _, [], _, h, _ => h.elim
/-- a kept row is of tuples and fractions: no list is a part of it -/
theorem CleanV.upd {C : Addr} {H : Hp} {D : Addr} {zs : List V} {o : HO} (h : H D = some (.lst zs)) {v : V} {r : RowD} (c : CleanV C H v r) : CleanV C (L2.upd H D o) v r := by
  have ne : ∀ {q : Addr} {u : HO}, H q = some u → u ≠ .lst zs → (L2.upd H D o) q = some u := fun {q u} hq n => by
    rw [upd_ne (fun z => n (by rw [z, h] at hq; exact (Option.some.inj hq).symm))]
    exact hq
  obtain ⟨p, rfl, c⟩ := c
  cases r with
  | void => exact ⟨p, rfl, ne c (fun z => nomatch z)⟩
  | fin n d => exact let ⟨q, dx, a, b⟩ := c; ⟨p, rfl, q, dx, ne a (fun z => nomatch z), ne b (fun z => nomatch z)⟩
  | step n d gs => exact let ⟨q, dx, t, ys, a, b, e, z⟩ := c; ⟨p, rfl, q, dx, t, ys, ne a (fun z => nomatch z), ne b (fun z => nomatch z), ne e (fun z => nomatch z), z.upd h⟩
theorem CleansV.upd {C : Addr} {H : Hp} {D : Addr} {zs : List V} {o : HO} (h : H D = some (.lst zs)) : ∀ {vs : List V} {rs : List RowD}, CleansV C H vs rs → CleansV C (upd H D o) vs rs
  | [], [], _ => trivial
  | _ :: _, _ :: _, ⟨a, r⟩ => ⟨a.upd h, CleansV.upd h r⟩
  | [], _ :: _, h => h.elim
  | _ :: _, [], h => h.elim
theorem Rising.in_ {n : Int} : ∀ {z : Int} {gs : List (Int × Int)}, Rising n z gs → ∀ g ∈ gs, z ≤ g.2 ∧ g.2 < n
  | _, [], _, g, hg => by cases hg
  | z, g0 :: gs, ⟨_, _, a, b, r⟩, g, hg => by
    rcases List.mem_cons.mp hg with rfl | hg
    · exact ⟨a, by omega⟩
    · have := Rising.in_ r g hg
      omega
theorem inR_of {rs : List RowD} (h : ∀ r ∈ rs, Right rs.length r) : InR rs := fun r hr => by
  have z := h r hr
  cases r with
  | void => exact ⟨by decide, fun g hg => by cases hg⟩
  | fin n d => exact ⟨by show 0 ≤ 8; decide, fun g hg => by cases hg⟩
  | step n d gs => exact let ⟨_, _, _, _, b, r⟩ := z; ⟨b, fun g hg => r.in_ g hg⟩
section
variable {P : Program} {w : World} {K : PySem.W.Frag} {mg : Str → Option Value} {base : Heap} {a : Ad}
/-! ### Endless.__init__ -/
def spEs (C : Addr) : Sp := fun vs H Q _ => ∃ (p : Addr) (v : V), vs = [.ref p, v] ∧ H p = some (exo p C none) ∧ ∀ d, H d = none → d ≠ p → Q .non (upd (upd H d (exd d [("state", v)])) p (exo p C (some d)))
theorem sc_Endless_init : FnScope ["self", "state"] ["self", "state"] (defScope s_Endless_init) := ⟨rfl, rfl, rfl, by decide +kernel, rfl, by decide +kernel, by decide +kernel⟩
theorem ok_Endless_init (T : Txt K mg a) : FnOk P w K mg base CX0 1 a.a_Endless_init a.d_Endless_init ["self", "state"] (spEs a.C_Endless) := by
  refine T.fn_Endless_init.ok sc_Endless_init (fun vs H Q E h => ?_) (fun cdv A outer s H vs Q E hr h => ?_)
  · obtain ⟨p, v, rfl, _⟩ := h
    rfl
  · obtain ⟨p, v, rfl, hp, k⟩ := h
    refine ⟨_, (pss_one (ps_ost (pv 0) (pv 1))), ?_⟩
    refine ⟨_, rfl, _, rfl, p, _, rfl, T.ex_Endless, T.na_Endless_state, .inl ⟨hp, fun dx hd hne => k dx hd hne⟩⟩
theorem es_made {C x : Addr} {v : V} {H1 : Hp} {E : XK} (hx : H1 x = none) (k : ∀ d H', H1 d = none → H' d = some (.xd [("state", v)]) → Same H1 H' → E (.ref C) (some d) H') :
    spEs C [.ref x, v] (upd H1 x (exo x C none)) (fun v' H2 => v' = .non ∧ ∃ d, H2 x = some (exo x C (some d)) ∧ ∃ fs, H2 d = some (exd d fs) ∧ H1 d = none ∧ E (.ref C) (some d) (upd (del H2 x) d (.xd fs))) (fun _ _ _ => False) := by
  refine ⟨x, v, rfl, upd_same, fun d hd hne => ?_⟩
  rw [upd_ne hne] at hd
  refine ⟨rfl, d, upd_same, _, (upd_ne hne).trans upd_same, hd, k d _ hd upd_same fun b o e => ?_⟩
  have nd : b ≠ d := ne_of_none e hd
  have nx : b ≠ x := ne_of_none e hx
  rw [upd_ne nd, del_ne nx, upd_ne nx, upd_ne nd, upd_ne nx]
  exact e
/-! ### clean_rows -/
def spRows (C EC : Addr) : Sp := fun vs H Q E => ∃ (p : Addr) (l : Bool) (xs : List V) (rs : List RowD), vs = [.ref p] ∧ H p = some (sq l xs) ∧ RawsV C H xs rs ∧ 1 ≤ rs.length ∧ rs.length ≤ 8 ∧ (∀ r ∈ rs, Right rs.length r) ∧
  (firstOpen (after rs rs.length) = none → ∀ t ys H', Same H H' → H' t = some (.tup ys) → CleansV C H' ys rs → Q (.ref t) H') ∧
  (∀ n, firstOpen (after rs rs.length) = some n → ∀ d H', H d = none → H' d = some (.xd [("state", .int (n : Nat))]) → Same H H' → E (.ref EC) (some d) H')
theorem sc_clean_rows : FnScope ["rows", "cleaned", "state", "row", "clean", "endless"] ["rows"] (defScope s_clean_rows) := ⟨rfl, rfl, rfl, by decide +kernel, rfl, by decide +kernel, by decide +kernel⟩
theorem ok_clean_rows (T : Txt K mg a) : FnOk P w K mg base (L2N.CX P w) 9 a.a_clean_rows a.d_clean_rows ["rows"] (spRows a.C_Frac a.C_Endless) := by
  refine okN T.fn_clean_rows sc_clean_rows (fun vs H Q E h => ?_) (fun cdv A outer s H vs Q E hr h => ?_)
  · obtain ⟨p, l, xs, rs, rfl, _⟩ := h
    rfl
  · obtain ⟨p, l, xs, rs, rfl, hp, raw, r1, r8, right, kok, kend⟩ := h
    obtain ⟨t1, mg_MOST_STATES⟩ := T.mg_MOST_STATES
    refine ⟨_, (pss_cons (ps_if (pt_not (pt_val (pe_call (ok_is_row_of T) (hr.mono (by decide)) (by rfl) T.mg_is_row_of T.fn_is_row_of.kp T.b_is_row_of .nil pass0 (pa_cons (pv 0) (pa_cons pe_int (pa_cons (pe_glob (v := .int 8) rfl mg_MOST_STATES ⟨_, rfl⟩) pa_nil)))))) (pss_one ps_never) pss_nil)
      (pss_cons (ps_set (i := 1) sc_clean_rows.nd rfl (Or.inl rfl) (pe_lst pa_nil))
      (pss_cons (ps_for (passes_of rfl) rfl (pi_enumS (by rfl) T.no_enumerate (pa_cons (pv 0) pa_nil)) (pg_seq (n := 2) rfl (pgs_cons (pg_name (i := 2) sc_clean_rows.nd rfl (Or.inl rfl)) (pgs_cons (pg_name (i := 3) sc_clean_rows.nd rfl (Or.inl rfl)) pgs_nil)))
        (pss_cons (ps_set (i := 4) sc_clean_rows.nd rfl (Or.inl rfl) (pe_call (ok_clean_row T) (hr.mono (by decide)) (by rfl) T.mg_clean_row T.fn_clean_row.kp T.b_clean_row .nil pass0 (pa_cons (pv 3) (pa_cons (pe_callB call_len_seq (by rfl) T.no_len PySem.boot_len (pa_cons (pv 0) pa_nil)) pa_nil))))
        (pss_cons (ps_if (pt_cmpR op_isN (pv 4) pe_non (nomark _)) (pss_one ps_never) pss_nil)
        (pss_one (ps_expr (pe_bm PySem.F.plainAttrs_list PySem.F.slot_list_append PySem.F.type_list_append mt_append (pv 1) (pa_cons (pv 4) pa_nil)))))))
      (pss_cons (ps_set (i := 5) sc_clean_rows.nd rfl (Or.inl rfl) (pe_call (ok_first_endless T) (hr.mono (by decide)) (by rfl) T.mg_first_endless T.fn_first_endless.kp T.b_first_endless .nil pass0 (pa_cons (pv 1) pa_nil)))
      (pss_cons (ps_if (pt_cmpR op_notN (pv 5) pe_non (nomark _)) (pss_one (L2N.ps_raise rfl (L2N.takes_of rfl rfl rfl rfl) (pmk_oexN T.ex_Endless T.xi_Endless T.ti_Endless (ok_Endless_init T) (hr.mono (by decide)) T.b_Endless_init pass0 (by rfl) T.mg_Endless (pa_cons (pv 5) pa_nil)))) pss_nil)
      (pss_one (ps_ret (pe_callTy call_tuple_of (by rfl) T.no_tuple (by decide +kernel) (pa_cons (pv 1) pa_nil))))))))), ?_⟩
    show (_ : TS) _ [some (V.ref p), none, none, none, none, none] H
    walk_at "rd"
    have len := raw.len
    refine row_ok hp fun H1 e1 => ⟨_, rfl, ?_⟩
    rw [decide_eq_true (show (1 : Int) ≤ (xs.length : Int) by omega), decide_eq_true (show ((xs.length : Nat) : Int) ≤ 8 by omega), if_neg (by decide)]
    refine ⟨by decide, fun c hc => ?_⟩
    have hc0 : H c = none := by
      cases q : H c with
      | none => rfl
      | some o => rw [e1 _ _ q] at hc; cases hc
    have e2 := e1.trans (same_upd (o := .lst []) hc)
    have at2 := upd_same (H := H1) (a := c) (o := .lst [])
    generalize upd H1 c (.lst []) = H2 at e2 at2 ⊢
    refine ⟨l, xs, e2 _ _ hp, loop_goes goes_enum (fun σ H' => ∃ o2 o3 o4 o5 acc, σ = [some (V.ref p), some (V.ref c), o2, o3, o4, o5] ∧ Same H H' ∧ H' c = some (.lst acc) ∧ CleansV a.C_Frac H' acc rs)
      (fun i σ H' => ∃ o2 o3 o4 o5 acc, σ = [some (V.ref p), some (V.ref c), o2, o3, o4, o5] ∧ Same H H' ∧ H' c = some (.lst acc) ∧ acc.length = i ∧ CleansV a.C_Frac H' acc (rs.take i))
      ⟨none, none, none, none, [], rfl, e2, at2, rfl, trivial⟩ (fun i σ H' _ ⟨_, _, _, _, _, _, e, _⟩ => e _ _ hp) ?_ (fun σ H' ⟨o2, o3, o4, o5, acc, q1, q2, q3, _, q4⟩ => ⟨o2, o3, o4, o5, acc, q1, q2, q3, by rw [len, List.take_length] at q4; exact q4⟩) ?_⟩
    · rintro bk hbk i y σ H3 H3' hi ⟨o2, o3, o4, o5, acc, rfl, e3, a3, l3, c3⟩ ⟨t, z, rfl, ht, rfl, hz⟩
      obtain ⟨r, hr1, rv⟩ := raw.at hz
      have te := same_upd (o := .tup [.int (i : Nat), z]) ht
      have e4 := e3.trans te
      walk_at "rd"
      refine ⟨false, _, rfl, rfl, _, _, rfl, _, _, rfl, rfl, ?_⟩
      have seq : SqL K (upd H3 t (.tup [.int (i : Nat), z])) p xs ∨ SqT K (upd H3 t (.tup [.int (i : Nat), z])) p xs := by
        cases l with
        | true => exact .inl (SqL.of (e4 _ _ hp))
        | false => exact .inr (SqT.of (e4 _ _ hp))
      refine ⟨_, seq, z, _, r, rfl, rv.same e4, by rw [len]; exact right r (List.mem_of_getElem? hr1), fun v' H5 e5 cl => ?_⟩
      have nn : ¬ v' = V.non := by
        obtain ⟨q, rfl, _⟩ := cl
        exact fun z => nomatch z
      show (if v' = V.non then _ else _)
      rw [if_neg nn]
      simp only [tBM, rAppend]
      walk_at "rd"
      have a5 := e5 _ _ (te _ _ a3)
      refine ⟨.inl ⟨rfl, _, SqL.of a5⟩, acc, a5, small1000 (by omega), fun b o hb => ?_, by rw [List.length_append, l3]; rfl, ?_⟩
      · rw [upd_ne (ne_of_none hb hc0)]
        exact e5 _ _ (e4 _ _ hb)
      · rw [List.take_add_one, hr1]
        exact CleansV.app (CleansV.upd a5 ((c3.same te).same e5)) ⟨cl.upd a5, trivial⟩
    · rintro σ H3 ⟨o2, o3, o4, o5, acc, rfl, e3, a3, c3⟩
      walk_at "rd"
      refine ⟨c, acc, rs, rfl, a3, c3, r8, inR_of right, fun H4 e4 => ?_⟩
      have e04 := e3.trans e4
      cases fo : firstOpen (after rs rs.length) with
      | none =>
        show (if (!decide (V.non = V.non)) = true then _ else _)
        rw [if_neg (by simp)]
        refine ⟨acc, .inl ⟨SqL.of (e4 _ _ a3), fun t ht => ?_⟩⟩
        exact kok fo t acc _ (e04.trans (same_upd ht)) upd_same ((c3.same e4).same (same_upd ht))
      | some n =>
        show (if (!decide (V.int (n : Nat) = V.non)) = true then _ else _)
        rw [if_pos (by simp)]
        exact ⟨by decide, fun x hx => es_made hx fun d H' hd e s => kend n fo d H' (by
          cases q : H d with
          | none => rfl
          | some o => rw [e04 _ _ q] at hd; cases hd) e (e04.trans s)⟩
end
end K06
namespace K06
open PySem PySem.Spec PyProof.Rows L2 Own OwnHot OwnExN OwnSeq OwnProj
local macro_rules | `(tactic| walk_at "rd") => `(tactic| simp only [tSeq, tAsg, tOp, tUn, tVar, gName, gSub, rIxL, rIxT, rSetL, tC, rI0, rI, rU, rEq, rNe, tCons, tNil, tCB, tLst, tTup, tIfS, tAnd, tOr, tNot, tAndV, tOrV, tNotV, tTest, tB, tIf, tRet, tDrop, tNext, tBreak, tCont, tCall, tCallS, L2.WE, tMakeS, rLenO, gSeq, gRest, gCons, gNil, tFor_seq, tFor_enumS, tLc_seq, tLc_enumS, tMake, tMkO, sFld, tOst, tNum, tDen, tNever, tBits, rIs, rIsB, clv, isB, rGcd,
  Rd.tFor_rng1, Rd.tFor_rng2, Rd.tFor_list, Rd.tFor_tup, Rd.tLc_list, Rd.tLc_tup, Rd.tLc_rng1, Rd.LcTurn, tYes, wipe, Rd.rLenL, Rd.rLenT, Rd.rIntI, Rd.rIxH, rIxHT, HO.tup.injEq, Rd.at0, Rd.at1, Rd.at2, Rd.at3, Rd.ixN40, Rd.ixN41, Rd.ixN42, Rd.ixN43, Rd.scal_ii, cxOf,
  List.length_cons, List.length_nil, List.length_map, List.map_cons, List.map_nil, upd_same, decide_eq_true_eq, decide_true, decide_false, if_true, if_false, Bool.false_eq_true, Bool.not_true, Bool.not_false, HO.lst.injEq, HO.ins.injEq, ff_inj, List.set_cons_zero, List.set_cons_succ, List.getElem?_cons_zero, List.getElem?_cons_succ, List.append_nil, List.nil_append, List.cons_append, Option.some.injEq, V.ref.injEq, V.int.injEq, V.bl.injEq, List.cons.injEq, exists_eq_left', exists_and_left, exists_eq_left, true_and, and_true, and_self, and_assoc, implies_true, reduceCtorEq, Nat.reduceAdd])

def pf (t : Addr) : List (Str × V) := putF "rows" (.ref t) []
theorem pf_rows (t : Addr) : (pf t).lookup ("rows" : Str) = some (.ref t) := by
  unfold pf
  rw [lookup_putF, if_pos rfl]
section
variable {P : Program} {w : World} {K : PySem.W.Frag} {mg : Str → Option Value} {base : Heap} {a : Ad}
/-! ### Project.__init__ -/
def spProj (PC C EC : Addr) : Sp := fun vs H Q E => ∃ (q dx p : Addr) (l : Bool) (xs : List V) (rs : List RowD), vs = [.ref q, .ref p] ∧ H q = some (.ins PC dx []) ∧ H p = some (sq l xs) ∧ RawsV C H xs rs ∧ 1 ≤ rs.length ∧ rs.length ≤ 8 ∧ (∀ r ∈ rs, Right rs.length r) ∧
  (firstOpen (after rs rs.length) = none → ∀ t ys H1 H', Same H H1 → H1 t = some (.tup ys) → CleansV C H1 ys rs → H' = upd H1 q (.ins PC dx (pf t)) → Q .non H') ∧
  (∀ n, firstOpen (after rs rs.length) = some n → ∀ d H', H d = none → H' d = some (.xd [("state", .int (n : Nat))]) → Same H H' → E (.ref EC) (some d) H')
theorem sc_Project_init : FnScope ["self", "rows"] ["self", "rows"] (defScope s_Project_init) := ⟨rfl, rfl, rfl, by decide +kernel, rfl, by decide +kernel, by decide +kernel⟩
theorem ok_Project_init (T : Txt K mg a) : FnOk P w K mg base (L2N.CX P w) 10 a.a_Project_init a.d_Project_init ["self", "rows"] (spProj a.C_Project a.C_Frac a.C_Endless) := by
  refine okN T.fn_Project_init sc_Project_init (fun vs H Q E h => ?_) (fun cdv A outer s H vs Q E hr h => ?_)
  · obtain ⟨q, dx, p, l, xs, rs, rfl, _⟩ := h
    rfl
  · obtain ⟨q, dx, p, l, xs, rs, rfl, hq, hp, raw, r1, r8, right, kok, kend⟩ := h
    refine ⟨_, (pss_one (ps_fld (pv 0) (pe_callS (ok_clean_rows T) (hr.mono (by decide)) (by rfl) T.mg_clean_rows T.fn_clean_rows.kp T.b_clean_rows (fun σ => L2N.passAt (L2N.takes_of rfl rfl rfl rfl) σ) (pa_cons (pv 1) pa_nil)) rfl)), ?_⟩
    show (_ : TS) _ [some (V.ref q), some (V.ref p)] H
    walk_at "rd"
    refine ⟨p, l, xs, rs, rfl, hp, raw, r1, r8, right, fun fo t ys H1 e1 ht cl => ?_, fun n fo d H' hd e s => kend n fo d H' hd e s⟩
    simp only [e1 _ _ hq]
    walk_at "rd"
    exact ⟨T.cl_Project, T.na_Project_rows, by decide, kok fo t ys H1 _ e1 ht cl rfl⟩
/-! ### __len__, kind -/
def spLen (PC : Addr) : Sp := fun vs H Q _ => ∃ (q dx t : Addr) (ys : List V), vs = [.ref q] ∧ H q = some (.ins PC dx (pf t)) ∧ H t = some (.tup ys) ∧ Q (.int ys.length) H
theorem sc_Project_len : FnScope ["self"] ["self"] (defScope s_Project_len) := ⟨rfl, rfl, rfl, by decide +kernel, rfl, by decide +kernel, by decide +kernel⟩
theorem ok_Project_len (T : Txt K mg a) : FnOk P w K mg base CX0 1 a.a_Project_len a.d_Project_len ["self"] (spLen a.C_Project) := by
  refine T.fn_Project_len.ok sc_Project_len (fun vs H Q E h => ?_) (fun cdv A outer s H vs Q E hr h => ?_)
  · obtain ⟨q, dx, t, ys, rfl, _⟩ := h
    rfl
  · obtain ⟨q, dx, t, ys, rfl, hq, ht, k⟩ := h
    refine ⟨_, (pss_one (ps_ret (pe_callB Rd.call_lenT (by rfl) T.no_len PySem.boot_len (pa_cons (pe_fld (pv 0) rfl) pa_nil)))), ?_⟩
    show (_ : TS) _ [some (V.ref q)] H
    walk_at "rd"
    simp only [tFld]
    walk_at "rd"
    simp only [hq]
    walk_at "rd"
    simp only [pf_rows]
    walk_at "rd"
    exact ⟨T.cl_Project, T.na_Project_rows, ys, SqT.of ht, k⟩
def kindOf : RowD → Str
  | .void => "void"
  | .fin .. => "end"
  | .step .. => "step"
theorem CleanV.kind {C : Addr} {H : Hp} {v : V} {r : RowD} (h : CleanV C H v r) : ∃ p rest, v = .ref p ∧ H p = some (.tup (.str (kindOf r) :: rest)) := by
  obtain ⟨p, rfl, h⟩ := h
  cases r with
  | void => exact ⟨p, _, rfl, h⟩
  | fin n d => exact let ⟨q, dx, a, b⟩ := h; ⟨p, _, rfl, a⟩
  | step n d gs => exact let ⟨q, dx, t, ys, a, _⟩ := h; ⟨p, _, rfl, a⟩
def spKindP (PC C : Addr) : Sp := fun vs H Q _ => ∃ (q dx t : Addr) (ys : List V) (rs : List RowD) (i : Nat) (r : RowD), vs = [.ref q, .int i] ∧ H q = some (.ins PC dx (pf t)) ∧ H t = some (.tup ys) ∧ CleansV C H ys rs ∧ rs[i]? = some r ∧ Q (.str (kindOf r)) H
theorem sc_Project_kind : FnScope ["self", "state"] ["self", "state"] (defScope s_Project_kind) := ⟨rfl, rfl, rfl, by decide +kernel, rfl, by decide +kernel, by decide +kernel⟩
theorem ok_Project_kind (T : Txt K mg a) : FnOk P w K mg base CX0 1 a.a_Project_kind a.d_Project_kind ["self", "state"] (spKindP a.C_Project a.C_Frac) := by
  refine T.fn_Project_kind.ok sc_Project_kind (fun vs H Q E h => ?_) (fun cdv A outer s H vs Q E hr h => ?_)
  · obtain ⟨q, dx, t, ys, rs, i, r, rfl, _⟩ := h
    rfl
  · obtain ⟨q, dx, t, ys, rs, i, r, rfl, hq, ht, cl, hi, k⟩ := h
    refine ⟨_, (pss_one (ps_ret (pe_ix ixHT (pe_ix ixHT (pe_fld (pv 0) rfl) (pv 1) (fun _ _ => rfl)) pe_int (fun _ _ => rfl)))), ?_⟩
    show (_ : TS) _ [some (V.ref q), some (V.int i)] H
    walk_at "rd"
    simp only [tFld]
    walk_at "rd"
    simp only [hq]
    walk_at "rd"
    simp only [pf_rows]
    walk_at "rd"
    obtain ⟨v, hv⟩ : ∃ v, ys[i]? = some v := by
      have z := (List.getElem?_eq_some_iff.mp hi).1
      rw [← cl.len] at z
      exact ⟨_, List.getElem?_eq_getElem z⟩
    obtain ⟨r', hr', cv⟩ := cl.at hv
    rw [hi] at hr'
    cases hr'
    obtain ⟨w', rest, rfl, hw⟩ := cv.kind
    exact ⟨T.cl_Project, T.na_Project_rows, ys, ht, _, atI_nat hv, w', rfl, _, hw, _, Rd.at0, k⟩
end
end K06
namespace K06
open PySem PySem.Spec PyProof.Rows L2 Own OwnExN
local macro_rules | `(tactic| walk_at "rd") => `(tactic| simp only [tSeq, tAsg, tOp, tUn, tVar, gName, gSub, rIxL, rIxT, rSetL, tC, rI0, rI, rU, rEq, rNe, tCons, tNil, tCB, tLst, tTup, tIfS, tAnd, tOr, tNot, tAndV, tOrV, tNotV, tTest, tB, tIf, tRet, tDrop, tNext, tBreak, tCont, tCall, tMake, tMkO, sFld, tOst, tNum, tDen, tNever, tBits, rIs, rIsB, clv, isB, rGcd,
  Rd.tFor_rng1, Rd.tFor_rng2, Rd.tFor_list, Rd.tFor_tup, Rd.tLc_list, Rd.tLc_tup, Rd.tLc_rng1, Rd.LcTurn, tYes, wipe, Rd.rLenL, Rd.rLenT, Rd.rIntI, Rd.rIxH, Rd.at0, Rd.at1, Rd.at2, Rd.at3, Rd.ixN40, Rd.ixN41, Rd.ixN42, Rd.ixN43, Rd.scal_ii, cxOf,
  List.length_cons, List.length_nil, List.length_map, List.map_cons, List.map_nil, upd_same, decide_eq_true_eq, decide_true, decide_false, if_true, if_false, Bool.false_eq_true, Bool.not_true, Bool.not_false, HO.lst.injEq, HO.ins.injEq, ff_inj, List.set_cons_zero, List.set_cons_succ, List.getElem?_cons_zero, List.getElem?_cons_succ, List.append_nil, List.nil_append, List.cons_append, Option.some.injEq, V.ref.injEq, V.int.injEq, V.bl.injEq, List.cons.injEq, exists_eq_left', exists_and_left, exists_eq_left, true_and, and_true, and_self, and_assoc, implies_true, reduceCtorEq, Nat.reduceAdd])

theorem at_int {ns : List Int} {z : Int} (h0 : 0 ≤ z) (h1 : z < (ns.length : Int)) : ∃ y, atI (ns.map V.int) z = some (V.int y) := by
  obtain ⟨j, rfl⟩ : ∃ j : Nat, z = (j : Int) := ⟨z.toNat, by omega⟩
  have hj : j < ns.length := by omega
  exact ⟨ns[j], atI_nat (by rw [List.getElem?_map, List.getElem?_eq_getElem hj]; rfl)⟩
theorem abs_nn (x : Int) : 0 ≤ (if x < 0 then -x else x) := by split <;> omega
theorem abs_eq (x : Int) : (if x < 0 then -x else x) = (x.natAbs : Int) := by split <;> omega
theorem cm_mod {x y m : Int} (h : 0 < m) (h2 : m ≤ 2 ^ 64) : CMul (x % m) y := by
  have a := Int.emod_nonneg x (show m ≠ 0 by omega)
  have b := Int.emod_lt_of_pos x h
  exact .inl ⟨by omega, by omega⟩
/-- what stood stands, but for b -/
def But (b : Addr) (H H' : Hp) : Prop := ∀ p o, p ≠ b → H p = some o → H' p = some o
theorem But.refl (b : Addr) (H : Hp) : But b H H := fun _ _ _ h => h
theorem But.trans {b : Addr} {H H1 H2 : Hp} (x : But b H H1) (y : But b H1 H2) : But b H H2 := fun p o n h => y p o n (x p o n h)
theorem But.free {b : Addr} {H H1 : Hp} (x : But b H H1) {p : Addr} (n : p ≠ b) (h : H1 p = none) : H p = none := by
  cases e : H p with
  | none => rfl
  | some o =>
    rw [x p o n e] at h
    cases h
theorem Same.but {b : Addr} {H H1 : Hp} (x : Same H H1) : But b H H1 := fun p o _ h => x p o h
theorem SqL.but {K : PySem.W.Frag} {H H' : Hp} {b c : Addr} {xs : List V} (h : SqL K H c xs) (n : c ≠ b) (e : But b H H') : SqL K H' c xs := by
  rcases h with (h | ⟨o, h⟩) | h
  · exact .inl (.inl (e _ _ n h))
  · exact .inl (.inr ⟨o, e _ _ n h⟩)
  · exact .inr h
/-- the law's box: its cells, what is drawn from -/
structure BoxAt (K : PySem.W.Frag) (H : Hp) (b c : Addr) (ns : List Int) : Prop where
  ne : c ≠ b
  len : ns.length ≤ 63
  ob : ∃ n1 n2 n3 : Int, H b = some (.lst [.ref c, .int n1, .int n2, .int n3]) ∧ 0 ≤ n2 ∧ 0 ≤ n3
  cells : SqL K H c (ns.map V.int)
theorem BoxAt.same {K : PySem.W.Frag} {H H' : Hp} {b c : Addr} {ns : List Int} (B : BoxAt K H b c ns) (e : Same H H') : BoxAt K H' b c ns :=
  let ⟨n1, n2, n3, h, p, q⟩ := B.ob
  ⟨B.ne, B.len, ⟨n1, n2, n3, e _ _ h, p, q⟩, e.seq B.cells⟩
theorem BoxAt.ne_new {K : PySem.W.Frag} {H : Hp} {b c : Addr} {ns : List Int} (B : BoxAt K H b c ns) {p : Addr} (h : H p = none) : p ≠ b := fun e => by
  obtain ⟨n1, n2, n3, hb, _⟩ := B.ob
  rw [e, hb] at h
  cases h
section
variable {P : Program} {w : World} {K : PySem.W.Frag} {mg : Str → Option Value} {base : Heap} {a : Ad}
/-! ### _law_box -/
def spBox (K : PySem.W.Frag) : Sp := fun vs H Q _ => ∃ (s : Addr) (ns : List Int), vs = [.ref s] ∧ SqL K H s (ns.map V.int) ∧ ns.length ≤ 63 ∧ ∀ b c H', BoxAt K H' b c ns → Same H H' → H b = none → Q (.ref b) H'
theorem sc_law_box : FnScope ["script", "cell"] ["script"] (defScope s_law_box) := ⟨rfl, rfl, rfl, by decide +kernel, rfl, by decide +kernel, by decide +kernel⟩
theorem ok_law_box (T : Txt K mg a) : FnOk P w K mg base CX0 1 a.a_law_box a.d_law_box ["script"] (spBox K) := by
  refine T.fn_law_box.ok sc_law_box (fun vs H Q E h => ?_) (fun cdv A outer s H vs Q E hr h => ?_)
  · obtain ⟨p, ns, rfl, _⟩ := h
    rfl
  · obtain ⟨p, ns, rfl, hs, hl, k⟩ := h
    refine ⟨_, (pss_one (ps_ret (pe_lst (pa_cons (pe_lc (own := [("cell", 1)]) (by rfl) sc_law_box.nd (pi_list (pv 0)) (blkOk_by (own := [("cell", 1)]) (N := ["script", "cell"]) (sc := defScope s_law_box) (by decide +kernel)) (fun _ _ _ _ _ => pg_name (i := 1) sc_law_box.nd rfl (Or.inl rfl)) (fun _ _ _ _ _ => pts_nil) (fun _ _ _ _ _ => (pe_callTy Rd.call_intI (by rfl) T.no_int (by decide +kernel) (pa_cons (pv 1) pa_nil)))) (pa_cons pe_int (pa_cons pe_int (pa_cons pe_int pa_nil))))))), ?_⟩
    show (_ : TS) _ [some (V.ref p), none] H
    walk_at "rd"
    refine ⟨⟨_, hs⟩, Rd.lcl_list (xs := ns.map V.int) (fun D i H1 => (Same H H1 ∧ H D = none) ∧ H1 D = some (.lst ((ns.take i).map V.int))) (fun D hD => ⟨⟨same_upd hD, hD⟩, upd_same⟩) (fun D i H1 _ p => p.1.1.seq hs) ?_ ?_⟩
    · rintro D i x H1 hx ⟨⟨s1, hD⟩, e1⟩
      obtain ⟨z, hz, rfl⟩ : ∃ z, ns[i]? = some z ∧ x = V.int z := by
        rw [List.getElem?_map] at hx
        cases e : ns[i]? with
        | none => rw [e] at hx; cases hx
        | some z => rw [e] at hx; exact ⟨z, rfl, (Option.some.inj hx).symm⟩
      walk_at "rd"
      refine ⟨_, e1, ?_, fun b o e => ?_, ?_⟩
      · rw [List.length_map, List.length_take]
        exact Nat.lt_of_le_of_lt (Nat.min_le_left _ _) (by have := (List.getElem?_eq_some_iff.mp hz).1; exact small1000 (by omega))
      · rw [upd_ne (ne_of_none e hD)]
        exact s1 _ _ e
      · rw [List.take_add_one, hz, List.map_append]
        exact ⟨hD, rfl⟩
    · rw [List.length_map, List.take_length]
      rintro D H1 _ ⟨⟨s1, hD⟩, e1⟩
      refine ⟨by decide, fun b hb => ?_⟩
      have nbD : D ≠ b := fun e => by rw [← e, e1] at hb; cases hb
      refine k b D _ ⟨nbD, hl, ⟨0, 0, 0, upd_same, Int.le_refl _, Int.le_refl _⟩, SqL.of ((upd_ne nbD).trans e1)⟩ (s1.trans (same_upd hb)) (s1.free hb)
/-! ### _law_draw -/
def spDraw (K : PySem.W.Frag) : Sp := fun vs H Q _ => ∃ (b c : Addr) (ns : List Int) (m : Int), vs = [.ref b, .int m] ∧ BoxAt K H b c ns ∧ 0 < m ∧ m < 1000000000 ∧
  ∀ (d : Int) (H' : Hp), 0 ≤ d → d < m → BoxAt K H' b c ns → (∀ p, p ≠ b → H' p = H p) → Q (.int d) H'
theorem sc_law_draw : FnScope ["box", "limit", "cells", "k", "digit", "cell", "mixed"] ["box", "limit"] (defScope s_law_draw) := ⟨rfl, rfl, rfl, by decide +kernel, rfl, by decide +kernel, by decide +kernel⟩
theorem ok_law_draw (T : Txt K mg a) : FnOk P w K mg base CX0 1 a.a_law_draw a.d_law_draw ["box", "limit"] (spDraw K) := by
  refine T.fn_law_draw.ok sc_law_draw (fun vs H Q E h => ?_) (fun cdv A outer s H vs Q E hr h => ?_)
  · obtain ⟨b, c, ns, m, rfl, _⟩ := h
    rfl
  · obtain ⟨b, c, ns, m, rfl, ⟨hbc, hl, ⟨n1, n2, n3, hb, p2, p3⟩, hc⟩, hm, hm2, k⟩ := h
    refine ⟨_, (pss_cons (ps_set (i := 2) sc_law_draw.nd rfl (Or.inl rfl) (pe_ix Rd.ixH (pv 0) pe_int (fun _ _ => rfl)))
      (pss_cons (ps_asg (pe_op op_add (pe_ix Rd.ixH (pv 0) pe_int (fun _ _ => rfl)) pe_int) (pg_sub (pv 0) pe_int set_list))
      (pss_cons (ps_for PassesOwn.never rfl (pi_range1 (by rfl) T.no_range (pa_cons (pe_callB Rd.call_lenL (by rfl) T.no_len PySem.boot_len (pa_cons (pv 2) pa_nil)) pa_nil)) (pg_name (i := 3) sc_law_draw.nd rfl (Or.inl rfl))
        (pss_one (ps_if (PW.pt (pw_and (pt_cmpR op_eq (pe_ix Rd.ixH (pv 0) pe_int (fun _ _ => rfl)) pe_int (nomark _)) (pw_and1 (pt_cmpR op_lt (pe_ix Rd.ixH (pv 0) pe_int (fun _ _ => rfl)) (pe_callB Rd.call_lenL (by rfl) T.no_len PySem.boot_len (pa_cons (pv 2) pa_nil)) (nomark _))))) (pss_cons (ps_if (pt_cmpR op_ge (pe_callB call_abs (by rfl) T.no_abs (by decide +kernel) (pa_cons (pe_ix ix_list (pv 2) (pe_ix Rd.ixH (pv 0) pe_int (fun _ _ => rfl)) (fun _ _ => rfl)) pa_nil)) (pe_op op_pow pe_int pe_int) (nomark _)) (pss_one (ps_asg (pe_callB call_abs (by rfl) T.no_abs (by decide +kernel) (pa_cons (pe_ix ix_list (pv 2) (pe_ix Rd.ixH (pv 0) pe_int (fun _ _ => rfl)) (fun _ _ => rfl)) pa_nil)) (pg_sub (pv 0) pe_int set_list))) pss_nil)
          (pss_one (ps_asg (pe_op op_add (pe_ix Rd.ixH (pv 0) pe_int (fun _ _ => rfl)) pe_int) (pg_sub (pv 0) pe_int set_list)))) (pss_one ps_break))))
      (pss_cons (ps_if (pt_cmpR op_gt (pe_ix Rd.ixH (pv 0) pe_int (fun _ _ => rfl)) pe_int (nomark _)) (pss_cons (ps_set (i := 4) sc_law_draw.nd rfl (Or.inl rfl) (pe_op op_mod (pe_callTy Rd.call_intI (by rfl) T.no_int (by decide +kernel) (pa_cons (pe_ix Rd.ixH (pv 0) pe_int (fun _ _ => rfl)) pa_nil)) (pv 1)))
        (pss_cons (ps_asg (pe_op op_fdiv (pe_ix Rd.ixH (pv 0) pe_int (fun _ _ => rfl)) (pv 1)) (pg_sub (pv 0) pe_int set_list))
        (pss_one (ps_ret (pv 4))))) pss_nil)
      (pss_cons (ps_set (i := 5) sc_law_draw.nd rfl (Or.inl rfl) pe_int)
      (pss_cons (ps_if (pt_cmpR op_gt (pe_callB Rd.call_lenL (by rfl) T.no_len PySem.boot_len (pa_cons (pv 2) pa_nil)) pe_int (nomark _)) (pss_one (ps_set (i := 5) sc_law_draw.nd rfl (Or.inl rfl) (pe_callB call_abs (by rfl) T.no_abs (by decide +kernel) (pa_cons (pe_ix ix_list (pv 2) (pe_op op_mod (pe_callTy Rd.call_intI (by rfl) T.no_int (by decide +kernel) (pa_cons (pe_ix Rd.ixH (pv 0) pe_int (fun _ _ => rfl)) pa_nil)) (pe_callB Rd.call_lenL (by rfl) T.no_len PySem.boot_len (pa_cons (pv 2) pa_nil))) (fun _ _ => rfl)) pa_nil)))) pss_nil)
      (pss_cons (ps_set (i := 6) sc_law_draw.nd rfl (Or.inl rfl) (pe_op op_mod (pe_callTy Rd.call_intI (by rfl) T.no_int (by decide +kernel) (pa_cons (pe_op op_add (pe_op op_add (pe_op op_mul (pv 5) pe_int) (pe_op op_mul (pe_ix Rd.ixH (pv 0) pe_int (fun _ _ => rfl)) pe_int)) pe_int) pa_nil)) pe_int))
      (pss_cons (ps_set (i := 6) sc_law_draw.nd rfl (Or.inl rfl) (pe_op op_mod (pe_callTy Rd.call_intI (by rfl) T.no_int (by decide +kernel) (pa_cons (pe_op op_add (pe_op op_add (pe_op op_mul (pv 6) (pv 6)) (pe_op op_mul (pe_ix Rd.ixH (pv 0) pe_int (fun _ _ => rfl)) pe_int)) (pv 5)) pa_nil)) pe_int))
      (pss_cons (ps_set (i := 6) sc_law_draw.nd rfl (Or.inl rfl) (pe_op op_mod (pe_callTy Rd.call_intI (by rfl) T.no_int (by decide +kernel) (pa_cons (pe_op op_add (pe_op op_add (pe_op op_mul (pe_op op_mul (pv 6) (pv 6)) pe_int) (pe_op op_fdiv (pv 5) pe_int)) pe_int) pa_nil)) pe_int))
      (pss_one (ps_ret (pe_op op_mod (pe_callTy Rd.call_intI (by rfl) T.no_int (by decide +kernel) (pa_cons (pe_op op_fdiv (pv 6) pe_int) pa_nil)) (pv 1))))))))))))), ?_⟩
    show (_ : TS) _ [some (V.ref b), some (V.int m), none, none, none, none, none] H
    walk_at "rd"
    simp only [hb]
    walk_at "rd"
    have e1 : ∀ a, a ≠ b → (upd H b (.lst [V.ref c, .int (n1 + 1), .int n2, .int n3])) a = H a := fun a ha => upd_ne ha
    refine ⟨_, SqL.but hc hbc fun p o n h => (e1 p n).trans h, ?_⟩
    rw [List.length_map]
    refine ⟨by omega, by omega, ?_⟩
    refine Rd.loop_rngC (fun σ H' => ∃ (x : Option V) (k2 k3 : Int), σ = [some (.ref b), some (.int m), some (.ref c), x, none, none, none] ∧ (∀ a, a ≠ b → H' a = H a) ∧ H' b = some (.lst [.ref c, .int (n1 + 1), .int k2, .int k3]) ∧ 0 ≤ k2 ∧ 0 ≤ k3)
      (fun _ σ H' => ∃ (x : Option V) (k2 k3 : Int), σ = [some (.ref b), some (.int m), some (.ref c), x, none, none, none] ∧ (∀ a, a ≠ b → H' a = H a) ∧ H' b = some (.lst [.ref c, .int (n1 + 1), .int k2, .int k3]) ∧ 0 ≤ k2 ∧ 0 ≤ k3)
      ⟨none, n2, n3, rfl, e1, upd_same, p2, p3⟩ ?_ (fun _ _ z => z) ?_
    · rintro bk hbk i σ H1 hi ⟨x, k2, k3, rfl, e, hb1, q2, q3⟩
      walk_at "rd"
      simp only [hb1]
      walk_at "rd"
      have hc1 : SqL K H1 c (ns.map V.int) := SqL.but hc hbc fun p o n h => (e p n).trans h
      have out : bk [some (V.ref b), some (V.int m), some (V.ref c), some (V.int (0 + ↑i)), none, none, none] H1 := hbk _ _ ⟨_, k2, k3, rfl, e, hb1, q2, q3⟩
      refine ite2 (fun h => ?_) (fun _ => out)
      refine ⟨_, hc1, ?_⟩
      try rw [List.length_map]
      refine ite2 (fun h2 => ?_) (fun _ => out)
      obtain ⟨y, hy⟩ := at_int q3 h2
      refine ⟨_, hc1, _, hy, _, rfl, ⟨by decide, by decide, by decide⟩, ite2 (fun _ => ?_) (fun _ => ?_)⟩
      · refine ⟨_, hc1, _, hy, _, rfl, fun a ha => ?_, abs_nn y, by omega⟩
        rw [upd_ne ha, upd_ne ha, e a ha]
      · refine ⟨fun a ha => ?_, q2, by omega⟩
        rw [upd_ne ha, e a ha]
    · rintro σ H1 ⟨x, k2, k3, rfl, e, hb1, q2, q3⟩
      walk_at "rd"
      simp only [hb1]
      walk_at "rd"
      have hc1 : SqL K H1 c (ns.map V.int) := SqL.but hc hbc fun p o n h => (e p n).trans h
      refine ite2 (fun h => ?_) (fun h => ?_)
      · refine ⟨hm, ⟨hm, by omega⟩, k _ _ (Int.emod_nonneg _ (by omega)) (Int.emod_lt_of_pos _ hm) ⟨hbc, hl, ⟨_, _, _, upd_same, Int.ediv_nonneg (by omega) (by omega), q3⟩, SqL.but hc1 hbc fun p o n h => (upd_ne n).trans h⟩ fun a ha => ?_⟩
        rw [upd_ne ha, e a ha]
      · refine ⟨_, hc1, ?_⟩
        try rw [List.length_map]
        have fin : ∀ z : Int, Q (V.int (z % m)) H1 := fun z => k _ _ (Int.emod_nonneg _ (by omega)) (Int.emod_lt_of_pos _ hm) ⟨hbc, hl, ⟨_, _, _, hb1, q2, q3⟩, hc1⟩ e
        refine ite2 (fun h2 => ?_) (fun h2 => ?_)
        · obtain ⟨y, hy⟩ := at_int (ns := ns) (z := (n1 + 1) % (ns.length : Int)) (Int.emod_nonneg _ (by omega)) (Int.emod_lt_of_pos _ h2)
          refine ⟨_, hc1, by rw [List.length_map]; exact h2, _, hc1, _, by rw [List.length_map]; exact hy, _, rfl, .inr ⟨by decide, by decide⟩, .inr ⟨by decide, by decide⟩, by decide, cm_mod (by decide) (by decide), .inr ⟨by decide, by decide⟩, by decide, cm_mod (by decide) (by decide), .inr ⟨by decide, by decide⟩, ⟨by decide, by decide⟩, by decide, ⟨by decide, by decide⟩, hm, fin _⟩
        · exact ⟨.inr ⟨by decide, by decide⟩, .inr ⟨by decide, by decide⟩, by decide, cm_mod (by decide) (by decide), .inr ⟨by decide, by decide⟩, by decide, cm_mod (by decide) (by decide), .inr ⟨by decide, by decide⟩, ⟨by decide, by decide⟩, by decide, ⟨by decide, by decide⟩, hm, fin _⟩
end
end K06
namespace K06
open PySem PySem.Spec PyProof.Rows L2 Own OwnHot OwnExN OwnSeq
local macro_rules | `(tactic| walk_at "rd") => `(tactic| simp only [tSeq, tAsg, tOp, tUn, tVar, gName, gSub, rIxL, rIxT, rSetL, tC, rI0, rI, rU, rEq, rNe, tCons, tNil, tCB, tLst, tTup, tIfS, tAnd, tOr, tNot, tAndV, tOrV, tNotV, tTest, tB, tIf, tRet, tDrop, tNext, tBreak, tCont, tCall, tCallS, rIsS, tChain, gSeq, gRest, gCons, gNil, tFor_seq, tFor_enumS, tLc_seq, tLc_enumS, rAny, tMake, tMkO, sFld, tOst, tNum, tDen, tNever, tBits, rIs, rIsB, clv, isB, rGcd,
  Rd.tFor_rng1, Rd.tFor_rng2, Rd.tFor_list, Rd.tFor_tup, Rd.tLc_list, Rd.tLc_tup, Rd.tLc_rng1, Rd.LcTurn, tYes, wipe, Rd.rLenL, Rd.rLenT, Rd.rIntI, Rd.rIxH, rIxHT, HO.tup.injEq, Rd.at0, Rd.at1, Rd.at2, Rd.at3, Rd.ixN40, Rd.ixN41, Rd.ixN42, Rd.ixN43, Rd.scal_ii, cxOf,
  List.length_cons, List.length_nil, List.length_map, List.map_cons, List.map_nil, upd_same, decide_eq_true_eq, decide_true, decide_false, if_true, if_false, Bool.false_eq_true, Bool.not_true, Bool.not_false, HO.lst.injEq, HO.ins.injEq, ff_inj, List.set_cons_zero, List.set_cons_succ, List.getElem?_cons_zero, List.getElem?_cons_succ, List.append_nil, List.nil_append, List.cons_append, Option.some.injEq, V.ref.injEq, V.int.injEq, V.bl.injEq, List.cons.injEq, exists_eq_left', exists_and_left, exists_eq_left, true_and, and_true, and_self, and_assoc, implies_true, reduceCtorEq, Nat.reduceAdd])

/-- a statement, then the rest: what stands between them -/
theorem cut {t u : TS} {D : Ends} {σ : L2.St} {H : Hp} (G : L2.St → Hp → Prop) (h : ∀ R : L2.St → Hp → Prop, (∀ σ H, G σ H → R σ H) → t { D with nx := R } σ H) (k : ∀ σ H, G σ H → u D σ H) : tSeq t u D σ H := h (u D) k
theorem But.of {b : Addr} {H H' : Hp} (e : ∀ p, p ≠ b → H' p = H p) : But b H H' := fun p o n h => (e p n).trans h
theorem cpw {x : Int} {n : Nat} (p : 0 ≤ x) (q : x < n) (h : n ≤ 8) : CPow 1 x := ⟨p, by omega, by decide⟩
theorem pw_eq {k : Nat} : (1 : Int) * 2 ^ k = ((2 ^ k : Nat) : Int) := by
  rw [Int.one_mul]
  rfl
theorem pw_lt {x : Int} {n : Nat} (p : 0 ≤ x) (q : x < n) : 2 ^ x.toNat < 2 ^ n := Nat.pow_lt_pow_right (by decide) (by omega)
theorem or_nat {x y : Nat} : Builtin.bitOr (x : Int) (y : Int) = ((x ||| y : Nat) : Int) := by
  rw [bitOr_and, bitAnd_pp (by omega) (by omega), Int.toNat_natCast, Int.toNat_natCast]
  have := nat_or_add_and x y
  omega
theorem or_pos {x y : Nat} (h : 0 < x) : 0 < x ||| y := Nat.lt_of_lt_of_le h Nat.left_le_or
def bit (m s : Nat) : Bool := decide (m / 2 ^ s % 2 = 1)
theorem bit_some {m n : Nat} (m0 : 0 < m) (m1 : m < 2 ^ n) : (List.range n).filter (bit m) ≠ [] := fun z => by
  refine absurd (Nat.eq_of_testBit_eq (x := m) (y := 0) fun i => ?_) (by omega)
  rw [Nat.zero_testBit]
  by_cases h : i < n
  · have e := List.filter_eq_nil_iff.mp z i (List.mem_range.mpr h)
    rw [Nat.testBit_eq_decide_div_mod_eq]
    simpa [bit] using e
  · exact Nat.testBit_lt_two_pow (Nat.lt_of_lt_of_le m1 (Nat.pow_le_pow_right (by decide) (by omega)))
section
variable {P : Program} {w : World} {K : PySem.W.Frag} {mg : Str → Option Value} {base : Heap} {a : Ad}
theorem drw {H : Hp} {b c : Addr} {ns : List Int} {m : Int} {Q : VK} {E : XK} (B : BoxAt K H b c ns) (h0 : 0 < m) (h1 : m < 1000000000) (k : ∀ (d : Int) (H' : Hp), 0 ≤ d → d < m → BoxAt K H' b c ns → But b H H' → Q (.int d) H') : spDraw K [.ref b, .int m] H Q E :=
  ⟨b, c, ns, m, rfl, B, h0, h1, fun d H' p q B' e => k d H' p q B' (But.of e)⟩
/-! ### _law_shape -/
def spShape (K : PySem.W.Frag) : Sp := fun vs H Q _ => ∃ (b c p : Addr) (ns : List Int) (xs : List V), vs = [.ref b, .ref p] ∧ BoxAt K H b c ns ∧ p ≠ b ∧ H p = some (.lst xs) ∧
  ∀ (q : Addr) (l : Bool) (H' : Hp), q ≠ b → (q = p ∨ H q = none) → H' q = some (sq l xs) → BoxAt K H' b c ns → But b H H' → Q (.ref q) H'
theorem sc_law_shape : FnScope ["box", "parts"] ["box", "parts"] (defScope s_law_shape) := ⟨rfl, rfl, rfl, by decide +kernel, rfl, by decide +kernel, by decide +kernel⟩
theorem ok_law_shape (T : Txt K mg a) : FnOk P w K mg base CX0 2 a.a_law_shape a.d_law_shape ["box", "parts"] (spShape K) := by
  refine T.fn_law_shape.ok sc_law_shape (fun vs H Q E h => ?_) (fun cdv A outer s H vs Q E hr h => ?_)
  · obtain ⟨b, c, p, ns, xs, rfl, _⟩ := h
    rfl
  · obtain ⟨b, c, p, ns, xs, rfl, B, np, hp, k⟩ := h
    refine ⟨_, (pss_cons (ps_if (pt_cmpR op_eq (pe_call (ok_law_draw T) (hr.mono (by decide)) (by rfl) T.mg_law_draw T.fn_law_draw.kp T.b_law_draw .nil pass0 (pa_cons (pv 0) (pa_cons pe_int pa_nil))) pe_int (nomark _)) (pss_one (ps_ret (pv 1))) pss_nil)
      (pss_one (ps_ret (pe_callTy call_tuple_of (by rfl) T.no_tuple (by decide +kernel) (pa_cons (pv 1) pa_nil))))), ?_⟩
    show (_ : TS) _ [some (V.ref b), some (V.ref p)] H
    walk_at "rd"
    refine drw B (by decide) (by decide) fun d H1 p1 q1 B1 e1 => ⟨rfl, ite2 (fun _ => k p true H1 np (.inl rfl) (e1 _ _ np hp) B1 e1) (fun _ => ⟨_, .inl ⟨SqL.of (e1 _ _ np hp), fun t ht => ?_⟩⟩)⟩
    exact k t false _ (B1.ne_new ht) (.inr (e1.free (B1.ne_new ht) ht)) upd_same (B1.same (same_upd ht)) (e1.trans (Same.but (same_upd ht)))
/-! ### _law_goals -/
def spLGoals (K : PySem.W.Frag) : Sp := fun vs H Q _ => ∃ (b c : Addr) (ns : List Int) (n st : Nat) (way : Int), vs = [.ref b, .int n, .int st, .int way] ∧ BoxAt K H b c ns ∧ st < n ∧ n ≤ 8 ∧ 0 ≤ way ∧ way < 4 ∧
  ∀ (q : Addr) (gs : List Nat) (H' : Hp), gs ≠ [] → gs.length ≤ n → gs.Pairwise (· < ·) → (∀ g ∈ gs, g < n) → q ≠ b → H' q = some (.lst (gs.map fun g => V.int (g : Nat))) → BoxAt K H' b c ns → But b H H' → Q (.ref q) H'
theorem sc_law_goals : FnScope ["box", "many", "state", "way", "mask"] ["box", "many", "state", "way"] (defScope s_law_goals) := ⟨rfl, rfl, rfl, by decide +kernel, rfl, by decide +kernel, by decide +kernel⟩
theorem ok_law_goals (T : Txt K mg a) : FnOk P w K mg base CX0 2 a.a_law_goals a.d_law_goals ["box", "many", "state", "way"] (spLGoals K) := by
  refine T.fn_law_goals.ok sc_law_goals (fun vs H Q E h => ?_) (fun cdv A outer s H vs Q E hr h => ?_)
  · obtain ⟨b, c, ns, n, st, way, rfl, _⟩ := h
    rfl
  · obtain ⟨b, c, ns, n, st, way, rfl, B, h1, h2, h3, h4, k⟩ := h
    refine ⟨_, (pss_cons (ps_set (i := 4) sc_law_goals.nd rfl (Or.inr rfl) (pe_op op_shl pe_int (pe_call (ok_law_draw T) (hr.mono (by decide)) (by rfl) T.mg_law_draw T.fn_law_draw.kp T.b_law_draw .nil pass0 (pa_cons (pv 0) (pa_cons (pv 1) pa_nil)))))
      (pss_cons (ps_if (PW.pt (pw_and (pt_cmpR op_eq (pv 3) pe_int (nomark _)) (pw_and1 (pt_cmpR op_eq (pe_call (ok_law_draw T) (hr.mono (by decide)) (by rfl) T.mg_law_draw T.fn_law_draw.kp T.b_law_draw .nil pass0 (pa_cons (pv 0) (pa_cons pe_int pa_nil))) pe_int (nomark _))))) (pss_one (ps_set (i := 4) sc_law_goals.nd rfl (Or.inr rfl) (pe_op op_or (pv 4) (pe_op op_shl pe_int (pe_call (ok_law_draw T) (hr.mono (by decide)) (by rfl) T.mg_law_draw T.fn_law_draw.kp T.b_law_draw .nil pass0 (pa_cons (pv 0) (pa_cons (pv 1) pa_nil))))))) pss_nil)
      (pss_cons (ps_if (pt_cmpR op_eq (pv 3) pe_int (nomark _)) (pss_one (ps_set (i := 4) sc_law_goals.nd rfl (Or.inr rfl) (pe_op op_add pe_int (pe_call (ok_law_draw T) (hr.mono (by decide)) (by rfl) T.mg_law_draw T.fn_law_draw.kp T.b_law_draw .nil pass0 (pa_cons (pv 0) (pa_cons (pe_op op_sub (pe_op op_shl pe_int (pv 1)) pe_int) pa_nil)))))) pss_nil)
      (pss_cons (ps_if (pt_cmpR op_gt (pv 3) pe_int (nomark _)) (pss_cons (ps_set (i := 4) sc_law_goals.nd rfl (Or.inr rfl) (pe_op op_shl pe_int (pe_callB (call_min2 rfl) (by rfl) T.no_min (by decide +kernel) (pa_cons (pe_op op_add (pv 2) pe_int) (pa_cons (pe_op op_sub (pv 1) pe_int) pa_nil)))))
        (pss_cons (ps_if (pt_cmpR op_eq (pv 3) pe_int (nomark _)) (pss_one (ps_set (i := 4) sc_law_goals.nd rfl (Or.inr rfl) (pe_op op_shl pe_int (pe_callB (call_max2 rfl) (by rfl) T.no_max (by decide +kernel) (pa_cons (pe_op op_sub (pv 2) pe_int) (pa_cons pe_int pa_nil)))))) pss_nil)
        (pss_one (ps_if (pt_cmpR op_eq (pe_call (ok_law_draw T) (hr.mono (by decide)) (by rfl) T.mg_law_draw T.fn_law_draw.kp T.b_law_draw .nil pass0 (pa_cons (pv 0) (pa_cons pe_int pa_nil))) pe_int (nomark _)) (pss_one (ps_set (i := 4) sc_law_goals.nd rfl (Or.inr rfl) (pe_op op_or (pv 4) (pe_op op_shl pe_int (pe_call (ok_law_draw T) (hr.mono (by decide)) (by rfl) T.mg_law_draw T.fn_law_draw.kp T.b_law_draw .nil pass0 (pa_cons (pv 0) (pa_cons (pv 1) pa_nil))))))) pss_nil)))) pss_nil)
      (pss_one (ps_ret (pe_lc (own := [("state", 2)]) (by rfl) sc_law_goals.nd (pi_range1 (by rfl) T.no_range (pa_cons (pv 1) pa_nil)) (blkOk_by (own := [("state", 2)]) (N := ["box", "many", "state", "way", "mask"]) (sc := defScope s_law_goals) (by decide +kernel)) (fun _ _ _ _ _ => pg_name (i := 2) sc_law_goals.nd rfl (Or.inl rfl)) (fun _ _ _ _ _ => pts_one (pt_cmpR op_eq (pe_op op_mod (pe_callTy Rd.call_intI (by rfl) T.no_int (by decide +kernel) (pa_cons (pe_op op_shr (pv 4) (pv 2)) pa_nil)) pe_int) pe_int (nomark _))) (fun _ _ _ _ _ => (pv 2))))))))), ?_⟩
    show (_ : TS) _ [some (V.ref b), some (V.int n), some (V.int st), some (V.int way), none] H
    refine cut (fun σ H' => ∃ m : Nat, σ = [some (V.ref b), some (V.int n), some (V.int st), some (V.int way), some (.int m)] ∧ 0 < m ∧ m < 2 ^ n ∧ BoxAt K H' b c ns ∧ But b H H') (fun R hR => ?_) (fun σ H' h => ?_)
    · walk_at "rd"
      refine drw B (by omega) (by omega) fun x H1 p1 q1 B1 e1 => ⟨x, rfl, ⟨p1, by omega, by decide⟩, hR _ _ ⟨2 ^ x.toNat, ?_, Nat.pow_pos (by decide), Nat.pow_lt_pow_right (by decide) (by omega), B1, e1⟩⟩
      rw [Int.one_mul]
      rfl
    obtain ⟨m, rfl, m0, m1, B1, e1⟩ := h
    refine cut (fun σ H' => ∃ m : Nat, σ = [some (V.ref b), some (V.int n), some (V.int st), some (V.int way), some (.int m)] ∧ 0 < m ∧ m < 2 ^ n ∧ BoxAt K H' b c ns ∧ But b H H') (fun R hR => ?_) (fun σ H' h => ?_)
    · walk_at "rd"
      refine ite2 (fun _ => drw B1 (by decide) (by decide) fun y H2 _ _ B2 e2 => ⟨rfl, ite2 (fun _ => drw B2 (by omega) (by omega) fun x H3 p3 q3 B3 e3 => ⟨x, rfl, cpw p3 q3 h2, ?_⟩) (fun _ => hR _ _ ⟨m, rfl, m0, m1, B2, e1.trans e2⟩)⟩) (fun _ => hR _ _ ⟨m, rfl, m0, m1, B1, e1⟩)
      rw [pw_eq]
      exact hR _ _ ⟨m ||| 2 ^ x.toNat, by rw [or_nat], or_pos m0, Nat.or_lt_two_pow m1 (pw_lt p3 q3), B3, (e1.trans e2).trans e3⟩
    obtain ⟨m, rfl, m0, m1, B1, e1⟩ := h
    refine cut (fun σ H' => ∃ m : Nat, σ = [some (V.ref b), some (V.int n), some (V.int st), some (V.int way), some (.int m)] ∧ 0 < m ∧ m < 2 ^ n ∧ BoxAt K H' b c ns ∧ But b H H') (fun R hR => ?_) (fun σ H' h => ?_)
    · walk_at "rd"
      have big : (1 : Int) ≤ 1 * 2 ^ (n : Int).toNat - 1 ∧ (1 : Int) * 2 ^ (n : Int).toNat - 1 < 1000000000 ∧ (1 : Int) * 2 ^ (n : Int).toNat - 1 = ((2 ^ n - 1 : Nat) : Int) := by
        rw [Int.toNat_natCast]
        have hn : n = 1 ∨ n = 2 ∨ n = 3 ∨ n = 4 ∨ n = 5 ∨ n = 6 ∨ n = 7 ∨ n = 8 := by omega
        rcases hn with rfl | rfl | rfl | rfl | rfl | rfl | rfl | rfl <;> decide
      refine ite2 (fun _ => ⟨⟨by omega, by omega, by decide⟩, drw B1 (by omega) big.2.1 fun x H2 p2 q2 B2 e2 => ⟨x, rfl, hR _ _ ⟨1 + x.toNat, ?_, by omega, by have := big.2.2; omega, B2, e1.trans e2⟩⟩⟩) (fun _ => hR _ _ ⟨m, rfl, m0, m1, B1, e1⟩)
      rw [show ((1 + x.toNat : Nat) : Int) = 1 + x by omega]
    obtain ⟨m, rfl, m0, m1, B1, e1⟩ := h
    refine cut (fun σ H' => ∃ m : Nat, σ = [some (V.ref b), some (V.int n), some (V.int st), some (V.int way), some (.int m)] ∧ 0 < m ∧ m < 2 ^ n ∧ BoxAt K H' b c ns ∧ But b H H') (fun R hR => ?_) (fun σ H' h => ?_)
    · walk_at "rd"
      have go : ∀ z : Int, 0 ≤ z → z < n → spDraw K [V.ref b, V.int 4] H' (fun x H1 => scal x (V.int 0) = true ∧ if x = V.int 0 then spDraw K [V.ref b, V.int (n : Nat)] H1 (fun y H2 => ∃ x, y = V.int x ∧ CPow 1 x ∧ R [some (V.ref b), some (V.int (n : Nat)), some (V.int (st : Nat)), some (V.int way), some (V.int (Builtin.bitOr (1 * 2 ^ z.toNat) (1 * 2 ^ x.toNat)))] H2) E0 else R [some (V.ref b), some (V.int (n : Nat)), some (V.int (st : Nat)), some (V.int way), some (V.int (1 * 2 ^ z.toNat))] H1) E0 := fun z z0 z1 => by
        refine drw B1 (by decide) (by decide) fun y H2 _ _ B2 e2 => ⟨rfl, ite2 (fun _ => drw B2 (by omega) (by omega) fun x H3 p3 q3 B3 e3 => ⟨x, rfl, cpw p3 q3 h2, ?_⟩) (fun _ => ?_)⟩
        · rw [pw_eq, pw_eq]
          exact hR _ _ ⟨2 ^ z.toNat ||| 2 ^ x.toNat, by rw [or_nat], or_pos (Nat.pow_pos (by decide)), Nat.or_lt_two_pow (pw_lt z0 z1) (pw_lt p3 q3), B3, (e1.trans e2).trans e3⟩
        · rw [pw_eq]
          exact hR _ _ ⟨2 ^ z.toNat, rfl, Nat.pow_pos (by decide), pw_lt z0 z1, B2, e1.trans e2⟩
      have u0 : (0 : Int) ≤ (if (n : Int) - 1 < (st : Int) + 1 then (n : Int) - 1 else (st : Int) + 1) ∧ (if (n : Int) - 1 < (st : Int) + 1 then (n : Int) - 1 else (st : Int) + 1) < n := by split <;> omega
      have u1 : (0 : Int) ≤ (if (0 : Int) > (st : Int) - 1 then 0 else (st : Int) - 1) ∧ (if (0 : Int) > (st : Int) - 1 then 0 else (st : Int) - 1) < n := by split <;> omega
      exact ite2 (fun _ => ⟨cpw u0.1 u0.2 h2, ite2 (fun _ => ⟨cpw u1.1 u1.2 h2, go _ u1.1 u1.2⟩) (fun _ => go _ u0.1 u0.2)⟩) (fun _ => hR _ _ ⟨m, rfl, m0, m1, B1, e1⟩)
    obtain ⟨m, rfl, m0, m1, B1, e1⟩ := h
    walk_at "rd"
    refine ⟨by omega, by omega, Rd.lcl_rng (fun D i H5 => H' D = none ∧ Same H' H5 ∧ H5 D = some (.lst (((List.range i).filter (bit m)).map fun g => V.int (g : Nat)))) (fun D hD => ⟨hD, same_upd hD, upd_same⟩) (fun D i H5 hi ⟨n5, e5, a5⟩ => ?_) (fun D H5 _ ⟨n5, e5, a5⟩ => ?_)⟩
    · walk_at "rd"
      have iq : (0 + (i : Int)).toNat = i := by omega
      have bt : ((m : Int) / 2 ^ i % 2 = 1) = (bit m i = true) := by
        unfold bit
        rw [decide_eq_true_eq]
        have z : (m : Int) / 2 ^ i % 2 = ((m / 2 ^ i % 2 : Nat) : Int) := by
          rw [Int.natCast_emod, Int.natCast_ediv]
          rfl
        rw [z]
        exact propext ⟨fun h => by omega, fun h => by omega⟩
      have il : i < 8 := by omega
      have fl : ((List.range i).filter (bit m)).length < 9 := by
        have := List.length_filter_le (bit m) (List.range i)
        rw [List.length_range] at this
        omega
      refine ⟨by omega, by decide, ?_⟩
      rw [iq, List.range_succ, List.filter_append, List.map_append]
      refine ite2 (fun h => ⟨_, a5, ?_, n5, fun q o hq => ?_, ?_⟩) (fun h => ⟨n5, e5, ?_⟩)
      · rw [List.length_map]
        exact small1000 (by omega)
      · rw [upd_ne (ne_of_none hq n5)]
        exact e5 _ _ hq
      · rw [bt] at h
        rw [List.filter_cons_of_pos h, Int.zero_add]
        rfl
      · rw [bt] at h
        rw [List.filter_cons_of_neg h, List.filter_nil, List.map_nil, List.append_nil]
        exact a5
    · rw [Int.toNat_natCast] at a5
      exact k D _ H5 (bit_some m0 m1) (by have := List.length_filter_le (bit m) (List.range n); rw [List.length_range] at this; exact this) (List.pairwise_lt_range.filter _) (fun g hg => List.mem_range.mp (List.mem_filter.mp hg).1) (B1.ne_new n5) a5 (B1.same e5) (e1.trans (Same.but e5))
end
end K06
namespace K06
open PySem PySem.Spec PyProof.Rows L2
/-! ### which states reach an end -/
inductive Opens (rs : List RowD) : Nat → Prop
  | ends {j : Nat} {r : RowD} (h : rs[j]? = some r) (e : ends r = true) : Opens rs j
  | step {j : Nat} {r : RowD} {g : Int × Int} (h : rs[j]? = some r) (hg : g ∈ goalsOf r) (o : Opens rs g.2.toNat) : Opens rs j
def Le (a b : List Bool) : Prop := ∀ j, a.getD j false = true → b.getD j false = true
theorem turn_ge {rs : List RowD} {bs : List Bool} (hl : bs.length = rs.length) : Le bs (turn rs bs) := fun j h => by
  have jl : j < rs.length := by
    rcases Nat.lt_or_ge j bs.length with a | a
    · omega
    · rw [List.getD_eq_getElem?_getD, List.getElem?_eq_none a] at h; cases h
  rw [List.getD_eq_getElem?_getD, turn_at (List.getElem?_eq_getElem jl), h]
  rfl
def cnt : List Bool → Nat
  | [] => 0
  | b :: bs => (if b = true then 1 else 0) + cnt bs
theorem cnt_le : ∀ bs : List Bool, cnt bs ≤ bs.length
  | [] => Nat.le_refl _
  | b :: bs => by
    have := cnt_le bs
    show (if b = true then 1 else 0) + cnt bs ≤ bs.length + 1
    split <;> omega
theorem cnt_lt : ∀ {a b : List Bool}, a.length = b.length → Le a b → a ≠ b → cnt a < cnt b
  | [], [], _, _, n => absurd rfl n
  | x :: a, y :: b, hl, le, n => by
    have hl' : a.length = b.length := by simpa using hl
    have le' : Le a b := fun j h => le (j + 1) h
    have l0 : x = true → y = true := fun h => le 0 h
    show (if x = true then 1 else 0) + cnt a < (if y = true then 1 else 0) + cnt b
    by_cases e : a = b
    · subst e
      cases x <;> cases y
      · exact absurd rfl n
      · exact Nat.add_lt_add_right (by decide) _
      · exact absurd (l0 rfl) (by decide)
      · exact absurd rfl n
    · have := cnt_lt hl' le' e
      cases x <;> cases y
      · simpa using this
      · show 0 + cnt a < 1 + cnt b; omega
      · exact absurd (l0 rfl) (by decide)
      · show 1 + cnt a < 1 + cnt b; omega
  | [], _ :: _, hl, _, _ => by simp at hl
  | _ :: _, [], hl, _, _ => by simp at hl
theorem cnt_all : ∀ {bs : List Bool}, bs.length ≤ cnt bs → ∀ b ∈ bs, b = true
  | [], _, _, h => by cases h
  | x :: bs, hc, b, hb => by
    have := cnt_le bs
    have hc : bs.length + 1 ≤ (if x = true then 1 else 0) + cnt bs := hc
    have hx : x = true := by
      cases x
      · exfalso
        have hc : bs.length + 1 ≤ 0 + cnt bs := hc
        omega
      · rfl
    subst hx
    have hc : bs.length + 1 ≤ 1 + cnt bs := hc
    rcases List.mem_cons.mp hb with rfl | hb
    · rfl
    · exact cnt_all (by omega) b hb
theorem after_fix {rs : List RowD} : ∀ n, turn rs (after rs n) = after rs n ∨ n ≤ cnt (after rs n)
  | 0 => .inr (Nat.zero_le _)
  | n + 1 => by
    rcases after_fix (rs := rs) n with h | h
    · refine .inl ?_
      show turn rs (turn rs (after rs n)) = turn rs (after rs n)
      rw [h, h]
    · by_cases e : after rs n = turn rs (after rs n)
      · refine .inl ?_
        show turn rs (turn rs (after rs n)) = turn rs (after rs n)
        rw [← e, ← e]
      · have := cnt_lt (by rw [after_len, turn_len]) (turn_ge (after_len n)) e
        exact .inr (show n + 1 ≤ cnt (turn rs (after rs n)) by omega)
theorem fixed {rs : List RowD} : turn rs (after rs rs.length) = after rs rs.length := by
  rcases after_fix (rs := rs) rs.length with h | h
  · exact h
  · have al := cnt_all (by rw [after_len]; exact h)
    refine List.ext_getElem (by rw [turn_len, after_len]) fun j h1 h2 => ?_
    have z := turn_ge (after_len (rs := rs) rs.length) j (by rw [List.getD_eq_getElem?_getD, List.getElem?_eq_getElem h2]; exact al _ (List.getElem_mem h2))
    rw [List.getD_eq_getElem?_getD, List.getElem?_eq_getElem h1] at z
    rw [al _ (List.getElem_mem h2)]
    exact z
theorem opens_fix {rs : List RowD} {bs : List Bool} (he : ∀ j r, rs[j]? = some r → ends r = true → bs.getD j false = true) (hf : turn rs bs = bs) {j : Nat} (o : Opens rs j) : bs.getD j false = true := by
  induction o with
  | ends h e => exact he _ _ h e
  | @step j r g h hg o ih =>
    rw [← hf, List.getD_eq_getElem?_getD, turn_at h]
    have : hit bs (goalsOf r) = true := List.any_eq_true.mpr ⟨g, hg, ih⟩
    rw [this, Bool.or_true]
    rfl
theorem after_sound {rs : List RowD} : ∀ n j, (after rs n).getD j false = true → Opens rs j
  | 0, j, h => by
    have h : (rs.map ends).getD j false = true := h
    rw [List.getD_eq_getElem?_getD, List.getElem?_map] at h
    cases e : rs[j]? with
    | none => rw [e] at h; cases h
    | some r => rw [e] at h; exact .ends e h
  | n + 1, j, h => by
    have h : (turn rs (after rs n)).getD j false = true := h
    cases e : rs[j]? with
    | none =>
      rw [List.getD_eq_getElem?_getD, List.getElem?_eq_none (by rw [turn_len]; exact List.getElem?_eq_none_iff.mp e)] at h
      cases h
    | some r =>
      rw [List.getD_eq_getElem?_getD, turn_at e] at h
      have h : ((after rs n).getD j false || hit (after rs n) (goalsOf r)) = true := h
      rcases Bool.or_eq_true_iff.mp h with a | a
      · exact after_sound n j a
      · obtain ⟨g, hg, hb⟩ := List.any_eq_true.mp a
        exact .step e hg (after_sound n _ hb)
/-- what stands behind as many turns as there are states -/
theorem after_opens {rs : List RowD} {j : Nat} : (after rs rs.length).getD j false = true ↔ Opens rs j :=
  ⟨after_sound _ _, opens_fix (fun j r h e => after_ends h e _) fixed⟩
end K06
namespace K06
open PySem PySem.Spec PyProof.Rows L2 Own OwnHot OwnExN OwnSeq
local macro_rules | `(tactic| walk_at "rd") => `(tactic| simp only [tSeq, tAsg, tOp, tUn, tVar, gName, gSub, rIxL, rIxT, rSetL, tC, rI0, rI, rU, rEq, rNe, tCons, tNil, tCB, tLst, tTup, tIfS, tAnd, tOr, tNot, tAndV, tOrV, tNotV, tTest, tB, tIf, tRet, tDrop, tNext, tBreak, tCont, tCall, tCallS, rIsS, tChain, gSeq, gRest, gCons, gNil, tFor_seq, tFor_enumS, tLc_seq, tLc_enumS, rAny, tMake, tMkO, sFld, tOst, tNum, tDen, tNever, tBits, rIs, rIsB, clv, isB, rGcd,
  Rd.tFor_rng1, Rd.tFor_rng2, Rd.tFor_list, Rd.tFor_tup, Rd.tLc_list, Rd.tLc_tup, Rd.tLc_rng1, Rd.LcTurn, tYes, wipe, Rd.rLenL, Rd.rLenT, Rd.rIntI, Rd.rIxH, rIxHT, HO.tup.injEq, Rd.at0, Rd.at1, Rd.at2, Rd.at3, Rd.ixN40, Rd.ixN41, Rd.ixN42, Rd.ixN43, Rd.scal_ii, cxOf,
  List.length_cons, List.length_nil, List.length_map, List.map_cons, List.map_nil, upd_same, decide_eq_true_eq, decide_true, decide_false, if_true, if_false, Bool.false_eq_true, Bool.not_true, Bool.not_false, HO.lst.injEq, HO.ins.injEq, ff_inj, List.set_cons_zero, List.set_cons_succ, List.getElem?_cons_zero, List.getElem?_cons_succ, List.append_nil, List.nil_append, List.cons_append, Option.some.injEq, V.ref.injEq, V.int.injEq, V.bl.injEq, List.cons.injEq, exists_eq_left', exists_and_left, exists_eq_left, true_and, and_true, and_self, and_assoc, implies_true, reduceCtorEq, Nat.reduceAdd])

/-- the law's own rows: tuples, a step's goals a list of tuples -/
def LawV (H : Hp) (v : V) (r : RowD) : Prop := ∃ p, v = .ref p ∧ match r with
  | .void => H p = some (.tup [.str "void"])
  | .fin n d => H p = some (.tup [.str "end", .int n]) ∧ d = 1
  | .step n d gs => ∃ q ys, H p = some (.tup [.str "step", .int n, .ref q]) ∧ d = 1 ∧ H q = some (.lst ys) ∧ TupV H ys gs
def LawsV (H : Hp) : List V → List RowD → Prop
  | [], [] => True
  | v :: vs, r :: rs => LawV H v r ∧ LawsV H vs rs
  | _, _ => False
theorem LawV.same {H H' : Hp} {v : V} {r : RowD} (e : Same H H') (h : LawV H v r) : LawV H' v r := by
  obtain ⟨p, rfl, h⟩ := h
  cases r with
  | void => exact ⟨p, rfl, e _ _ h⟩
  | fin n d => exact ⟨p, rfl, e _ _ h.1, h.2⟩
  | step n d gs => exact let ⟨q, ys, a, b, c, z⟩ := h; ⟨p, rfl, q, ys, e _ _ a, b, e _ _ c, z.same e⟩
theorem LawsV.len {H : Hp} : ∀ {vs : List V} {rs : List RowD}, LawsV H vs rs → vs.length = rs.length
  | [], [], _ => rfl
  | _ :: _, _ :: _, h => congrArg (· + 1) h.2.len
  | [], _ :: _, h => h.elim
  | _ :: _, [], h => h.elim
theorem LawsV.at {H : Hp} : ∀ {xs : List V} {rs : List RowD} {i : Nat} {x : V}, LawsV H xs rs → xs[i]? = some x → ∃ r, rs[i]? = some r ∧ LawV H x r
  | _ :: _, r :: _, 0, _, h, e => ⟨r, rfl, by cases Option.some.inj e; exact h.1⟩
  | _ :: _, _ :: _, i + 1, _, h, e => LawsV.at (i := i) h.2 e
  | [], [], _, _, _, e => by cases e
  | [], _ :: _, _, _, h, _ => h.elim
  | _ :: _, [], _, _, h, _ => h.elim
theorem LawV.head {H : Hp} {v : V} {r : RowD} (h : LawV H v r) : ∃ p wd rest, v = .ref p ∧ H p = some (.tup (.str wd :: rest)) ∧ (!decide (V.str wd = V.str "step")) = ends r := by
  obtain ⟨p, rfl, h⟩ := h
  cases r with
  | void => exact ⟨p, _, _, rfl, h, by decide +kernel⟩
  | fin n d => exact ⟨p, _, _, rfl, h.1, show (!decide (V.str "end" = V.str "step")) = true by decide +kernel⟩
  | step n d gs => exact let ⟨q, ys, a, _⟩ := h; ⟨p, _, _, rfl, a, show (!decide (V.str "step" = V.str "step")) = false by decide +kernel⟩
/-- the marks on the way: at least those of k turns, none too many -/
structure Mk (rs : List RowD) (k : Nat) (bs : List Bool) : Prop where
  len : bs.length = rs.length
  le : Le (after rs k) bs
  sound : ∀ j, bs.getD j false = true → Opens rs j
theorem Mk.done {rs : List RowD} {bs : List Bool} (m : Mk rs rs.length bs) : bs = after rs rs.length := by
  refine List.ext_getElem (by rw [m.len, after_len]) fun j h1 h2 => ?_
  have a := m.le j
  have b := fun h => after_opens.mpr (m.sound j h)
  simp only [List.getD_eq_getElem?_getD, List.getElem?_eq_getElem h1, List.getElem?_eq_getElem h2, Option.getD_some] at a b
  have a : (after rs rs.length)[j] = true → bs[j] = true := a
  have b : bs[j] = true → (after rs rs.length)[j] = true := b
  cases hx : bs[j] <;> cases hy : (after rs rs.length)[j]
  · rfl
  · rw [a hy] at hx; cases hx
  · rw [b hx] at hy; cases hy
  · rfl
/-- .. and of the next turn those below t -/
structure Mk2 (rs : List RowD) (k t : Nat) (bs : List Bool) : Prop where
  base : Mk rs k bs
  upto : ∀ j, j < t → (turn rs (after rs k)).getD j false = true → bs.getD j false = true
theorem Mk2.turn {rs : List RowD} {k : Nat} {bs : List Bool} (m : Mk2 rs k rs.length bs) : Mk rs (k + 1) bs := ⟨m.base.len, fun j h => m.upto j (by
  have h : (K06.turn rs (after rs k)).getD j false = true := h
  rcases Nat.lt_or_ge j rs.length with a | a
  · exact a
  · rw [List.getD_eq_getElem?_getD, List.getElem?_eq_none (by rw [turn_len]; exact a)] at h; cases h) h, m.base.sound⟩
theorem bool_at {bs : List Bool} {j : Nat} (h : j < bs.length) : atI (bs.map V.bl) (j : Nat) = some (V.bl (bs.getD j false)) := by
  refine atI_nat ?_
  rw [List.getElem?_map, List.getElem?_eq_getElem h, List.getD_eq_getElem?_getD, List.getElem?_eq_getElem h]
  rfl
theorem set_at {bs : List Bool} {t : Nat} (h : t < bs.length) : (bs.set t true).getD t false = true := by
  rw [List.getD_eq_getElem?_getD, List.getElem?_set_self h]
  rfl
theorem set_ge {bs : List Bool} {t j : Nat} (h : bs.getD j false = true) : (bs.set t true).getD j false = true := by
  by_cases e : t = j
  · subst e
    refine set_at ?_
    rcases Nat.lt_or_ge t bs.length with a | a
    · exact a
    · rw [List.getD_eq_getElem?_getD, List.getElem?_eq_none a] at h; cases h
  · rw [List.getD_eq_getElem?_getD, List.getElem?_set_ne e, ← List.getD_eq_getElem?_getD]
    exact h
theorem Mk2.set {rs : List RowD} {k t : Nat} {bs : List Bool} (m : Mk2 rs k t bs) (h : t < bs.length) (o : Opens rs t) : Mk2 rs k t (bs.set t true) :=
  ⟨⟨by rw [List.length_set, m.base.len], fun j z => set_ge (m.base.le j z), fun j z => by
    by_cases e : t = j
    · exact e ▸ o
    · rw [List.getD_eq_getElem?_getD, List.getElem?_set_ne e, ← List.getD_eq_getElem?_getD] at z
      exact m.base.sound j z⟩, fun j hj z => set_ge (m.upto j hj z)⟩
theorem ixN_of {n t : Nat} (h : t < n) : ixN n (t : Int) = some t := by
  unfold ixN
  split <;> first
    | (split <;> first | rfl | (simp; omega))
    | (simp; omega)
section
variable {P : Program} {w : World} {K : PySem.W.Frag} {mg : Str → Option Value} {base : Heap} {a : Ad}
/-! ### _law_first -/
def spLFirst : Sp := fun vs H Q _ => ∃ (p : Addr) (xs : List V) (rs : List RowD), vs = [.ref p] ∧ H p = some (.lst xs) ∧ LawsV H xs rs ∧ rs.length ≤ 8 ∧ InR rs ∧ ∀ H', Same H H' → Q (opt (firstOpen (after rs rs.length))) H'
theorem sc_law_first : FnScope ["rows", "ready", "k", "state", "pair", "row"] ["rows"] (defScope s_law_first) := ⟨rfl, rfl, rfl, by decide +kernel, rfl, by decide +kernel, by decide +kernel⟩
theorem ok_law_first (T : Txt K mg a) : FnOk P w K mg base CX0 1 a.a_law_first a.d_law_first ["rows"] spLFirst := by
  refine T.fn_law_first.ok sc_law_first (fun vs H Q E h => ?_) (fun cdv A outer s H vs Q E hr h => ?_)
  · obtain ⟨p, xs, rs, rfl, _⟩ := h
    rfl
  · obtain ⟨p, xs, rs, rfl, hp, cl, r8, inr, k⟩ := h
    refine ⟨_, (pss_cons (ps_setLc (i := 1) (own := [("row", 5)]) (by rfl) sc_law_first.nd rfl rfl (sw_true rfl rfl rfl (by decide +kernel)) (pi_seq (pv 0)) (blkOk_by (own := [("row", 5)]) (N := ["rows", "ready", "k", "state", "pair", "row"]) (sc := defScope s_law_first) (by decide +kernel)) (fun _ _ _ _ _ => pg_name (i := 5) sc_law_first.nd rfl (Or.inl rfl)) (fun _ _ _ _ _ => pts_nil) (fun _ _ _ _ _ => (pe_cmpR op_ne (pe_ix ixHT (pv 5) pe_int (fun _ _ => rfl)) pe_str (nomark _))))
      (pss_cons (ps_for PassesOwn.never rfl (pi_range1 (by rfl) T.no_range (pa_cons (pe_callB Rd.call_lenL (by rfl) T.no_len PySem.boot_len (pa_cons (pv 0) pa_nil)) pa_nil)) (pg_name (i := 2) sc_law_first.nd rfl (Or.inl rfl))
        (pss_one (ps_for PassesOwn.never rfl (pi_range1 (by rfl) T.no_range (pa_cons (pe_callB Rd.call_lenL (by rfl) T.no_len PySem.boot_len (pa_cons (pv 0) pa_nil)) pa_nil)) (pg_name (i := 3) sc_law_first.nd rfl (Or.inl rfl))
          (pss_one (ps_if (pt_not (pt_val (pe_ix Rd.ixH (pv 1) (pv 3) (fun _ _ => rfl)))) (pss_one (ps_for PassesOwn.never rfl (pi_seq (pe_ix ixHT (pe_ix Rd.ixH (pv 0) (pv 3) (fun _ _ => rfl)) pe_int (fun _ _ => rfl))) (pg_name (i := 4) sc_law_first.nd rfl (Or.inl rfl))
              (pss_one (ps_if (pt_val (pe_ix Rd.ixH (pv 1) (pe_ix ixHT (pv 4) pe_int (fun _ _ => rfl)) (fun _ _ => rfl))) (pss_one (ps_asg pe_bl (pg_sub (pv 1) (pv 3) set_list))) pss_nil)))) pss_nil)))))
      (pss_cons (ps_for PassesOwn.never rfl (pi_range1 (by rfl) T.no_range (pa_cons (pe_callB Rd.call_lenL (by rfl) T.no_len PySem.boot_len (pa_cons (pv 0) pa_nil)) pa_nil)) (pg_name (i := 3) sc_law_first.nd rfl (Or.inl rfl))
        (pss_one (ps_if (pt_not (pt_val (pe_ix Rd.ixH (pv 1) (pv 3) (fun _ _ => rfl)))) (pss_one (ps_ret (pv 3))) pss_nil)))
      (pss_one (ps_ret pe_non))))), ?_⟩
    show (_ : TS) _ [some (V.ref p), none, none, none, none, none] H
    have len := cl.len
    refine cut (fun σ H' => ∃ c, σ = [some (V.ref p), some (V.ref c), none, none, none, none] ∧ H c = none ∧ Same H H' ∧ H' c = some (.lst ((after rs 0).map V.bl))) (fun R hR => ?_) (fun σ H' h => ?_)
    · walk_at "rd"
      refine ⟨true, xs, hp, lcl_goes goes_seq (fun D i H5 => H D = none ∧ Same H H5 ∧ H5 D = some (.lst (((rs.take i).map ends).map V.bl))) (fun D hD => ⟨hD, same_upd hD, upd_same⟩)
        (fun D i H5 _ h => h.2.1 _ _ hp) (fun D i x H5 H5' hi ⟨n5, e5, a5⟩ ⟨eq5, hx⟩ => ?_) (fun D H5 nD ⟨n5, e5, a5⟩ => hR _ _ ⟨D, rfl, nD, e5, by rw [len, List.take_length] at a5; exact a5⟩)⟩
      subst eq5
      obtain ⟨r, hr1, cr⟩ := cl.at hx
      obtain ⟨q, wd, rest, rfl, hq, hw⟩ := (cr.same e5).head
      walk_at "rd"
      simp only [hq]
      walk_at "rd"
      rw [hw]
      refine ⟨rfl, _, a5, ?_, n5, fun b o hb => ?_, ?_⟩
      · rw [List.length_map, List.length_map, List.length_take]
        exact small1000 (by omega)
      · rw [upd_ne (ne_of_none hb n5)]
        exact e5 _ _ hb
      · rw [List.take_add_one, hr1, List.map_append, List.map_append]
        rfl
    obtain ⟨c, rfl, c0, e1, a1⟩ := h
    refine cut (fun σ H' => ∃ o2 o3 o4 o5, σ = [some (V.ref p), some (V.ref c), o2, o3, o4, o5] ∧ Same H H' ∧ H' c = some (.lst ((after rs rs.length).map V.bl))) (fun R hR => ?_) (fun σ H' h => ?_)
    · walk_at "rd"
      refine ⟨xs, SqL.of (e1 _ _ hp), by omega, by omega, ?_⟩
      rw [Int.toNat_natCast, len]
      refine Rd.loop_rngC (fun σ H' => ∃ o2 o3 o4 o5 bs, σ = [some (V.ref p), some (V.ref c), o2, o3, o4, o5] ∧ Same H H' ∧ H' c = some (.lst (bs.map V.bl)) ∧ Mk rs rs.length bs)
        (fun i σ H' => ∃ o2 o3 o4 o5 bs, σ = [some (V.ref p), some (V.ref c), o2, o3, o4, o5] ∧ Same H H' ∧ H' c = some (.lst (bs.map V.bl)) ∧ Mk rs i bs)
        ⟨none, none, none, none, _, rfl, e1, a1, ⟨after_len 0, fun _ h => h, after_sound 0⟩⟩ ?_ (fun _ _ z => z) ?_
      · rintro bk hbk i σ H2 hi ⟨o2, o3, o4, o5, bs, rfl, e2, a2, mk⟩
        walk_at "rd"
        refine ⟨xs, SqL.of (e2 _ _ hp), by omega, by omega, ?_⟩
        rw [Int.toNat_natCast, len]
        refine Rd.loop_rngC (fun σ H' => ∃ o2 o3 o4 o5 bs, σ = [some (V.ref p), some (V.ref c), o2, o3, o4, o5] ∧ Same H H' ∧ H' c = some (.lst (bs.map V.bl)) ∧ Mk rs (i + 1) bs)
          (fun t σ H' => ∃ o2 o3 o4 o5 bs, σ = [some (V.ref p), some (V.ref c), o2, o3, o4, o5] ∧ Same H H' ∧ H' c = some (.lst (bs.map V.bl)) ∧ Mk2 rs i t bs)
          ⟨_, _, _, _, bs, rfl, e2, a2, mk, fun j h => absurd h (Nat.not_lt_zero j)⟩ ?_ (fun σ H' ⟨o2, o3, o4, o5, bs, q, e, a, m⟩ => ⟨o2, o3, o4, o5, bs, q, e, a, m.turn⟩) ?_
        · rintro bk2 hbk2 t σ H3 ht ⟨o2, o3, o4, o5, bs, rfl, e3, a3, m2⟩
          have ix := bool_at (bs := bs) (j := t) (by rw [m2.base.len]; exact ht)
          walk_at "rd"
          rw [Int.zero_add]
          simp only [a3]
          walk_at "rd"
          refine ⟨_, ix, _, rfl, ?_⟩
          cases hb : bs.getD t false with
          | true =>
            rw [if_neg (by decide)]
            exact ⟨e3, bs, rfl, m2.base, fun j hj h => by
              rcases Nat.lt_or_ge j t with a | a
              · exact m2.upto j a h
              · rw [show j = t by omega]; exact hb⟩
          | false =>
            rw [if_pos (by decide)]
            obtain ⟨v, hv⟩ : ∃ v, xs[t]? = some v := ⟨_, List.getElem?_eq_getElem (by omega)⟩
            obtain ⟨r, hr1, cr⟩ := cl.at hv
            cases r with
            | void => rw [m2.base.le t (after_ends hr1 rfl i)] at hb; cases hb
            | fin m d => rw [m2.base.le t (after_ends hr1 rfl i)] at hb; cases hb
            | step m d gs =>
              obtain ⟨p', rfl, q, ys, h1, _, h2, tv⟩ := cr
              have g := inr _ (List.mem_of_getElem? hr1)
              refine ⟨xs, e3 _ _ hp, _, atI_nat hv, p', rfl, _, e3 _ _ h1, _, Rd.at2, q, rfl, true, ys, e3 _ _ h2, loop_goes goes_seq
                (fun σ H' => ∃ o2 o4 o5 bs, σ = [some (V.ref p), some (V.ref c), o2, some (V.int (t : Nat)), o4, o5] ∧ Same H H' ∧ H' c = some (.lst (bs.map V.bl)) ∧ Mk2 rs i (t + 1) bs)
                (fun u σ H' => ∃ o2 o4 o5 bs, σ = [some (V.ref p), some (V.ref c), o2, some (V.int (t : Nat)), o4, o5] ∧ Same H H' ∧ H' c = some (.lst (bs.map V.bl)) ∧ Mk2 rs i t bs ∧ ∀ g ∈ gs.take u, (after rs i).getD g.2.toNat false = true → bs.getD t false = true)
                ⟨_, _, _, bs, rfl, e3, a3, m2, fun g hg => by rw [List.take_zero] at hg; cases hg⟩ (fun u σ H' _ ⟨_, _, _, _, _, e, _⟩ => e _ _ h2) ?_ ?_ ?_⟩
              · rintro bk3 hbk3 u y σ H4 H4' hu ⟨o2, o4, o5, bs, rfl, e4, a4, m4, al⟩ ⟨rfl, hy⟩
                obtain ⟨gg, hgg, q', rfl, hq'⟩ := tv.at hy
                have gin := g.2 gg (List.mem_of_getElem? hgg)
                have ix4 : atI (bs.map V.bl) gg.2 = some (V.bl (bs.getD gg.2.toNat false)) := by
                  have z := bool_at (bs := bs) (j := gg.2.toNat) (by rw [m4.base.len]; omega)
                  rwa [show ((gg.2.toNat : Nat) : Int) = gg.2 by omega] at z
                walk_at "rd"
                simp only [a4, e4 _ _ hq']
                walk_at "rd"
                refine ⟨_, ix4, _, rfl, ?_⟩
                have grow : ∀ {bs' : List Bool}, (∀ g ∈ gs.take u, (after rs i).getD g.2.toNat false = true → bs'.getD t false = true) → ((after rs i).getD gg.2.toNat false = true → bs'.getD t false = true) → ∀ g ∈ gs.take (u + 1), (after rs i).getD g.2.toNat false = true → bs'.getD t false = true := fun a b g hg h => by
                  rw [List.take_add_one, hgg] at hg
                  rcases List.mem_append.mp hg with z | z
                  · exact a g z h
                  · rw [List.mem_singleton.mp z] at h
                    exact b h
                cases hb4 : bs.getD gg.2.toNat false with
                | true =>
                  rw [if_pos rfl]
                  have tl : t < bs.length := by rw [m4.base.len]; exact ht
                  have st : (bs.set t true).getD t false = true := set_at tl
                  refine ⟨t, ixN_of tl, fun b o hq => ?_, bs.set t true, by rw [List.map_set], m4.set tl (.step hr1 (List.mem_of_getElem? hgg) (m4.base.sound _ hb4)), grow (fun _ _ _ => st) (fun _ => st)⟩
                  rw [upd_ne (ne_of_none hq c0)]
                  exact e4 _ _ hq
                | false =>
                  rw [if_neg (by decide)]
                  exact ⟨e4, bs, rfl, m4, grow al (fun h => by rw [m4.base.le _ h] at hb4; cases hb4)⟩
              · rintro σ H4 ⟨o2, o4, o5, bs, q1, q2, q3, m4, al⟩
                refine ⟨o2, o4, o5, bs, q1, q2, q3, m4.base, fun j hj h => ?_⟩
                rcases Nat.lt_or_ge j t with a | a
                · exact m4.upto j a h
                · obtain rfl : j = t := by omega
                  rw [List.getD_eq_getElem?_getD, turn_at hr1] at h
                  have h : ((after rs i).getD j false || hit (after rs i) gs) = true := h
                  rcases Bool.or_eq_true_iff.mp h with z | z
                  · exact m4.base.le j z
                  · obtain ⟨gg, hgg, hz⟩ := List.any_eq_true.mp z
                    exact al gg (by rw [tv.len, List.take_length]; exact hgg) hz
              · rintro σ H4 ⟨o2, o4, o5, bs, rfl, e4, a4, m4⟩
                exact ⟨_, _, _, _, rfl, e4, bs, a4, m4⟩
        · rintro σ H3 ⟨o2, o3, o4, o5, bs, rfl, e3, a3, m⟩
          exact ⟨_, _, _, _, rfl, e3, bs, a3, m⟩
      · rintro σ H2 ⟨o2, o3, o4, o5, bs, rfl, e2, a2, mk⟩
        rw [mk.done] at a2
        exact hR _ _ ⟨o2, o3, o4, o5, rfl, e2, a2⟩
    obtain ⟨o2, o3, o4, o5, rfl, e2, a2⟩ := h
    walk_at "rd"
    refine ⟨xs, SqL.of (e2 _ _ hp), by omega, by omega, ?_⟩
    rw [Int.toNat_natCast, len]
    refine Rd.loop_rngC (fun σ H' => (∀ b ∈ after rs rs.length, b = true) ∧ Same H H' ∧ ∃ o1 o2 o3 o4 o5, σ = [some (V.ref p), o1, o2, o3, o4, o5])
      (fun j σ H' => (∀ b ∈ (after rs rs.length).take j, b = true) ∧ Same H H' ∧ H' c = some (.lst ((after rs rs.length).map V.bl)) ∧ ∃ o2 o3 o4 o5, σ = [some (V.ref p), some (V.ref c), o2, o3, o4, o5])
      ⟨by simp, e2, a2, _, _, _, _, rfl⟩ ?_ (fun σ H' ⟨al, e, _, o2, o3, o4, o5, q⟩ => ⟨by have z := List.take_length (l := after rs rs.length); rw [after_len] at z; rw [z] at al; exact al, e, _, o2, o3, o4, o5, q⟩) ?_
    · rintro bk hbk j σ H8 hj ⟨al, e8, a8, o2, o3, o4, o5, rfl⟩
      have hj2 : j < (after rs rs.length).length := by rw [after_len]; exact hj
      have ix := mark_at (rs := rs) (n := rs.length) hj
      walk_at "rd"
      rw [Int.zero_add]
      simp only [a8]
      walk_at "rd"
      refine ⟨_, ix, _, rfl, ?_⟩
      have gd : (after rs rs.length).getD j false = (after rs rs.length)[j] := by
        rw [List.getD_eq_getElem?_getD, List.getElem?_eq_getElem hj2]
        rfl
      rw [gd]
      cases hb2 : (after rs rs.length)[j] with
      | false =>
        rw [if_pos (by decide)]
        have z := k _ e8
        have fo : firstOpen (after rs rs.length) = some j := by
          unfold firstOpen
          rw [List.findIdx?_eq_some_iff_getElem]
          refine ⟨hj2, by rw [hb2]; rfl, fun i hi => ?_⟩
          have m : (after rs rs.length)[i] ∈ (after rs rs.length).take j := List.mem_take_iff_getElem.mpr ⟨i, by omega, rfl⟩
          rw [al _ m]
          decide
        rw [fo] at z
        exact z
      | true =>
        rw [if_neg (by decide)]
        refine ⟨fun b hb' => ?_, e8, _, rfl⟩
        rw [List.take_add_one, List.getElem?_eq_getElem hj2, hb2] at hb'
        rcases List.mem_append.mp hb' with m | m
        · exact al b m
        · exact List.mem_singleton.mp m
    · rintro σ H8 ⟨al, e8, o1, o2, o3, o4, o5, rfl⟩
      walk_at "rd"
      have z := k _ e8
      rw [show firstOpen (after rs rs.length) = none by unfold firstOpen; rw [List.findIdx?_eq_none_iff]; intro b hb; rw [al b hb]; rfl] at z
      exact z
end
end K06
namespace K06
open PySem PySem.Spec PyProof.Rows L2 Own OwnHot OwnExN OwnSeq
local macro_rules | `(tactic| walk_at "rd") => `(tactic| simp only [tSeq, tAsg, tOp, tUn, tVar, gName, gSub, rIxL, rIxT, rSetL, tC, rI0, rI, rU, rEq, rNe, tCons, tNil, tCB, tLst, tTup, tIfS, tAnd, tOr, tNot, tAndV, tOrV, tNotV, tTest, tB, tIf, tRet, tDrop, tNext, tBreak, tCont, tCall, tCallS, rIsS, tChain, gSeq, gRest, gCons, gNil, tFor_seq, tFor_enumS, tLc_seq, tLc_enumS, rAny, tMake, tMkO, sFld, tOst, tNum, tDen, tNever, tBits, rIs, rIsB, clv, isB, rGcd,
  Rd.tFor_rng1, Rd.tFor_rng2, Rd.tFor_list, Rd.tFor_tup, Rd.tLc_list, Rd.tLc_tup, Rd.tLc_rng1, Rd.LcTurn, tYes, wipe, Rd.rLenL, Rd.rLenT, Rd.rIntI, Rd.rIxH, rIxHT, HO.tup.injEq, Rd.at0, Rd.at1, Rd.at2, Rd.at3, Rd.ixN40, Rd.ixN41, Rd.ixN42, Rd.ixN43, Rd.scal_ii, cxOf,
  List.length_cons, List.length_nil, List.length_map, List.map_cons, List.map_nil, upd_same, decide_eq_true_eq, decide_true, decide_false, if_true, if_false, Bool.false_eq_true, Bool.not_true, Bool.not_false, HO.lst.injEq, HO.ins.injEq, ff_inj, List.set_cons_zero, List.set_cons_succ, List.getElem?_cons_zero, List.getElem?_cons_succ, List.append_nil, List.nil_append, List.cons_append, Option.some.injEq, V.ref.injEq, V.int.injEq, V.bl.injEq, List.cons.injEq, exists_eq_left', exists_and_left, exists_eq_left, true_and, and_true, and_self, and_assoc, implies_true, reduceCtorEq, Nat.reduceAdd])

/-! ### heaps with one object left out -/
theorem del_upd {H : Hp} {p : Addr} {o : HO} : del (upd H p o) p = del H p := by
  funext q
  by_cases e : q = p
  · subst e
    rw [del_same, del_same]
  · rw [del_ne e, del_ne e, upd_ne e]
theorem del_sub' {H : Hp} {p : Addr} : Same (del H p) H := fun q o h => by
  by_cases e : q = p
  · subst e
    rw [del_same] at h
    cases h
  · rwa [del_ne e] at h
theorem SameDel {H H' : Hp} {p : Addr} (e : Same H H') : Same (del H p) (del H' p) := fun q o h => by
  by_cases n : q = p
  · subst n
    rw [del_same] at h
    cases h
  · rw [del_ne n] at h ⊢
    exact e _ _ h
theorem SameToDel {H H' : Hp} {p : Addr} (e : Same H H') (hp : H p = none) : Same H (L2.del H' p) := fun q o h => by
  have n : q ≠ p := ne_of_none h hp
  rw [del_ne n]
  exact e _ _ h
theorem ButDel {b p : Addr} {H H' : Hp} (e : But b H H') : But b (del H p) (del H' p) := fun q o nb h => by
  by_cases n : q = p
  · subst n
    rw [del_same] at h
    cases h
  · rw [del_ne n] at h ⊢
    exact e _ _ nb h
/-- the box's own object -/
def BoxO (H : Hp) (b c : Addr) : Prop := ∃ n1 n2 n3 : Int, H b = some (.lst [.ref c, .int n1, .int n2, .int n3])
theorem BoxAt.bo {K : PySem.W.Frag} {H : Hp} {b c : Addr} {ns : List Int} (B : BoxAt K H b c ns) : BoxO H b c := let ⟨_, _, _, h, _⟩ := B.ob; ⟨_, _, _, h⟩
theorem BoxO.del {H : Hp} {b c p : Addr} (B : BoxO H b c) (n : b ≠ p) : BoxO (del H p) b c := let ⟨_, _, _, h⟩ := B; ⟨_, _, _, (del_ne n).trans h⟩
theorem TupV.but {H H' : Hp} {b c : Addr} (B : BoxO H b c) (e : But b H H') : ∀ {vs : List V} {gs : List (Int × Int)}, TupV H vs gs → TupV H' vs gs
  | [], [], _ => trivial
  | _ :: _, _ :: _, ⟨⟨q, a, h⟩, r⟩ => ⟨⟨q, a, e _ _ (fun z => by
      obtain ⟨_, _, _, hb⟩ := B
      rw [z, hb] at h
      cases h) h⟩, TupV.but B e r⟩
  | [], _ :: _, h => h.elim
  | _ :: _, [], h => h.elim
theorem LawV.but {H H' : Hp} {b c : Addr} (B : BoxO H b c) (e : But b H H') {v : V} {r : RowD} (h : LawV H v r) : LawV H' v r := by
  obtain ⟨n1, n2, n3, hb⟩ := B
  have ne : ∀ {q : Addr} {xs : List V}, H q = some (.tup xs) → q ≠ b := fun hq z => by rw [z, hb] at hq; cases hq
  obtain ⟨p, rfl, h⟩ := h
  cases r with
  | void => exact ⟨p, rfl, e _ _ (ne h) h⟩
  | fin n d => exact ⟨p, rfl, e _ _ (ne h.1) h.1, h.2⟩
  | step n d gs =>
    obtain ⟨q, ys, a, d1, y, z⟩ := h
    refine ⟨p, rfl, q, ys, e _ _ (ne a) a, d1, e _ _ (fun eq => ?_) y, z.but ⟨n1, n2, n3, hb⟩ e⟩
    rw [eq, hb] at y
    cases Option.some.inj y
    match gs, z with
    | _ :: [], z => exact z.2.elim
    | _ :: _ :: _, z => exact let ⟨q, w, _⟩ := z.2.1; nomatch w
theorem LawsV.but {H H' : Hp} {b c : Addr} (B : BoxO H b c) (e : But b H H') : ∀ {vs : List V} {rs : List RowD}, LawsV H vs rs → LawsV H' vs rs
  | [], [], _ => trivial
  | _ :: _, _ :: _, ⟨a, r⟩ => ⟨a.but B e, LawsV.but B e r⟩
  | [], _ :: _, h => h.elim
  | _ :: _, [], h => h.elim
theorem LawsV.same {H H' : Hp} (e : Same H H') : ∀ {vs : List V} {rs : List RowD}, LawsV H vs rs → LawsV H' vs rs
  | [], [], _ => trivial
  | _ :: _, _ :: _, ⟨a, r⟩ => ⟨a.same e, LawsV.same e r⟩
  | [], _ :: _, h => h.elim
  | _ :: _, [], h => h.elim
theorem LawsV.app {H : Hp} : ∀ {vs ws : List V} {rs ss : List RowD}, LawsV H vs rs → LawsV H ws ss → LawsV H (vs ++ ws) (rs ++ ss)
  | [], _, [], _, _, h => h
  | _ :: _, _, _ :: _, _, ⟨a, r⟩, h => ⟨a, LawsV.app r h⟩
  | [], _, _ :: _, _, h, _ => h.elim
  | _ :: _, _, [], _, h, _ => h.elim
theorem LawsV.set {H : Hp} : ∀ {vs : List V} {rs : List RowD} (i : Nat) {v : V} {r : RowD}, LawsV H vs rs → LawV H v r → LawsV H (vs.set i v) (rs.set i r)
  | [], [], _, _, _, _, _ => trivial
  | _ :: _, _ :: _, 0, _, _, ⟨_, t⟩, h => ⟨h, t⟩
  | _ :: _, _ :: _, i + 1, _, _, ⟨a, t⟩, h => ⟨a, LawsV.set i t h⟩
  | [], _ :: _, _, _, _, h, _ => h.elim
  | _ :: _, [], _, _, _, h, _ => h.elim
/-- the rows in a list that is no part of them -/
def RowsL (H : Hp) (p : Addr) (rs : List RowD) : Prop := ∃ xs, H p = some (.lst xs) ∧ LawsV (del H p) xs rs
theorem RowsL.but {H H' : Hp} {p b c : Addr} {rs : List RowD} (R : RowsL H p rs) (n : p ≠ b) (B : BoxO H b c) (e : But b H H') : RowsL H' p rs := let ⟨xs, h, l⟩ := R; ⟨xs, e _ _ n h, l.but (B.del (Ne.symm n)) (ButDel e)⟩
theorem RowsL.same {H H' : Hp} {p : Addr} {rs : List RowD} (R : RowsL H p rs) (e : Same H H') : RowsL H' p rs := let ⟨xs, h, l⟩ := R; ⟨xs, e _ _ h, l.same (SameDel e)⟩
theorem RowsL.laws {H : Hp} {p : Addr} {rs : List RowD} (R : RowsL H p rs) : ∃ xs, H p = some (.lst xs) ∧ LawsV H xs rs := let ⟨xs, h, l⟩ := R; ⟨xs, h, l.same del_sub'⟩
theorem RowsL.add {H : Hp} {p : Addr} {xs : List V} {rs : List RowD} {v : V} {r : RowD} (l : LawsV (del H p) xs rs) (hv : LawV (del H p) v r) : RowsL (upd H p (.lst (xs ++ [v]))) p (rs ++ [r]) := ⟨_, upd_same, by rw [del_upd]; exact l.app ⟨hv, trivial⟩⟩
theorem RowsL.put {H : Hp} {p : Addr} {xs : List V} {rs : List RowD} {v : V} {r : RowD} (i : Nat) (l : LawsV (del H p) xs rs) (hv : LawV (del H p) v r) : RowsL (upd H p (.lst (xs.set i v))) p (rs.set i r) := ⟨_, upd_same, by rw [del_upd]; exact l.set i hv⟩
theorem But.updn {b p : Addr} {o : HO} {H H' : Hp} (e : But b H H') (h : H p = none) : But b H (upd H' p o) := fun q u n z => (upd_ne (ne_of_none z h)).trans (e q u n z)
theorem BoxAt.upd {K : PySem.W.Frag} {H0 H : Hp} {b c p : Addr} {ns : List Int} {o : HO} (B0 : BoxAt K H0 b c ns) (B : BoxAt K H b c ns) (n : p ≠ b) (e : But b H0 (L2.upd H p o)) : BoxAt K (L2.upd H p o) b c ns :=
  let ⟨n1, n2, n3, h, u, v⟩ := B.ob
  ⟨B.ne, B.len, ⟨n1, n2, n3, (upd_ne (Ne.symm n)).trans h, u, v⟩, SqL.but B0.cells B.ne e⟩
theorem small {n : Nat} (h : n < 1000) : n < sizeLine := Nat.lt_of_lt_of_le h (by decide)
theorem TupV.del {H : Hp} {p : Addr} {xs : List V} (h : H p = some (.lst xs)) : ∀ {vs : List V} {gs : List (Int × Int)}, TupV H vs gs → TupV (L2.del H p) vs gs
  | [], [], _ => trivial
  | _ :: _, _ :: _, ⟨⟨q, a, z⟩, r⟩ => ⟨⟨q, a, (del_ne (fun e => by rw [e, h] at z; cases z)).trans z⟩, TupV.del h r⟩
  | [], _ :: _, h => h.elim
  | _ :: _, [], h => h.elim
theorem rows_add {K : PySem.W.Frag} {H0 H : Hp} {b c p t : Addr} {ns : List Int} {rs : List RowD} {zs : List V} {r : RowD} {n : Int} {i : Nat} (B0 : BoxAt K H0 b c ns) (B : BoxAt K H b c ns) (e : But b H0 H) (h0 : H0 p = none) (np : p ≠ b) (RL : RowsL H p rs) (ht : H t = none)
    (hv : t ≠ p → LawV (del (upd H t (.tup zs)) p) (.ref t) r) (rl : rs.length = i) (i8 : i < 8) (rr : ∀ r ∈ rs, Right n r) (r1 : Right n r) :
    ∃ x, upd H t (.tup zs) p = some (.lst x) ∧ x.length < sizeLine ∧ ∃ x1, RowsL (upd (upd H t (.tup zs)) p (.lst (x ++ [.ref t]))) p x1 ∧ x1.length = i + 1 ∧ (∀ r ∈ x1, Right n r) ∧ BoxAt K (upd (upd H t (.tup zs)) p (.lst (x ++ [.ref t]))) b c ns ∧ But b H0 (upd (upd H t (.tup zs)) p (.lst (x ++ [.ref t]))) := by
  have tp : t ≠ p := fun z => by
    obtain ⟨_, h, _⟩ := RL
    rw [z, h] at ht
    cases ht
  have e4 := same_upd (o := .tup zs) ht
  obtain ⟨xs, hx, lw⟩ := RL.same e4
  have xl := lw.len
  have e5 : But b H0 (upd (upd H t (.tup zs)) p (.lst (xs ++ [.ref t]))) := (e.trans (Same.but e4)).updn h0
  refine ⟨xs, hx, small (by omega), rs ++ [r], RowsL.add lw (hv tp), by rw [List.length_append, rl]; rfl, fun r' hr => ?_, B0.upd (B.same e4) np e5, e5⟩
  rcases List.mem_append.mp hr with z | z
  · exact rr r' z
  · rw [List.mem_singleton.mp z]; exact r1
theorem rows_put {K : PySem.W.Frag} {H0 H : Hp} {b c p t : Addr} {ns : List Int} {rs : List RowD} {zs : List V} {r : RowD} {n : Int} {i : Nat} {z : Int} (B0 : BoxAt K H0 b c ns) (B : BoxAt K H b c ns) (e : But b H0 H) (h0 : H0 p = none) (np : p ≠ b) (RL : RowsL H p rs) (ht : H t = none)
    (hv : t ≠ p → LawV (del (upd H t (.tup zs)) p) (.ref t) r) (hz : z = (i : Nat)) (rl : i < rs.length) (rr : ∀ r ∈ rs, Right n r) (r1 : Right n r) {Q : Hp → Prop}
    (k : ∀ H', RowsL H' p (rs.set i r) → (∀ r' ∈ rs.set i r, Right n r') → BoxAt K H' b c ns → But b H0 H' → Q H') :
    ∃ x, upd H t (.tup zs) p = some (.lst x) ∧ ∃ j, ixN x.length z = some j ∧ Q (upd (upd H t (.tup zs)) p (.lst (x.set j (.ref t)))) := by
  have tp : t ≠ p := fun z => by
    obtain ⟨_, h, _⟩ := RL
    rw [z, h] at ht
    cases ht
  have e4 := same_upd (o := .tup zs) ht
  obtain ⟨xs, hx, lw⟩ := RL.same e4
  have xl := lw.len
  have e5 : But b H0 (upd (upd H t (.tup zs)) p (.lst (xs.set i (.ref t)))) := (e.trans (Same.but e4)).updn h0
  refine ⟨xs, hx, i, by rw [hz]; exact ixN_of (by omega), k _ (RowsL.put i lw (hv tp)) (fun r' hr => ?_) (B0.upd (B.same e4) np e5) e5⟩
  rcases List.mem_or_eq_of_mem_set hr with z | rfl
  · exact rr r' z
  · exact r1
theorem rising_of {n : Int} : ∀ {ws : List (Int × Int)} {gs : List Nat} {z : Int}, ws.map (·.2) = gs.map (fun g => ((g : Nat) : Int)) → gs.Pairwise (· < ·) → (∀ g ∈ gs, z ≤ (g : Int) ∧ (g : Int) < n) → (∀ w ∈ ws, 1 ≤ w.1 ∧ w.1 ≤ 999) → Rising n z ws
  | [], [], _, _, _, _, _ => trivial
  | (u, v) :: ws, g :: gs, z, e, pw, lo, ww => by
    have e := List.cons.inj e
    have hv : v = (g : Int) := e.1
    subst hv
    have pw := List.pairwise_cons.mp pw
    have a := lo g List.mem_cons_self
    have c := ww _ List.mem_cons_self
    exact ⟨c.1, c.2, a.1, by have := a.2; omega, rising_of e.2 pw.2 (fun g' h => ⟨by have := pw.1 g' h; show (g : Int) + 1 ≤ _; omega, (lo g' (List.mem_cons_of_mem _ h)).2⟩) fun w h => ww w (List.mem_cons_of_mem _ h)⟩
section
variable {P : Program} {w : World} {K : PySem.W.Frag} {mg : Str → Option Value} {base : Heap} {a : Ad}
/-! ### _law_rows -/
def spLRows (K : PySem.W.Frag) : Sp := fun vs H Q _ => ∃ (b c : Addr) (ns : List Int) (n : Nat), vs = [.ref b, .int n] ∧ BoxAt K H b c ns ∧ 1 ≤ n ∧ n ≤ 8 ∧
  ∀ (q : Addr) (rs : List RowD) (H' : Hp), q ≠ b → RowsL H' q rs → rs.length = n → (∀ r ∈ rs, Right n r) → BoxAt K H' b c ns → But b H H' → Q (.ref q) H'
theorem sc_law_rows : FnScope ["box", "many", "way", "rows", "state", "shape", "goals", "heavy", "goal"] ["box", "many"] (defScope s_law_rows) := ⟨rfl, rfl, rfl, by decide +kernel, rfl, by decide +kernel, by decide +kernel⟩
theorem ok_law_rows (T : Txt K mg a) : FnOk P w K mg base CX0 3 a.a_law_rows a.d_law_rows ["box", "many"] (spLRows K) := by
  refine T.fn_law_rows.ok sc_law_rows (fun vs H Q E h => ?_) (fun cdv A outer s H vs Q E hr h => ?_)
  · obtain ⟨b, c, ns, n, rfl, _⟩ := h
    rfl
  · obtain ⟨b, c, ns, n, rfl, B, n1, n8, k⟩ := h
    refine ⟨_, (pss_cons (ps_set (i := 2) sc_law_rows.nd rfl (Or.inl rfl) (pe_call (ok_law_draw T) (hr.mono (by decide)) (by rfl) T.mg_law_draw T.fn_law_draw.kp T.b_law_draw .nil pass0 (pa_cons (pv 0) (pa_cons pe_int pa_nil))))
      (pss_cons (ps_set (i := 3) sc_law_rows.nd rfl (Or.inl rfl) (pe_lst pa_nil))
      (pss_cons (ps_for PassesOwn.never rfl (pi_range1 (by rfl) T.no_range (pa_cons (pv 1) pa_nil)) (pg_name (i := 4) sc_law_rows.nd rfl (Or.inl rfl))
        (pss_cons (ps_set (i := 5) sc_law_rows.nd rfl (Or.inl rfl) (pe_call (ok_law_draw T) (hr.mono (by decide)) (by rfl) T.mg_law_draw T.fn_law_draw.kp T.b_law_draw .nil pass0 (pa_cons (pv 0) (pa_cons pe_int pa_nil))))
        (pss_one (ps_if (pt_cmpR op_eq (pv 5) pe_int (nomark _)) (pss_one (ps_expr (pe_bm PySem.F.plainAttrs_list PySem.F.slot_list_append PySem.F.type_list_append mt_append (pv 3) (pa_cons (pe_tup (pa_cons pe_str pa_nil)) pa_nil)))) (pss_one (ps_if (pt_cmpR op_eq (pv 5) pe_int (nomark _)) (pss_one (ps_expr (pe_bm PySem.F.plainAttrs_list PySem.F.slot_list_append PySem.F.type_list_append mt_append (pv 3) (pa_cons (pe_tup (pa_cons pe_str (pa_cons (pe_op op_sub (pe_call (ok_law_draw T) (hr.mono (by decide)) (by rfl) T.mg_law_draw T.fn_law_draw.kp T.b_law_draw .nil pass0 (pa_cons (pv 0) (pa_cons pe_int pa_nil))) pe_int) pa_nil))) pa_nil)))) (pss_cons (ps_set (i := 6) sc_law_rows.nd rfl (Or.inl rfl) (pe_call (ok_law_goals T) (hr.mono (by decide)) (by rfl) T.mg_law_goals T.fn_law_goals.kp T.b_law_goals .nil pass0 (pa_cons (pv 0) (pa_cons (pv 1) (pa_cons (pv 4) (pa_cons (pv 2) pa_nil))))))
            (pss_cons (ps_set (i := 7) sc_law_rows.nd rfl (Or.inr rfl) (pe_op op_add pe_int (pe_op op_mul pe_int (pe_call (ok_law_draw T) (hr.mono (by decide)) (by rfl) T.mg_law_draw T.fn_law_draw.kp T.b_law_draw .nil pass0 (pa_cons (pv 0) (pa_cons pe_int pa_nil))))))
            (pss_one (ps_expr (pe_bm PySem.F.plainAttrs_list PySem.F.slot_list_append PySem.F.type_list_append mt_append (pv 3) (pa_cons (pe_tup (pa_cons pe_str (pa_cons (pe_call (ok_law_draw T) (hr.mono (by decide)) (by rfl) T.mg_law_draw T.fn_law_draw.kp T.b_law_draw .nil pass0 (pa_cons (pv 0) (pa_cons pe_int pa_nil))) (pa_cons (pe_lc (own := [("goal", 8)]) (by rfl) sc_law_rows.nd (pi_seq (pv 6)) (blkOk_by (own := [("goal", 8)]) (N := ["box", "many", "way", "rows", "state", "shape", "goals", "heavy", "goal"]) (sc := defScope s_law_rows) (by decide +kernel)) (fun _ _ _ _ _ => pg_name (i := 8) sc_law_rows.nd rfl (Or.inl rfl)) (fun _ _ _ _ _ => pts_nil) (fun _ _ _ _ _ => (pe_tup (pa_cons (pe_op op_add (pv 7) (pe_call (ok_law_draw T) (hr.mono (by decide)) (by rfl) T.mg_law_draw T.fn_law_draw.kp T.b_law_draw .nil pass0 (pa_cons (pv 0) (pa_cons pe_int pa_nil)))) (pa_cons (pv 8) pa_nil))))) pa_nil)))) pa_nil))))))))))))
      (pss_cons (ps_if (PW.pt (pw_and (pt_cmpR op_eq (pv 2) pe_int (nomark _)) (pw_and1 (pt_cmpR op_eq (pe_call (ok_law_draw T) (hr.mono (by decide)) (by rfl) T.mg_law_draw T.fn_law_draw.kp T.b_law_draw .nil pass0 (pa_cons (pv 0) (pa_cons pe_int pa_nil))) pe_int (nomark _))))) (pss_one (ps_asg (pe_tup (pa_cons pe_str (pa_cons pe_int pa_nil))) (pg_sub (pv 3) (pe_op op_sub (pv 1) pe_int) set_list))) pss_nil)
      (pss_cons (ps_if (PW.pt (pw_and (pt_cmpR op_eq (pv 2) pe_int (nomark _)) (pw_and1 (pt_cmpR op_eq (pe_call (ok_law_draw T) (hr.mono (by decide)) (by rfl) T.mg_law_draw T.fn_law_draw.kp T.b_law_draw .nil pass0 (pa_cons (pv 0) (pa_cons pe_int pa_nil))) pe_int (nomark _))))) (pss_one (ps_asg (pe_tup (pa_cons pe_str pa_nil)) (pg_sub (pv 3) pe_int set_list))) pss_nil)
      (pss_one (ps_ret (pv 3)))))))), ?_⟩
    show (_ : TS) _ [some (V.ref b), some (V.int n), none, none, none, none, none, none, none] H
    refine cut (fun σ H' => ∃ (way : Int), σ = [some (V.ref b), some (V.int n), some (V.int way), none, none, none, none, none, none] ∧ 0 ≤ way ∧ way < 4 ∧ BoxAt K H' b c ns ∧ But b H H') (fun R hR => ?_) (fun σ H' h => ?_)
    · walk_at "rd"
      exact drw B (by decide) (by decide) fun way H1 w0 w4 B1 e1 => hR _ _ ⟨way, rfl, w0, w4, B1, e1⟩
    obtain ⟨way, rfl, w0, w4, B1, e1⟩ := h
    refine cut (fun σ H' => ∃ (p : Addr), σ = [some (V.ref b), some (V.int n), some (V.int way), some (V.ref p), none, none, none, none, none] ∧ BoxAt K H' b c ns ∧ But b H H' ∧ p ≠ b ∧ H p = none ∧ H' p = some (.lst [])) (fun R hR => ?_) (fun σ H' h => ?_)
    · walk_at "rd"
      exact ⟨by decide, fun p hp => hR _ _ ⟨p, rfl, B1.same (same_upd hp), e1.trans (Same.but (same_upd hp)), B1.ne_new hp, e1.free (B1.ne_new hp) hp, upd_same⟩⟩
    obtain ⟨p, rfl, B1, e1, np, hp0, hp⟩ := h
    refine cut (fun σ H' => ∃ o1 o2 o3 o4 o5 rs, σ = [some (V.ref b), some (V.int n), some (V.int way), some (V.ref p), o1, o2, o3, o4, o5] ∧ RowsL H' p rs ∧ rs.length = n ∧ (∀ r ∈ rs, Right n r) ∧ BoxAt K H' b c ns ∧ But b H H') (fun R hR => ?_) (fun σ H' h => ?_)
    · walk_at "rd"
      refine ⟨by omega, by omega, Rd.loop_rng (fun i σ H' => ∃ o1 o2 o3 o4 o5 rs, σ = [some (V.ref b), some (V.int n), some (V.int way), some (V.ref p), o1, o2, o3, o4, o5] ∧ RowsL H' p rs ∧ rs.length = i ∧ (∀ r ∈ rs, Right n r) ∧ BoxAt K H' b c ns ∧ But b H H') ⟨none, none, none, none, none, [], rfl, ⟨[], hp, trivial⟩, rfl, (fun r hr => nomatch hr), B1, e1⟩ ?_ ?_⟩
      · rintro i σ H2 hi ⟨o1, o2, o3, o4, o5, rs, rfl, RL, rl, rr, B2, e2⟩
        walk_at "rd"
        refine drw B2 (by decide) (by decide) fun sh H3 _ _ B3 e3 => ⟨rfl, ?_⟩
        have RL3 := RL.but np B2.bo e3
        have e03 := e2.trans e3
        clear e3 B2 e2 RL
        have i8 : i < 8 := by omega
        refine ite2 (fun _ => ?_) (fun _ => ⟨rfl, ite2 (fun _ => ?_) (fun _ => ?_)⟩)
        · simp only [tBM, rAppend]
          walk_at "rd"
          exact ⟨.inl ⟨rfl, _, SqL.of RL3.laws.choose_spec.1⟩, by decide, fun t ht => rows_add (r := .void) B B3 e03 hp0 np RL3 ht (fun tp => ⟨t, rfl, (del_ne tp).trans upd_same⟩) rl i8 rr trivial⟩
        · simp only [tBM, rAppend]
          walk_at "rd"
          refine ⟨.inl ⟨rfl, _, SqL.of RL3.laws.choose_spec.1⟩, drw B3 (by decide) (by decide) fun x H4 x0 x1 B4 e4 => ⟨x, rfl, by decide, fun t ht => rows_add (r := .fin (x - 9) 1) B B4 (e03.trans e4) hp0 np (RL3.but np B3.bo e4) ht (fun tp => ⟨t, rfl, (del_ne tp).trans upd_same, rfl⟩) rl i8 rr ⟨by omega, by omega, by decide⟩⟩⟩
        · refine ⟨b, c, ns, n, i, way, by rw [Int.zero_add], B3, by omega, n8, w0, w4, fun q gs H4 g1 g2 g3 g4 nq hq B4 e4 => drw B4 (by decide) (by decide) fun x H5 x0 x1 B5 e5 => ⟨x, rfl, .inl ⟨by decide, by decide⟩, ?_⟩⟩
          simp only [tBM, rAppend]
          walk_at "rd"
          have RL5 := (RL3.but np B3.bo e4).but np B4.bo e5
          have e05 := (e03.trans e4).trans e5
          refine ⟨.inl ⟨rfl, _, SqL.of RL5.laws.choose_spec.1⟩, drw B5 (by decide) (by decide) fun co H6 c0 c1 B6 e6 => ?_⟩
          have RL6 := RL5.but np B5.bo e6
          have e06 := e05.trans e6
          have hq6 := e6 _ _ nq (e5 _ _ nq hq)
          clear RL5 e05 B5 B4 e5 e4 RL3 e03 e6 hq
          refine ⟨true, _, hq6, lcl_goes goes_seq (fun D j H' => H6 D = none ∧ But b H6 H' ∧ BoxAt K H' b c ns ∧ ∃ ys ws, H' D = some (.lst ys) ∧ TupV H' ys ws ∧ ws.map (·.2) = (gs.take j).map (fun g => ((g : Nat) : Int)) ∧ ∀ g ∈ ws, 1 ≤ g.1 ∧ g.1 ≤ 999)
            (fun D hD => ⟨hD, Same.but (same_upd hD), B6.same (same_upd hD), [], [], upd_same, trivial, rfl, fun g h => nomatch h⟩) (fun D j H' _ h => h.2.1 _ _ nq hq6) (fun D j y H7 H7' hj ⟨hD, e7, B7, ys, ws, hy, tv, wg, ww⟩ ⟨eq7, hyj⟩ => ?_) (fun D H7 _ ⟨hD, e7, B7, ys, ws, hy, tv, wg, ww⟩ => ?_)⟩
          · subst eq7
            walk_at "rd"
            obtain ⟨g, hg, rfl⟩ : ∃ g : Nat, gs[j]? = some g ∧ y = V.int (g : Nat) := by
              rw [List.getElem?_map] at hyj
              cases z : gs[j]? with
              | none => rw [z] at hyj; cases hyj
              | some g => rw [z] at hyj; exact ⟨g, rfl, (Option.some.inj hyj).symm⟩
            have nD := B6.ne_new hD
            refine drw B7 (by decide) (by decide) fun u H8 u0 u1 B8 e8 => ⟨u, rfl, by decide, fun t ht => ?_⟩
            have et := same_upd (o := .tup [V.int (1 + 99 * x + u), V.int (g : Nat)]) ht
            have hy8 := et _ _ (e8 _ _ nD hy)
            have e9 : But b H6 (upd (upd H8 t (.tup [V.int (1 + 99 * x + u), V.int (g : Nat)])) D (.lst (ys ++ [.ref t]))) := ((e7.trans e8).trans (Same.but et)).updn hD
            have yl : ys.length = ws.length := tv.len
            have wl : ws.length ≤ gs.length := by have := congrArg List.length wg; simp at this; omega
            refine ⟨ys, hy8, small (by omega), hD, e9, B6.upd (B8.same et) nD e9, ws ++ [(1 + 99 * x + u, (g : Int))], TupV.upd hy8 (TupV.app ((tv.but B7.bo e8).same et) ⟨⟨t, rfl, upd_same⟩, trivial⟩), ?_, fun v hv => ?_⟩
            · rw [List.map_append, wg, List.take_add_one, hg, List.map_append]
              rfl
            · rcases List.mem_append.mp hv with z | z
              · exact ww v z
              · rw [List.mem_singleton.mp z]
                exact ⟨by show 1 ≤ 1 + 99 * x + u; omega, by show 1 + 99 * x + u ≤ 999; omega⟩
          · have nD := B6.ne_new hD
            have Dp : D ≠ p := fun z => by
              obtain ⟨_, h, _⟩ := RL6
              rw [z, h] at hD
              cases hD
            rw [List.length_map, List.take_length] at wg
            have wl : ws.length = gs.length := by have := congrArg List.length wg; simpa using this
            have RL7 := RL6.but np B6.bo e7
            obtain ⟨xs7, hx7, _⟩ := RL7
            refine ⟨by decide, fun t ht => rows_add (r := .step co 1 ws) B B7 (e06.trans e7) hp0 np (RL6.but np B6.bo e7) ht (fun tp => ⟨t, rfl, D, ys, (del_ne tp).trans upd_same, rfl, (del_ne Dp).trans (same_upd ht _ _ hy), (tv.same (same_upd ht)).del (same_upd ht _ _ hx7)⟩) rl i8 rr ⟨by omega, by omega, by decide, ?_, by omega, rising_of wg g3 (fun g h => ⟨by omega, by have := g4 g h; omega⟩) ww⟩⟩
            rw [wl]
            exact Nat.pos_of_ne_zero fun z => g1 (List.eq_nil_of_length_eq_zero z)
      · rintro σ H2 ⟨o1, o2, o3, o4, o5, rs, rfl, RL, rl, rr, B2, e2⟩
        exact hR _ _ ⟨o1, o2, o3, o4, o5, rs, rfl, RL, by omega, rr, B2, e2⟩
    obtain ⟨o1, o2, o3, o4, o5, rs, rfl, RL, rl, rr, B2, e2⟩ := h
    refine cut (fun σ H' => ∃ rs, σ = [some (V.ref b), some (V.int n), some (V.int way), some (V.ref p), o1, o2, o3, o4, o5] ∧ RowsL H' p rs ∧ rs.length = n ∧ (∀ r ∈ rs, Right n r) ∧ BoxAt K H' b c ns ∧ But b H H') (fun R hR => ?_) (fun σ H' h => ?_)
    · walk_at "rd"
      refine ite2 (fun _ => drw B2 (by decide) (by decide) fun y H3 _ _ B3 e3 => ⟨rfl, ?_⟩) (fun _ => hR _ _ ⟨rs, rfl, RL, rl, rr, B2, e2⟩)
      have RL3 := RL.but np B2.bo e3
      refine ite2 (fun _ => ⟨by decide, fun t ht => rows_put (r := .fin 5 1) (i := n - 1) B B3 (e2.trans e3) hp0 np RL3 ht (fun tp => ⟨t, rfl, (del_ne tp).trans upd_same, rfl⟩) (by omega) (by omega) rr ⟨by decide, by decide, by decide⟩ fun H4 a b c d => hR _ _ ⟨_, rfl, a, by rw [List.length_set]; exact rl, b, c, d⟩⟩) (fun _ => hR _ _ ⟨rs, rfl, RL3, rl, rr, B3, e2.trans e3⟩)
    obtain ⟨rs, rfl, RL, rl, rr, B2, e2⟩ := h
    walk_at "rd"
    refine ite2 (fun _ => drw B2 (by decide) (by decide) fun y H3 _ _ B3 e3 => ⟨rfl, ?_⟩) (fun _ => k p rs _ np RL rl rr B2 e2)
    have RL3 := RL.but np B2.bo e3
    exact ite2 (fun _ => ⟨by decide, fun t ht => rows_put (r := .void) (i := 0) B B3 (e2.trans e3) hp0 np RL3 ht (fun tp => ⟨t, rfl, (del_ne tp).trans upd_same⟩) (by omega) (by omega) rr trivial fun H4 x y z u => k p _ H4 np x (by rw [List.length_set]; exact rl) y z u⟩) (fun _ => k p rs _ np RL3 rl rr B3 (e2.trans e3))
end
end K06
namespace K06
open PySem PySem.Spec PyProof.Rows L2 Own OwnHot OwnExN OwnSeq
local macro_rules | `(tactic| walk_at "rd") => `(tactic| simp only [tSeq, tAsg, tOp, tUn, tVar, gName, gSub, rIxL, rIxT, rSetL, tC, rI0, rI, rU, rEq, rNe, tCons, tNil, tCB, tLst, tTup, tIfS, tAnd, tOr, tNot, tAndV, tOrV, tNotV, tTest, tB, tIf, tRet, tDrop, tNext, tBreak, tCont, tCall, tCallS, rIsS, tChain, gSeq, gRest, gCons, gNil, tFor_seq, tFor_enumS, tLc_seq, tLc_enumS, rAny, tMake, tMkO, sFld, tOst, tNum, tDen, tNever, tBits, rIs, rIsB, clv, isB, rGcd,
  Rd.tFor_rng1, Rd.tFor_rng2, Rd.tFor_list, Rd.tFor_tup, Rd.tLc_list, Rd.tLc_tup, Rd.tLc_rng1, Rd.LcTurn, tYes, wipe, Rd.rLenL, Rd.rLenT, Rd.rIntI, Rd.rIxH, rIxHT, HO.tup.injEq, Rd.at0, Rd.at1, Rd.at2, Rd.at3, Rd.ixN40, Rd.ixN41, Rd.ixN42, Rd.ixN43, Rd.scal_ii, cxOf,
  List.length_cons, List.length_nil, List.length_map, List.map_cons, List.map_nil, upd_same, decide_eq_true_eq, decide_true, decide_false, if_true, if_false, Bool.false_eq_true, Bool.not_true, Bool.not_false, HO.lst.injEq, HO.ins.injEq, ff_inj, List.set_cons_zero, List.set_cons_succ, List.getElem?_cons_zero, List.getElem?_cons_succ, List.append_nil, List.nil_append, List.cons_append, Option.some.injEq, V.ref.injEq, V.int.injEq, V.bl.injEq, List.cons.injEq, exists_eq_left', exists_and_left, exists_eq_left, true_and, and_true, and_self, and_assoc, implies_true, reduceCtorEq, Nat.reduceAdd])

/-! ### what is handed in -/
theorem sq_ne {l : Bool} {xs ys : List V} (h : xs ≠ ys) : sq l xs ≠ .lst ys := fun e => by
  cases l with
  | true => exact h (HO.lst.inj e)
  | false => cases e
theorem BoxO.ne {H : Hp} {b c q : Addr} {o : HO} (B : BoxO H b c) (h : H q = some o) (n : ∀ n1 n2 n3 : Int, o ≠ .lst [.ref c, .int n1, .int n2, .int n3]) : q ≠ b := fun e => by
  obtain ⟨n1, n2, n3, hb⟩ := B
  rw [e, hb] at h
  exact n n1 n2 n3 (Option.some.inj h).symm
theorem PairsV.but {H H' : Hp} {b c : Addr} (B : BoxO H b c) (e : But b H H') : ∀ {vs : List V} {gs : List (Int × Int)}, PairsV H vs gs → PairsV H' vs gs
  | [], [], _ => trivial
  | _ :: _, _ :: _, ⟨⟨q, l, a, h⟩, r⟩ => ⟨⟨q, l, a, e _ _ (B.ne h fun _ _ _ => sq_ne (by simp)) h⟩, PairsV.but B e r⟩
  | [], _ :: _, h => h.elim
  | _ :: _, [], h => h.elim
theorem PairsV.no_box {H : Hp} {c : Addr} {n1 n2 n3 : Int} {gs : List (Int × Int)} : ¬ PairsV H [.ref c, .int n1, .int n2, .int n3] gs := fun z => by
  match gs, z with
  | [], z => exact z
  | _ :: [], z => exact z.2
  | _ :: _ :: _, z => exact let ⟨q, l, w, _⟩ := z.2.1; nomatch w
theorem RawV.but {C : Addr} {H H' : Hp} {b c : Addr} (B : BoxO H b c) (e : But b H H') {v : V} {r : RowD} (h : RawV C H v r) : RawV C H' v r := by
  obtain ⟨p, l, xs, rfl, hp, h⟩ := h
  have am : ∀ {x : V} {n d : Int}, AmV C H x n d → AmV C H' x n d := fun a => a.imp (fun z => z) fun ⟨p, dx, x, y⟩ => ⟨p, dx, x, e _ _ (B.ne y fun _ _ _ z => by cases z) y⟩
  have ne : p ≠ b := B.ne hp fun n1 n2 n3 => sq_ne fun z => by
    subst z
    cases r with
    | void => cases h
    | fin n d => exact let ⟨x, a, _⟩ := h; by cases a
    | step n d gs => exact let ⟨x, q, l', ys, a, _⟩ := h; by cases a
  refine ⟨p, l, xs, rfl, e _ _ ne hp, ?_⟩
  cases r with
  | void => exact h
  | fin n d => exact let ⟨x, a, y⟩ := h; ⟨x, a, am y⟩
  | step n d gs => exact let ⟨x, q, l', ys, a, y, z, u⟩ := h; ⟨x, q, l', ys, a, am y, e _ _ (B.ne z fun _ _ _ => sq_ne fun f => by subst f; exact PairsV.no_box u) z, u.but B e⟩
theorem RawsV.but {C : Addr} {H H' : Hp} {b c : Addr} (B : BoxO H b c) (e : But b H H') : ∀ {vs : List V} {rs : List RowD}, RawsV C H vs rs → RawsV C H' vs rs
  | [], [], _ => trivial
  | _ :: _, _ :: _, ⟨a, r⟩ => ⟨a.but B e, RawsV.but B e r⟩
  | [], _ :: _, h => h.elim
  | _ :: _, [], h => h.elim
theorem RawsV.same {C : Addr} {H H' : Hp} (e : Same H H') : ∀ {vs : List V} {rs : List RowD}, RawsV C H vs rs → RawsV C H' vs rs
  | [], [], _ => trivial
  | _ :: _, _ :: _, ⟨a, r⟩ => ⟨a.same e, RawsV.same e r⟩
  | [], _ :: _, h => h.elim
  | _ :: _, [], h => h.elim
theorem RawsV.app {C : Addr} {H : Hp} : ∀ {vs ws : List V} {rs ss : List RowD}, RawsV C H vs rs → RawsV C H ws ss → RawsV C H (vs ++ ws) (rs ++ ss)
  | [], _, [], _, _, h => h
  | _ :: _, _, _ :: _, _, ⟨a, r⟩, h => ⟨a, RawsV.app r h⟩
  | [], _, _ :: _, _, h, _ => h.elim
  | _ :: _, _, [], _, h, _ => h.elim
/-- only references stand in the list -/
def Refs (xs : List V) : Prop := ∀ x ∈ xs, ∃ p, x = .ref p
theorem RawsV.refs {C : Addr} {H : Hp} : ∀ {vs : List V} {rs : List RowD}, RawsV C H vs rs → Refs vs
  | [], [], _, x, h => by cases h
  | _ :: _, _ :: _, ⟨⟨p, _, _, a, _⟩, r⟩, x, h => by
    rcases List.mem_cons.mp h with rfl | h
    · exact ⟨p, a⟩
    · exact RawsV.refs r x h
  | [], _ :: _, h, _, _ => h.elim
  | _ :: _, [], h, _, _ => h.elim
theorem PairsV.refs {H : Hp} : ∀ {vs : List V} {gs : List (Int × Int)}, PairsV H vs gs → Refs vs
  | [], [], _, x, h => by cases h
  | _ :: _, _ :: _, ⟨⟨p, _, a, _⟩, r⟩, x, h => by
    rcases List.mem_cons.mp h with rfl | h
    · exact ⟨p, a⟩
    · exact PairsV.refs r x h
  | [], _ :: _, h, _, _ => h.elim
  | _ :: _, [], h, _, _ => h.elim
theorem Refs.no {xs : List V} {v : V} {vs : List V} (h : Refs xs) (n : ∀ p, v ≠ .ref p) : v :: vs ≠ xs := fun e => by
  obtain ⟨p, z⟩ := h v (e ▸ List.mem_cons_self)
  exact n p z
theorem ne_obj {H : Hp} {q o : Addr} {x y : HO} (h : H q = some x) (h' : H o = some y) (n : x ≠ y) : q ≠ o := fun e => by
  rw [e, h'] at h
  exact n (Option.some.inj h).symm
theorem PairsV.move {H H' : Hp} {o : Addr} {acc : List V} (ho : H o = some (.lst acc)) (rf : Refs acc) (e : ∀ q u, q ≠ o → H q = some u → H' q = some u) : ∀ {vs : List V} {gs : List (Int × Int)}, PairsV H vs gs → PairsV H' vs gs
  | [], [], _ => trivial
  | _ :: _, _ :: _, ⟨⟨q, l, a, h⟩, r⟩ => ⟨⟨q, l, a, e _ _ (ne_obj h ho (sq_ne (rf.no fun _ z => nomatch z))) h⟩, PairsV.move ho rf e r⟩
  | [], _ :: _, h => h.elim
  | _ :: _, [], h => h.elim
theorem PairsV.app {H : Hp} : ∀ {vs ws : List V} {gs hs : List (Int × Int)}, PairsV H vs gs → PairsV H ws hs → PairsV H (vs ++ ws) (gs ++ hs)
  | [], _, [], _, _, h => h
  | _ :: _, _, _ :: _, _, ⟨a, r⟩, h => ⟨a, PairsV.app r h⟩
  | [], _, _ :: _, _, h, _ => h.elim
  | _ :: _, _, [], _, h, _ => h.elim
section
variable {P : Program} {w : World} {K : PySem.W.Frag} {mg : Str → Option Value} {base : Heap} {a : Ad}
theorem shp {H : Hp} {b c p : Addr} {ns : List Int} {xs : List V} {Q : VK} {E : XK} (B : BoxAt K H b c ns) (np : p ≠ b) (hp : H p = some (.lst xs))
    (k : ∀ (q : Addr) (l : Bool) (H' : Hp), q ≠ b → (q = p ∨ H q = none) → H' q = some (sq l xs) → BoxAt K H' b c ns → But b H H' → Q (.ref q) H') : spShape K [.ref b, .ref p] H Q E := ⟨b, c, p, ns, xs, rfl, B, np, hp, k⟩
theorem raws_add {C : Addr} {H0 H : Hp} {b c o : Addr} {ns : List Int} {acc : List V} {rs : List RowD} {r : RowD} {v : V} {i : Nat} (B0 : BoxAt K H0 b c ns) (B : BoxAt K H b c ns) (e : But b H0 H) (h0 : H0 o = none) (no : o ≠ b) (ho : H o = some (.lst acc)) (al : acc.length = i) (i8 : i < 8)
    (rv : RawsV C (del H o) acc (rs.take i)) (hr : rs[i]? = some r) (v1 : RawV C (del H o) v r) :
    ∃ x, H o = some (.lst x) ∧ x.length < sizeLine ∧ BoxAt K (upd H o (.lst (x ++ [v]))) b c ns ∧ But b H0 (upd H o (.lst (x ++ [v]))) ∧ (x ++ [v]).length = i + 1 ∧ RawsV C (del (upd H o (.lst (x ++ [v]))) o) (x ++ [v]) (rs.take (i + 1)) := by
  have e5 : But b H0 (upd H o (.lst (acc ++ [v]))) := e.updn h0
  refine ⟨acc, ho, small (by omega), B0.upd B no e5, e5, by rw [List.length_append, al]; rfl, ?_⟩
  rw [del_upd, List.take_add_one, hr]
  exact rv.app ⟨v1, trivial⟩
theorem fresh_ne {H : Hp} {l o q : Addr} {u x : HO} (hl : H l = none) (ho : H o = some u) (qf : q = l ∨ (upd H l x) q = none) : q ≠ o := by
  rcases qf with rfl | z
  · exact fun z => by rw [z, ho] at hl; cases hl
  · exact fun y => by rw [y, same_upd hl _ _ ho] at z; cases z
/-! ### _law_handed -/
def spHanded (K : PySem.W.Frag) (C : Addr) : Sp := fun vs H Q _ => ∃ (b c p : Addr) (ns : List Int) (rs : List RowD), vs = [.ref b, .ref p] ∧ BoxAt K H b c ns ∧ p ≠ b ∧ RowsL H p rs ∧ rs.length ≤ 8 ∧ (∀ r ∈ rs, (goalsOf r).length ≤ 8) ∧
  ∀ (q : Addr) (l : Bool) (zs : List V) (H' : Hp), H' q = some (sq l zs) → RawsV C H' zs rs → BoxAt K H' b c ns → But b H H' → Q (.ref q) H'
theorem sc_law_handed : FnScope ["box", "rows", "out", "row", "p"] ["box", "rows"] (defScope s_law_handed) := ⟨rfl, rfl, rfl, by decide +kernel, rfl, by decide +kernel, by decide +kernel⟩
theorem ok_law_handed (T : Txt K mg a) : FnOk P w K mg base CX0 3 a.a_law_handed a.d_law_handed ["box", "rows"] (spHanded K a.C_Frac) := by
  refine T.fn_law_handed.ok sc_law_handed (fun vs H Q E h => ?_) (fun cdv A outer s H vs Q E hr h => ?_)
  · obtain ⟨b, c, p, ns, rs, rfl, _⟩ := h
    rfl
  · obtain ⟨b, c, p, ns, rs, rfl, B, np, RL, r8, g8, k⟩ := h
    refine ⟨_, (pss_cons (ps_set (i := 2) sc_law_handed.nd rfl (Or.inl rfl) (pe_lst pa_nil))
      (pss_cons (ps_for PassesOwn.never rfl (pi_seq (pv 1)) (pg_name (i := 3) sc_law_handed.nd rfl (Or.inl rfl))
        (pss_one (ps_if (pt_cmpR op_eq (pe_ix ixHT (pv 3) pe_int (fun _ _ => rfl)) pe_str (nomark _)) (pss_one (ps_expr (pe_bm PySem.F.plainAttrs_list PySem.F.slot_list_append PySem.F.type_list_append mt_append (pv 2) (pa_cons (pe_call (ok_law_shape T) (hr.mono (by decide)) (by rfl) T.mg_law_shape T.fn_law_shape.kp T.b_law_shape .nil pass0 (pa_cons (pv 0) (pa_cons (pe_lst (pa_cons pe_str (pa_cons (pe_ix ixHT (pv 3) pe_int (fun _ _ => rfl)) (pa_cons (pe_call (ok_law_shape T) (hr.mono (by decide)) (by rfl) T.mg_law_shape T.fn_law_shape.kp T.b_law_shape .nil pass0 (pa_cons (pv 0) (pa_cons (pe_lc (own := [("p", 4)]) (by rfl) sc_law_handed.nd (pi_seq (pe_ix ixHT (pv 3) pe_int (fun _ _ => rfl))) (blkOk_by (own := [("p", 4)]) (N := ["box", "rows", "out", "row", "p"]) (sc := defScope s_law_handed) (by decide +kernel)) (fun _ _ _ _ _ => pg_name (i := 4) sc_law_handed.nd rfl (Or.inl rfl)) (fun _ _ _ _ _ => pts_nil) (fun _ _ _ _ _ => (pe_call (ok_law_shape T) (hr.mono (by decide)) (by rfl) T.mg_law_shape T.fn_law_shape.kp T.b_law_shape .nil pass0 (pa_cons (pv 0) (pa_cons (pe_lst (pa_cons (pe_ix ixHT (pv 4) pe_int (fun _ _ => rfl)) (pa_cons (pe_ix ixHT (pv 4) pe_int (fun _ _ => rfl)) pa_nil))) pa_nil))))) pa_nil))) pa_nil)))) pa_nil))) pa_nil)))) (pss_one (ps_expr (pe_bm PySem.F.plainAttrs_list PySem.F.slot_list_append PySem.F.type_list_append mt_append (pv 2) (pa_cons (pe_call (ok_law_shape T) (hr.mono (by decide)) (by rfl) T.mg_law_shape T.fn_law_shape.kp T.b_law_shape .nil pass0 (pa_cons (pv 0) (pa_cons (pe_callTy call_list_of (by rfl) T.no_list (by decide +kernel) (pa_cons (pv 3) pa_nil)) pa_nil))) pa_nil)))))))
      (pss_one (ps_ret (pe_call (ok_law_shape T) (hr.mono (by decide)) (by rfl) T.mg_law_shape T.fn_law_shape.kp T.b_law_shape .nil pass0 (pa_cons (pv 0) (pa_cons (pv 2) pa_nil))))))), ?_⟩
    show (_ : TS) _ [some (V.ref b), some (V.ref p), none, none, none] H
    obtain ⟨xs, hp, lw⟩ := RL.laws
    have xl := lw.len
    refine cut (fun σ H' => ∃ (o : Addr), σ = [some (V.ref b), some (V.ref p), some (V.ref o), none, none] ∧ BoxAt K H' b c ns ∧ But b H H' ∧ o ≠ b ∧ H o = none ∧ H' o = some (.lst [])) (fun R hR => ?_) (fun σ H' h => ?_)
    · walk_at "rd"
      exact ⟨by decide, fun p hp => hR _ _ ⟨p, rfl, B.same (same_upd hp), Same.but (same_upd hp), B.ne_new hp, hp, upd_same⟩⟩
    obtain ⟨o, rfl, B1, e1, no, ho0, ho⟩ := h
    refine cut (fun σ H' => ∃ o3 o4 acc, σ = [some (V.ref b), some (V.ref p), some (V.ref o), o3, o4] ∧ BoxAt K H' b c ns ∧ But b H H' ∧ H' o = some (.lst acc) ∧ acc.length = rs.length ∧ RawsV a.C_Frac (del H' o) acc rs) (fun R hR => ?_) (fun σ H' h => ?_)
    · walk_at "rd"
      refine ⟨true, xs, e1 _ _ np hp, loop_goes goes_seq (fun σ H' => ∃ o3 o4 acc, σ = [some (V.ref b), some (V.ref p), some (V.ref o), o3, o4] ∧ BoxAt K H' b c ns ∧ But b H H' ∧ H' o = some (.lst acc) ∧ acc.length = rs.length ∧ RawsV a.C_Frac (del H' o) acc rs)
        (fun i σ H' => ∃ o3 o4 acc, σ = [some (V.ref b), some (V.ref p), some (V.ref o), o3, o4] ∧ BoxAt K H' b c ns ∧ But b H H' ∧ H' o = some (.lst acc) ∧ acc.length = i ∧ RawsV a.C_Frac (del H' o) acc (rs.take i))
        ⟨none, none, [], rfl, B1, e1, ho, rfl, trivial⟩ (fun i σ H' _ ⟨_, _, _, _, _, e, _⟩ => e _ _ np hp) ?_ (fun σ H' ⟨o3, o4, acc, q1, q2, q3, q4, q5, q6⟩ => ⟨o3, o4, acc, q1, q2, q3, q4, by omega, by rw [xl, List.take_length] at q6; exact q6⟩) (fun σ H' z => hR _ _ z)⟩
      rintro bk hbk i y σ H2 H2' hi ⟨o3, o4, acc, rfl, B2, e2, ho2, al, rv⟩ ⟨rfl, hy⟩
      obtain ⟨r, hr1, cr⟩ := lw.at hy
      have cr2 := cr.but B.bo e2
      walk_at "rd"
      have i8 : i < 8 := by omega
      have flat : ∀ {l : Addr} {zs : List V}, H2' l = none → (∀ q l' H4, q ≠ o → H4 q = some (sq l' zs) → RawV a.C_Frac (del H4 o) (.ref q) r) → spShape K [V.ref b, V.ref l] (upd H2' l (HO.lst zs)) (fun x H1 => ∃ x_1, H1 o = some (HO.lst x_1) ∧ x_1.length < sizeLine ∧
          BoxAt K (upd H1 o (HO.lst (x_1 ++ [x]))) b c ns ∧ But b H (upd H1 o (HO.lst (x_1 ++ [x]))) ∧ (x_1 ++ [x]).length = i + 1 ∧ RawsV a.C_Frac (del (upd H1 o (HO.lst (x_1 ++ [x]))) o) (x_1 ++ [x]) (List.take (i + 1) rs)) E0 := fun {l zs} hl mk => by
        have el := same_upd (o := .lst zs) hl
        refine shp (B2.same el) (B2.ne_new hl) upd_same fun q l' H4 nq qf hq B4 e4 => ?_
        exact raws_add B B4 ((e2.trans (Same.but el)).trans e4) ho0 no (e4 _ _ no (el _ _ ho2)) al i8 (((rv.same (SameDel el))).but ((B2.same el).bo.del (Ne.symm no)) (ButDel e4)) hr1 (mk q l' H4 (fresh_ne hl ho2 qf) hq)
      cases r with
      | void =>
        obtain ⟨t, rfl, ht⟩ := cr2
        refine ⟨t, rfl, _, ht, _, Rd.at0, by decide +kernel, ?_⟩
        rw [if_neg (fun z => absurd (V.str.inj z) (by decide +kernel))]
        simp only [tBM, rAppend]
        walk_at "rd"
        exact ⟨.inl ⟨rfl, _, SqL.of ho2⟩, _, .inr (SqT.of ht), fun l hl => flat hl fun q l' H4 nq hq => ⟨q, l', _, rfl, (del_ne nq).trans hq, rfl⟩⟩
      | fin n d =>
        obtain ⟨t, rfl, ht, rfl⟩ := cr2
        refine ⟨t, rfl, _, ht, _, Rd.at0, by decide +kernel, ?_⟩
        rw [if_neg (fun z => absurd (V.str.inj z) (by decide +kernel))]
        simp only [tBM, rAppend]
        walk_at "rd"
        exact ⟨.inl ⟨rfl, _, SqL.of ho2⟩, _, .inr (SqT.of ht), fun l hl => flat hl fun q l' H4 nq hq => ⟨q, l', _, rfl, (del_ne nq).trans hq, V.int n, rfl, .inl ⟨rfl, rfl⟩⟩⟩
      | step n d gs =>
        obtain ⟨t, rfl, q, ys, ht, rfl, hq, tv⟩ := cr2
        have gl : gs.length ≤ 8 := g8 _ (List.mem_of_getElem? hr1)
        have tl := tv.len
        refine ⟨t, rfl, _, ht, _, Rd.at0, by decide +kernel, ?_⟩
        rw [if_pos rfl]
        simp only [tBM, rAppend]
        walk_at "rd"
        refine ⟨.inl ⟨rfl, _, SqL.of ho2⟩, _, ht, _, Rd.at1, _, ht, _, Rd.at2, q, rfl, true, ys, hq, ?_⟩
        have nq : q ≠ b := B2.bo.ne hq fun n1 n2 n3 z => by
          have z := HO.lst.inj z
          subst z
          match gs, tv with
          | _ :: _ :: _, z => exact let ⟨q, w, _⟩ := z.2.1; nomatch w
        refine lcl_goes goes_seq (fun D j H' => H2' D = none ∧ But b H2' H' ∧ BoxAt K H' b c ns ∧ ∃ zs, H' D = some (.lst zs) ∧ PairsV H' zs (gs.take j))
          (fun D hD => ⟨hD, Same.but (same_upd hD), B2.same (same_upd hD), [], upd_same, trivial⟩) (fun D j H' _ h => h.2.1 _ _ nq hq) (fun D j y H7 H7' hj ⟨hD, e7, B7, zs, hz, pv⟩ ⟨eq7, hyj⟩ => ?_) (fun D H7 _ ⟨hD, e7, B7, zs, hz, pv⟩ => ?_)
        · subst eq7
          obtain ⟨g, hg, q', rfl, hq'⟩ := (tv.but B2.bo e7).at hyj
          walk_at "rd"
          simp only [hq']
          walk_at "rd"
          refine ⟨by decide, fun l hl => ?_⟩
          have nD := B2.ne_new hD
          have el := same_upd (o := .lst [V.int g.1, V.int g.2]) hl
          refine shp (B7.same el) (B7.ne_new hl) upd_same fun q4 l4 H8 nq4 qf4 hq4 B8 e8 => ?_
          have e78 : But b H7' H8 := (Same.but el).trans e8
          have hz8 := e78 _ _ nD hz
          have e9 : But b H2' (upd H8 D (.lst (zs ++ [.ref q4]))) := (e7.trans e78).updn hD
          have q4D : q4 ≠ D := fresh_ne hl hz qf4
          have zl := pv.len
          rw [List.length_take] at zl
          refine ⟨zs, hz8, small (by omega), hD, e9, B2.upd B8 nD e9, ?_⟩
          rw [List.take_add_one, hg]
          exact ((pv.but B7.bo e78).move hz8 pv.refs fun q u n h => (upd_ne n).trans h).app ⟨⟨q4, l4, rfl, (upd_ne q4D).trans hq4⟩, trivial⟩
        · have nD := B2.ne_new hD
          rw [tl, List.take_length] at pv
          have hDo : D ≠ o := fun z => by rw [z, ho2] at hD; cases hD
          have ho7 := e7 _ _ no ho2
          refine shp B7 nD hz fun q2 l2 H8 nq2 qf2 hq2 B8 e8 => ⟨by decide, fun l hl => ?_⟩
          have ho8 := e8 _ _ no ho7
          have el := same_upd (o := .lst [V.str (Str.ofString "step"), V.int n, V.ref q2]) hl
          have q2o : q2 ≠ o := by
            rcases qf2 with rfl | z
            · exact hDo
            · exact fun y => by rw [y, ho7] at z; cases z
          refine shp (B8.same el) (B8.ne_new hl) upd_same fun q3 l3 H9 nq3 qf3 hq3 B9 e9 => ?_
          have e79 : But b H2' H9 := ((e7.trans e8).trans (Same.but el)).trans e9
          have ho9 := e9 _ _ no (el _ _ ho8)
          have pv9 : PairsV H9 zs gs := PairsV.but (B8.same el).bo e9 (PairsV.but B8.bo (Same.but el) (PairsV.but B7.bo e8 pv))
          exact raws_add B B9 (e2.trans e79) ho0 no ho9 al i8 (rv.but (B2.bo.del (Ne.symm no)) (ButDel e79)) hr1 ⟨q3, l3, _, rfl, (del_ne (fresh_ne hl ho8 qf3)).trans hq3, V.int n, q2, l2, zs, rfl, .inl ⟨rfl, rfl⟩, (del_ne q2o).trans (e9 _ _ nq2 (el _ _ hq2)), pv9.move ho9 rv.refs fun q u n h => (del_ne n).trans h⟩
    obtain ⟨o3, o4, acc, rfl, B2, e2, ho2, al, rv⟩ := h
    walk_at "rd"
    exact shp B2 no ho2 fun q l H3 nq qf hq B3 e3 => k q l acc H3 hq ((rv.same del_sub').but B2.bo e3) B3 (e2.trans e3)
end
end K06
namespace K06
open PySem PySem.Spec PyProof.Rows L2 Own OwnHot OwnExN OwnSeq OwnProj
local macro_rules | `(tactic| walk_at "rd") => `(tactic| simp only [tSeq, tAsg, tOp, tUn, tVar, gName, gSub, rIxL, rIxT, rSetL, tC, rI0, rI, rU, rEq, rNe, tCons, tNil, tCB, tLst, tTup, tIfS, tAnd, tOr, tNot, tAndV, tOrV, tNotV, tTest, tB, tIf, tRet, tDrop, tNext, tBreak, tCont, tCall, tCallS, L2.WE, tMakeS, rLenO, rIsS, tChain, gSeq, gRest, gCons, gNil, tFor_seq, tFor_enumS, tLc_seq, tLc_enumS, L2.tMeth, wHds, endsAt, OwnProj.slotAt, tXf, tMake, tMkO, sFld, tOst, tNum, tDen, tNever, tBits, rIs, rIsB, clv, isB, rGcd,
  Rd.tFor_rng1, Rd.tFor_rng2, Rd.tFor_list, Rd.tFor_tup, Rd.tLc_list, Rd.tLc_tup, Rd.tLc_rng1, Rd.LcTurn, tYes, wipe, Rd.rLenL, Rd.rLenT, Rd.rIntI, Rd.rIxH, rIxHT, HO.tup.injEq, Rd.at0, Rd.at1, Rd.at2, Rd.at3, Rd.ixN40, Rd.ixN41, Rd.ixN42, Rd.ixN43, Rd.scal_ii, cxOf,
  List.length_cons, List.length_nil, List.length_map, List.map_cons, List.map_nil, upd_same, decide_eq_true_eq, decide_true, decide_false, if_true, if_false, Bool.false_eq_true, Bool.not_true, Bool.not_false, HO.lst.injEq, HO.ins.injEq, ff_inj, List.set_cons_zero, List.set_cons_succ, List.getElem?_cons_zero, List.getElem?_cons_succ, List.append_nil, List.nil_append, List.cons_append, Option.some.injEq, V.ref.injEq, V.int.injEq, V.bl.injEq, List.cons.injEq, exists_eq_left', exists_and_left, exists_eq_left, true_and, and_true, and_self, and_assoc, implies_true, reduceCtorEq, Nat.reduceAdd])

theorem roomM {k : Nat} {A : Around} {h : Option Value} (r : Room k A) : L2H.RoomH k (A.mark h) := ⟨r.dp, r.un⟩
theorem eqD_at {X : Cx} (K : PySem.W.Frag) (hu : X.A.units + 64 < cLine) (hK : X.K = K := by rfl) : OpR X (compareOp .Eq) (rEqD K) := by
  subst hK
  exact op_eqD hu
theorem hotN {A : Around} {a : Addr} {oe : Obj} {cls : Value} {d : Option Addr} (hz : L2N.Zn cls d oe) (hf : ∃ vs, oe.data = .fields vs) : L2H.Hot1 (A.mark (some (.ref a))) (a, oe) := ⟨rfl, let ⟨v, e⟩ := hf; ⟨v, e, hz.2.2 v e⟩⟩
theorem TupV.upi {PC : Addr} {H : Hp} {x dx : Addr} {o : HO} (h : H x = some (.ins PC dx [])) : ∀ {vs : List V} {gs : List (Int × Int)}, TupV H vs gs → TupV (L2.upd H x o) vs gs
  | [], [], _ => trivial
  | _ :: _, _ :: _, ⟨⟨q, a, b⟩, r⟩ => ⟨⟨q, a, by rw [upd_ne (fun z => by rw [z, h] at b; cases b)]; exact b⟩, TupV.upi h r⟩
  | [], _ :: _, h => h.elim
  | _ :: _, [], h => h.elim
theorem CleanV.upi {C PC : Addr} {H : Hp} {x dx : Addr} {o : HO} (h : H x = some (.ins PC dx [])) {v : V} {r : RowD} (c : CleanV C H v r) : CleanV C (L2.upd H x o) v r := by
  have ne : ∀ {q : Addr} {u : HO}, H q = some u → u ≠ .ins PC dx [] → (L2.upd H x o) q = some u := fun {q u} hq n => by
    rw [upd_ne (fun z => n (by rw [z, h] at hq; exact (Option.some.inj hq).symm))]
    exact hq
  have nf : ∀ {d' : Addr} {n d : Int}, HO.ins C d' (ff n d) ≠ .ins PC dx [] := fun {d' n d} e => by
    have z := (HO.ins.inj e).2.2
    have y := ff_den n d
    rw [z] at y
    cases y
  obtain ⟨p, rfl, c⟩ := c
  cases r with
  | void => exact ⟨p, rfl, ne c (fun z => nomatch z)⟩
  | fin n d => exact let ⟨q, dx, a, b⟩ := c; ⟨p, rfl, q, dx, ne a (fun z => nomatch z), ne b nf⟩
  | step n d gs => exact let ⟨q, dx, t, ys, a, b, e, z⟩ := c; ⟨p, rfl, q, dx, t, ys, ne a (fun z => nomatch z), ne b nf, ne e (fun z => nomatch z), z.upi h⟩
theorem LawV.kind {H : Hp} {v : V} {r : RowD} (h : LawV H v r) : ∃ p rest, v = .ref p ∧ H p = some (.tup (.str (kindOf r) :: rest)) := by
  obtain ⟨p, rfl, h⟩ := h
  cases r with
  | void => exact ⟨p, _, rfl, h⟩
  | fin n d => exact ⟨p, _, rfl, h.1⟩
  | step n d gs => exact let ⟨q, ys, a, _⟩ := h; ⟨p, _, rfl, a⟩
theorem CleansV.upi {C PC : Addr} {H : Hp} {x dx : Addr} {o : HO} (h : H x = some (.ins PC dx [])) : ∀ {vs : List V} {rs : List RowD}, CleansV C H vs rs → CleansV C (L2.upd H x o) vs rs
  | [], [], _ => trivial
  | _ :: _, _ :: _, ⟨a, r⟩ => ⟨a.upi h, CleansV.upi h r⟩
  | [], _ :: _, h => h.elim
  | _ :: _, [], h => h.elim
def kds (rs : List RowD) : List PyData := rs.map fun r => .str (kindOf r)
theorem kds_dp {K : PySem.W.Frag} {H : Hp} : ∀ rs : List RowD, DpAll K H (rs.map fun r => V.str (kindOf r)) (kds rs)
  | [] => .nil
  | _ :: rs => .cons (.str _) (kds_dp rs)
theorem kds_canLay : ∀ rs : List RowD, PyData.canLayAll0 (kds rs) = true
  | [] => by simp [kds, PyData.canLayAll0]
  | r :: rs => by
    have := kds_canLay rs
    simp [kds, PyData.canLayAll0, PyData.canLay0] at this ⊢
    exact ⟨match r with | .void => (by decide +kernel : PyData.strOk "void" = true) | .fin _ _ => (by decide +kernel : PyData.strOk "end" = true) | .step _ _ _ => (by decide +kernel : PyData.strOk "step" = true), this⟩
theorem kds_depth : ∀ rs : List RowD, PyData.depthAll (kds rs) ≤ 1
  | [] => by simp [kds, PyData.depthAll]
  | r :: rs => by
    have := kds_depth rs
    simp [kds, PyData.depthAll, PyData.depth] at this ⊢
    exact this
theorem kds_shaped (rs : List RowD) : SeqAt.shaped (.list (kds rs)) = true := by
  have := kds_depth rs
  unfold SeqAt.shaped
  rw [show (PyData.list (kds rs)).canLay0 = PyData.canLayAll0 (kds rs) by simp [PyData.canLay0], kds_canLay]
  simp [PyData.depth]
  omega
theorem pf_kind (t : Addr) : (pf t).lookup ("kind" : Str) = none := by
  unfold pf
  rw [lookup_putF, if_neg (by decide +kernel)]
  rfl
section
variable {P : Program} {w : World} {K : PySem.W.Frag} {mg : Str → Option Value} {base : Heap} {a : Ad}
/-! ### _law_right -/
def spRight (K : PySem.W.Frag) : Sp := fun vs H Q _ => ∃ (b c p : Addr) (ns : List Int) (rs : List RowD), vs = [.ref b, .ref p] ∧ BoxAt K H b c ns ∧ p ≠ b ∧ RowsL H p rs ∧ 1 ≤ rs.length ∧ rs.length ≤ 8 ∧ (∀ r ∈ rs, Right rs.length r) ∧
  ∀ (H' : Hp), BoxAt K H' b c ns → But b H H' → Q (.bl true) H'
theorem sc_law_right : FnScope ["box", "rows", "due", "project", "e", "state", "row"] ["box", "rows"] (defScope s_law_right) := ⟨rfl, rfl, rfl, by decide +kernel, rfl, by decide +kernel, by decide +kernel⟩
theorem ok_law_right (T : Txt K mg a) : FnOk P w K mg base CX0 14 a.a_law_right a.d_law_right ["box", "rows"] (spRight K) := by
  refine T.fn_law_right.ok sc_law_right (fun vs H Q E h => ?_) (fun cdv A outer s H vs Q E hr h => ?_)
  · obtain ⟨b, c, p, ns, rs, rfl, _⟩ := h
    rfl
  · obtain ⟨b, c, p, ns, rs, rfl, B, np, RL, r1, r8, rr, k⟩ := h
    refine ⟨_, (pss_cons (ps_set (i := 2) sc_law_right.nd rfl (Or.inl rfl) (pe_call (ok_law_first T) (hr.mono (by decide)) (by rfl) T.mg_law_first T.fn_law_first.kp T.b_law_first .nil pass0 (pa_cons (pv 1) pa_nil)))
      (pss_cons (OwnProj.ps_try_hds rfl rfl takesN0
        (fun W pn xe tk _ => (pss_one (ps_set (i := 3) sc_law_right.nd rfl (Or.inr rfl) (pe_makeS T.mk_Project (ok_Project_init T) (hr.mono (by decide)) (by rfl) T.mg_Project T.b_Project_init .nil (fun σ => L2N.passAt tk σ) (pa_cons (pe_call (ok_law_handed T) (hr.mono (by decide)) (by rfl) T.mg_law_handed T.fn_law_handed.kp T.b_law_handed .nil pass0 (pa_cons (pv 0) (pa_cons (pv 1) pa_nil))) pa_nil)))))
        (OwnProj.Hds.bare ⟨rfl, by decide, .inl T.mg_InvalidProject⟩ (fun ea oe cls d pn hz hf => (pss_one (ps_ret pe_bl)))
        (OwnProj.Hds.named (i := 4) sc_law_right.nd rfl rfl ⟨rfl, by decide, .inl T.mg_Endless⟩ (fun ea oe cls d pn hz hf => (pss_one (ps_ret (pe_and (pe_cmpR op_notN (pv 2) pe_non (nomark _)) (pe_and (pe_callB (call_isB T .int) (by rfl) T.no_isinstance (by decide +kernel) (pa_cons (pe_xf T.xf_Endless T.na_Endless_state hz.zc hf (pv 4)) (pa_cons (pe_bltn (v := .ty "int") (u := .type "int") (by rfl) T.no_int (by decide +kernel) rfl) pa_nil))) (pe_and (pe_not (pe_callB (call_isB T .bl) (by rfl) T.no_isinstance (by decide +kernel) (pa_cons (pe_xf T.xf_Endless T.na_Endless_state hz.zc hf (pv 4)) (pa_cons (pe_bltn (v := .ty "bool") (u := .type "bool") (by rfl) T.no_bool (by decide +kernel) rfl) pa_nil)))) (pe_one (pe_cmpR op_eq (pe_xf T.xf_Endless T.na_Endless_state hz.zc hf (pv 4)) (pv 2) (nomark _)))))))))
        .nil)))
      (pss_cons (ps_if (PW.pt (pw_or (pt_cmpR op_notN (pv 2) pe_non (nomark _)) (pw_or1 (pt_cmpR op_ne (pe_callB (OwnProj.call_lenO (ok_Project_len T) (hr.mono (by decide)) T.mt_Project_len T.b_Project_len pass0) (by rfl) T.no_len PySem.boot_len (pa_cons (pv 3) pa_nil)) (pe_callB Rd.call_lenL (by rfl) T.no_len PySem.boot_len (pa_cons (pv 1) pa_nil)) (nomark _))))) (pss_one (ps_ret pe_bl)) pss_nil)
      (pss_one (ps_ret (pe_cmpR (eqD_at K hr.units) (pe_lc (own := [("state", 5)]) (by rfl) sc_law_right.nd (pi_range1 (by rfl) T.no_range (pa_cons (pe_callB Rd.call_lenL (by rfl) T.no_len PySem.boot_len (pa_cons (pv 1) pa_nil)) pa_nil)) (blkOk_by (own := [("state", 5)]) (N := ["box", "rows", "due", "project", "e", "state", "row"]) (sc := defScope s_law_right) (by decide +kernel)) (fun _ _ _ _ _ => pg_name (i := 5) sc_law_right.nd rfl (Or.inl rfl)) (fun _ _ _ _ _ => pts_nil) (fun _ _ _ _ _ => (pe_meth (pv 3) T.cl_Project T.mt_Project_kind (ok_Project_kind T) (hr.mono (by decide)) T.b_Project_kind .nil pass0 (pa_cons (pv 5) pa_nil)))) (pe_lc (own := [("row", 6)]) (by rfl) sc_law_right.nd (pi_seq (pv 1)) (blkOk_by (own := [("row", 6)]) (N := ["box", "rows", "due", "project", "e", "state", "row"]) (sc := defScope s_law_right) (by decide +kernel)) (fun _ _ _ _ _ => pg_name (i := 6) sc_law_right.nd rfl (Or.inl rfl)) (fun _ _ _ _ _ => pts_nil) (fun _ _ _ _ _ => (pe_ix ixHT (pv 6) pe_int (fun _ _ => rfl)))) (nomark _))))))), ?_⟩
    show (_ : TS) _ [some (V.ref b), some (V.ref p), none, none, none, none, none] H
    obtain ⟨xs, hp, lw⟩ := RL.laws
    have inr := inR_of rr
    walk_at "rd"
    refine ⟨p, xs, rs, rfl, hp, lw, r8, inr, fun H1 e1 => ?_⟩
    refine ⟨b, c, p, ns, rs, rfl, B.same e1, np, RL.same e1, r8, fun r hr => (inr r hr).1, fun q l zs H2 hq rv B2 e2 x dx hx hdx hne => ?_⟩
    have nx := B2.ne_new hx
    have e02 : But b H H2 := (Same.but e1).trans e2
    have s3 : Same H2 (upd (upd H2 dx (.own x)) x (.ins a.C_Project dx [])) := (same_upd hdx).trans (same_upd (by rw [upd_ne (Ne.symm hne)]; exact hx))
    have at3 : (upd (upd H2 dx (.own x)) x (.ins a.C_Project dx [])) x = some (.ins a.C_Project dx []) := upd_same
    generalize upd (upd H2 dx (.own x)) x (.ins a.C_Project dx []) = H3 at s3 at3 ⊢
    refine ⟨x, dx, q, l, zs, rs, rfl, at3, s3 _ _ hq, rv.same s3, r1, r8, rr, fun fo t ys H4 H5 e4 ht cl eq => ⟨rfl, ?_⟩, fun n fo d H4 hd hxd s4 => ?_⟩
    · rw [fo]
      show (if (!decide (V.non = V.non)) = true then _ else _)
      rw [if_neg (by simp)]
      have at4 := e4 _ _ at3
      have e04 : But b H H4 := (e02.trans (Same.but s3)).trans (Same.but e4)
      have e05 : But b H H5 := by rw [eq]; exact e04.updn (e02.free nx hx)
      have B5 : BoxAt K H5 b c ns := by rw [eq]; exact B.upd ((B2.same s3).same e4) nx (eq ▸ e05)
      have ht5 : H5 t = some (.tup ys) := by rw [eq]; exact (upd_ne (ne_obj ht at4 (fun z => nomatch z))).trans ht
      have cl5 : CleansV a.C_Frac H5 ys rs := by rw [eq]; exact cl.upi at4
      have hx5 : H5 x = some (.ins a.C_Project dx (pf t)) := by rw [eq]; exact upd_same
      have hp5 := e05 _ _ np hp
      have yl := cl5.len
      have xl := lw.len
      refine ⟨dx, pf t, hx5, x, dx, t, ys, rfl, hx5, ht5, ys.length, rfl, by omega, xs, SqL.of hp5, rfl, ?_⟩
      rw [if_neg (by rw [yl, xl]; simp)]
      refine ⟨xs, SqL.of hp5, by omega, by omega, ?_⟩
      rw [Int.toNat_natCast, xl]
      refine Rd.lcl_rng (fun D i H' => H5 D = none ∧ Same H5 H' ∧ H' D = some (.lst ((rs.take i).map fun r => V.str (kindOf r)))) (fun D hD => ⟨hD, same_upd hD, upd_same⟩) (fun D i H6 hi ⟨n6, e6, a6⟩ => ?_) (fun D H6 _ ⟨n6, e6, a6⟩ => ?_)
      · obtain ⟨r, hr1⟩ : ∃ r, rs[i]? = some r := ⟨_, List.getElem?_eq_getElem hi⟩
        walk_at "rd"
        refine ⟨dx, pf t, e6 _ _ hx5, pf_kind t, x, dx, t, ys, rs, i, r, by rw [Int.zero_add], e6 _ _ hx5, e6 _ _ ht5, CleansV.same e6 cl5, hr1, _, a6, small (by rw [List.length_map, List.length_take]; omega), n6, fun q o hq => (upd_ne (ne_of_none hq n6)).trans (e6 _ _ hq), ?_⟩
        rw [List.take_add_one, hr1, List.map_append]
        rfl
      · rw [List.take_length] at a6
        refine ⟨true, xs, e6 _ _ hp5, lcl_goes goes_seq (fun D' i H' => H6 D' = none ∧ Same H6 H' ∧ H' D' = some (.lst ((rs.take i).map fun r => V.str (kindOf r)))) (fun D hD => ⟨hD, same_upd hD, upd_same⟩) (fun D' i H' _ h => h.2.1 _ _ (e6 _ _ hp5)) (fun D' i y H7 H7' hi ⟨n7, e7, a7⟩ ⟨eq7, hy⟩ => ?_) (fun D' H7 _ ⟨n7, e7, a7⟩ => ?_)⟩
        · subst eq7
          obtain ⟨r, hr1, cr⟩ := lw.at hy
          walk_at "rd"
          obtain ⟨u, rest, rfl, hu⟩ := cr.kind
          refine ⟨u, rfl, _, e7 _ _ (e6 _ _ (e05 _ _ ?_ hu)), _, Rd.at0, _, a7, small (by rw [List.length_map, List.length_take]; omega), n7, fun q o hq => (upd_ne (ne_of_none hq n7)).trans (e7 _ _ hq), ?_⟩
          · exact B.bo.ne hu fun _ _ _ z => nomatch z
          · rw [List.take_add_one, hr1, List.map_append]
            rfl
        · rw [xl, List.take_length] at a7
          have dp1 : Dp K H7 (.ref D) (.list (kds rs)) := .lst (SqL.of (e7 _ _ a6)) (kds_dp rs)
          have dp2 : Dp K H7 (.ref D') (.list (kds rs)) := .lst (SqL.of a7) (kds_dp rs)
          have e57 := e6.trans e7
          exact ⟨_, _, dp1, dp2, kds_shaped rs, kds_shaped rs, by rw [SeqAt.eqv_refl _ (SeqAt.canLay_of_shaped (kds_shaped rs))]; exact k H7 (B5.same e57) (e05.trans (Same.but e57))⟩
    · rw [fo]
      refine ⟨false, T.xm_Endless_InvalidProject, (fun z => absurd z Bool.false_ne_true), fun _ => ⟨true, T.xm_Endless, fun _ ea hea => ?_, (fun z => absurd z.symm Bool.false_ne_true)⟩⟩
      walk_at "rd"
      have xs1 : List.lookup ("state" : Str) [(("state" : Str), V.int (n : Nat))] = some (V.int (n : Nat)) := by rw [lookup_put, if_pos rfl]
      have e04 : But b H H4 := (e02.trans (Same.but s3)).trans (Same.but s4)
      rw [if_pos (show (!decide (opt (some n) = V.non)) = true from rfl)]
      refine ⟨_, hxd, _, xs1, .int, .int _, ?_⟩
      rw [if_pos (by decide)]
      refine ⟨_, hxd, _, xs1, .int, .int _, (fun z => nomatch z), ?_⟩
      rw [if_pos (by decide)]
      refine ⟨_, hxd, _, xs1, rfl, ?_⟩
      rw [decide_eq_true (show V.int (n : Nat) = opt (some n) from rfl)]
      exact k H4 ((B2.same s3).same s4) e04
end
end K06
namespace K06
open PySem PySem.Spec PyProof.Rows L2 Own OwnHot OwnExN OwnSeq OwnProj
local macro_rules | `(tactic| walk_at "rd") => `(tactic| simp only [tSeq, tAsg, tOp, tUn, tVar, gName, gSub, rIxL, rIxT, rSetL, tC, rI0, rI, rU, rEq, rNe, tCons, tNil, tCB, tLst, tTup, tIfS, tAnd, tOr, tNot, tAndV, tOrV, tNotV, tTest, tB, tIf, tRet, tDrop, tNext, tBreak, tCont, tCall, tCallS, L2.WE, tMakeS, rLenO, rIsS, tChain, gSeq, gRest, gCons, gNil, tFor_seq, tFor_enumS, tLc_seq, tLc_enumS, L2.tMeth, wHds, endsAt, OwnProj.slotAt, tXf, tMake, tMkO, sFld, tOst, tNum, tDen, tNever, tBits, rIs, rIsB, clv, isB, rGcd,
  Rd.tFor_rng1, Rd.tFor_rng2, Rd.tFor_list, Rd.tFor_tup, Rd.tLc_list, Rd.tLc_tup, Rd.tLc_rng1, Rd.LcTurn, tYes, wipe, Rd.rLenL, Rd.rLenT, Rd.rIntI, Rd.rIxH, rIxHT, HO.tup.injEq, Rd.at0, Rd.at1, Rd.at2, Rd.at3, Rd.ixN40, Rd.ixN41, Rd.ixN42, Rd.ixN43, Rd.scal_ii, cxOf,
  List.length_cons, List.length_nil, List.length_map, List.map_cons, List.map_nil, upd_same, decide_eq_true_eq, decide_true, decide_false, if_true, if_false, Bool.false_eq_true, Bool.not_true, Bool.not_false, HO.lst.injEq, HO.ins.injEq, ff_inj, List.set_cons_zero, List.set_cons_succ, List.getElem?_cons_zero, List.getElem?_cons_succ, List.append_nil, List.nil_append, List.cons_append, Option.some.injEq, V.ref.injEq, V.int.injEq, V.bl.injEq, List.cons.injEq, exists_eq_left', exists_and_left, exists_eq_left, true_and, and_true, and_self, and_assoc, implies_true, reduceCtorEq, Nat.reduceAdd])

theorem yes {A B : Prop} (h : B) : ∃ c, V.bl true = V.bl c ∧ if (!c) = true then A else B := ⟨true, rfl, by rw [if_neg (by decide)]; exact h⟩
theorem goals8 {rs : List RowD} (rr : ∀ r ∈ rs, Right rs.length r) : InR rs := inR_of rr
theorem open_lt {rs : List RowD} {n j : Nat} (h : firstOpen (after rs n) = some j) : j < rs.length := by
  unfold firstOpen at h
  obtain ⟨z, _⟩ := List.findIdx?_eq_some_iff_getElem.mp h
  rwa [after_len] at z
/-- a copy of the rows -/
theorem rows_copy {H : Hp} {p l : Addr} {rs : List RowD} {xs : List V} (RL : RowsL H p rs) (hx : H p = some (.lst xs)) (hl : H l = none) : RowsL (upd H l (.lst xs)) l rs := by
  obtain ⟨ys, hy, lw⟩ := RL
  rw [hx] at hy
  cases hy
  exact ⟨xs, upd_same, (lw.same del_sub').same (SameToDel (same_upd hl) hl)⟩
section
variable {P : Program} {w : World} {K : PySem.W.Frag} {mg : Str → Option Value} {base : Heap} {a : Ad}
/-! ### _law_all -/
def spAll (K : PySem.W.Frag) : Sp := fun vs H Q _ => ∃ (s : Addr) (ns : List Int), vs = [.ref s] ∧ SqL K H s (ns.map V.int) ∧ ns.length ≤ 63 ∧ ∀ H', Q (.bl true) H'
theorem sc_law_all : FnScope ["script", "box", "many", "rows", "mended", "k", "place", "turned_rows"] ["script"] (defScope s_law_all) := ⟨rfl, rfl, rfl, by decide +kernel, rfl, by decide +kernel, by decide +kernel⟩
theorem ok_law_all (T : Txt K mg a) : FnOk P w K mg base CX0 20 a.a_law_all a.d_law_all ["script"] (spAll K) := by
  refine T.fn_law_all.ok sc_law_all (fun vs H Q E h => ?_) (fun cdv A outer s H vs Q E hr h => ?_)
  · obtain ⟨p, ns, rfl, _⟩ := h
    rfl
  · obtain ⟨p0, ns, rfl, hs, hl, k⟩ := h
    refine ⟨_, (pss_cons (ps_set (i := 1) sc_law_all.nd rfl (Or.inl rfl) (pe_call (ok_law_box T) (hr.mono (by decide)) (by rfl) T.mg_law_box T.fn_law_box.kp T.b_law_box .nil pass0 (pa_cons (pv 0) pa_nil)))
      (pss_cons (ps_set (i := 2) sc_law_all.nd rfl (Or.inl rfl) (pe_op op_add pe_int (pe_call (ok_law_draw T) (hr.mono (by decide)) (by rfl) T.mg_law_draw T.fn_law_draw.kp T.b_law_draw .nil pass0 (pa_cons (pv 1) (pa_cons pe_int pa_nil)))))
      (pss_cons (ps_set (i := 3) sc_law_all.nd rfl (Or.inl rfl) (pe_call (ok_law_rows T) (hr.mono (by decide)) (by rfl) T.mg_law_rows T.fn_law_rows.kp T.b_law_rows .nil pass0 (pa_cons (pv 1) (pa_cons (pv 2) pa_nil))))
      (pss_cons (ps_if (PW.pt (pw_or (pt_not (pt_val (pe_call (ok_law_right T) (hr.mono (by decide)) (by rfl) T.mg_law_right T.fn_law_right.kp T.b_law_right .nil pass0 (pa_cons (pv 1) (pa_cons (pv 3) pa_nil))))) (pw_or1 (pt_not (pt_val (pe_call (ok_law_right T) (hr.mono (by decide)) (by rfl) T.mg_law_right T.fn_law_right.kp T.b_law_right .nil pass0 (pa_cons (pv 1) (pa_cons (pv 3) pa_nil)))))))) (pss_one (ps_ret pe_bl)) pss_nil)
      (pss_cons (ps_set (i := 4) sc_law_all.nd rfl (Or.inl rfl) (pe_callTy call_list_of (by rfl) T.no_list (by decide +kernel) (pa_cons (pv 3) pa_nil)))
      (pss_cons (ps_for PassesOwn.never rfl (pi_range1 (by rfl) T.no_range (pa_cons pe_int pa_nil)) (pg_name (i := 5) sc_law_all.nd rfl (Or.inl rfl))
        (pss_cons (ps_set (i := 6) sc_law_all.nd rfl (Or.inl rfl) (pe_call (ok_law_first T) (hr.mono (by decide)) (by rfl) T.mg_law_first T.fn_law_first.kp T.b_law_first .nil pass0 (pa_cons (pv 4) pa_nil)))
        (pss_one (ps_if (pt_cmpR op_notN (pv 6) pe_non (nomark _)) (pss_cons (ps_asg (pe_tup (pa_cons pe_str pa_nil)) (pg_sub (pv 4) (pv 6) set_list))
          (pss_one (ps_if (pt_not (pt_val (pe_call (ok_law_right T) (hr.mono (by decide)) (by rfl) T.mg_law_right T.fn_law_right.kp T.b_law_right .nil pass0 (pa_cons (pv 1) (pa_cons (pv 4) pa_nil))))) (pss_one (ps_ret pe_bl)) pss_nil))) pss_nil))))
      (pss_cons (ps_set (i := 7) sc_law_all.nd rfl (Or.inl rfl) (pe_callTy call_list_of (by rfl) T.no_list (by decide +kernel) (pa_cons (pv 3) pa_nil)))
      (pss_cons (ps_asg (pe_tup (pa_cons pe_str (pa_cons pe_int (pa_cons (pe_lst (pa_cons (pe_tup (pa_cons pe_int (pa_cons (pe_call (ok_law_draw T) (hr.mono (by decide)) (by rfl) T.mg_law_draw T.fn_law_draw.kp T.b_law_draw .nil pass0 (pa_cons (pv 1) (pa_cons (pv 2) pa_nil))) pa_nil))) pa_nil)) pa_nil)))) (pg_sub (pv 7) (pe_call (ok_law_draw T) (hr.mono (by decide)) (by rfl) T.mg_law_draw T.fn_law_draw.kp T.b_law_draw .nil pass0 (pa_cons (pv 1) (pa_cons (pv 2) pa_nil))) set_list))
      (pss_one (ps_ret (pe_call (ok_law_right T) (hr.mono (by decide)) (by rfl) T.mg_law_right T.fn_law_right.kp T.b_law_right .nil pass0 (pa_cons (pv 1) (pa_cons (pv 7) pa_nil))))))))))))), ?_⟩
    show (_ : TS) _ [some (V.ref p0), none, none, none, none, none, none, none] H
    refine cut (fun σ H => ∃ b c, σ = [some (V.ref p0), some (V.ref b), none, none, none, none, none, none] ∧ BoxAt K H b c ns) (fun R hR => ?_) (fun σ H' h => ?_)
    · walk_at "rd"
      exact ⟨p0, ns, rfl, hs, hl, fun b c H1 B _ _ => hR _ _ ⟨b, c, rfl, B⟩⟩
    obtain ⟨b, c, rfl, B⟩ := h
    clear hs
    refine cut (fun σ H => ∃ n : Nat, σ = [some (V.ref p0), some (V.ref b), some (V.int n), none, none, none, none, none] ∧ 1 ≤ n ∧ n ≤ 8 ∧ BoxAt K H b c ns) (fun R hR => ?_) (fun σ H' h => ?_)
    · walk_at "rd"
      refine drw B (by decide) (by decide) fun x H1 x0 x1 B1 e1 => ⟨x, rfl, hR _ _ ⟨x.toNat + 1, ?_, by omega, by omega, B1⟩⟩
      rw [show ((x.toNat + 1 : Nat) : Int) = 1 + x by omega]
    obtain ⟨n, rfl, n1, n8, B⟩ := h
    refine cut (fun σ H => ∃ p rs, σ = [some (V.ref p0), some (V.ref b), some (V.int n), some (V.ref p), none, none, none, none] ∧ p ≠ b ∧ RowsL H p rs ∧ rs.length = n ∧ (∀ r ∈ rs, Right n r) ∧ BoxAt K H b c ns) (fun R hR => ?_) (fun σ H0 h => ?_)
    · walk_at "rd"
      exact ⟨b, c, ns, n, rfl, B, n1, n8, fun q rs H1 nq RL rl rr B1 _ => hR _ _ ⟨q, rs, rfl, nq, RL, rl, rr, B1⟩⟩
    obtain ⟨p, rs, rfl, np, RL, rl, rr, B0⟩ := h
    subst rl
    refine cut (fun σ H => σ = [some (V.ref p0), some (V.ref b), some (V.int rs.length), some (V.ref p), none, none, none, none] ∧ BoxAt K H b c ns ∧ But b H0 H) (fun R hR => ?_) (fun σ H' h => ?_)
    · walk_at "rd"
      exact ⟨b, c, p, ns, rs, rfl, B0, np, RL, n1, n8, rr, fun H1 B1 e1 => yes ⟨b, c, p, ns, rs, rfl, B1, np, RL.but np B0.bo e1, n1, n8, rr, fun H2 B2 e2 => yes (hR _ _ ⟨rfl, B2, e1.trans e2⟩)⟩⟩
    obtain ⟨rfl, B1, e1⟩ := h
    refine cut (fun σ H => ∃ m, σ = [some (V.ref p0), some (V.ref b), some (V.int rs.length), some (V.ref p), some (V.ref m), none, none, none] ∧ BoxAt K H b c ns ∧ But b H0 H ∧ H0 m = none ∧ m ≠ b ∧ RowsL H m rs) (fun R hR => ?_) (fun σ H' h => ?_)
    · walk_at "rd"
      obtain ⟨xs, hx, _⟩ := RL.but np B0.bo e1
      exact ⟨xs, .inl (SqL.of hx), fun l hl => hR _ _ ⟨l, rfl, B1.same (same_upd hl), e1.trans (Same.but (same_upd hl)), e1.free (B1.ne_new hl) hl, B1.ne_new hl, rows_copy (RL.but np B0.bo e1) hx hl⟩⟩
    obtain ⟨m, rfl, B1, e1, m0, nm, RM⟩ := h
    refine cut (fun σ H => ∃ o5 o6, σ = [some (V.ref p0), some (V.ref b), some (V.int rs.length), some (V.ref p), some (V.ref m), o5, o6, none] ∧ BoxAt K H b c ns ∧ But b H0 H) (fun R hR => ?_) (fun σ H' h => ?_)
    · walk_at "rd"
      refine ⟨by decide, by decide, Rd.loop_rng (fun i σ H => ∃ o5 o6 rm, σ = [some (V.ref p0), some (V.ref b), some (V.int rs.length), some (V.ref p), some (V.ref m), o5, o6, none] ∧ BoxAt K H b c ns ∧ But b H0 H ∧ RowsL H m rm ∧ rm.length = rs.length ∧ ∀ r ∈ rm, Right rs.length r)
        ⟨none, none, rs, rfl, B1, e1, RM, rfl, rr⟩ ?_ (fun σ H ⟨o5, o6, rm, q, B2, e2, _⟩ => hR _ _ ⟨o5, o6, q, B2, e2⟩)⟩
      rintro i σ H2 hi ⟨o5, o6, rm, rfl, B2, e2, RM2, ml, mr⟩
      walk_at "rd"
      obtain ⟨xs, hx, lw⟩ := RM2.laws
      refine ⟨m, xs, rm, rfl, hx, lw, by omega, inR_of (by rw [ml]; exact mr), fun H3 e3 => ?_⟩
      have RM3 := RM2.same e3
      have e03 := e2.trans (Same.but e3)
      have B3 := B2.same e3
      cases fo : firstOpen (after rm rm.length) with
      | none =>
        show (if (!decide (V.non = V.non)) = true then _ else _)
        rw [if_neg (by simp)]
        exact ⟨B3, e03, rm, RM3, ml, mr⟩
      | some j =>
        show (if (!decide (V.int (j : Nat) = V.non)) = true then _ else _)
        rw [if_pos (by simp)]
        have jl := open_lt fo
        refine ⟨by decide, fun t ht => ?_⟩
        obtain ⟨y, hy, j', hj, z⟩ := rows_put (r := .void) (i := j) (z := (j : Nat)) (Q := fun H' => spRight K [V.ref b, V.ref m] H' (fun x H1 => ∃ c_1, x = V.bl c_1 ∧ if (!c_1) = true then Q (V.bl false) H1 else BoxAt K H1 b c ns ∧ But b H0 H1 ∧ ∃ x, RowsL H1 m x ∧ x.length = rs.length ∧ ∀ (r : RowD), r ∈ x → Right (↑rs.length) r) E0) B0 B3 e03 m0 nm RM3 ht (fun tp => ⟨t, rfl, (del_ne tp).trans upd_same⟩) rfl jl mr trivial fun H4 R4 r4 B4 e4 =>
          ⟨b, c, m, ns, _, rfl, B4, nm, R4, by rw [List.length_set]; omega, by rw [List.length_set]; omega, by rw [List.length_set, ml]; exact r4, fun H5 B5 e5 => yes ⟨B5, e4.trans e5, _, R4.but nm B4.bo e5, by rw [List.length_set]; exact ml, r4⟩⟩
        exact ⟨y, j, rfl, hy, j', hj, z⟩
    obtain ⟨o5, o6, rfl, B1, e1⟩ := h
    refine cut (fun σ H => ∃ m o4, σ = [some (V.ref p0), some (V.ref b), some (V.int rs.length), some (V.ref p), o4, o5, o6, some (V.ref m)] ∧ BoxAt K H b c ns ∧ But b H0 H ∧ H0 m = none ∧ m ≠ b ∧ RowsL H m rs) (fun R hR => ?_) (fun σ H' h => ?_)
    · walk_at "rd"
      obtain ⟨xs, hx, _⟩ := RL.but np B0.bo e1
      exact ⟨xs, .inl (SqL.of hx), fun l hl => hR _ _ ⟨l, _, rfl, B1.same (same_upd hl), e1.trans (Same.but (same_upd hl)), e1.free (B1.ne_new hl) hl, B1.ne_new hl, rows_copy (RL.but np B0.bo e1) hx hl⟩⟩
    obtain ⟨m, o4, rfl, B1, e1, m0, nm, RM⟩ := h
    walk_at "rd"
    refine drw B1 (by omega) (by omega) fun x H1 x0 x1 B2 e2 => ⟨by decide, fun t ht => ⟨by decide, fun l hl => ⟨by decide, fun u hu => ?_⟩⟩⟩
    have RM2 := RM.but nm B1.bo e2
    have e02 := e1.trans e2
    have s1 := same_upd (o := .tup [V.int 1, V.int x]) ht
    have h1 := upd_same (H := H1) (a := t) (o := .tup [V.int 1, V.int x])
    generalize upd H1 t (.tup [V.int 1, V.int x]) = H2 at s1 h1 hl hu ⊢
    have s2 := same_upd (o := .lst [V.ref t]) hl
    have h2 := upd_same (H := H2) (a := l) (o := .lst [V.ref t])
    generalize upd H2 l (.lst [V.ref t]) = H3 at s2 h2 hu ⊢
    have s3 := same_upd (o := .tup [V.str (Str.ofString "step"), V.int 0, V.ref l]) hu
    have h3 := upd_same (H := H3) (a := u) (o := .tup [V.str (Str.ofString "step"), V.int 0, V.ref l])
    generalize upd H3 u (.tup [V.str (Str.ofString "step"), V.int 0, V.ref l]) = H4 at s3 h3 ⊢
    have B4 := ((B2.same s1).same s2).same s3
    have s14 := (s1.trans s2).trans s3
    refine drw B4 (by omega) (by omega) fun y H5 y0 y1 B5 e5 => ?_
    have e45 : But b H1 H5 := (Same.but s14).trans e5
    have RM5 := RM2.but nm B2.bo e45
    have e05 := e02.trans e45
    obtain ⟨ym, hy, lw⟩ := id RM5
    have yl := lw.len
    obtain ⟨xm, hxm, _⟩ := id RM2
    have tm : t ≠ m := fun z => by rw [z, hxm] at ht; cases ht
    have lm : l ≠ m := fun z => by rw [z, s1 _ _ hxm] at hl; cases hl
    have um : u ≠ m := fun z => by rw [z, s2 _ _ (s1 _ _ hxm)] at hu; cases hu
    have ht5 : H5 t = some (.tup [V.int 1, V.int x]) := e5 _ _ (B2.ne_new ht) (s3 _ _ (s2 _ _ h1))
    have hl5 : H5 l = some (.lst [V.ref t]) := e5 _ _ ((B2.same s1).ne_new hl) (s3 _ _ h2)
    have hu5 : H5 u = some (.tup [V.str (Str.ofString "step"), V.int 0, V.ref l]) := e5 _ _ (((B2.same s1).same s2).ne_new hu) h3
    have e6 : But b H0 (upd H5 m (.lst (ym.set y.toNat (.ref u)))) := e05.updn m0
    refine ⟨ym, y, rfl, hy, y.toNat, ?_, ?_⟩
    · have z := ixN_of (n := ym.length) (t := y.toNat) (by omega)
      rwa [show ((y.toNat : Nat) : Int) = y by omega] at z
    · have R6 := RowsL.put (r := .step 0 1 [(1, x)]) y.toNat lw ⟨u, rfl, l, [.ref t], (del_ne um).trans hu5, rfl, (del_ne lm).trans hl5, ⟨⟨t, rfl, (del_ne tm).trans ht5⟩, trivial⟩⟩
      refine ⟨b, c, m, ns, _, rfl, B0.upd B5 nm e6, nm, R6, by rw [List.length_set]; exact n1, by rw [List.length_set]; exact n8, ?_, fun H' _ _ => k H'⟩
      intro r hr
      rw [List.length_set]
      rcases List.mem_or_eq_of_mem_set hr with z | rfl
      · exact rr r z
      · exact ⟨by decide, by decide, by decide, Nat.le_refl 1, by show 1 ≤ 8; decide, Int.le_refl 1, by show (1 : Int) ≤ 999; decide, x0, by show x ≤ _; omega, trivial⟩
end
end K06
namespace K06
open PySem PySem.Spec PyProof.Rows L2 Own OwnHot OwnExN OwnSeq OwnProj
local macro_rules | `(tactic| walk_at "rd") => `(tactic| simp only [tSeq, tAsg, tOp, tUn, tVar, gName, gSub, rIxL, rIxT, rSetL, tC, rI0, rI, rU, rEq, rNe, tCons, tNil, tCB, tLst, tTup, tIfS, tAnd, tOr, tNot, tAndV, tOrV, tNotV, tTest, tB, tIf, tRet, tDrop, tNext, tBreak, tCont, tCall, tCallS, L2.WE, tMakeS, rLenO, rIsS, tChain, gSeq, gRest, gCons, gNil, tFor_seq, tFor_enumS, tLc_seq, tLc_enumS, L2.tMeth, wHds, endsAt, OwnProj.slotAt, tXf, tMake, tMkO, sFld, tOst, tNum, tDen, tNever, tBits, rIs, rIsB, clv, isB, rGcd,
  Rd.tFor_rng1, Rd.tFor_rng2, Rd.tFor_list, Rd.tFor_tup, Rd.tLc_list, Rd.tLc_tup, Rd.tLc_rng1, Rd.LcTurn, tYes, wipe, Rd.rLenL, Rd.rLenT, Rd.rIntI, Rd.rIxH, rIxHT, HO.tup.injEq, Rd.at0, Rd.at1, Rd.at2, Rd.at3, Rd.ixN40, Rd.ixN41, Rd.ixN42, Rd.ixN43, Rd.scal_ii, cxOf,
  List.length_cons, List.length_nil, List.length_map, List.map_cons, List.map_nil, upd_same, decide_eq_true_eq, decide_true, decide_false, if_true, if_false, Bool.false_eq_true, Bool.not_true, Bool.not_false, HO.lst.injEq, HO.ins.injEq, ff_inj, List.set_cons_zero, List.set_cons_succ, List.getElem?_cons_zero, List.getElem?_cons_succ, List.append_nil, List.nil_append, List.cons_append, Option.some.injEq, V.ref.injEq, V.int.injEq, V.bl.injEq, List.cons.injEq, exists_eq_left', exists_and_left, exists_eq_left, true_and, and_true, and_self, and_assoc, implies_true, reduceCtorEq, Nat.reduceAdd])

section
variable {P : Program} {w : World} {K : PySem.W.Frag} {mg : Str → Option Value} {base : Heap} {a : Ad}
/-! ### law -/
def spLaw (K : PySem.W.Frag) : Sp := fun vs H Q _ => ∃ (a : Addr) (ns : List Int), vs = [.ref a] ∧ SqL K H a (ns.map V.int) ∧ ns.length ≤ 63 ∧ ∀ H', Q (.bl true) H'
theorem sc_law : FnScope ["script"] ["script"] (defScope s_law) := ⟨rfl, rfl, rfl, by decide +kernel, rfl, by decide +kernel, by decide +kernel⟩
theorem ok_law (T : Txt K mg a) : FnOk P w K mg base CX0 21 a.a_law a.d_law ["script"] (spLaw K) := by
  refine T.fn_law.ok sc_law (fun vs H Q E h => ?_) (fun cdv A outer s H vs Q E hr h => ?_)
  · obtain ⟨p, ns, rfl, _⟩ := h
    rfl
  · obtain ⟨p0, ns, rfl, hs, hl, k⟩ := h
    refine ⟨_, (pss_one (ps_try_thru0 (pss_one (ps_ret (pe_call (ok_law_all T) (hr.mono (by decide)) (by rfl) T.mg_law_all T.fn_law_all.kp T.b_law_all .nil pass0 (pa_cons (pv 0) pa_nil)))))), ?_⟩
    show (_ : TS) _ [some (V.ref p0)] H
    walk_at "rd"
    exact ⟨p0, ns, rfl, hs, hl, k⟩
end
end K06
namespace K06
open PySem PySem.Spec PyProof.Rows L2
theorem kit_self {K : PySem.W.Frag} {C : Addr} : PySem.W.kitOne K (.ref C) (.ref C) = some true := by
  unfold PySem.W.kitOne
  rw [if_pos (beq_self_eq_true _)]
theorem kit_own {K : PySem.W.Frag} {C : Addr} {t : String} {b : Bool} (h1 : PySem.W.isClsIn K C = true) (h2 : PySem.W.typeIn K (.ref C) = some (.type "type")) (h3 : PySem.W.subIn K (.type t) (.ref C) = some b) : PySem.W.kitOne K (.type t) (.ref C) = some b := by
  have e : (PySem.W.clsIn K C).isSome = true := h1
  unfold PySem.W.kitOne PySem.W.kitCls
  rw [if_neg (fun q => by cases beq_iff_eq.mp q)]
  simp only [e, h2, h3]
  rfl
theorem kit_bi {K : PySem.W.Frag} {C : Addr} {t : String} {b : Bool} (h : PySem.W.subIn K (.ref C) (.type t) = some b) (h1 : PySem.W.kitMeta t = true) : PySem.W.kitOne K (.ref C) (.type t) = some b := by
  unfold PySem.W.kitOne PySem.W.kitCls
  rw [if_neg (fun q => by cases beq_iff_eq.mp q)]
  simp only [h1, if_true, h]
theorem exm_of {K : PySem.W.Frag} {E S : Addr} {b : Bool} (h1 : PySem.W.subIn K (.ref S) (.type "BaseException") = some true) (h2 : PySem.W.isClsIn K S = true) (h3 : PySem.W.typeIn K (.ref S) = some (.type "type")) (h4 : PySem.W.subIn K (.ref E) (.ref S) = some b) :
    PySem.W.exmOne K (.ref E) (.ref S) = some b := by
  have e : (PySem.W.clsIn K S).isSome = true := h2
  unfold PySem.W.exmOne PySem.W.kitCls
  simp only [h1, e, h3, h4]
  rfl
theorem exm_self {K : PySem.W.Frag} {S : Addr} (h1 : PySem.W.subIn K (.ref S) (.type "BaseException") = some true) (h2 : PySem.W.isClsIn K S = true) (h3 : PySem.W.typeIn K (.ref S) = some (.type "type")) (h4 : PySem.W.subIn K (.ref S) (.ref S) = some true) :
    PySem.W.exmOne K (.ref S) (.ref S) = some true := by
  have e : (PySem.W.clsIn K S).isSome = true := h2
  unfold PySem.W.exmOne PySem.W.kitCls
  simp only [h1, e, h3, h4]
  rfl
theorem txt_mk {K : PySem.W.Frag} {h : Heap} {mg : Str → Option Value} {C_Frac C_Project C_InvalidFraction C_InvalidProject C_Endless C_NextError a_InvalidFraction_init a_InvalidProject_init a_Endless_init a_is_whole a_is_within a_is_row_of a_Frac_init a_as_frac a_is_amount a_is_cost a_are_goals a_clean_row a_first_endless a_is_step_into a_clean_rows a_Project_init a_Project_len a_Project_kind a_law_box a_law_draw a_law_shape a_law_goals a_law_rows a_law_first a_law_handed a_law_right a_law_all a_law : Addr} (X : K.In h) (G : h.Ns mainGlobals mg)
    {od_InvalidFraction_init an_InvalidFraction_init od_InvalidProject_init an_InvalidProject_init od_Endless_init an_Endless_init od_is_whole an_is_whole od_is_within an_is_within od_is_row_of an_is_row_of od_Frac_init an_Frac_init od_as_frac an_as_frac od_is_amount an_is_amount od_is_cost an_is_cost od_are_goals an_are_goals od_clean_row an_clean_row od_first_endless an_first_endless od_is_step_into an_is_step_into od_clean_rows an_clean_rows od_Project_init an_Project_init od_Project_len an_Project_len od_Project_kind an_Project_kind od_law_box an_law_box od_law_draw an_law_draw od_law_shape an_law_shape od_law_goals an_law_goals od_law_rows an_law_rows od_law_first an_law_first od_law_handed an_law_handed od_law_right an_law_right od_law_all an_law_all od_law an_law : Option Addr} {sl_InvalidFraction_init sl_InvalidProject_init sl_Endless_init sl_is_whole sl_is_within sl_is_row_of sl_Frac_init sl_as_frac sl_is_amount sl_is_cost sl_are_goals sl_clean_row sl_first_endless sl_is_step_into sl_clean_rows sl_Project_init sl_Project_len sl_Project_kind sl_law_box sl_law_draw sl_law_shape sl_law_goals sl_law_rows sl_law_first sl_law_handed sl_law_right sl_law_all sl_law : Array (Option Value)} {oc_InvalidFraction_init kV_InvalidFraction_init dc_InvalidFraction_init pm_InvalidFraction_init cd_InvalidFraction_init ct_InvalidFraction_init oc_InvalidProject_init kV_InvalidProject_init dc_InvalidProject_init pm_InvalidProject_init cd_InvalidProject_init ct_InvalidProject_init oc_Endless_init kV_Endless_init dc_Endless_init pm_Endless_init cd_Endless_init ct_Endless_init oc_is_whole kV_is_whole dc_is_whole pm_is_whole cd_is_whole ct_is_whole oc_is_within kV_is_within dc_is_within pm_is_within cd_is_within ct_is_within oc_is_row_of kV_is_row_of dc_is_row_of pm_is_row_of cd_is_row_of ct_is_row_of oc_Frac_init kV_Frac_init dc_Frac_init pm_Frac_init cd_Frac_init ct_Frac_init oc_as_frac kV_as_frac dc_as_frac pm_as_frac cd_as_frac ct_as_frac oc_is_amount kV_is_amount dc_is_amount pm_is_amount cd_is_amount ct_is_amount oc_is_cost kV_is_cost dc_is_cost pm_is_cost cd_is_cost ct_is_cost oc_are_goals kV_are_goals dc_are_goals pm_are_goals cd_are_goals ct_are_goals oc_clean_row kV_clean_row dc_clean_row pm_clean_row cd_clean_row ct_clean_row oc_first_endless kV_first_endless dc_first_endless pm_first_endless cd_first_endless ct_first_endless oc_is_step_into kV_is_step_into dc_is_step_into pm_is_step_into cd_is_step_into ct_is_step_into oc_clean_rows kV_clean_rows dc_clean_rows pm_clean_rows cd_clean_rows ct_clean_rows oc_Project_init kV_Project_init dc_Project_init pm_Project_init cd_Project_init ct_Project_init oc_Project_len kV_Project_len dc_Project_len pm_Project_len cd_Project_len ct_Project_len oc_Project_kind kV_Project_kind dc_Project_kind pm_Project_kind cd_Project_kind ct_Project_kind oc_law_box kV_law_box dc_law_box pm_law_box cd_law_box ct_law_box oc_law_draw kV_law_draw dc_law_draw pm_law_draw cd_law_draw ct_law_draw oc_law_shape kV_law_shape dc_law_shape pm_law_shape cd_law_shape ct_law_shape oc_law_goals kV_law_goals dc_law_goals pm_law_goals cd_law_goals ct_law_goals oc_law_rows kV_law_rows dc_law_rows pm_law_rows cd_law_rows ct_law_rows oc_law_first kV_law_first dc_law_first pm_law_first cd_law_first ct_law_first oc_law_handed kV_law_handed dc_law_handed pm_law_handed cd_law_handed ct_law_handed oc_law_right kV_law_right dc_law_right pm_law_right cd_law_right ct_law_right oc_law_all kV_law_all dc_law_all pm_law_all cd_law_all ct_law_all oc_law kV_law dc_law pm_law cd_law ct_law : Value}
    {nm_InvalidFraction qq_InvalidFraction : Str} {N_InvalidFraction : Addr} {bs_InvalidFraction : List Value} {sn_InvalidFraction : List Str} {sub_InvalidFraction : List Value} {ab_InvalidFraction : Bool} {col_InvalidFraction : Option Bool} {dd_InvalidFraction : Option Addr} {m0_InvalidFraction m1_InvalidFraction m2_InvalidFraction m3_InvalidFraction m5_InvalidFraction : Option Value}
    {nm_InvalidProject qq_InvalidProject : Str} {N_InvalidProject : Addr} {bs_InvalidProject : List Value} {sn_InvalidProject : List Str} {sub_InvalidProject : List Value} {ab_InvalidProject : Bool} {col_InvalidProject : Option Bool} {dd_InvalidProject : Option Addr} {m0_InvalidProject m1_InvalidProject m2_InvalidProject m3_InvalidProject m5_InvalidProject : Option Value}
    {nm_Endless qq_Endless : Str} {N_Endless : Addr} {bs_Endless : List Value} {sn_Endless : List Str} {sub_Endless : List Value} {ab_Endless : Bool} {col_Endless : Option Bool} {dd_Endless : Option Addr} {m0_Endless m1_Endless m2_Endless m3_Endless m5_Endless : Option Value}
    {T_Frac_init : Addr} {o_Frac_init : Obj} {m_Frac_init : Nat} {tk0_Frac_init : Tok}
    {t_MOST_STATES : Tok}
    {t_MOST_GOALS : Tok}
    {t_MOST_WEIGHT : Tok}
    {t_MOST_NUM : Tok}
    {t_MOST_DEN : Tok}
    (hC_Frac : PySem.W.nsIn K mainGlobals "Frac" = some (some (.ref C_Frac)))
    (hC_Project : PySem.W.nsIn K mainGlobals "Project" = some (some (.ref C_Project)))
    (hC_InvalidFraction : PySem.W.nsIn K mainGlobals "InvalidFraction" = some (some (.ref C_InvalidFraction)))
    (hC_InvalidProject : PySem.W.nsIn K mainGlobals "InvalidProject" = some (some (.ref C_InvalidProject)))
    (hC_Endless : PySem.W.nsIn K mainGlobals "Endless" = some (some (.ref C_Endless)))
    (hC_NextError : PySem.W.nsIn K mainGlobals "NextError" = some (some (.ref C_NextError)))
    (pg_Frac : PySem.W.plainGet K C_Frac Str.empty = true)
    (hd_Frac : PySem.W.hasDictIn K C_Frac = true)
    (po_Frac : PySem.W.plainOver K C_Frac = true)
    (sa_Frac : PySem.W.findIn K (.ref C_Frac) "__setattr__" = some (some (.builtin "object.__setattr__")))
    (mk_Frac : PySem.W.makesIn K C_Frac = true)
    (kc_Frac : PySem.W.keepIn K (.ref C_Frac) = true)
    (na_Frac_num : PySem.W.findIn K (.ref C_Frac) "num" = some none)
    (na_Frac_den : PySem.W.findIn K (.ref C_Frac) "den" = some none)
    (cg_Frac : PySem.W.findIn K (.ref C_Frac) "__class__" = some (some (.builtin "object.__class__")))
    (mr_Frac : PySem.W.mroIn K C_Frac (.type "object") = some true)
    (pg_Project : PySem.W.plainGet K C_Project Str.empty = true)
    (hd_Project : PySem.W.hasDictIn K C_Project = true)
    (po_Project : PySem.W.plainOver K C_Project = true)
    (sa_Project : PySem.W.findIn K (.ref C_Project) "__setattr__" = some (some (.builtin "object.__setattr__")))
    (mk_Project : PySem.W.makesIn K C_Project = true)
    (kc_Project : PySem.W.keepIn K (.ref C_Project) = true)
    (na_Project_rows : PySem.W.findIn K (.ref C_Project) "rows" = some none)
    (cg_Project : PySem.W.findIn K (.ref C_Project) "__class__" = some (some (.builtin "object.__class__")))
    (mr_Project : PySem.W.mroIn K C_Project (.type "object") = some true)
    (cget : PySem.W.specialIn K (.builtin "object.__class__") "__get__" = some (some (.builtin "getset_descriptor.__get__")))
    (ctk : PySem.W.takesIn K (.builtin "object.__class__") = some true)
    (f_InvalidFraction_init : PySem.W.findIn K (.ref C_InvalidFraction) "__init__" = some (some (.ref a_InvalidFraction_init)))
    (l_InvalidFraction_init : K.lookup a_InvalidFraction_init = some ⟨oc_InvalidFraction_init, od_InvalidFraction_init, .func (PySem.W.fnOf "__init__" "InvalidFraction.__init__" (defArgs s_InvalidFraction_init) (defBody s_InvalidFraction_init) (defScope s_InvalidFraction_init) .none kV_InvalidFraction_init dc_InvalidFraction_init pm_InvalidFraction_init an_InvalidFraction_init cd_InvalidFraction_init ct_InvalidFraction_init), sl_InvalidFraction_init⟩)
    (c_InvalidFraction_init : PySem.W.codeIn K cd_InvalidFraction_init "InvalidFraction.__init__" = true)
    (k_InvalidFraction_init : PySem.W.keepIn K (.ref a_InvalidFraction_init) = true)
    (f_InvalidProject_init : PySem.W.findIn K (.ref C_InvalidProject) "__init__" = some (some (.ref a_InvalidProject_init)))
    (l_InvalidProject_init : K.lookup a_InvalidProject_init = some ⟨oc_InvalidProject_init, od_InvalidProject_init, .func (PySem.W.fnOf "__init__" "InvalidProject.__init__" (defArgs s_InvalidProject_init) (defBody s_InvalidProject_init) (defScope s_InvalidProject_init) .none kV_InvalidProject_init dc_InvalidProject_init pm_InvalidProject_init an_InvalidProject_init cd_InvalidProject_init ct_InvalidProject_init), sl_InvalidProject_init⟩)
    (c_InvalidProject_init : PySem.W.codeIn K cd_InvalidProject_init "InvalidProject.__init__" = true)
    (k_InvalidProject_init : PySem.W.keepIn K (.ref a_InvalidProject_init) = true)
    (f_Endless_init : PySem.W.findIn K (.ref C_Endless) "__init__" = some (some (.ref a_Endless_init)))
    (l_Endless_init : K.lookup a_Endless_init = some ⟨oc_Endless_init, od_Endless_init, .func (PySem.W.fnOf "__init__" "Endless.__init__" (defArgs s_Endless_init) (defBody s_Endless_init) (defScope s_Endless_init) .none kV_Endless_init dc_Endless_init pm_Endless_init an_Endless_init cd_Endless_init ct_Endless_init), sl_Endless_init⟩)
    (c_Endless_init : PySem.W.codeIn K cd_Endless_init "Endless.__init__" = true)
    (k_Endless_init : PySem.W.keepIn K (.ref a_Endless_init) = true)
    (n_is_whole : PySem.W.nsIn K mainGlobals "is_whole" = some (some (.ref a_is_whole)))
    (l_is_whole : K.lookup a_is_whole = some ⟨oc_is_whole, od_is_whole, .func (PySem.W.fnOf "is_whole" "is_whole" (defArgs s_is_whole) (defBody s_is_whole) (defScope s_is_whole) .none kV_is_whole dc_is_whole pm_is_whole an_is_whole cd_is_whole ct_is_whole), sl_is_whole⟩)
    (c_is_whole : PySem.W.codeIn K cd_is_whole "is_whole" = true)
    (k_is_whole : PySem.W.keepIn K (.ref a_is_whole) = true)
    (n_is_within : PySem.W.nsIn K mainGlobals "is_within" = some (some (.ref a_is_within)))
    (l_is_within : K.lookup a_is_within = some ⟨oc_is_within, od_is_within, .func (PySem.W.fnOf "is_within" "is_within" (defArgs s_is_within) (defBody s_is_within) (defScope s_is_within) .none kV_is_within dc_is_within pm_is_within an_is_within cd_is_within ct_is_within), sl_is_within⟩)
    (c_is_within : PySem.W.codeIn K cd_is_within "is_within" = true)
    (k_is_within : PySem.W.keepIn K (.ref a_is_within) = true)
    (n_is_row_of : PySem.W.nsIn K mainGlobals "is_row_of" = some (some (.ref a_is_row_of)))
    (l_is_row_of : K.lookup a_is_row_of = some ⟨oc_is_row_of, od_is_row_of, .func (PySem.W.fnOf "is_row_of" "is_row_of" (defArgs s_is_row_of) (defBody s_is_row_of) (defScope s_is_row_of) .none kV_is_row_of dc_is_row_of pm_is_row_of an_is_row_of cd_is_row_of ct_is_row_of), sl_is_row_of⟩)
    (c_is_row_of : PySem.W.codeIn K cd_is_row_of "is_row_of" = true)
    (k_is_row_of : PySem.W.keepIn K (.ref a_is_row_of) = true)
    (f_Frac_init : PySem.W.findIn K (.ref C_Frac) "__init__" = some (some (.ref a_Frac_init)))
    (i_Frac_init : PySem.W.isFn K (.ref a_Frac_init) = true)
    (l_Frac_init : K.lookup a_Frac_init = some ⟨oc_Frac_init, od_Frac_init, .func (PySem.W.fnOf "__init__" "Frac.__init__" (defArgs s_Frac_init) (defBody s_Frac_init) (defScope s_Frac_init) (.ref T_Frac_init) kV_Frac_init dc_Frac_init pm_Frac_init an_Frac_init cd_Frac_init ct_Frac_init), sl_Frac_init⟩)
    (c_Frac_init : PySem.W.codeIn K cd_Frac_init "Frac.__init__" = true)
    (k_Frac_init : PySem.W.keepIn K (.ref a_Frac_init) = true)
    (t_Frac_init : K.lookup T_Frac_init = some o_Frac_init)
    (u_Frac_init : o_Frac_init.data = .seq [Value.int 1 tk0_Frac_init].toArray m_Frac_init)
    (n_as_frac : PySem.W.nsIn K mainGlobals "as_frac" = some (some (.ref a_as_frac)))
    (l_as_frac : K.lookup a_as_frac = some ⟨oc_as_frac, od_as_frac, .func (PySem.W.fnOf "as_frac" "as_frac" (defArgs s_as_frac) (defBody s_as_frac) (defScope s_as_frac) .none kV_as_frac dc_as_frac pm_as_frac an_as_frac cd_as_frac ct_as_frac), sl_as_frac⟩)
    (c_as_frac : PySem.W.codeIn K cd_as_frac "as_frac" = true)
    (k_as_frac : PySem.W.keepIn K (.ref a_as_frac) = true)
    (n_is_amount : PySem.W.nsIn K mainGlobals "is_amount" = some (some (.ref a_is_amount)))
    (l_is_amount : K.lookup a_is_amount = some ⟨oc_is_amount, od_is_amount, .func (PySem.W.fnOf "is_amount" "is_amount" (defArgs s_is_amount) (defBody s_is_amount) (defScope s_is_amount) .none kV_is_amount dc_is_amount pm_is_amount an_is_amount cd_is_amount ct_is_amount), sl_is_amount⟩)
    (c_is_amount : PySem.W.codeIn K cd_is_amount "is_amount" = true)
    (k_is_amount : PySem.W.keepIn K (.ref a_is_amount) = true)
    (n_is_cost : PySem.W.nsIn K mainGlobals "is_cost" = some (some (.ref a_is_cost)))
    (l_is_cost : K.lookup a_is_cost = some ⟨oc_is_cost, od_is_cost, .func (PySem.W.fnOf "is_cost" "is_cost" (defArgs s_is_cost) (defBody s_is_cost) (defScope s_is_cost) .none kV_is_cost dc_is_cost pm_is_cost an_is_cost cd_is_cost ct_is_cost), sl_is_cost⟩)
    (c_is_cost : PySem.W.codeIn K cd_is_cost "is_cost" = true)
    (k_is_cost : PySem.W.keepIn K (.ref a_is_cost) = true)
    (n_are_goals : PySem.W.nsIn K mainGlobals "are_goals" = some (some (.ref a_are_goals)))
    (l_are_goals : K.lookup a_are_goals = some ⟨oc_are_goals, od_are_goals, .func (PySem.W.fnOf "are_goals" "are_goals" (defArgs s_are_goals) (defBody s_are_goals) (defScope s_are_goals) .none kV_are_goals dc_are_goals pm_are_goals an_are_goals cd_are_goals ct_are_goals), sl_are_goals⟩)
    (c_are_goals : PySem.W.codeIn K cd_are_goals "are_goals" = true)
    (k_are_goals : PySem.W.keepIn K (.ref a_are_goals) = true)
    (n_clean_row : PySem.W.nsIn K mainGlobals "clean_row" = some (some (.ref a_clean_row)))
    (l_clean_row : K.lookup a_clean_row = some ⟨oc_clean_row, od_clean_row, .func (PySem.W.fnOf "clean_row" "clean_row" (defArgs s_clean_row) (defBody s_clean_row) (defScope s_clean_row) .none kV_clean_row dc_clean_row pm_clean_row an_clean_row cd_clean_row ct_clean_row), sl_clean_row⟩)
    (c_clean_row : PySem.W.codeIn K cd_clean_row "clean_row" = true)
    (k_clean_row : PySem.W.keepIn K (.ref a_clean_row) = true)
    (n_first_endless : PySem.W.nsIn K mainGlobals "first_endless" = some (some (.ref a_first_endless)))
    (l_first_endless : K.lookup a_first_endless = some ⟨oc_first_endless, od_first_endless, .func (PySem.W.fnOf "first_endless" "first_endless" (defArgs s_first_endless) (defBody s_first_endless) (defScope s_first_endless) .none kV_first_endless dc_first_endless pm_first_endless an_first_endless cd_first_endless ct_first_endless), sl_first_endless⟩)
    (c_first_endless : PySem.W.codeIn K cd_first_endless "first_endless" = true)
    (k_first_endless : PySem.W.keepIn K (.ref a_first_endless) = true)
    (n_is_step_into : PySem.W.nsIn K mainGlobals "is_step_into" = some (some (.ref a_is_step_into)))
    (l_is_step_into : K.lookup a_is_step_into = some ⟨oc_is_step_into, od_is_step_into, .func (PySem.W.fnOf "is_step_into" "is_step_into" (defArgs s_is_step_into) (defBody s_is_step_into) (defScope s_is_step_into) .none kV_is_step_into dc_is_step_into pm_is_step_into an_is_step_into cd_is_step_into ct_is_step_into), sl_is_step_into⟩)
    (c_is_step_into : PySem.W.codeIn K cd_is_step_into "is_step_into" = true)
    (k_is_step_into : PySem.W.keepIn K (.ref a_is_step_into) = true)
    (n_clean_rows : PySem.W.nsIn K mainGlobals "clean_rows" = some (some (.ref a_clean_rows)))
    (l_clean_rows : K.lookup a_clean_rows = some ⟨oc_clean_rows, od_clean_rows, .func (PySem.W.fnOf "clean_rows" "clean_rows" (defArgs s_clean_rows) (defBody s_clean_rows) (defScope s_clean_rows) .none kV_clean_rows dc_clean_rows pm_clean_rows an_clean_rows cd_clean_rows ct_clean_rows), sl_clean_rows⟩)
    (c_clean_rows : PySem.W.codeIn K cd_clean_rows "clean_rows" = true)
    (k_clean_rows : PySem.W.keepIn K (.ref a_clean_rows) = true)
    (f_Project_init : PySem.W.findIn K (.ref C_Project) "__init__" = some (some (.ref a_Project_init)))
    (i_Project_init : PySem.W.isFn K (.ref a_Project_init) = true)
    (l_Project_init : K.lookup a_Project_init = some ⟨oc_Project_init, od_Project_init, .func (PySem.W.fnOf "__init__" "Project.__init__" (defArgs s_Project_init) (defBody s_Project_init) (defScope s_Project_init) .none kV_Project_init dc_Project_init pm_Project_init an_Project_init cd_Project_init ct_Project_init), sl_Project_init⟩)
    (c_Project_init : PySem.W.codeIn K cd_Project_init "Project.__init__" = true)
    (k_Project_init : PySem.W.keepIn K (.ref a_Project_init) = true)
    (f_Project_len : PySem.W.findIn K (.ref C_Project) "__len__" = some (some (.ref a_Project_len)))
    (i_Project_len : PySem.W.isFn K (.ref a_Project_len) = true)
    (l_Project_len : K.lookup a_Project_len = some ⟨oc_Project_len, od_Project_len, .func (PySem.W.fnOf "__len__" "Project.__len__" (defArgs s_Project_len) (defBody s_Project_len) (defScope s_Project_len) .none kV_Project_len dc_Project_len pm_Project_len an_Project_len cd_Project_len ct_Project_len), sl_Project_len⟩)
    (c_Project_len : PySem.W.codeIn K cd_Project_len "Project.__len__" = true)
    (k_Project_len : PySem.W.keepIn K (.ref a_Project_len) = true)
    (f_Project_kind : PySem.W.findIn K (.ref C_Project) "kind" = some (some (.ref a_Project_kind)))
    (i_Project_kind : PySem.W.isFn K (.ref a_Project_kind) = true)
    (l_Project_kind : K.lookup a_Project_kind = some ⟨oc_Project_kind, od_Project_kind, .func (PySem.W.fnOf "kind" "Project.kind" (defArgs s_Project_kind) (defBody s_Project_kind) (defScope s_Project_kind) .none kV_Project_kind dc_Project_kind pm_Project_kind an_Project_kind cd_Project_kind ct_Project_kind), sl_Project_kind⟩)
    (c_Project_kind : PySem.W.codeIn K cd_Project_kind "Project.kind" = true)
    (k_Project_kind : PySem.W.keepIn K (.ref a_Project_kind) = true)
    (n_law_box : PySem.W.nsIn K mainGlobals "_law_box" = some (some (.ref a_law_box)))
    (l_law_box : K.lookup a_law_box = some ⟨oc_law_box, od_law_box, .func (PySem.W.fnOf "_law_box" "_law_box" (defArgs s_law_box) (defBody s_law_box) (defScope s_law_box) .none kV_law_box dc_law_box pm_law_box an_law_box cd_law_box ct_law_box), sl_law_box⟩)
    (c_law_box : PySem.W.codeIn K cd_law_box "_law_box" = true)
    (k_law_box : PySem.W.keepIn K (.ref a_law_box) = true)
    (n_law_draw : PySem.W.nsIn K mainGlobals "_law_draw" = some (some (.ref a_law_draw)))
    (l_law_draw : K.lookup a_law_draw = some ⟨oc_law_draw, od_law_draw, .func (PySem.W.fnOf "_law_draw" "_law_draw" (defArgs s_law_draw) (defBody s_law_draw) (defScope s_law_draw) .none kV_law_draw dc_law_draw pm_law_draw an_law_draw cd_law_draw ct_law_draw), sl_law_draw⟩)
    (c_law_draw : PySem.W.codeIn K cd_law_draw "_law_draw" = true)
    (k_law_draw : PySem.W.keepIn K (.ref a_law_draw) = true)
    (n_law_shape : PySem.W.nsIn K mainGlobals "_law_shape" = some (some (.ref a_law_shape)))
    (l_law_shape : K.lookup a_law_shape = some ⟨oc_law_shape, od_law_shape, .func (PySem.W.fnOf "_law_shape" "_law_shape" (defArgs s_law_shape) (defBody s_law_shape) (defScope s_law_shape) .none kV_law_shape dc_law_shape pm_law_shape an_law_shape cd_law_shape ct_law_shape), sl_law_shape⟩)
    (c_law_shape : PySem.W.codeIn K cd_law_shape "_law_shape" = true)
    (k_law_shape : PySem.W.keepIn K (.ref a_law_shape) = true)
    (n_law_goals : PySem.W.nsIn K mainGlobals "_law_goals" = some (some (.ref a_law_goals)))
    (l_law_goals : K.lookup a_law_goals = some ⟨oc_law_goals, od_law_goals, .func (PySem.W.fnOf "_law_goals" "_law_goals" (defArgs s_law_goals) (defBody s_law_goals) (defScope s_law_goals) .none kV_law_goals dc_law_goals pm_law_goals an_law_goals cd_law_goals ct_law_goals), sl_law_goals⟩)
    (c_law_goals : PySem.W.codeIn K cd_law_goals "_law_goals" = true)
    (k_law_goals : PySem.W.keepIn K (.ref a_law_goals) = true)
    (n_law_rows : PySem.W.nsIn K mainGlobals "_law_rows" = some (some (.ref a_law_rows)))
    (l_law_rows : K.lookup a_law_rows = some ⟨oc_law_rows, od_law_rows, .func (PySem.W.fnOf "_law_rows" "_law_rows" (defArgs s_law_rows) (defBody s_law_rows) (defScope s_law_rows) .none kV_law_rows dc_law_rows pm_law_rows an_law_rows cd_law_rows ct_law_rows), sl_law_rows⟩)
    (c_law_rows : PySem.W.codeIn K cd_law_rows "_law_rows" = true)
    (k_law_rows : PySem.W.keepIn K (.ref a_law_rows) = true)
    (n_law_first : PySem.W.nsIn K mainGlobals "_law_first" = some (some (.ref a_law_first)))
    (l_law_first : K.lookup a_law_first = some ⟨oc_law_first, od_law_first, .func (PySem.W.fnOf "_law_first" "_law_first" (defArgs s_law_first) (defBody s_law_first) (defScope s_law_first) .none kV_law_first dc_law_first pm_law_first an_law_first cd_law_first ct_law_first), sl_law_first⟩)
    (c_law_first : PySem.W.codeIn K cd_law_first "_law_first" = true)
    (k_law_first : PySem.W.keepIn K (.ref a_law_first) = true)
    (n_law_handed : PySem.W.nsIn K mainGlobals "_law_handed" = some (some (.ref a_law_handed)))
    (l_law_handed : K.lookup a_law_handed = some ⟨oc_law_handed, od_law_handed, .func (PySem.W.fnOf "_law_handed" "_law_handed" (defArgs s_law_handed) (defBody s_law_handed) (defScope s_law_handed) .none kV_law_handed dc_law_handed pm_law_handed an_law_handed cd_law_handed ct_law_handed), sl_law_handed⟩)
    (c_law_handed : PySem.W.codeIn K cd_law_handed "_law_handed" = true)
    (k_law_handed : PySem.W.keepIn K (.ref a_law_handed) = true)
    (n_law_right : PySem.W.nsIn K mainGlobals "_law_right" = some (some (.ref a_law_right)))
    (l_law_right : K.lookup a_law_right = some ⟨oc_law_right, od_law_right, .func (PySem.W.fnOf "_law_right" "_law_right" (defArgs s_law_right) (defBody s_law_right) (defScope s_law_right) .none kV_law_right dc_law_right pm_law_right an_law_right cd_law_right ct_law_right), sl_law_right⟩)
    (c_law_right : PySem.W.codeIn K cd_law_right "_law_right" = true)
    (k_law_right : PySem.W.keepIn K (.ref a_law_right) = true)
    (n_law_all : PySem.W.nsIn K mainGlobals "_law_all" = some (some (.ref a_law_all)))
    (l_law_all : K.lookup a_law_all = some ⟨oc_law_all, od_law_all, .func (PySem.W.fnOf "_law_all" "_law_all" (defArgs s_law_all) (defBody s_law_all) (defScope s_law_all) .none kV_law_all dc_law_all pm_law_all an_law_all cd_law_all ct_law_all), sl_law_all⟩)
    (c_law_all : PySem.W.codeIn K cd_law_all "_law_all" = true)
    (k_law_all : PySem.W.keepIn K (.ref a_law_all) = true)
    (n_law : PySem.W.nsIn K mainGlobals "law" = some (some (.ref a_law)))
    (l_law : K.lookup a_law = some ⟨oc_law, od_law, .func (PySem.W.fnOf "law" "law" (defArgs s_law) (defBody s_law) (defScope s_law) .none kV_law dc_law pm_law an_law cd_law ct_law), sl_law⟩)
    (c_law : PySem.W.codeIn K cd_law "law" = true)
    (k_law : PySem.W.keepIn K (.ref a_law) = true)
    (x_InvalidFraction : K.lookup C_InvalidFraction = some (excClassObj nm_InvalidFraction qq_InvalidFraction C_InvalidFraction N_InvalidFraction bs_InvalidFraction (.ref C_NextError :: [.type "ValueError", .type "Exception", .type "BaseException", .type "object"]) true sn_InvalidFraction sub_InvalidFraction ab_InvalidFraction col_InvalidFraction dd_InvalidFraction m0_InvalidFraction m1_InvalidFraction m2_InvalidFraction m3_InvalidFraction m5_InvalidFraction "ValueError.__new__"))
    (sa_InvalidFraction : PySem.W.findIn K (.ref C_InvalidFraction) "__setattr__" = some (some (.builtin "object.__setattr__")))
    (ex_InvalidFraction : PySem.W.subIn K (.ref C_InvalidFraction) (.type "BaseException") = some true)
    (ty_InvalidFraction : PySem.W.typeIn K (.ref C_InvalidFraction) = some (.type "type"))
    (kc_InvalidFraction : PySem.W.keepIn K (.ref C_InvalidFraction) = true)
    (ga_InvalidFraction : PySem.W.findIn K (.ref C_InvalidFraction) "__getattribute__" = some (some (.builtin "BaseException.__getattribute__")))
    (gg_InvalidFraction : PySem.W.findIn K (.ref C_InvalidFraction) "__getattr__" = some none)
    (hd_InvalidFraction : PySem.W.hasDictIn K C_InvalidFraction = true)
    (is_InvalidFraction : PySem.W.isClsIn K C_InvalidFraction = true)
    (ss_InvalidFraction : PySem.W.subIn K (.ref C_InvalidFraction) (.ref C_InvalidFraction) = some true)
    (na_InvalidFraction_value : PySem.W.findIn K (.ref C_InvalidFraction) "value" = some none)
    (ti_InvalidFraction : PySem.W.typeIn K (.ref a_InvalidFraction_init) = some (.type "function"))
    (x_InvalidProject : K.lookup C_InvalidProject = some (excClassObj nm_InvalidProject qq_InvalidProject C_InvalidProject N_InvalidProject bs_InvalidProject (.ref C_NextError :: [.type "ValueError", .type "Exception", .type "BaseException", .type "object"]) true sn_InvalidProject sub_InvalidProject ab_InvalidProject col_InvalidProject dd_InvalidProject m0_InvalidProject m1_InvalidProject m2_InvalidProject m3_InvalidProject m5_InvalidProject "ValueError.__new__"))
    (sa_InvalidProject : PySem.W.findIn K (.ref C_InvalidProject) "__setattr__" = some (some (.builtin "object.__setattr__")))
    (ex_InvalidProject : PySem.W.subIn K (.ref C_InvalidProject) (.type "BaseException") = some true)
    (ty_InvalidProject : PySem.W.typeIn K (.ref C_InvalidProject) = some (.type "type"))
    (kc_InvalidProject : PySem.W.keepIn K (.ref C_InvalidProject) = true)
    (ga_InvalidProject : PySem.W.findIn K (.ref C_InvalidProject) "__getattribute__" = some (some (.builtin "BaseException.__getattribute__")))
    (gg_InvalidProject : PySem.W.findIn K (.ref C_InvalidProject) "__getattr__" = some none)
    (hd_InvalidProject : PySem.W.hasDictIn K C_InvalidProject = true)
    (is_InvalidProject : PySem.W.isClsIn K C_InvalidProject = true)
    (ss_InvalidProject : PySem.W.subIn K (.ref C_InvalidProject) (.ref C_InvalidProject) = some true)
    (na_InvalidProject_state : PySem.W.findIn K (.ref C_InvalidProject) "state" = some none)
    (ti_InvalidProject : PySem.W.typeIn K (.ref a_InvalidProject_init) = some (.type "function"))
    (x_Endless : K.lookup C_Endless = some (excClassObj nm_Endless qq_Endless C_Endless N_Endless bs_Endless (.ref C_NextError :: [.type "ValueError", .type "Exception", .type "BaseException", .type "object"]) true sn_Endless sub_Endless ab_Endless col_Endless dd_Endless m0_Endless m1_Endless m2_Endless m3_Endless m5_Endless "ValueError.__new__"))
    (sa_Endless : PySem.W.findIn K (.ref C_Endless) "__setattr__" = some (some (.builtin "object.__setattr__")))
    (ex_Endless : PySem.W.subIn K (.ref C_Endless) (.type "BaseException") = some true)
    (ty_Endless : PySem.W.typeIn K (.ref C_Endless) = some (.type "type"))
    (kc_Endless : PySem.W.keepIn K (.ref C_Endless) = true)
    (ga_Endless : PySem.W.findIn K (.ref C_Endless) "__getattribute__" = some (some (.builtin "BaseException.__getattribute__")))
    (gg_Endless : PySem.W.findIn K (.ref C_Endless) "__getattr__" = some none)
    (hd_Endless : PySem.W.hasDictIn K C_Endless = true)
    (is_Endless : PySem.W.isClsIn K C_Endless = true)
    (ss_Endless : PySem.W.subIn K (.ref C_Endless) (.ref C_Endless) = some true)
    (na_Endless_state : PySem.W.findIn K (.ref C_Endless) "state" = some none)
    (ti_Endless : PySem.W.typeIn K (.ref a_Endless_init) = some (.type "function"))
    (sx_Endless_InvalidProject : PySem.W.subIn K (.ref C_Endless) (.ref C_InvalidProject) = some false)
    (z_isinstance : PySem.W.nsIn K mainGlobals "isinstance" = some none)
    (z_int : PySem.W.nsIn K mainGlobals "int" = some none)
    (z_bool : PySem.W.nsIn K mainGlobals "bool" = some none)
    (z_range : PySem.W.nsIn K mainGlobals "range" = some none)
    (z_len : PySem.W.nsIn K mainGlobals "len" = some none)
    (z_abs : PySem.W.nsIn K mainGlobals "abs" = some none)
    (z_max : PySem.W.nsIn K mainGlobals "max" = some none)
    (z_min : PySem.W.nsIn K mainGlobals "min" = some none)
    (z_str : PySem.W.nsIn K mainGlobals "str" = some none)
    (z_list : PySem.W.nsIn K mainGlobals "list" = some none)
    (z_tuple : PySem.W.nsIn K mainGlobals "tuple" = some none)
    (z_enumerate : PySem.W.nsIn K mainGlobals "enumerate" = some none)
    (z_any : PySem.W.nsIn K mainGlobals "any" = some none)
    (v_MOST_STATES : PySem.W.nsIn K mainGlobals "MOST_STATES" = some (some (.int 8 t_MOST_STATES)))
    (v_MOST_GOALS : PySem.W.nsIn K mainGlobals "MOST_GOALS" = some (some (.int 8 t_MOST_GOALS)))
    (v_MOST_WEIGHT : PySem.W.nsIn K mainGlobals "MOST_WEIGHT" = some (some (.int 999 t_MOST_WEIGHT)))
    (v_MOST_NUM : PySem.W.nsIn K mainGlobals "MOST_NUM" = some (some (.int 9999 t_MOST_NUM)))
    (v_MOST_DEN : PySem.W.nsIn K mainGlobals "MOST_DEN" = some (some (.int 99 t_MOST_DEN)))
    (v_gcd : PySem.W.nsIn K mainGlobals "gcd" = some (some (.builtin "math.gcd")))
    (is_Frac : PySem.W.isClsIn K C_Frac = true)
    (ty_Frac : PySem.W.typeIn K (.ref C_Frac) = some (.type "type"))
    (is_Project : PySem.W.isClsIn K C_Project = true)
    (ty_Project : PySem.W.typeIn K (.ref C_Project) = some (.type "type"))
    (sb_F_int : PySem.W.subIn K (.ref C_Frac) (.type "int") = some false)
    (sb_none_F : PySem.W.subIn K (.type "NoneType") (.ref C_Frac) = some false)
    (sb_bool_F : PySem.W.subIn K (.type "bool") (.ref C_Frac) = some false)
    (sb_int_F : PySem.W.subIn K (.type "int") (.ref C_Frac) = some false)
    (sb_str_F : PySem.W.subIn K (.type "str") (.ref C_Frac) = some false)
    (sb_list_F : PySem.W.subIn K (.type "list") (.ref C_Frac) = some false)
    (sb_tuple_F : PySem.W.subIn K (.type "tuple") (.ref C_Frac) = some false)
    : Txt K mg ⟨C_Frac, C_Project, C_InvalidFraction, C_InvalidProject, C_Endless, C_NextError, a_InvalidFraction_init, a_InvalidProject_init, a_Endless_init, a_is_whole, a_is_within, a_is_row_of, a_Frac_init, a_as_frac, a_is_amount, a_is_cost, a_are_goals, a_clean_row, a_first_endless, a_is_step_into, a_clean_rows, a_Project_init, a_Project_len, a_Project_kind, a_law_box, a_law_draw, a_law_shape, a_law_goals, a_law_rows, a_law_first, a_law_handed, a_law_right, a_law_all, a_law, PySem.W.fnOf "__init__" "InvalidFraction.__init__" (defArgs s_InvalidFraction_init) (defBody s_InvalidFraction_init) (defScope s_InvalidFraction_init) .none kV_InvalidFraction_init dc_InvalidFraction_init pm_InvalidFraction_init an_InvalidFraction_init cd_InvalidFraction_init ct_InvalidFraction_init, PySem.W.fnOf "__init__" "InvalidProject.__init__" (defArgs s_InvalidProject_init) (defBody s_InvalidProject_init) (defScope s_InvalidProject_init) .none kV_InvalidProject_init dc_InvalidProject_init pm_InvalidProject_init an_InvalidProject_init cd_InvalidProject_init ct_InvalidProject_init, PySem.W.fnOf "__init__" "Endless.__init__" (defArgs s_Endless_init) (defBody s_Endless_init) (defScope s_Endless_init) .none kV_Endless_init dc_Endless_init pm_Endless_init an_Endless_init cd_Endless_init ct_Endless_init, PySem.W.fnOf "is_whole" "is_whole" (defArgs s_is_whole) (defBody s_is_whole) (defScope s_is_whole) .none kV_is_whole dc_is_whole pm_is_whole an_is_whole cd_is_whole ct_is_whole, PySem.W.fnOf "is_within" "is_within" (defArgs s_is_within) (defBody s_is_within) (defScope s_is_within) .none kV_is_within dc_is_within pm_is_within an_is_within cd_is_within ct_is_within, PySem.W.fnOf "is_row_of" "is_row_of" (defArgs s_is_row_of) (defBody s_is_row_of) (defScope s_is_row_of) .none kV_is_row_of dc_is_row_of pm_is_row_of an_is_row_of cd_is_row_of ct_is_row_of, PySem.W.fnOf "__init__" "Frac.__init__" (defArgs s_Frac_init) (defBody s_Frac_init) (defScope s_Frac_init) (.ref T_Frac_init) kV_Frac_init dc_Frac_init pm_Frac_init an_Frac_init cd_Frac_init ct_Frac_init, PySem.W.fnOf "as_frac" "as_frac" (defArgs s_as_frac) (defBody s_as_frac) (defScope s_as_frac) .none kV_as_frac dc_as_frac pm_as_frac an_as_frac cd_as_frac ct_as_frac, PySem.W.fnOf "is_amount" "is_amount" (defArgs s_is_amount) (defBody s_is_amount) (defScope s_is_amount) .none kV_is_amount dc_is_amount pm_is_amount an_is_amount cd_is_amount ct_is_amount, PySem.W.fnOf "is_cost" "is_cost" (defArgs s_is_cost) (defBody s_is_cost) (defScope s_is_cost) .none kV_is_cost dc_is_cost pm_is_cost an_is_cost cd_is_cost ct_is_cost, PySem.W.fnOf "are_goals" "are_goals" (defArgs s_are_goals) (defBody s_are_goals) (defScope s_are_goals) .none kV_are_goals dc_are_goals pm_are_goals an_are_goals cd_are_goals ct_are_goals, PySem.W.fnOf "clean_row" "clean_row" (defArgs s_clean_row) (defBody s_clean_row) (defScope s_clean_row) .none kV_clean_row dc_clean_row pm_clean_row an_clean_row cd_clean_row ct_clean_row, PySem.W.fnOf "first_endless" "first_endless" (defArgs s_first_endless) (defBody s_first_endless) (defScope s_first_endless) .none kV_first_endless dc_first_endless pm_first_endless an_first_endless cd_first_endless ct_first_endless, PySem.W.fnOf "is_step_into" "is_step_into" (defArgs s_is_step_into) (defBody s_is_step_into) (defScope s_is_step_into) .none kV_is_step_into dc_is_step_into pm_is_step_into an_is_step_into cd_is_step_into ct_is_step_into, PySem.W.fnOf "clean_rows" "clean_rows" (defArgs s_clean_rows) (defBody s_clean_rows) (defScope s_clean_rows) .none kV_clean_rows dc_clean_rows pm_clean_rows an_clean_rows cd_clean_rows ct_clean_rows, PySem.W.fnOf "__init__" "Project.__init__" (defArgs s_Project_init) (defBody s_Project_init) (defScope s_Project_init) .none kV_Project_init dc_Project_init pm_Project_init an_Project_init cd_Project_init ct_Project_init, PySem.W.fnOf "__len__" "Project.__len__" (defArgs s_Project_len) (defBody s_Project_len) (defScope s_Project_len) .none kV_Project_len dc_Project_len pm_Project_len an_Project_len cd_Project_len ct_Project_len, PySem.W.fnOf "kind" "Project.kind" (defArgs s_Project_kind) (defBody s_Project_kind) (defScope s_Project_kind) .none kV_Project_kind dc_Project_kind pm_Project_kind an_Project_kind cd_Project_kind ct_Project_kind, PySem.W.fnOf "_law_box" "_law_box" (defArgs s_law_box) (defBody s_law_box) (defScope s_law_box) .none kV_law_box dc_law_box pm_law_box an_law_box cd_law_box ct_law_box, PySem.W.fnOf "_law_draw" "_law_draw" (defArgs s_law_draw) (defBody s_law_draw) (defScope s_law_draw) .none kV_law_draw dc_law_draw pm_law_draw an_law_draw cd_law_draw ct_law_draw, PySem.W.fnOf "_law_shape" "_law_shape" (defArgs s_law_shape) (defBody s_law_shape) (defScope s_law_shape) .none kV_law_shape dc_law_shape pm_law_shape an_law_shape cd_law_shape ct_law_shape, PySem.W.fnOf "_law_goals" "_law_goals" (defArgs s_law_goals) (defBody s_law_goals) (defScope s_law_goals) .none kV_law_goals dc_law_goals pm_law_goals an_law_goals cd_law_goals ct_law_goals, PySem.W.fnOf "_law_rows" "_law_rows" (defArgs s_law_rows) (defBody s_law_rows) (defScope s_law_rows) .none kV_law_rows dc_law_rows pm_law_rows an_law_rows cd_law_rows ct_law_rows, PySem.W.fnOf "_law_first" "_law_first" (defArgs s_law_first) (defBody s_law_first) (defScope s_law_first) .none kV_law_first dc_law_first pm_law_first an_law_first cd_law_first ct_law_first, PySem.W.fnOf "_law_handed" "_law_handed" (defArgs s_law_handed) (defBody s_law_handed) (defScope s_law_handed) .none kV_law_handed dc_law_handed pm_law_handed an_law_handed cd_law_handed ct_law_handed, PySem.W.fnOf "_law_right" "_law_right" (defArgs s_law_right) (defBody s_law_right) (defScope s_law_right) .none kV_law_right dc_law_right pm_law_right an_law_right cd_law_right ct_law_right, PySem.W.fnOf "_law_all" "_law_all" (defArgs s_law_all) (defBody s_law_all) (defScope s_law_all) .none kV_law_all dc_law_all pm_law_all an_law_all cd_law_all ct_law_all, PySem.W.fnOf "law" "law" (defArgs s_law) (defBody s_law) (defScope s_law) .none kV_law dc_law pm_law an_law cd_law ct_law⟩ :=
  { mg_Frac := PySem.W.mg_of X G hC_Frac
    mg_Project := PySem.W.mg_of X G hC_Project
    mg_InvalidFraction := PySem.W.mg_of X G hC_InvalidFraction
    mg_InvalidProject := PySem.W.mg_of X G hC_InvalidProject
    mg_Endless := PySem.W.mg_of X G hC_Endless
    mg_NextError := PySem.W.mg_of X G hC_NextError
    cl_Frac := ⟨pg_Frac, hd_Frac, po_Frac, sa_Frac⟩
    na_Frac_num := na_Frac_num
    na_Frac_den := na_Frac_den
    cg_Frac := cg_Frac
    mr_Frac := mr_Frac
    cl_Project := ⟨pg_Project, hd_Project, po_Project, sa_Project⟩
    na_Project_rows := na_Project_rows
    cg_Project := cg_Project
    mr_Project := mr_Project
    cget := cget
    ctk := ctk
    fn_InvalidFraction_init := fun_mk (st := s_InvalidFraction_init) l_InvalidFraction_init c_InvalidFraction_init k_InvalidFraction_init
    b_InvalidFraction_init := (fun_mk (st := s_InvalidFraction_init) l_InvalidFraction_init c_InvalidFraction_init k_InvalidFraction_init).binds (ps := ["self", "value"]) fun _ _ _ _ _ _ us hl => match us, hl with | [_, _], _ => rfl
    fn_InvalidProject_init := fun_mk (st := s_InvalidProject_init) l_InvalidProject_init c_InvalidProject_init k_InvalidProject_init
    b_InvalidProject_init := (fun_mk (st := s_InvalidProject_init) l_InvalidProject_init c_InvalidProject_init k_InvalidProject_init).binds (ps := ["self", "state"]) fun _ _ _ _ _ _ us hl => match us, hl with | [_, _], _ => rfl
    fn_Endless_init := fun_mk (st := s_Endless_init) l_Endless_init c_Endless_init k_Endless_init
    b_Endless_init := (fun_mk (st := s_Endless_init) l_Endless_init c_Endless_init k_Endless_init).binds (ps := ["self", "state"]) fun _ _ _ _ _ _ us hl => match us, hl with | [_, _], _ => rfl
    mg_is_whole := PySem.W.mg_of X G n_is_whole
    fn_is_whole := fun_mk (st := s_is_whole) l_is_whole c_is_whole k_is_whole
    b_is_whole := (fun_mk (st := s_is_whole) l_is_whole c_is_whole k_is_whole).binds (ps := ["value"]) fun _ _ _ _ _ _ us hl => match us, hl with | [_], _ => rfl
    mg_is_within := PySem.W.mg_of X G n_is_within
    fn_is_within := fun_mk (st := s_is_within) l_is_within c_is_within k_is_within
    b_is_within := (fun_mk (st := s_is_within) l_is_within c_is_within k_is_within).binds (ps := ["value", "least", "most"]) fun _ _ _ _ _ _ us hl => match us, hl with | [_, _, _], _ => rfl
    mg_is_row_of := PySem.W.mg_of X G n_is_row_of
    fn_is_row_of := fun_mk (st := s_is_row_of) l_is_row_of c_is_row_of k_is_row_of
    b_is_row_of := (fun_mk (st := s_is_row_of) l_is_row_of c_is_row_of k_is_row_of).binds (ps := ["value", "least", "most"]) fun _ _ _ _ _ _ us hl => match us, hl with | [_, _, _], _ => rfl
    fn_Frac_init := ⟨⟨_, _, _, _, _, _, _, _, _, _, rfl, l_Frac_init, c_Frac_init, .inr ⟨by simp, T_Frac_init, _, _, _, rfl, t_Frac_init, u_Frac_init, .cons ⟨_, rfl⟩ (.nil)⟩, .inl rfl⟩, k_Frac_init⟩
    mt_Frac_init := ⟨f_Frac_init, i_Frac_init, k_Frac_init⟩
    mg_as_frac := PySem.W.mg_of X G n_as_frac
    fn_as_frac := fun_mk (st := s_as_frac) l_as_frac c_as_frac k_as_frac
    b_as_frac := (fun_mk (st := s_as_frac) l_as_frac c_as_frac k_as_frac).binds (ps := ["value"]) fun _ _ _ _ _ _ us hl => match us, hl with | [_], _ => rfl
    mg_is_amount := PySem.W.mg_of X G n_is_amount
    fn_is_amount := fun_mk (st := s_is_amount) l_is_amount c_is_amount k_is_amount
    b_is_amount := (fun_mk (st := s_is_amount) l_is_amount c_is_amount k_is_amount).binds (ps := ["value"]) fun _ _ _ _ _ _ us hl => match us, hl with | [_], _ => rfl
    mg_is_cost := PySem.W.mg_of X G n_is_cost
    fn_is_cost := fun_mk (st := s_is_cost) l_is_cost c_is_cost k_is_cost
    b_is_cost := (fun_mk (st := s_is_cost) l_is_cost c_is_cost k_is_cost).binds (ps := ["value"]) fun _ _ _ _ _ _ us hl => match us, hl with | [_], _ => rfl
    mg_are_goals := PySem.W.mg_of X G n_are_goals
    fn_are_goals := fun_mk (st := s_are_goals) l_are_goals c_are_goals k_are_goals
    b_are_goals := (fun_mk (st := s_are_goals) l_are_goals c_are_goals k_are_goals).binds (ps := ["goals", "states"]) fun _ _ _ _ _ _ us hl => match us, hl with | [_, _], _ => rfl
    mg_clean_row := PySem.W.mg_of X G n_clean_row
    fn_clean_row := fun_mk (st := s_clean_row) l_clean_row c_clean_row k_clean_row
    b_clean_row := (fun_mk (st := s_clean_row) l_clean_row c_clean_row k_clean_row).binds (ps := ["row", "states"]) fun _ _ _ _ _ _ us hl => match us, hl with | [_, _], _ => rfl
    mg_first_endless := PySem.W.mg_of X G n_first_endless
    fn_first_endless := fun_mk (st := s_first_endless) l_first_endless c_first_endless k_first_endless
    b_first_endless := (fun_mk (st := s_first_endless) l_first_endless c_first_endless k_first_endless).binds (ps := ["rows"]) fun _ _ _ _ _ _ us hl => match us, hl with | [_], _ => rfl
    mg_is_step_into := PySem.W.mg_of X G n_is_step_into
    fn_is_step_into := fun_mk (st := s_is_step_into) l_is_step_into c_is_step_into k_is_step_into
    b_is_step_into := (fun_mk (st := s_is_step_into) l_is_step_into c_is_step_into k_is_step_into).binds (ps := ["row", "marks"]) fun _ _ _ _ _ _ us hl => match us, hl with | [_, _], _ => rfl
    mg_clean_rows := PySem.W.mg_of X G n_clean_rows
    fn_clean_rows := fun_mk (st := s_clean_rows) l_clean_rows c_clean_rows k_clean_rows
    b_clean_rows := (fun_mk (st := s_clean_rows) l_clean_rows c_clean_rows k_clean_rows).binds (ps := ["rows"]) fun _ _ _ _ _ _ us hl => match us, hl with | [_], _ => rfl
    fn_Project_init := fun_mk (st := s_Project_init) l_Project_init c_Project_init k_Project_init
    b_Project_init := (fun_mk (st := s_Project_init) l_Project_init c_Project_init k_Project_init).binds (ps := ["self", "rows"]) fun _ _ _ _ _ _ us hl => match us, hl with | [_, _], _ => rfl
    mt_Project_init := ⟨f_Project_init, i_Project_init, k_Project_init⟩
    fn_Project_len := fun_mk (st := s_Project_len) l_Project_len c_Project_len k_Project_len
    b_Project_len := (fun_mk (st := s_Project_len) l_Project_len c_Project_len k_Project_len).binds (ps := ["self"]) fun _ _ _ _ _ _ us hl => match us, hl with | [_], _ => rfl
    mt_Project_len := ⟨f_Project_len, i_Project_len, k_Project_len⟩
    fn_Project_kind := fun_mk (st := s_Project_kind) l_Project_kind c_Project_kind k_Project_kind
    b_Project_kind := (fun_mk (st := s_Project_kind) l_Project_kind c_Project_kind k_Project_kind).binds (ps := ["self", "state"]) fun _ _ _ _ _ _ us hl => match us, hl with | [_, _], _ => rfl
    mt_Project_kind := ⟨f_Project_kind, i_Project_kind, k_Project_kind⟩
    mg_law_box := PySem.W.mg_of X G n_law_box
    fn_law_box := fun_mk (st := s_law_box) l_law_box c_law_box k_law_box
    b_law_box := (fun_mk (st := s_law_box) l_law_box c_law_box k_law_box).binds (ps := ["script"]) fun _ _ _ _ _ _ us hl => match us, hl with | [_], _ => rfl
    mg_law_draw := PySem.W.mg_of X G n_law_draw
    fn_law_draw := fun_mk (st := s_law_draw) l_law_draw c_law_draw k_law_draw
    b_law_draw := (fun_mk (st := s_law_draw) l_law_draw c_law_draw k_law_draw).binds (ps := ["box", "limit"]) fun _ _ _ _ _ _ us hl => match us, hl with | [_, _], _ => rfl
    mg_law_shape := PySem.W.mg_of X G n_law_shape
    fn_law_shape := fun_mk (st := s_law_shape) l_law_shape c_law_shape k_law_shape
    b_law_shape := (fun_mk (st := s_law_shape) l_law_shape c_law_shape k_law_shape).binds (ps := ["box", "parts"]) fun _ _ _ _ _ _ us hl => match us, hl with | [_, _], _ => rfl
    mg_law_goals := PySem.W.mg_of X G n_law_goals
    fn_law_goals := fun_mk (st := s_law_goals) l_law_goals c_law_goals k_law_goals
    b_law_goals := (fun_mk (st := s_law_goals) l_law_goals c_law_goals k_law_goals).binds (ps := ["box", "many", "state", "way"]) fun _ _ _ _ _ _ us hl => match us, hl with | [_, _, _, _], _ => rfl
    mg_law_rows := PySem.W.mg_of X G n_law_rows
    fn_law_rows := fun_mk (st := s_law_rows) l_law_rows c_law_rows k_law_rows
    b_law_rows := (fun_mk (st := s_law_rows) l_law_rows c_law_rows k_law_rows).binds (ps := ["box", "many"]) fun _ _ _ _ _ _ us hl => match us, hl with | [_, _], _ => rfl
    mg_law_first := PySem.W.mg_of X G n_law_first
    fn_law_first := fun_mk (st := s_law_first) l_law_first c_law_first k_law_first
    b_law_first := (fun_mk (st := s_law_first) l_law_first c_law_first k_law_first).binds (ps := ["rows"]) fun _ _ _ _ _ _ us hl => match us, hl with | [_], _ => rfl
    mg_law_handed := PySem.W.mg_of X G n_law_handed
    fn_law_handed := fun_mk (st := s_law_handed) l_law_handed c_law_handed k_law_handed
    b_law_handed := (fun_mk (st := s_law_handed) l_law_handed c_law_handed k_law_handed).binds (ps := ["box", "rows"]) fun _ _ _ _ _ _ us hl => match us, hl with | [_, _], _ => rfl
    mg_law_right := PySem.W.mg_of X G n_law_right
    fn_law_right := fun_mk (st := s_law_right) l_law_right c_law_right k_law_right
    b_law_right := (fun_mk (st := s_law_right) l_law_right c_law_right k_law_right).binds (ps := ["box", "rows"]) fun _ _ _ _ _ _ us hl => match us, hl with | [_, _], _ => rfl
    mg_law_all := PySem.W.mg_of X G n_law_all
    fn_law_all := fun_mk (st := s_law_all) l_law_all c_law_all k_law_all
    b_law_all := (fun_mk (st := s_law_all) l_law_all c_law_all k_law_all).binds (ps := ["script"]) fun _ _ _ _ _ _ us hl => match us, hl with | [_], _ => rfl
    mg_law := PySem.W.mg_of X G n_law
    fn_law := fun_mk (st := s_law) l_law c_law k_law
    b_law := (fun_mk (st := s_law) l_law c_law k_law).binds (ps := ["script"]) fun _ _ _ _ _ _ us hl => match us, hl with | [_], _ => rfl
    mk_Frac := ⟨mk_Frac, f_Frac_init, i_Frac_init, kc_Frac⟩
    mk_Project := ⟨mk_Project, f_Project_init, i_Project_init, kc_Project⟩
    ex_InvalidFraction := ⟨⟨_, _, _, _, _, _, _, _, _, _, _, _, _, _, _, x_InvalidFraction, rfl⟩, sa_InvalidFraction, ex_InvalidFraction, ty_InvalidFraction, kc_InvalidFraction⟩
    xf_InvalidFraction := ⟨ga_InvalidFraction, gg_InvalidFraction, ex_InvalidFraction, hd_InvalidFraction⟩
    xm_InvalidFraction := exm_self ex_InvalidFraction is_InvalidFraction ty_InvalidFraction ss_InvalidFraction
    na_InvalidFraction_value := na_InvalidFraction_value
    xi_InvalidFraction := f_InvalidFraction_init
    ti_InvalidFraction := ti_InvalidFraction
    ex_InvalidProject := ⟨⟨_, _, _, _, _, _, _, _, _, _, _, _, _, _, _, x_InvalidProject, rfl⟩, sa_InvalidProject, ex_InvalidProject, ty_InvalidProject, kc_InvalidProject⟩
    xf_InvalidProject := ⟨ga_InvalidProject, gg_InvalidProject, ex_InvalidProject, hd_InvalidProject⟩
    xm_InvalidProject := exm_self ex_InvalidProject is_InvalidProject ty_InvalidProject ss_InvalidProject
    na_InvalidProject_state := na_InvalidProject_state
    xi_InvalidProject := f_InvalidProject_init
    ti_InvalidProject := ti_InvalidProject
    ex_Endless := ⟨⟨_, _, _, _, _, _, _, _, _, _, _, _, _, _, _, x_Endless, rfl⟩, sa_Endless, ex_Endless, ty_Endless, kc_Endless⟩
    xf_Endless := ⟨ga_Endless, gg_Endless, ex_Endless, hd_Endless⟩
    xm_Endless := exm_self ex_Endless is_Endless ty_Endless ss_Endless
    na_Endless_state := na_Endless_state
    xi_Endless := f_Endless_init
    ti_Endless := ti_Endless
    xm_Endless_InvalidProject := exm_of ex_InvalidProject is_InvalidProject ty_InvalidProject sx_Endless_InvalidProject
    no_isinstance := PySem.W.mg_none_of X G z_isinstance
    no_int := PySem.W.mg_none_of X G z_int
    no_bool := PySem.W.mg_none_of X G z_bool
    no_range := PySem.W.mg_none_of X G z_range
    no_len := PySem.W.mg_none_of X G z_len
    no_abs := PySem.W.mg_none_of X G z_abs
    no_max := PySem.W.mg_none_of X G z_max
    no_min := PySem.W.mg_none_of X G z_min
    no_str := PySem.W.mg_none_of X G z_str
    no_list := PySem.W.mg_none_of X G z_list
    no_tuple := PySem.W.mg_none_of X G z_tuple
    no_enumerate := PySem.W.mg_none_of X G z_enumerate
    no_any := PySem.W.mg_none_of X G z_any
    mg_MOST_STATES := ⟨_, PySem.W.mg_of X G v_MOST_STATES⟩
    mg_MOST_GOALS := ⟨_, PySem.W.mg_of X G v_MOST_GOALS⟩
    mg_MOST_WEIGHT := ⟨_, PySem.W.mg_of X G v_MOST_WEIGHT⟩
    mg_MOST_NUM := ⟨_, PySem.W.mg_of X G v_MOST_NUM⟩
    mg_MOST_DEN := ⟨_, PySem.W.mg_of X G v_MOST_DEN⟩
    mg_gcd := PySem.W.mg_of X G v_gcd
    kit_F_F := kit_self
    kit_F_int := kit_bi sb_F_int (by decide +kernel)
    kit_none_F := kit_own is_Frac ty_Frac sb_none_F
    kit_bool_F := kit_own is_Frac ty_Frac sb_bool_F
    kit_int_F := kit_own is_Frac ty_Frac sb_int_F
    kit_str_F := kit_own is_Frac ty_Frac sb_str_F
    kit_list_F := kit_own is_Frac ty_Frac sb_list_F
    kit_tuple_F := kit_own is_Frac ty_Frac sb_tuple_F }
end K06
namespace K06
open PySem PySem.Spec PyProof.Rows L2
theorem all_mk {l : PySem.W.OpenLaw} {w : World} {K : PySem.W.Frag} {mg : Str → Option Value} {fa : Addr} {a : Ad} (T : Txt K mg a) (hfa : mg "law" = some (.ref fa)) (hd : ∀ (s : Shared) (v : Value), BindsTo s a.d_law ⟨[v], []⟩ [("script", v)]) :
    ∃ fd : FuncData, (∀ (s : Shared) (v : Value), BindsTo s fd ⟨[v], []⟩ [("script", v)]) ∧ ∀ base : Heap, K.In base → base.Ns mainGlobals mg → FnOk l.prog w K mg base CX0 21 fa fd ["script"] (spLaw K) := by
  have e := hfa.symm.trans T.mg_law
  cases e
  exact ⟨a.d_law, hd, fun base _ _ => ok_law T⟩
theorem walk {l : PySem.W.OpenLaw} {q : Program} {loose : List Str} {XP : (Str → Option Value) → Heap → Prop} {YP : World → Heap → Prop} {d : DefRec} {K : Params → PySem.W.Frag} (hn : l.most = some 63) (hdf : d.params.defaults = [])
    (hY : ∀ (w : World) (h : Heap), YP w h → (K w.params).In h)
    (F : ∀ (w : World) (mg : Str → Option Value) (fa : Addr) (h : Heap), (K w.params).In h → h.Ns mainGlobals mg → mg d.name = some (.ref fa) →
      ∃ fd : FuncData, (∀ (s : Shared) (u : Value), BindsTo s fd ⟨[u], []⟩ [("script", u)]) ∧ ∀ base : Heap, (K w.params).In base → base.Ns mainGlobals mg → FnOk l.prog w (K w.params) mg base CX0 21 fa fd ["script"] (spLaw (K w.params))) :
    PySem.W.WalkO q loose XP YP l.row.toRowW d [] (fun f vs => PySem.call f vs) :=
  L2.walk_of (n := 63) (k := 21) (x := "script") (CX := fun _ => CX0) (sp := fun w => spLaw (K w.params)) hn (by decide) hdf ⟨rfl, by decide, by decide⟩ hY F (fun _ _ a ns hl _ hS => ⟨a, ns, rfl, hS, hl, fun _ => rfl⟩) fun _ _ _ _ _ z => z
end K06
open PySem PySem.W PyProof.Rows
set_option maxRecDepth 100000 in
set_option maxHeartbeats 0 in
theorem PySem.Challenge.cw_greatestnext_k06_endless_states_holds : PySem.Challenge.rw_greatestnext_k06_endless_states.Holds := by
  w_on; o_law; k_head; (case hw => w_witness2)
  k_fill
  refine K06.walk (l := PySem.Challenge.rw_greatestnext_k06_endless_states) rfl rfl (fun w h Y => PySem.W.kIn_of Y) ?F
  case F =>
    intro w mg fa h KX G hmg
    refine' K06.all_mk (K06.txt_mk KX G ?hC_Frac ?hC_Project ?hC_InvalidFraction ?hC_InvalidProject ?hC_Endless ?hC_NextError ?pg_Frac ?hd_Frac ?po_Frac ?sa_Frac ?mk_Frac ?kc_Frac ?na_Frac_num ?na_Frac_den ?cg_Frac ?mr_Frac ?pg_Project ?hd_Project ?po_Project ?sa_Project ?mk_Project ?kc_Project ?na_Project_rows ?cg_Project ?mr_Project ?cget ?ctk ?f_InvalidFraction_init ?l_InvalidFraction_init ?c_InvalidFraction_init ?k_InvalidFraction_init ?f_InvalidProject_init ?l_InvalidProject_init ?c_InvalidProject_init ?k_InvalidProject_init ?f_Endless_init ?l_Endless_init ?c_Endless_init ?k_Endless_init ?n_is_whole ?l_is_whole ?c_is_whole ?k_is_whole ?n_is_within ?l_is_within ?c_is_within ?k_is_within ?n_is_row_of ?l_is_row_of ?c_is_row_of ?k_is_row_of ?f_Frac_init ?i_Frac_init ?l_Frac_init ?c_Frac_init ?k_Frac_init ?t_Frac_init ?u_Frac_init ?n_as_frac ?l_as_frac ?c_as_frac ?k_as_frac ?n_is_amount ?l_is_amount ?c_is_amount ?k_is_amount ?n_is_cost ?l_is_cost ?c_is_cost ?k_is_cost ?n_are_goals ?l_are_goals ?c_are_goals ?k_are_goals ?n_clean_row ?l_clean_row ?c_clean_row ?k_clean_row ?n_first_endless ?l_first_endless ?c_first_endless ?k_first_endless ?n_is_step_into ?l_is_step_into ?c_is_step_into ?k_is_step_into ?n_clean_rows ?l_clean_rows ?c_clean_rows ?k_clean_rows ?f_Project_init ?i_Project_init ?l_Project_init ?c_Project_init ?k_Project_init ?f_Project_len ?i_Project_len ?l_Project_len ?c_Project_len ?k_Project_len ?f_Project_kind ?i_Project_kind ?l_Project_kind ?c_Project_kind ?k_Project_kind ?n_law_box ?l_law_box ?c_law_box ?k_law_box ?n_law_draw ?l_law_draw ?c_law_draw ?k_law_draw ?n_law_shape ?l_law_shape ?c_law_shape ?k_law_shape ?n_law_goals ?l_law_goals ?c_law_goals ?k_law_goals ?n_law_rows ?l_law_rows ?c_law_rows ?k_law_rows ?n_law_first ?l_law_first ?c_law_first ?k_law_first ?n_law_handed ?l_law_handed ?c_law_handed ?k_law_handed ?n_law_right ?l_law_right ?c_law_right ?k_law_right ?n_law_all ?l_law_all ?c_law_all ?k_law_all ?n_law ?l_law ?c_law ?k_law ?x_InvalidFraction ?sa_InvalidFraction ?ex_InvalidFraction ?ty_InvalidFraction ?kc_InvalidFraction ?ga_InvalidFraction ?gg_InvalidFraction ?hd_InvalidFraction ?is_InvalidFraction ?ss_InvalidFraction ?na_InvalidFraction_value ?ti_InvalidFraction ?x_InvalidProject ?sa_InvalidProject ?ex_InvalidProject ?ty_InvalidProject ?kc_InvalidProject ?ga_InvalidProject ?gg_InvalidProject ?hd_InvalidProject ?is_InvalidProject ?ss_InvalidProject ?na_InvalidProject_state ?ti_InvalidProject ?x_Endless ?sa_Endless ?ex_Endless ?ty_Endless ?kc_Endless ?ga_Endless ?gg_Endless ?hd_Endless ?is_Endless ?ss_Endless ?na_Endless_state ?ti_Endless ?sx_Endless_InvalidProject ?z_isinstance ?z_int ?z_bool ?z_range ?z_len ?z_abs ?z_max ?z_min ?z_str ?z_list ?z_tuple ?z_enumerate ?z_any ?v_MOST_STATES ?v_MOST_GOALS ?v_MOST_WEIGHT ?v_MOST_NUM ?v_MOST_DEN ?v_gcd ?is_Frac ?ty_Frac ?is_Project ?ty_Project ?sb_F_int ?sb_none_F ?sb_bool_F ?sb_int_F ?sb_str_F ?sb_list_F ?sb_tuple_F) hmg (fun s v => .of_eq rfl)
    (case hC_Frac => k_is)
    (case hC_Project => k_is)
    (case hC_InvalidFraction => k_is)
    (case hC_InvalidProject => k_is)
    (case hC_Endless => k_is)
    (case hC_NextError => k_is)
    (case pg_Frac => k_is)
    (case hd_Frac => k_is)
    (case po_Frac => k_is)
    (case sa_Frac => k_is)
    (case mk_Frac => k_is)
    (case kc_Frac => k_is)
    (case na_Frac_num => k_is)
    (case na_Frac_den => k_is)
    (case cg_Frac => k_is)
    (case mr_Frac => k_is)
    (case pg_Project => k_is)
    (case hd_Project => k_is)
    (case po_Project => k_is)
    (case sa_Project => k_is)
    (case mk_Project => k_is)
    (case kc_Project => k_is)
    (case na_Project_rows => k_is)
    (case cg_Project => k_is)
    (case mr_Project => k_is)
    (case cget => k_is)
    (case ctk => k_is)
    (case f_InvalidFraction_init => k_is)
    (case l_InvalidFraction_init => k_is)
    (case c_InvalidFraction_init => k_is)
    (case k_InvalidFraction_init => k_is)
    (case f_InvalidProject_init => k_is)
    (case l_InvalidProject_init => k_is)
    (case c_InvalidProject_init => k_is)
    (case k_InvalidProject_init => k_is)
    (case f_Endless_init => k_is)
    (case l_Endless_init => k_is)
    (case c_Endless_init => k_is)
    (case k_Endless_init => k_is)
    (case n_is_whole => k_is)
    (case l_is_whole => k_is)
    (case c_is_whole => k_is)
    (case k_is_whole => k_is)
    (case n_is_within => k_is)
    (case l_is_within => k_is)
    (case c_is_within => k_is)
    (case k_is_within => k_is)
    (case n_is_row_of => k_is)
    (case l_is_row_of => k_is)
    (case c_is_row_of => k_is)
    (case k_is_row_of => k_is)
    (case f_Frac_init => k_is)
    (case i_Frac_init => k_is)
    (case l_Frac_init => k_is)
    (case c_Frac_init => k_is)
    (case k_Frac_init => k_is)
    (case t_Frac_init => k_is)
    (case u_Frac_init => first | rfl | k_is)
    (case n_as_frac => k_is)
    (case l_as_frac => k_is)
    (case c_as_frac => k_is)
    (case k_as_frac => k_is)
    (case n_is_amount => k_is)
    (case l_is_amount => k_is)
    (case c_is_amount => k_is)
    (case k_is_amount => k_is)
    (case n_is_cost => k_is)
    (case l_is_cost => k_is)
    (case c_is_cost => k_is)
    (case k_is_cost => k_is)
    (case n_are_goals => k_is)
    (case l_are_goals => k_is)
    (case c_are_goals => k_is)
    (case k_are_goals => k_is)
    (case n_clean_row => k_is)
    (case l_clean_row => k_is)
    (case c_clean_row => k_is)
    (case k_clean_row => k_is)
    (case n_first_endless => k_is)
    (case l_first_endless => k_is)
    (case c_first_endless => k_is)
    (case k_first_endless => k_is)
    (case n_is_step_into => k_is)
    (case l_is_step_into => k_is)
    (case c_is_step_into => k_is)
    (case k_is_step_into => k_is)
    (case n_clean_rows => k_is)
    (case l_clean_rows => k_is)
    (case c_clean_rows => k_is)
    (case k_clean_rows => k_is)
    (case f_Project_init => k_is)
    (case i_Project_init => k_is)
    (case l_Project_init => k_is)
    (case c_Project_init => k_is)
    (case k_Project_init => k_is)
    (case f_Project_len => k_is)
    (case i_Project_len => k_is)
    (case l_Project_len => k_is)
    (case c_Project_len => k_is)
    (case k_Project_len => k_is)
    (case f_Project_kind => k_is)
    (case i_Project_kind => k_is)
    (case l_Project_kind => k_is)
    (case c_Project_kind => k_is)
    (case k_Project_kind => k_is)
    (case n_law_box => k_is)
    (case l_law_box => k_is)
    (case c_law_box => k_is)
    (case k_law_box => k_is)
    (case n_law_draw => k_is)
    (case l_law_draw => k_is)
    (case c_law_draw => k_is)
    (case k_law_draw => k_is)
    (case n_law_shape => k_is)
    (case l_law_shape => k_is)
    (case c_law_shape => k_is)
    (case k_law_shape => k_is)
    (case n_law_goals => k_is)
    (case l_law_goals => k_is)
    (case c_law_goals => k_is)
    (case k_law_goals => k_is)
    (case n_law_rows => k_is)
    (case l_law_rows => k_is)
    (case c_law_rows => k_is)
    (case k_law_rows => k_is)
    (case n_law_first => k_is)
    (case l_law_first => k_is)
    (case c_law_first => k_is)
    (case k_law_first => k_is)
    (case n_law_handed => k_is)
    (case l_law_handed => k_is)
    (case c_law_handed => k_is)
    (case k_law_handed => k_is)
    (case n_law_right => k_is)
    (case l_law_right => k_is)
    (case c_law_right => k_is)
    (case k_law_right => k_is)
    (case n_law_all => k_is)
    (case l_law_all => k_is)
    (case c_law_all => k_is)
    (case k_law_all => k_is)
    (case n_law => k_is)
    (case l_law => k_is)
    (case c_law => k_is)
    (case k_law => k_is)
    (case x_InvalidFraction => k_is)
    (case sa_InvalidFraction => k_is)
    (case ex_InvalidFraction => k_is)
    (case ty_InvalidFraction => k_is)
    (case kc_InvalidFraction => k_is)
    (case ga_InvalidFraction => k_is)
    (case gg_InvalidFraction => k_is)
    (case hd_InvalidFraction => k_is)
    (case is_InvalidFraction => k_is)
    (case ss_InvalidFraction => first | rfl | k_is)
    (case na_InvalidFraction_value => k_is)
    (case ti_InvalidFraction => k_is)
    (case x_InvalidProject => k_is)
    (case sa_InvalidProject => k_is)
    (case ex_InvalidProject => k_is)
    (case ty_InvalidProject => k_is)
    (case kc_InvalidProject => k_is)
    (case ga_InvalidProject => k_is)
    (case gg_InvalidProject => k_is)
    (case hd_InvalidProject => k_is)
    (case is_InvalidProject => k_is)
    (case ss_InvalidProject => first | rfl | k_is)
    (case na_InvalidProject_state => k_is)
    (case ti_InvalidProject => k_is)
    (case x_Endless => k_is)
    (case sa_Endless => k_is)
    (case ex_Endless => k_is)
    (case ty_Endless => k_is)
    (case kc_Endless => k_is)
    (case ga_Endless => k_is)
    (case gg_Endless => k_is)
    (case hd_Endless => k_is)
    (case is_Endless => k_is)
    (case ss_Endless => first | rfl | k_is)
    (case na_Endless_state => k_is)
    (case ti_Endless => k_is)
    (case sx_Endless_InvalidProject => first | rfl | k_is)
    (case z_isinstance => k_is)
    (case z_int => k_is)
    (case z_bool => k_is)
    (case z_range => k_is)
    (case z_len => k_is)
    (case z_abs => k_is)
    (case z_max => k_is)
    (case z_min => k_is)
    (case z_str => k_is)
    (case z_list => k_is)
    (case z_tuple => k_is)
    (case z_enumerate => k_is)
    (case z_any => k_is)
    (case v_MOST_STATES => k_is)
    (case v_MOST_GOALS => k_is)
    (case v_MOST_WEIGHT => k_is)
    (case v_MOST_NUM => k_is)
    (case v_MOST_DEN => k_is)
    (case v_gcd => k_is)
    (case is_Frac => k_is)
    (case ty_Frac => k_is)
    (case is_Project => k_is)
    (case ty_Project => k_is)
    (case sb_F_int => k_is)
    (case sb_none_F => k_is)
    (case sb_bool_F => k_is)
    (case sb_int_F => k_is)
    (case sb_str_F => k_is)
    (case sb_list_F => k_is)
    (case sb_tuple_F => k_is)
