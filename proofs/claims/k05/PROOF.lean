import PyProof.Rows.All
import Wide.All
import OpenK.AllK
import Wide.FinOn
import HandS.ForMost
import HandS.IsInst
import HandS.SortRule
import KE.SortData
import HandS.RepeatKit
import HandS.Iter
import PyProof.Rows.SortShell
import HandS.SetFor
import HandS.Strs
import HandS.Exc
import HandS.TryOnly
import HandS.ExcOwn
import HandS.WordsExc
import HandS.CallSlots
import HandS.Defaults
import HandS.MakeKw
import HandS.MakeKwOnly
import HandS.Wide
import HandS.WideBits
import HandS.Gcd
import HandS.HotCalls
import HandS.ExcInit
import HandS.ExcField
import HandS.OwnEq
import HandS.TupAny
import HandS.Style
import HandS.NoneIn
import PyProof.EnumMake
import KE.GoesMore
import KE.KUnpackStar
import HandS.Hot
import HandS.ExcCtx
import HandS.ExcIs
import KE.KExcIs
import HandS.AnyAll
import HandS.Deep
import HandS.Star
import HandS.Conv
import HandS.More
import HandS.EndOwn
import PySem.Challenge.RW_greatestnext_k05_first_wrong_state
set_option Elab.async false
set_option linter.all false
set_option maxRecDepth 100000
set_option maxHeartbeats 4000000
set_option maxHeartbeats 2000000
set_option exponentiation.threshold 5000
/-! Readings brought to a plain form: loops folded, calls by kinds. -/
namespace Rd
open PySem PySem.Spec PyProof.Rows L2
/-- a loop whose iterator has come -/
def Loop (J : It) (g : TG) (tb : TS) (D : Ends) (σ : L2.St) (H : Hp) : Prop := tFor (fun _ H1 R => R J H1) g tb D σ H
theorem tFor_rng1 {ta : TA} {g : TG} {tb : TS} {D : Ends} {σ : L2.St} {H : Hp} : tFor (iRng1 ta) g tb D σ H = ta σ H (fun vs H1 => ∃ j : Int, vs = [.int j] ∧ -(2 ^ 62) ≤ j ∧ j < 2 ^ 62 ∧ Loop (Itr 0 j.toNat) g tb D σ H1) := rfl
theorem tFor_rng2 {ta : TA} {g : TG} {tb : TS} {D : Ends} {σ : L2.St} {H : Hp} : tFor (iRng2 ta) g tb D σ H = ta σ H (fun vs H1 => ∃ i j : Int, vs = [.int i, .int j] ∧ (-(2 ^ 62) ≤ i ∧ i < 2 ^ 62 ∧ -(2 ^ 62) ≤ j ∧ j < 2 ^ 62) ∧ Loop (Itr i (j - i).toNat) g tb D σ H1) := rfl
theorem tFor_list {K : PySem.W.Frag} {tl : TE} {g : TG} {tb : TS} {D : Ends} {σ : L2.St} {H : Hp} : tFor (iList K tl) g tb D σ H = tl σ H (fun x H1 => ∃ a, x = .ref a ∧ (∃ xs, SqL K H1 a xs) ∧ Loop (Itl K a) g tb D σ H1) := rfl
theorem tFor_tup {K : PySem.W.Frag} {tl : TE} {g : TG} {tb : TS} {D : Ends} {σ : L2.St} {H : Hp} : tFor (iTup K tl) g tb D σ H = tl σ H (fun x H1 => ∃ a, x = .ref a ∧ (∃ xs, SqT K H1 a xs) ∧ Loop (Itt K a) g tb D σ H1) := rfl
theorem loop_rng {lo : Int} {n : Nat} {g : TG} {tb : TS} {D : Ends} {σ : L2.St} {H : Hp} (Pv : Nat → L2.St → Hp → Prop) (h0 : Pv 0 σ H)
    (hs : ∀ i σ H, i < n → Pv i σ H → g (.int (lo + i)) σ H fun σ2 H2 => tb { D with nx := Pv (i + 1), ct := Pv (i + 1), bk := D.nx } σ2 H2) (hd : ∀ σ H, Pv n σ H → D.nx σ H) : Loop (Itr lo n) g tb D σ H := for_range Pv h0 hs hd
theorem loop_list {K : PySem.W.Frag} {a : Addr} {xs : List V} {g : TG} {tb : TS} {D : Ends} {σ : L2.St} {H : Hp} (Pv : Nat → L2.St → Hp → Prop) (h0 : Pv 0 σ H) (hl : ∀ i σ H, i ≤ xs.length → Pv i σ H → SqL K H a xs)
    (hs : ∀ i x σ H, xs[i]? = some x → Pv i σ H → g x σ H fun σ2 H2 => tb { D with nx := Pv (i + 1), ct := Pv (i + 1), bk := D.nx } σ2 H2) (hd : ∀ σ H, Pv xs.length σ H → D.nx σ H) : Loop (Itl K a) g tb D σ H := for_list Pv h0 hl hs hd
/-- a comprehension whose iterator has come -/
def LcL (J : It) (g : TG) (tt : TT) (te : TE) (vs : List Nat) (σ : L2.St) (H : Hp) (Q : VK) : Prop := tLc (fun _ H1 R => R J H1) g tt te vs σ H Q
theorem tLc_list {K : PySem.W.Frag} {tl : TE} {g : TG} {tt : TT} {te : TE} {vs : List Nat} {σ : L2.St} {H : Hp} {Q : VK} : tLc (iList K tl) g tt te vs σ H Q = tl σ H (fun x H1 => ∃ a, x = .ref a ∧ (∃ xs, SqL K H1 a xs) ∧ LcL (Itl K a) g tt te vs σ H1 Q) := rfl
theorem tLc_tup {K : PySem.W.Frag} {tl : TE} {g : TG} {tt : TT} {te : TE} {vs : List Nat} {σ : L2.St} {H : Hp} {Q : VK} : tLc (iTup K tl) g tt te vs σ H Q = tl σ H (fun x H1 => ∃ a, x = .ref a ∧ (∃ xs, SqT K H1 a xs) ∧ LcL (Itt K a) g tt te vs σ H1 Q) := rfl
theorem tLc_rng1 {ta : TA} {g : TG} {tt : TT} {te : TE} {vs : List Nat} {σ : L2.St} {H : Hp} {Q : VK} : tLc (iRng1 ta) g tt te vs σ H Q = ta σ H (fun ws H1 => ∃ j : Int, ws = [.int j] ∧ -(2 ^ 62) ≤ j ∧ j < 2 ^ 62 ∧ LcL (Itr 0 j.toNat) g tt te vs σ H1 Q) := rfl
/-- a turn of a comprehension: the element's value is appended at D -/
def LcTurn (te : TE) (tt : TT) (D : Addr) (σw σ2 : L2.St) (vs : List Nat) (H2 : Hp) (R : Hp → Prop) : Prop := wipe σ2 vs = σw ∧ tt σ2 H2 fun b H3 =>
  if b = true then te σ2 H3 fun y H4 => ∃ acc, H4 D = some (.lst acc) ∧ acc.length < sizeLine ∧ R (upd H4 D (.lst (acc ++ [y]))) else R H3
theorem lcl_list {K : PySem.W.Frag} {a : Addr} {xs : List V} {g : TG} {tt : TT} {te : TE} {vs : List Nat} {σ : L2.St} {H : Hp} {Q : VK} (Pv : Addr → Nat → Hp → Prop) (h0 : ∀ D, H D = none → Pv D 0 (upd H D (.lst []))) (hl : ∀ D i H1, i ≤ xs.length → Pv D i H1 → SqL K H1 a xs)
    (hs : ∀ D i x H1, xs[i]? = some x → Pv D i H1 → g x (wipe σ vs) H1 fun σ2 H2 => LcTurn te tt D (wipe σ vs) σ2 vs H2 (Pv D (i + 1))) (hd : ∀ D H1, H D = none → Pv D xs.length H1 → Q (.ref D) H1) : LcL (Itl K a) g tt te vs σ H Q :=
  fun D hD => lc_list (Pv D) (h0 D hD) (hl D) (hs D) fun H1 p => hd D H1 hD p
theorem lcl_rng {lo : Int} {n : Nat} {g : TG} {tt : TT} {te : TE} {vs : List Nat} {σ : L2.St} {H : Hp} {Q : VK} (Pv : Addr → Nat → Hp → Prop) (h0 : ∀ D, H D = none → Pv D 0 (upd H D (.lst [])))
    (hs : ∀ D i H1, i < n → Pv D i H1 → g (.int (lo + i)) (wipe σ vs) H1 fun σ2 H2 => LcTurn te tt D (wipe σ vs) σ2 vs H2 (Pv D (i + 1))) (hd : ∀ D H1, H D = none → Pv D n H1 → Q (.ref D) H1) : LcL (Itr lo n) g tt te vs σ H Q :=
  fun D hD => lc_range (Pv D) (h0 D hD) (hs D) fun H1 p => hd D H1 hD p
section
variable {X : Cx}
theorem CallR.imp {f : Value} {r r' : List V → Hp → VK → Prop} (h : CallR X f r) (i : ∀ xs H Q, r' xs H Q → r xs H Q) : CallR X f r' := fun pins s σ H xs us Q I v q => h pins s σ H xs us Q I v (i _ _ _ q)
def rLenL (K : PySem.W.Frag) : List V → Hp → VK → Prop := fun xs H Q => ∃ p ys, xs = [.ref p] ∧ SqL K H p ys ∧ Q (.int ys.length) H
def rLenT (K : PySem.W.Frag) : List V → Hp → VK → Prop := fun xs H Q => ∃ p ys, xs = [.ref p] ∧ SqT K H p ys ∧ Q (.int ys.length) H
def rIntI : List V → Hp → VK → Prop := fun xs H Q => ∃ i, xs = [.int i] ∧ Q (.int i) H
theorem call_lenL : CallR X (.builtin "len") (rLenL X.K) := CallR.imp call_len_seq fun xs H Q ⟨p, ys, e, h, q⟩ => ⟨p, ys, e, .inl h, q⟩
theorem call_lenT : CallR X (.builtin "len") (rLenT X.K) := CallR.imp call_len_seq fun xs H Q ⟨p, ys, e, h, q⟩ => ⟨p, ys, e, .inr h, q⟩
theorem call_intI : CallR X (.type "int") rIntI := CallR.imp call_int1 fun xs H Q ⟨i, e, q⟩ => .inl ⟨i, e, q⟩
end
/-- an item of a list that stands in H by itself -/
def rIxH : R2 := fun x y H Q => ∃ p xs i v, x = .ref p ∧ y = .int i ∧ H p = some (.lst xs) ∧ atI xs i = some v ∧ Q v H
theorem ixH {X : Cx} : IxR X rIxH := fun value slice pins s σ H x y v u Q I rx ry ⟨p, xs, i, z, e1, e2, h, e3, q⟩ hs => ix_list value slice pins s σ H x y v u Q I rx ry ⟨p, xs, i, z, e1, e2, SqL.of h, e3, q⟩ hs
theorem at0 {α : Type} {x : α} {xs : List α} : atI (x :: xs) 0 = some x := atI_nat (j := 0) rfl
theorem at1 {α : Type} {x y : α} {xs : List α} : atI (x :: y :: xs) 1 = some y := atI_nat (j := 1) rfl
theorem at2 {α : Type} {x y z : α} {xs : List α} : atI (x :: y :: z :: xs) 2 = some z := atI_nat (j := 2) rfl
theorem at3 {α : Type} {x y z u : α} {xs : List α} : atI (x :: y :: z :: u :: xs) 3 = some u := atI_nat (j := 3) rfl
theorem ixN40 : ixN 4 0 = some 0 := rfl
theorem ixN41 : ixN 4 1 = some 1 := rfl
theorem ixN42 : ixN 4 2 = some 2 := rfl
theorem ixN43 : ixN 4 3 = some 3 := rfl
theorem scal_ii (a b : Int) : scal (V.int a) (V.int b) = true := rfl
/-- a loop over a range whose break and end meet in Pe -/
theorem loop_rngC {lo : Int} {n : Nat} {g : TG} {tb : TS} {D : Ends} {σ : L2.St} {H : Hp} (Pe : L2.St → Hp → Prop) (Pv : Nat → L2.St → Hp → Prop) (h0 : Pv 0 σ H)
    (hs : ∀ (bk : L2.St → Hp → Prop), (∀ σ H, Pe σ H → bk σ H) → ∀ i σ H, i < n → Pv i σ H → g (.int (lo + i)) σ H fun σ2 H2 => tb { D with nx := Pv (i + 1), ct := Pv (i + 1), bk := bk } σ2 H2)
    (hd : ∀ σ H, Pv n σ H → Pe σ H) (he : ∀ σ H, Pe σ H → D.nx σ H) : Loop (Itr lo n) g tb D σ H := loop_rng Pv h0 (hs D.nx he) fun σ H p => he σ H (hd σ H p)
theorem loop_listC {K : PySem.W.Frag} {a : Addr} {xs : List V} {g : TG} {tb : TS} {D : Ends} {σ : L2.St} {H : Hp} (Pe : L2.St → Hp → Prop) (Pv : Nat → L2.St → Hp → Prop) (h0 : Pv 0 σ H) (hl : ∀ i σ H, i ≤ xs.length → Pv i σ H → SqL K H a xs)
    (hs : ∀ (bk : L2.St → Hp → Prop), (∀ σ H, Pe σ H → bk σ H) → ∀ i x σ H, xs[i]? = some x → Pv i σ H → g x σ H fun σ2 H2 => tb { D with nx := Pv (i + 1), ct := Pv (i + 1), bk := bk } σ2 H2)
    (hd : ∀ σ H, Pv xs.length σ H → Pe σ H) (he : ∀ σ H, Pe σ H → D.nx σ H) : Loop (Itl K a) g tb D σ H := loop_list Pv h0 hl (hs D.nx he) fun σ H p => he σ H (hd σ H p)
theorem ite_true_of {c : Bool} {A B : Prop} (hc : c = true) (h : A) : if c = true then A else B := by
  rw [if_pos hc]; exact h
theorem ite_false_of {c : Bool} {A B : Prop} (hc : c = false) (h : B) : if c = true then A else B := by
  rw [hc, if_neg Bool.false_ne_true]; exact h
end Rd
/-! A rule of our own: sorted(xs) of a list of tuples that read as alike data, of any length. -/
namespace OwnSort
open PySem PySem.Spec PyProof.Rows L2
abbrev Rw := Addr × PyData
def rSortedD (K : PySem.W.Frag) : List V → Hp → VK → Prop := fun vs H Q => ∃ (a : Addr) (bs : List Rw), vs = [.ref a] ∧ SqL K H a (bs.map fun b => V.ref b.1) ∧ (∀ b ∈ bs, Dp K H (.ref b.1) b.2) ∧ PySem.W.AllAlike (bs.map (·.2)) ∧ PySem.W.Sortable (bs.map (·.2)) ∧ (∀ b ∈ bs, b.2.depth ≤ 60) ∧ bs.length ≤ sizeLine ∧
  ∀ p, H p = none → Q (.ref p) (upd H p (.lst ((bs.mergeSort (PySem.W.dataLe false (·.2))).map fun b => V.ref b.1)))
theorem each_of {bs : List Rw} {us : List Value} (h : Vals (bs.map fun b => V.ref b.1) us) : PySem.W.EachIs (fun v (b : Rw) => v = Value.ref b.1) us bs := by
  induction bs generalizing us with
  | nil => cases h; exact .nil
  | cons b bs ih =>
    cases h with
    | cons r rs => exact .cons r (ih rs)
theorem vals_of {bs : List Rw} {us : List Value} (h : PySem.W.EachIs (fun v (b : Rw) => v = Value.ref b.1) us bs) : Vals (bs.map fun b => V.ref b.1) us := by
  induction h with
  | nil => exact .nil
  | cons r _ ih => exact .cons r ih
theorem each_reads {X : Cx} {pins : List (Addr × Obj)} {σ : L2.St} {H : Hp} {s : Shared} (I : Inv X pins σ H s) : ∀ {bs : List Rw} {us : List Value}, PySem.W.EachIs (fun v (b : Rw) => v = Value.ref b.1) us bs → (∀ b ∈ bs, Dp X.K H (.ref b.1) b.2) → PySem.W.EachIs (fun v (b : Rw) => ∃ as, Reads s.heap v b.2 as) us bs
  | _, _, .nil, _ => .nil
  | _, _, .cons (b := b) r rs, h => .cons (Dp.reads I b.2 (.ref b.1) _ (h b List.mem_cons_self) r) (each_reads I rs fun b hb => h b (List.mem_cons_of_mem _ hb))
theorem cr_sortedD {X : Cx} (hu : X.A.units + 64 < cLine) : CallR X (.builtin "sorted") (rSortedD X.K) := by
  intro pins s σ H vs us Q I r h
  obtain ⟨a, bs, rfl, hs, hd, hal, hk, hdep, hlen, q⟩ := h
  obtain ⟨its, rv, hl, hz⟩ := I.list hs
  obtain ⟨u, rfl, ru⟩ := vals1 r
  obtain rfl : u = Value.ref a := ru
  have e := each_of rv
  refine PySem.W.sorted_data (enc := fun b : Rw => b.2) hl.isList e (each_reads I e hd) hal hk hlen (fun b hb => ?_) fun out ho eo => ?_
  · have := hdep b hb
    omega
  · obtain ⟨c, hc⟩ := sortedAll_at s.heap its out.toArray
    refine ⟨.ref (s.heap.objs.size + 1), upd H (s.heap.objs.size + 1) (.lst ((bs.mergeSort (PySem.W.dataLe false (·.2))).map fun b => V.ref b.1)), I.laid (t' := s.toks) (fun _ _ => sortedAll_old) (Nat.le_succ _) ⟨?_, out, c, vals_of eo, hc⟩, rfl, q _ (I.hok.fresh (Nat.le_succ _))⟩
    rw [List.length_map, List.length_mergeSort]
    exact hlen
end OwnSort
/-! Rules of our own: itertools.combinations of a list. -/
namespace OwnComb
open PySem PySem.Spec PyProof.Rows L2
open Sem (wp)
abbrev T : String := "itertools.combinations"
theorem c_mro : mroOf (.type T) = pure [.type T, .type "object"] := by rw [mroOf_type]; kernel_rfl
theorem c_new : typeLookup (.type T) "__new__" = pure (some (.builtin "itertools.combinations.__new__")) := by rw [typeLookup_type, builtinLookup_eq_fast]; kernel_rfl
theorem c_init : Slot T "__init__" "object.__init__" :=
  .of (owner := "object") (n := "__init__") (by rw [typeLookup_type, builtinLookup_eq_fast]; kernel_rfl) (by decide +kernel) (by decide +kernel) (by decide +kernel)
    (by first | exact .inl (by decide +kernel) | exact .inr (by decide +kernel)) (by rw [isSubtype_type]; kernel_rfl)
theorem c_sub : isSubtype (.type T) (.type T) = pure true := by rw [isSubtype_type]; kernel_rfl
theorem c_called : TypeCalled T "itertools.combinations.__new__" "object.__init__" :=
  ⟨by decide +kernel, by decide +kernel, ⟨_, _, c_mro⟩, madeBy_type c_mro c_new (by decide +kernel), by decide +kernel, c_sub, c_init⟩
theorem c_tcall (a b : Value) : checkTypeCall T ⟨[a, b], []⟩ = pure () := by kernel_rfl
theorem c_ncall (a b : Value) : checkBuiltinCall "itertools.combinations.__new__" ⟨[.type T, a, b], []⟩ = pure () := by kernel_rfl
theorem c_enew : entryFor table "itertools.combinations.__new__" = some Builtin.«itertools.combinations.__new__» := entryFor_of_tree (by kernel_rfl)
theorem c_siter : Slot T "__iter__" "itertools.combinations.__iter__" :=
  .of (owner := T) (n := "__iter__") (by rw [typeLookup_type, builtinLookup_eq_fast]; kernel_rfl) (by decide +kernel) (by decide +kernel) (by decide +kernel)
    (by first | exact .inl (by decide +kernel) | exact .inr (by decide +kernel)) c_sub
theorem c_snext : Slot T "__next__" "itertools.combinations.__next__" :=
  .of (owner := T) (n := "__next__") (by rw [typeLookup_type, builtinLookup_eq_fast]; kernel_rfl) (by decide +kernel) (by decide +kernel) (by decide +kernel)
    (by first | exact .inl (by decide +kernel) | exact .inr (by decide +kernel)) c_sub
theorem c_eiter : entryFor table "itertools.combinations.__iter__" = some Builtin.«dict_keyiterator.__iter__» :=
  entryFor_alias (id' := "dict_keyiterator.__iter__") (by kernel_rfl) (by first | rfl | decide +kernel | (unfold String.splitOn; simp +decide [String.splitOnAux])) (by decide +kernel) (by kernel_rfl)
theorem c_enext : entryFor table "itertools.combinations.__next__" = some Builtin.«itertools.combinations.__next__» := entryFor_of_tree (by kernel_rfl)
theorem c_owner : Manifest.owners.lookup (String.ofList ['s', 'n', 'o', 'i', 't', 'a', 'n', 'i', 'b', 'm', 'o', 'c', '.', 's', 'l', 'o', 'o', 't', 'r', 'e', 't', 'i'].reverse) = some Manifest.sig_itertools_combinations := by kernel_rfl
theorem c_noDict : typeHasDict (.type T) = false := by decide +kernel
theorem c_aiter (a : Value) : argsOk "itertools.combinations.__iter__" ⟨[a], []⟩ := by
  unfold argsOk; rw [signature?_of (id := "itertools.combinations.__iter__") (n := ['_', '_', 'r', 'e', 't', 'i', '_', '_']) (o := ['s', 'n', 'o', 'i', 't', 'a', 'n', 'i', 'b', 'm', 'o', 'c', '.', 's', 'l', 'o', 'o', 't', 'r', 'e', 't', 'i']) (by kernel_rfl) c_owner]; kernel_rfl
theorem c_anext (a : Value) : argsOk "itertools.combinations.__next__" ⟨[a], []⟩ := by
  unfold argsOk; rw [signature?_of (id := "itertools.combinations.__next__") (n := ['_', '_', 't', 'x', 'e', 'n', '_', '_']) (o := ['s', 'n', 'o', 'i', 't', 'a', 'n', 'i', 'b', 'm', 'o', 'c', '.', 's', 'l', 'o', 'o', 't', 'r', 'e', 't', 'i']) (by kernel_rfl) c_owner]; kernel_rfl
end OwnComb
/-! Rules of our own: itertools.combinations of a list. -/
namespace OwnComb
open PySem PySem.Spec PyProof.Rows L2
open Sem (wp)
/-- a combinations object: its pool, how far it is, what it gave last, its places -/
def IsComb (h : Heap) (it pool : Addr) (st : Int) (last : Value) (idx : List Nat) : Prop := h.get? it = some { cls := .type T, dict := none, data := .fields ([.ref pool, rawInt st, last] ++ idx.map fun (i : Nat) => rawInt i).toArray, slots := #[] }
section
variable {prog : Program} {w : World} {A : Around} {E : Value → Shared → Prop} {s : Shared}
theorem k_class {a b : Value} {Q : Value × List Value → Shared → Prop} (h : Q (.type T, [a, b]) s) : wpAny (model prog w) A (Builtin.Itertools.itClassAndRest "combinations" ⟨[.type T, a, b], []⟩) Q E s := by
  have hsub := c_sub
  have e : ("itertools." ++ "combinations" : String) = T := by decide +kernel
  unfold Builtin.Itertools.itClassAndRest
  rw [e]
  repeat (first | wp_step | exact h)
theorem k_named {a b : Value} {Q : List (Option Value) → Shared → Prop} (h : Q [some a, some b] s) : wpAny (model prog w) A (Builtin.Itertools.itBindNamed "combinations" ["iterable", "r"] 2 2 [a, b] []) Q E s := by
  unfold Builtin.Itertools.itBindNamed
  repeat (first | wp_step | exact h | simp only [List.head?_cons, Option.some_or, List.getElem?_cons_succ, List.getElem?_cons_zero, List.length_cons, List.length_nil, List.forIn_nil])
theorem k_ssize {r : Nat} {t : Tok} {Q : Int → Shared → Prop} (hr : r < 1000) (h : Q r s) : wpAny (model prog w) A (Builtin.Itertools.itSsizeArg (.int r t)) Q E s := by
  have hn : ¬ ((!(decide (-(2 ^ 63 : Int) ≤ (r : Int)) && decide ((r : Int) < (2 ^ 63 : Int)))) = true) := by
    have a : decide (-(2 ^ 63 : Int) ≤ (r : Int)) = true := decide_eq_true (by omega)
    have b : decide ((r : Int) < (2 ^ 63 : Int)) = true := decide_eq_true (by omega)
    rw [a, b]
    decide
  have a1 : (decide ((r : Int) < -2 ^ 63) || decide ((r : Int) ≥ 2 ^ 63)) = false := by
    rw [decide_eq_false (by omega), decide_eq_false (by omega)]
    rfl
  unfold Builtin.Itertools.itSsizeArg
  refine wpAny_bind ?_
  repeat wp_step
  rw [a1]
  exact wpAny_ite_false (by decide) (wpAny_pure h)
end
theorem comb_new (l : Addr) (vs : List Value) (r : Nat) (t : Tok) (hr : r < 1000) (hv : vs.length < 1000) :
    Meets (Builtin.«itertools.combinations.__new__» ⟨[.type T, .ref l, .int r t], []⟩)
      (fun _ R s => s.heap.IsList l vs.toArray ∧ ∀ h' it pool, (∀ b o, s.heap.get? b = some o → h'.get? b = some o) → s.heap.objs.size ≤ it → s.heap.objs.size ≤ pool → pool ≠ it → h'.IsTuple pool vs.toArray → IsComb h' it pool (if r > vs.length then 2 else 0) .none (List.range r) → R (.ok (.ret (.ref it))) { s with heap := h' }) :=
  .of_wp fun prog w A R s ⟨hL, h⟩ => by
    obtain ⟨hp, g, dd, tk, os⟩ := s
    have hsub := c_sub
    have hd := c_noDict
    unfold Builtin.«itertools.combinations.__new__»
    refine wpAny_bind ?_
    show wpAny _ _ (_ >>= _) _ _ _
    refine wpAny_bind (k_class ?_)
    show wpAny _ _ (_ >>= _) _ _ _
    refine wpAny_bind (k_named ?_)
    show wpAny _ _ (_ >>= _) _ _ _
    refine wpAny_bind (k_ssize hr ?_)
    refine wpAny_bind (collect_list (s := ⟨hp, g, dd, tk, os⟩) hL ?_ (Nat.le_trans (Nat.le_of_lt hv) (by decide)))
    dsimp only
    refine wpAny_ite_false (by simp) ?_
    refine wpAny_ite_false ?_ ?_
    · unfold Builtin.Itertools.itTooMany
      simp
      omega
    refine wpAny_bind (wpAny_newTuple ?_ (Nat.le_trans (Nat.le_of_lt hv) (by decide)))
    refine wpAny_pure ?_
    have sz : ((hp.push (seqObj "list" #[] 0)).update hp.objs.size (Obj.mapSeq fun x => x ++ vs.toArray)).objs.size = hp.objs.size + 1 := by
      rw [Heap.size_update, size_push']
    have k0 : ∀ b o, hp.get? b = some o → ((hp.push (seqObj "list" #[] 0)).update hp.objs.size (Obj.mapSeq fun x => x ++ vs.toArray)).get? b = some o := fun b o e => by
      rw [Heap.get?_update_ne _ _ _ _ (Nat.ne_of_lt (Heap.lt_size e))]
      exact Heap.get?_push_of_some _ e
    dsimp only
    generalize (hp.push (seqObj "list" #[] 0)).update hp.objs.size (Obj.mapSeq fun x => x ++ vs.toArray) = h1 at sz k0
    refine wpAny_bind ?_
    unfold Builtin.Itertools.itNewRecord
    rw [hd]
    refine wpAny_ite_true rfl ?_
    refine wpAny_newObj_type ?_ ?_
    · refine wpAny_pure ⟨_, rfl, ?_⟩
      have e1 : ((r : Nat) : Int).toNat = r := Int.toNat_natCast r
      rw [e1]
      have szt : (h1.push { cls := Value.type "tuple", data := Data.seq vs.toArray }).objs.size = hp.objs.size + 2 := by
        rw [Heap.size_push, sz]
      have pt : (h1.push { cls := Value.type "tuple", data := Data.seq vs.toArray }).get? h1.objs.size = some { cls := Value.type "tuple", data := Data.seq vs.toArray } := Heap.get?_push_size _ rfl
      refine h _ _ h1.objs.size (fun b o e => Heap.get?_push_of_some _ (Heap.get?_push_of_some _ (k0 b o e))) ?_ ?_ ?_ ?_ ?_
      · show hp.objs.size ≤ (h1.push _).objs.size
        rw [szt]
        exact Nat.le_add_right _ _
      · show hp.objs.size ≤ h1.objs.size
        rw [sz]
        exact Nat.le_succ _
      · show h1.objs.size ≠ (h1.push _).objs.size
        rw [szt, sz]
        exact Nat.ne_of_lt (Nat.lt_succ_self _)
      · exact ⟨_, Heap.get?_push_of_some _ pt, rfl, _, rfl⟩
      · exact Heap.get?_push_size _ rfl
    · show _ ≤ _
      rw [List.size_toArray, List.length_append, List.length_map, List.length_range, Int.toNat_natCast]
      exact Nat.le_trans (show 3 + r ≤ 1003 by omega) (by decide)
section
variable {prog : Program} {w : World} {A : Around} {E : Value → Shared → Prop} {s : Shared}
theorem call_comb {l : Addr} {vs : List Value} {r : Nat} {t : Tok} {Q : Value → Shared → Prop} (hL : s.heap.IsList l vs.toArray) (hr : r < 1000) (hv : vs.length < 1000)
    (h : ∀ h' it pool, (∀ b o, s.heap.get? b = some o → h'.get? b = some o) → s.heap.objs.size ≤ it → s.heap.objs.size ≤ pool → pool ≠ it → h'.IsTuple pool vs.toArray → IsComb h' it pool (if r > vs.length then 2 else 0) .none (List.range r) → Q (.ref it) { s with heap := h' }) :
    wpAny (model prog w) A (call (.type T) [.ref l, .int r t]) Q E s := by
  refine callType_new c_called (by decide +kernel) (c_tcall _ _) (c_ncall _ _) (fun obj => F.args_object_init_3 obj _ _) c_enew (comb_new l vs r t hr hv) ?_
  refine ⟨hL, fun h' it pool k a b c d e => ?_⟩
  show _ ∧ _
  exact ⟨⟨_, e, rfl⟩, h h' it pool k a b c d e⟩
theorem iter_comb {it pool : Addr} {st : Int} {last : Value} {idx : List Nat} {Q : Value → Shared → Prop} (hit : IsComb s.heap it pool st last idx) (h : Q (.ref it) s) : wpAny (model prog w) A (pyIter (.ref it)) Q E s := by
  have hT : s.TypeIs (.ref it) T := ⟨_, hit, rfl⟩
  refine wpAny_pyIter_slot hT c_siter (wpAny_call_entry c_siter hT c_eiter ?_ (c_aiter _))
  show wpAny _ _ (ret (.ref it)) _ _ s
  exact wpAny_pure ⟨_, rfl, T, _, hT, c_snext.lookup, h⟩
/-- the next places -/
def nxt (n : Nat) (js : List Nat) : Option (List Nat) :=
  match (List.range js.length).reverse.find? fun k => js.getD k 0 != k + n - js.length with
  | none => none
  | some k => some (js.take k ++ (List.range (js.length - k)).map (js.getD k 0 + 1 + ·))
theorem size3 (a b c : Value) (idx : List Nat) : ([a, b, c] ++ idx.map fun (i : Nat) => rawInt i).toArray.size = 3 + idx.length := by
  rw [List.size_toArray, List.length_append, List.length_map]
  rfl
theorem IsComb.set1 {h : Heap} {it pool : Addr} {st x : Int} {last : Value} {idx : List Nat} (hit : IsComb h it pool st last idx) : IsComb (h.update it (Obj.mapFields fun v => v.setIfInBounds 1 (rawInt x))) it pool x last idx := by
  refine (Heap.get?_update_self _ hit rfl).trans ?_
  simp [Obj.mapFields]
theorem IsComb.set2 {h : Heap} {it pool : Addr} {st : Int} {last x : Value} {idx : List Nat} (hit : IsComb h it pool st last idx) : IsComb (h.update it (Obj.mapFields fun v => v.setIfInBounds 2 x)) it pool st x idx := by
  refine (Heap.get?_update_self _ hit rfl).trans ?_
  simp [Obj.mapFields]
theorem IsComb.setN {h : Heap} {it pool : Addr} {st : Int} {last : Value} {idx js : List Nat} (hit : IsComb h it pool st last idx) : IsComb (h.update it (Obj.mapFields fun v => v.extract 0 3 ++ (js.map fun (n : Nat) => rawInt n).toArray)) it pool st last js := by
  refine (Heap.get?_update_self _ hit rfl).trans ?_
  simp [Obj.mapFields]
theorem k_nums {it pool : Addr} {st : Int} {last : Value} {idx : List Nat} {Q : List Nat → Shared → Prop} (hit : IsComb s.heap it pool st last idx) (h : Q idx s) : wpAny (model prog w) A (Builtin.Itertools.itNumbersFrom (.ref it) 3) Q E s := by
  unfold Builtin.Itertools.itNumbersFrom
  refine wpAny_bind (wpAny_load hit ?_)
  refine wpAny_pure ?_
  have e : ∀ l : List Nat, (l.map fun (i : Nat) => rawInt i).map (fun v => match v with | .int n _ => n.toNat | _ => 0) = l := fun l => by
    rw [List.map_map]
    exact (List.map_congr_left (g := id) fun x _ => Int.toNat_natCast x).trans (List.map_id l)
  have e2 := e idx
  show Q (((([Value.ref pool, rawInt st, last] ++ idx.map fun (i : Nat) => rawInt i).toArray.toList.drop 3).map _)) s
  rw [show (([Value.ref pool, rawInt st, last] ++ idx.map fun (i : Nat) => rawInt i).toArray.toList.drop 3) = idx.map fun (i : Nat) => rawInt i from rfl]
  exact e2.symm ▸ h
theorem k_int {it pool : Addr} {st : Int} {last : Value} {idx : List Nat} {Q : Int → Shared → Prop} (hit : IsComb s.heap it pool st last idx) (h : Q st s) : wpAny (model prog w) A (Builtin.Itertools.itIntField (.ref it) 1) Q E s := by
  unfold Builtin.Itertools.itIntField
  exact wpAny_bind (wpAny_field hit rfl (x := rawInt st) rfl (wpAny_pure h))
theorem k_pool {pool : Addr} {items : Array Value} {Q : Array Value → Shared → Prop} (hp : s.heap.IsTuple pool items) (h : Q items s) : wpAny (model prog w) A (Builtin.Itertools.itPoolItems (.ref pool)) Q E s := by
  obtain ⟨op, hop, _, np, hdp⟩ := hp
  unfold Builtin.Itertools.itPoolItems
  exact wpAny_bind (wpAny_seqItems hop hdp (wpAny_pure h))
theorem k_out {it pool : Addr} {st : Int} {last : Value} {idx : List Nat} {items : List Value} {Q : PySem.Fin → Shared → Prop} (hit : IsComb s.heap it pool st last idx) (hl : items.length < 1000)
    (hQ : ∀ h', IsComb h' it pool st (.ref s.heap.objs.size) idx → (∀ b o, b ≠ it → s.heap.get? b = some o → h'.get? b = some o) → h'.IsTuple s.heap.objs.size items.toArray → Q (.done (.ret (.ref s.heap.objs.size))) { s with heap := h' }) :
    wpAny (model prog w) A (newTuple items) (fun x s' => wpAny (model prog w) A (do
      let b ← field (.ref it) 2
      setField (.ref it) 2 x
      letGo [b] [x]
      ret x) Q E s') E s := by
  refine wpAny_newTuple ?_ (Nat.le_trans (Nat.le_of_lt hl) (by decide))
  have hit1 : IsComb (s.heap.push { cls := .type "tuple", data := .seq items.toArray }) it pool st last idx := Heap.get?_push_of_some _ hit
  have ne : s.heap.objs.size ≠ it := Ne.symm (Nat.ne_of_lt (Heap.lt_size hit))
  have pt : (s.heap.push { cls := .type "tuple", data := .seq items.toArray }).get? s.heap.objs.size = some { cls := .type "tuple", data := .seq items.toArray } := Heap.get?_push_size _ rfl
  have k1 : ∀ b o, s.heap.get? b = some o → (s.heap.push { cls := .type "tuple", data := .seq items.toArray }).get? b = some o := fun b o e => Heap.get?_push_of_some _ e
  generalize s.heap.push { cls := .type "tuple", data := .seq items.toArray } = h1 at hit1 pt k1
  refine wpAny_bind (wpAny_field hit1 rfl (x := last) rfl ?_)
  refine wpAny_bind (wpAny_setField hit1 rfl (by rw [size3]; omega) ?_)
  refine wpAny_bind (wpAny_letGo ?_)
  exact wpAny_pure (hQ _ hit1.set2 (fun b o hb e => (Heap.get?_update_ne _ _ _ _ hb).trans (k1 b o e)) ⟨_, (Heap.get?_update_ne _ _ _ _ ne).trans pt, rfl, _, rfl⟩)
theorem comb_first {it pool : Addr} {vs : List Value} {last : Value} {idx : List Nat} {Q : Option Value → Shared → Prop} (hit : IsComb s.heap it pool 0 last idx) (hp : s.heap.IsTuple pool vs.toArray) (hne : pool ≠ it) (hl : idx.length < 1000)
    (hQ : ∀ h', IsComb h' it pool 1 (.ref s.heap.objs.size) idx → (∀ b o, b ≠ it → s.heap.get? b = some o → h'.get? b = some o) → h'.IsTuple s.heap.objs.size (idx.map fun i => vs.toArray.getD i .none).toArray → Q (some (.ref s.heap.objs.size)) { s with heap := h' }) :
    wpAny (model prog w) A (pyNext (.ref it)) Q E s := by
  have hT : s.TypeIs (.ref it) T := ⟨_, hit, rfl⟩
  unfold pyNext
  refine wpAny_bind (wpAny_attempt (wpAny_callSpecial?_slot (name := Str.ofString "__next__") hT c_snext (wpAny_call_entry c_snext hT c_enext ?_ (c_anext _))))
  show wpAny _ _ (field (.ref it) 0 >>= _) _ _ s
  refine wpAny_bind (wpAny_field hit rfl (x := .ref pool) rfl ?_)
  show wpAny _ _ (Builtin.Itertools.itNumbersFrom (.ref it) 3 >>= _) _ _ s
  refine wpAny_bind (k_nums hit ?_)
  show wpAny _ _ (Builtin.Itertools.itIntField (.ref it) 1 >>= _) _ _ s
  refine wpAny_bind (k_int hit ?_)
  show wpAny _ _ (setField (.ref it) 1 (rawInt 1) >>= _) _ _ s
  refine wpAny_bind (wpAny_setField hit rfl (by rw [size3]; omega) ?_)
  have hit1 := hit.set1 (x := 1)
  have k1 : ∀ b o, b ≠ it → s.heap.get? b = some o → (s.heap.update it (Obj.mapFields fun v => v.setIfInBounds 1 (rawInt 1))).get? b = some o := fun b o hb e => (Heap.get?_update_ne _ _ _ _ hb).trans e
  have sz1 : (s.heap.update it (Obj.mapFields fun v => v.setIfInBounds 1 (rawInt 1))).objs.size = s.heap.objs.size := Heap.size_update ..
  generalize s.heap.update it (Obj.mapFields fun v => v.setIfInBounds 1 (rawInt 1)) = h1 at hit1 k1 sz1
  show wpAny _ _ (_ >>= _) _ _ _
  refine wpAny_bind ?_
  show wpAny _ _ (Builtin.Itertools.itPoolItems (.ref pool) >>= _) _ _ _
  refine wpAny_bind (k_pool (items := vs.toArray) ?_ ?_)
  · obtain ⟨op, hop, c, d⟩ := hp
    exact ⟨op, k1 _ _ hne hop, c, d⟩
  refine k_out (s := { s with heap := h1 }) hit1 (by rw [List.length_map]; exact hl) fun h' a b c => ⟨_, rfl, wpAny_pure ?_⟩
  have e : ({ s with heap := h1 } : Shared).heap.objs.size = s.heap.objs.size := sz1
  rw [e] at a c ⊢
  exact hQ h' a (fun b' o hb e => b b' o hb (k1 b' o hb e)) c
theorem comb_more {it pool : Addr} {vs : List Value} {last : Value} {idx js : List Nat} {Q : Option Value → Shared → Prop} (hit : IsComb s.heap it pool 1 last idx) (hp : s.heap.IsTuple pool vs.toArray) (hne : pool ≠ it) (hn : nxt vs.length idx = some js) (hl : js.length < 1000)
    (hQ : ∀ h', IsComb h' it pool 1 (.ref s.heap.objs.size) js → (∀ b o, b ≠ it → s.heap.get? b = some o → h'.get? b = some o) → h'.IsTuple s.heap.objs.size (js.map fun i => vs.toArray.getD i .none).toArray → Q (some (.ref s.heap.objs.size)) { s with heap := h' }) :
    wpAny (model prog w) A (pyNext (.ref it)) Q E s := by
  have hT : s.TypeIs (.ref it) T := ⟨_, hit, rfl⟩
  unfold pyNext
  refine wpAny_bind (wpAny_attempt (wpAny_callSpecial?_slot (name := Str.ofString "__next__") hT c_snext (wpAny_call_entry c_snext hT c_enext ?_ (c_anext _))))
  show wpAny _ _ (field (.ref it) 0 >>= _) _ _ s
  refine wpAny_bind (wpAny_field hit rfl (x := .ref pool) rfl ?_)
  show wpAny _ _ (Builtin.Itertools.itNumbersFrom (.ref it) 3 >>= _) _ _ s
  refine wpAny_bind (k_nums hit ?_)
  show wpAny _ _ (Builtin.Itertools.itIntField (.ref it) 1 >>= _) _ _ s
  refine wpAny_bind (k_int hit ?_)
  show wpAny _ _ (Builtin.Itertools.itPoolItems (.ref pool) >>= _) _ _ s
  refine wpAny_bind (k_pool hp ?_)
  have hn' : nxt vs.toArray.size idx = some js := by rw [List.size_toArray]; exact hn
  split
  case h_2 heq =>
    have z : nxt vs.toArray.size idx = none := heq
    rw [hn'] at z
    cases z
  rename_i next heq
  have z : nxt vs.toArray.size idx = some next := heq
  rw [hn'] at z
  cases z
  show wpAny _ _ (Builtin.Itertools.itSetNumbersFrom (.ref it) 3 js >>= _) _ _ s
  refine wpAny_bind ?_
  unfold Builtin.Itertools.itSetNumbersFrom
  refine wpAny_updateFields hit rfl ?_ ?_
  · have hit1 := hit.setN (js := js)
    have k1 : ∀ b o, b ≠ it → s.heap.get? b = some o → (s.heap.update it (Obj.mapFields fun v => v.extract 0 3 ++ (js.map fun (n : Nat) => rawInt n).toArray)).get? b = some o := fun b o hb e => (Heap.get?_update_ne _ _ _ _ hb).trans e
    have sz1 : (s.heap.update it (Obj.mapFields fun v => v.extract 0 3 ++ (js.map fun (n : Nat) => rawInt n).toArray)).objs.size = s.heap.objs.size := Heap.size_update ..
    generalize s.heap.update it (Obj.mapFields fun v => v.extract 0 3 ++ (js.map fun (n : Nat) => rawInt n).toArray) = h1 at hit1 k1 sz1
    show wpAny _ _ (_ >>= _) _ _ _
    refine wpAny_bind ?_
    show wpAny _ _ (Builtin.Itertools.itPoolItems (.ref pool) >>= _) _ _ _
    refine wpAny_bind (k_pool (items := vs.toArray) ?_ ?_)
    · obtain ⟨op, hop, c, d⟩ := hp
      exact ⟨op, k1 _ _ hne hop, c, d⟩
    refine k_out (s := { s with heap := h1 }) hit1 (by rw [List.length_map]; exact hl) fun h' a b c => ⟨_, rfl, wpAny_pure ?_⟩
    have e : ({ s with heap := h1 } : Shared).heap.objs.size = s.heap.objs.size := sz1
    rw [e] at a c ⊢
    exact hQ h' a (fun b' o hb e => b b' o hb (k1 b' o hb e)) c
  · have e1 : (js.map fun (n : Nat) => rawInt n).toArray.size = js.length := by rw [List.size_toArray, List.length_map]
    have e2 : (([Value.ref pool, rawInt 1, last] ++ idx.map fun (i : Nat) => rawInt i).toArray.extract 0 3).size ≤ 3 := by rw [Array.size_extract]; omega
    rw [Array.size_append, e1]
    exact Nat.le_trans (show _ + js.length ≤ 1003 by omega) (by decide)
/-- the end's exception within pyNext -/
theorem k_stop {it : Addr} {F : PySem.Fin → Shared → Prop} {G : Value → Shared → Prop} (hh : A.handled = none)
    (hQ : ∀ e h', CpRep.StopE e h' → Heap.ExtBut it s.heap h' → G e { s with heap := h' }) : wpAny (model prog w) A (Builtin.Itertools.itStop : Sem PySem.Fin) F G s := by
  unfold Builtin.Itertools.itStop
  refine wpAny_bind ?_
  simp only [newExc, newTuple]
  refine wpAny_bind (wpAny_newObj_type ?_ (by size_fits))
  refine wpAny_bind (m := firstArgMember _ _) (wpAny_of_eq (a := Value.none) (by first | rfl | (simp only [firstArgMember]; rfl)) ?_)
  refine wpAny_newObj_type ?_ (by size_fits)
  simp only [raiseNew]
  refine wpAny_bind (wpAny_handled ?_)
  rw [hh]
  refine wpAny_bind (wpAny_pure (wpAny_throw ?_))
  exact hQ _ _ ⟨_, _, _, rfl, Heap.get?_push_size _ rfl, rfl, rfl, rfl⟩ (((Heap.ExtBut.refl it s.heap).push _).push _)
theorem stop_is {e : Value} (h : CpRep.StopE e s.heap) {Q : Option Value → Shared → Prop} (hQ : Q none s) : wpAny (model prog w) A (do if ← isInstance e (.type "StopIteration") then pure none else throw e : Sem (Option Value)) Q E s := by
  obtain ⟨a, o, vs, rfl, ho, hc, _⟩ := h
  refine wpAny_bind (wpAny_isInstance (T := "StopIteration") (b := true) ⟨_, ho, hc⟩ isSubtype_stop ?_)
  exact wpAny_pure hQ
theorem comb_done {it pool : Addr} {vs : List Value} {last : Value} {idx : List Nat} {Q : Option Value → Shared → Prop} (hh : A.handled = none) (hit : IsComb s.heap it pool 1 last idx) (hp : s.heap.IsTuple pool vs.toArray) (hn : nxt vs.length idx = none)
    (hQ : ∀ h', Heap.ExtBut it s.heap h' → Q none { s with heap := h' }) : wpAny (model prog w) A (pyNext (.ref it)) Q E s := by
  have hT : s.TypeIs (.ref it) T := ⟨_, hit, rfl⟩
  unfold pyNext
  refine wpAny_bind (wpAny_attempt (wpAny_callSpecial?_slot (name := Str.ofString "__next__") hT c_snext (wpAny_call_entry c_snext hT c_enext ?_ (c_anext _))))
  show wpAny _ _ (field (.ref it) 0 >>= _) _ _ s
  refine wpAny_bind (wpAny_field hit rfl (x := .ref pool) rfl ?_)
  show wpAny _ _ (Builtin.Itertools.itNumbersFrom (.ref it) 3 >>= _) _ _ s
  refine wpAny_bind (k_nums hit ?_)
  show wpAny _ _ (Builtin.Itertools.itIntField (.ref it) 1 >>= _) _ _ s
  refine wpAny_bind (k_int hit ?_)
  show wpAny _ _ (Builtin.Itertools.itPoolItems (.ref pool) >>= _) _ _ s
  refine wpAny_bind (k_pool hp ?_)
  have hn' : nxt vs.toArray.size idx = none := by rw [List.size_toArray]; exact hn
  split
  case h_1 heq =>
    have z : nxt vs.toArray.size idx = some _ := heq
    rw [hn'] at z
    cases z
  show wpAny _ _ (setField (.ref it) 1 (rawInt 2) >>= _) _ _ s
  refine wpAny_bind (wpAny_setField hit rfl (by rw [size3]; omega) ?_)
  refine k_stop (it := it) hh fun e h' st eb => ?_
  exact stop_is (s := { s with heap := h' }) st (hQ h' ((Heap.SameBut.extBut (Heap.SameBut.update ..)).trans eb))
theorem comb_none {it pool : Addr} {last : Value} {idx : List Nat} {Q : Option Value → Shared → Prop} (hh : A.handled = none) (hit : IsComb s.heap it pool 2 last idx)
    (hQ : ∀ h', Heap.ExtBut it s.heap h' → Q none { s with heap := h' }) : wpAny (model prog w) A (pyNext (.ref it)) Q E s := by
  have hT : s.TypeIs (.ref it) T := ⟨_, hit, rfl⟩
  unfold pyNext
  refine wpAny_bind (wpAny_attempt (wpAny_callSpecial?_slot (name := Str.ofString "__next__") hT c_snext (wpAny_call_entry c_snext hT c_enext ?_ (c_anext _))))
  show wpAny _ _ (field (.ref it) 0 >>= _) _ _ s
  refine wpAny_bind (wpAny_field hit rfl (x := .ref pool) rfl ?_)
  show wpAny _ _ (Builtin.Itertools.itNumbersFrom (.ref it) 3 >>= _) _ _ s
  refine wpAny_bind (k_nums hit ?_)
  show wpAny _ _ (Builtin.Itertools.itIntField (.ref it) 1 >>= _) _ _ s
  refine wpAny_bind (k_int hit ?_)
  refine wpAny_bind (wpAny_rule ?_)
  refine k_stop (it := it) hh fun e h' st eb => ?_
  exact stop_is (s := { s with heap := h' }) st (hQ h' eb)
end
end OwnComb
namespace OwnComb
open PySem PySem.Spec PyProof.Rows L2
/-- the places in their order: begin, go on, end -/
structure Chain (n r : Nat) (L : List (List Nat)) : Prop where
  some : ¬ r > n → L[0]? = some (List.range r)
  none : r > n → L = []
  step : ∀ i js, L[i]? = Option.some js → nxt n js = L[i + 1]?
  small : ∀ js ∈ L, js.length < 1000
  inn : ∀ js ∈ L, ∀ j ∈ js, j < n
/-- the parts of what stood in the pool, each a new tuple -/
def IteC (xs : List V) (L : List (List Nat)) : It :=
  ⟨fun i _ => i < L.length, fun i H v H' => ∃ T js, L[i]? = some js ∧ v = .ref T ∧ H T = none ∧ H' = upd H T (.tup (js.map fun j => xs.getD j .non)), fun i _ => i = L.length⟩
theorem vals_getD {xs : List V} {us : List Value} (h : Vals xs us) {j : Nat} (hj : j < xs.length) : RelV (xs.getD j .non) (us.toArray.getD j .none) := by
  have e := h.length
  obtain ⟨u, hu, ru⟩ := h.get (List.getElem?_eq_getElem hj)
  rw [List.getD_eq_getElem?_getD, List.getElem?_eq_getElem hj]
  have z : us.toArray.getD j .none = u := by
    rw [Array.getD_eq_getD_getElem?, List.getElem?_toArray, hu]
    rfl
  rw [z]
  exact ru
theorem vals_pick {xs : List V} {us : List Value} (h : Vals xs us) : ∀ {js : List Nat}, (∀ j ∈ js, j < xs.length) → Vals (js.map fun j => xs.getD j .non) (js.map fun j => us.toArray.getD j .none)
  | [], _ => .nil
  | j :: js, hj => .cons (vals_getD h (hj j List.mem_cons_self)) (vals_pick h fun k hk => hj k (List.mem_cons_of_mem _ hk))
def CSt (it pool : Addr) (us : List Value) (L : List (List Nat)) (i : Nat) (h : Heap) : Prop :=
  h.IsTuple pool us.toArray ∧ pool ≠ it ∧ ∃ st last idx, IsComb h it pool st last idx ∧ ((i = 0 ∧ ((st = 0 ∧ L[0]? = some idx) ∨ (st = 2 ∧ L = []))) ∨ (0 < i ∧ st = 1 ∧ L[i - 1]? = some idx))
theorem turn_comb {P : Program} {w : World} {K : PySem.W.Frag} {tg : Expr} {r : Nat} {xs : List V} {us : List Value} {L : List (List Nat)} (it pool : Addr) (hv : Vals xs us) (C : Chain xs.length r L) : Turn P w K tg (IteC xs L) [it, pool] it (CSt it pool us L) where
  mem := List.mem_cons_self
  obj := fun i h ⟨⟨o, ho, hc, n, hd⟩, _, st, last, idx, hi, _⟩ b hb => by
    rcases List.mem_cons.mp hb with rfl | hb
    · exact ⟨_, hi, fun v q => nomatch q⟩
    · rw [List.mem_singleton.mp hb]
      exact ⟨o, ho, fun v q => by rw [hd] at q; cases q⟩
  keep := fun i h h' ⟨⟨o, ho, hc⟩, ne, st, last, idx, hi, z⟩ k => ⟨⟨o, k pool (by simp) _ ho, hc⟩, ne, st, last, idx, k it (by simp) _ hi, z⟩
  item := by
    intro X hP hw hK hc i pins s σ H E I hf st hg
    subst hP hw hK
    obtain ⟨hp, hne, st, last, idx, hit, hcase⟩ := st
    have hl : i < L.length := hg
    have lens : xs.length = us.length := hv.length
    have old1 : it < s.heap.objs.size := Heap.lt_size hit
    have old2 : pool < s.heap.objs.size := let ⟨_, q, _⟩ := hp; Heap.lt_size q
    -- what a turn leaves
    have fin : ∀ (js : List Nat) (h' : Heap) (lst : Value), L[i]? = some js → IsComb h' it pool 1 lst js → (∀ b o, b ≠ it → s.heap.get? b = some o → h'.get? b = some o) → h'.IsTuple s.heap.objs.size (js.map fun i => us.toArray.getD i .none).toArray →
        ∃ u, some (Value.ref s.heap.objs.size) = some u ∧ wpAny (model X.prog X.w) X.A (letOwnedTupleGo tg (.ref it) u) (fun _ s2 => ∃ x H', Inv X pins σ H' s2 ∧ RelV x u ∧ (IteC xs L).yld i H x H' ∧ CSt it pool us L (i + 1) s2.heap ∧ ∀ b ∈ [it, pool], H' b = none) E { s with heap := h' } := fun js h' lst hj hi' kk ht => by
      have mem := List.mem_of_getElem? hj
      obtain ⟨ot, hot, hct, nt, hdt⟩ := ht
      have new : ObjOk X.prog X.w (upd H s.heap.objs.size (.tup (js.map fun j => xs.getD j .non))) h' s.heap.objs.size (.tup (js.map fun j => xs.getD j .non)) :=
        ⟨by rw [List.length_map]; exact Nat.le_trans (Nat.le_of_lt (C.small js mem)) (by decide), _, vals_pick hv (C.inn js mem), ⟨ot, hot, hct, nt, hdt⟩⟩
      have I1 : Inv X pins σ (upd H s.heap.objs.size (.tup (js.map fun j => xs.getD j .non))) { s with heap := h' } :=
        I.turnedNew (t' := s.toks) (ch := [it, pool]) (fun b ob hb q => kk b ob (fun z => hb (by simp [z])) q) hf (Nat.le_refl _) new
      obtain ⟨op, hop, cp⟩ := hp
      refine ⟨_, rfl, go_of (s := { s with heap := h' }) hi' rfl rfl (by decide) ⟨.ref s.heap.objs.size, _, I1, rfl, ⟨_, js, hj, rfl, I.hok.fresh (Nat.le_refl _), rfl⟩, ⟨⟨op, kk _ _ hne hop, cp⟩, hne, 1, lst, js, hi', .inr ⟨Nat.succ_pos _, rfl, hj⟩⟩, fun b hb => ?_⟩⟩
      have hb' : b < s.heap.objs.size := by
        rcases List.mem_cons.mp hb with rfl | hb
        · exact old1
        · rw [List.mem_singleton.mp hb]; exact old2
      rw [upd_ne (Nat.ne_of_lt hb')]
      exact (hf b hb).1
    rcases hcase with ⟨rfl, ⟨rfl, h0⟩ | ⟨rfl, h0⟩⟩ | ⟨i0, rfl, h0⟩
    · exact comb_first hit hp hne (C.small _ (List.mem_of_getElem? h0)) fun h' a b c => fin idx h' _ h0 a b c
    · rw [h0] at hl; cases hl
    · have e := C.step _ _ h0
      rw [show i - 1 + 1 = i by omega, List.getElem?_eq_getElem hl] at e
      exact comb_more hit hp hne (by rw [← lens]; exact e) (C.small _ (List.getElem_mem hl)) fun h' a b c => fin _ h' _ (List.getElem?_eq_getElem hl) a b c
  done := by
    intro X hP hw hK hc i pins s σ H E I hf st hg
    subst hP hw hK
    obtain ⟨hp, hne, st, last, idx, hit, hcase⟩ := st
    have hl : i = L.length := hg
    have lens : xs.length = us.length := hv.length
    obtain ⟨f0, f1, f2, f3, f4, f5⟩ := hf it (by simp)
    rcases hcase with ⟨rfl, ⟨rfl, h0⟩ | ⟨rfl, h0⟩⟩ | ⟨i0, rfl, h0⟩
    · have := (List.getElem?_eq_some_iff.mp h0).1
      omega
    · exact comb_none (I.ok.hd hc) hit fun h' eb => ⟨rfl, I.turned (t' := s.toks) (fun b o hb e => eb b o hb e) f0 f1 f3 f4 f5⟩
    · have e := C.step _ _ h0
      rw [show i - 1 + 1 = i by omega, hl, List.getElem?_eq_none (Nat.le_refl _)] at e
      exact comb_done (I.ok.hd hc) hit hp (by rw [← lens]; exact e) fun h' eb => ⟨rfl, I.turned (t' := s.toks) (fun b o hb e => eb b o hb e) f0 f1 f3 f4 f5⟩
  self := fun A i s Q E ⟨_, _, st, last, idx, hit, _⟩ h => iter_comb hit h
def iComb (K : PySem.W.Frag) (ta : TA) : TI := fun σ H R => ta σ H fun vs H1 => ∃ (a : Addr) (r : Nat) (xs : List V) (L : List (List Nat)), vs = [.ref a, .int r] ∧ SqL K H1 a xs ∧ r < 1000 ∧ xs.length < 1000 ∧ Chain xs.length r L ∧ R (IteC xs L) H1
theorem pi_comb {X : Cx} {tg e e2 : Expr} {ta : TA} {x : Str} {p pos : Pos} (hg : Gl X x) (hm : X.mg x = some (.type T)) (ha : PA X [e, e2] ta) (hdb : (x == ("__debug__" : Str)) = false := by decide)
    (hs : starEach [e, e2] X.env = (false, eval e X.env) :: starEach [e2] X.env := by rfl) (hpl : (backTo pos (starEach [e2] X.env)).any (·.1) = false := by rfl) :
    PI X tg (.Call (.Name x p) [e, e2] [] pos) (iComb X.K ta) := by
  refine ⟨fun pins s σ H R I h => ?_⟩
  refine Call_ (ld_glob I hg hm (PyProof.Rows.callWith_type1 (thn (ha.run pos pins s σ H _ I h) fun us s1 ⟨vs, H1, I1, r1, q1⟩ => ?_) hs hpl) hdb)
  obtain ⟨a, r, xs, L, ex, hq, hr, hx, C, q⟩ := q1
  subst ex
  cases r1 with
  | cons ra rr =>
    cases rr with
    | cons rb rr =>
      cases rr
      cases ra
      obtain ⟨t, rfl⟩ := rb
      obtain ⟨its, rv, p1, _⟩ := I1.list hq
      have lens : xs.length = its.length := rv.length
      refine call_comb p1.isList hr (by rw [← lens]; exact hx) fun h' it pool k o1 o2 ne tp hi => iter_comb hi ?_
      refine ⟨it, [it, pool], _, _, H1, rfl, I1.kept (t' := s1.toks) k, turn_comb it pool rv C, ⟨tp, ne, _, _, _, hi, .inl ⟨rfl, ?_⟩⟩, fun b hb => ?_, q⟩
      · rw [← lens]
        by_cases z : r > xs.length
        · rw [if_pos z]
          exact .inr ⟨rfl, C.none z⟩
        · rw [if_neg z]
          exact .inl ⟨rfl, C.some z⟩
      · have le : s1.heap.objs.size ≤ b := by
          rcases List.mem_cons.mp hb with rfl | hb
          · exact o1
          · rw [List.mem_singleton.mp hb]; exact o2
        exact I1.fpOk le (I1.hok.fresh le)
/-! ### the chains, by reckoning -/
def runC (n : Nat) : Nat → List Nat → List (List Nat)
  | 0, js => [js]
  | f + 1, js => js :: match nxt n js with
    | none => []
    | some ks => runC n f ks
def combs (n r : Nat) : List (List Nat) := if r > n then [] else runC n 64 (List.range r)
def okC (n r : Nat) : Bool := (decide (r > n) && decide (combs n r = [])) || (!decide (r > n) && decide ((combs n r)[0]? = some (List.range r)) &&
  (List.range (combs n r).length).all fun i => decide (nxt n ((combs n r).getD i []) = (combs n r)[i + 1]?) && decide (((combs n r).getD i []).length < 1000) && ((combs n r).getD i []).all fun j => decide (j < n))
theorem chain_of {n r : Nat} (h : okC n r = true) : Chain n r (combs n r) := by
  unfold okC at h
  rcases Bool.or_eq_true_iff.mp h with h | h
  · obtain ⟨a, b⟩ := Bool.and_eq_true_iff.mp h
    have b : combs n r = [] := of_decide_eq_true b
    have a := of_decide_eq_true a
    rw [b]
    exact ⟨(fun z => absurd a z), (fun _ => rfl), (fun i js e => nomatch e), (fun js m => nomatch m), (fun js m => nomatch m)⟩
  · obtain ⟨ab, c⟩ := Bool.and_eq_true_iff.mp h
    obtain ⟨a, b⟩ := Bool.and_eq_true_iff.mp ab
    have b := of_decide_eq_true b
    have a : ¬ r > n := by simpa using a
    have all : ∀ i js, (combs n r)[i]? = some js → nxt n js = (combs n r)[i + 1]? ∧ js.length < 1000 ∧ ∀ j ∈ js, j < n := fun i js e => by
      have il := (List.getElem?_eq_some_iff.mp e).1
      have z := List.all_eq_true.mp c i (List.mem_range.mpr il)
      rw [List.getD_eq_getElem?_getD, e] at z
      obtain ⟨z1, z2⟩ := Bool.and_eq_true_iff.mp z
      obtain ⟨z0, z1⟩ := Bool.and_eq_true_iff.mp z1
      exact ⟨of_decide_eq_true z0, of_decide_eq_true z1, fun j hj => of_decide_eq_true (List.all_eq_true.mp z2 j hj)⟩
    exact ⟨(fun _ => b), (fun z => absurd z a), (fun i js e => (all i js e).1), (fun js m => let ⟨i, e⟩ := List.mem_iff_getElem?.mp m; (all i js e).2.1), (fun js m => let ⟨i, e⟩ := List.mem_iff_getElem?.mp m; (all i js e).2.2)⟩
theorem ok7 : ((List.range 7).all fun n => (List.range 8).all fun r => okC n r) = true := by decide +kernel
theorem chain6 {n r : Nat} (hn : n ≤ 6) (hr : r ≤ 7) : Chain n r (combs n r) :=
  chain_of (List.all_eq_true.mp (List.all_eq_true.mp ok7 n (List.mem_range.mpr (by omega))) r (List.mem_range.mpr (by omega)))
end OwnComb
/-! A rule of our own: set(xs) of a list of ints, so that it can be walked and sorted. -/
namespace OwnSet
open PySem PySem.Spec PyProof.Rows L2
section
variable {P : Program} {w : World} {A : Around} {E : Value → Shared → Prop} {s : Shared}
/-- a built-in class is called: its making and its beginning, each by itself -/
theorem made_then {T newId initId : String} {args : List Value} {Q Q1 : Value → Shared → Prop} (ft : TypeCalled T newId initId) (hct : checkTypeCall T ⟨args, []⟩ = pure ())
    (hnew : codeAny (model P w) A.in1 (.call (.builtin newId) ⟨.type T :: args, []⟩) (wants Q1 E) s)
    (hinit : ∀ obj s1, Q1 obj s1 → s1.TypeIs obj T ∧ codeAny (model P w) A.in1 (.call (.builtin initId) ⟨obj :: args, []⟩) (wants (fun r s2 => r = .none ∧ Q obj s2) E) s1) :
    wpAny (model P w) A (call (.type T) args) Q E s := by
  obtain ⟨c, tl, mro⟩ := ft.mro
  have u1 := ft.made; have u2 := ft.sub; have u3 := ft.notType; have u4 := ft.canCreate
  refine wpAny_call (codeAny_of_tree (show wpAny _ _ (callAny (.type T) _) _ _ _ from wpAny_pure ⟨Code.quiet_builtin _ (by decide +kernel), codeAny_builtin F.entry_type_call ?_⟩))
  rw [Around.under_plain (weight_type_call_type T args []) rfl]
  repeat any_goals first | assumption | wp_step
  refine codeAny_mono hnew fun r s1 hr => ?_
  match r, hr with
  | .ok (.ret obj), hr =>
    obtain ⟨hT, hi⟩ := hinit _ _ hr
    have v1 := ft.init.lookup; have v2 := ft.init.bind obj
    repeat any_goals first | assumption | wp_step
    refine codeAny_mono hi fun r2 s2 h2 => ?_
    match r2, h2 with
    | .ok (.ret r3), h2 =>
      obtain ⟨rfl, hq⟩ := h2
      repeat any_goals first | assumption | wp_step
    | .error e, h2 => exact h2
  | .error e, hr => exact hr
/-- a fresh set and a list of ints: the set's beginning -/
theorem set_begins {S l : Addr} {items : Array Value} {ns : List Int} {Q : Value → Shared → Prop} (hh : A.handled = none) (hl : s.heap.IsList l items) (hit : IntsAre items.toList ns) (hb : ns.length + 1 < scanBound) (ne : l ≠ S)
    (hS : s.heap.get? S = some { cls := .type "set", dict := none, data := .set #[] 0 (.fresh 0 0 (!w.params.followText "set-order")) })
    (h : ∀ (h' : Heap) (tk c : Nat), SetR w h' S (fun j => decide (j ∈ ns)) c → c ≤ ns.length → (∀ b o, b ≠ S → s.heap.get? b = some o → h'.get? b = some o) → Q .none { s with heap := h', toks := tk }) :
    codeAny (model P w) A (.call (.builtin "set.__init__") ⟨[.ref S, .ref l], []⟩) (wants Q E) s := by
  have hT : s.TypeIs (.ref S) "set" := ⟨_, hS, rfl⟩
  have hsz : items.size = ns.length := (Array.length_toList (xs := items)).symm.trans hit.length
  refine codeAny_call_builtin F.called_set.init.plain F.entry_set_init (check_set_init_1 hT ?_)
  obtain ⟨ol, hol, hcl, nl, hdl⟩ := id hl
  obtain ⟨ocls, odict, odata, oslots⟩ := ol
  obtain rfl : ocls = _ := hcl
  obtain rfl : odata = _ := hdl
  have c1 := F.sub_list_set; have c2 := F.sub_list_frozenset
  have c3 : (Value.type "list" == Value.type "dict") = false := by decide
  unfold Builtin.«set.__init__» noKeywords Builtin.Frozenset.updateFrom
  generalize hPI : pyIter = PI
  wp_walk
  subst hPI
  have lS : S < s.heap.objs.size := Heap.lt_size hS
  have ll : l < s.heap.objs.size := Heap.lt_size hol
  refine wpAny_pyIter_list (s := ⟨s.heap, s.gens, s.drawn, s.toks, s.os⟩) hl (wpAny_bind (wpAny_runValue ?_))
  have h3 : A.in1.in1.handled = none := hh
  have val : ∀ (i : Nat) (v : Value), items[i]? = some v → ∃ k t, ns[i]? = some k ∧ v = .int k t := fun i v hv => by
    have il : i < ns.length := by rw [← hsz]; exact (Array.getElem?_eq_some_iff.mp hv).1
    obtain ⟨t, e⟩ := IntsAre.int_at hit i v (by rw [Array.getElem?_toList]; exact hv)
    exact ⟨ns[i], t, List.getElem?_eq_getElem il, by rw [e, List.getD_eq_getElem?_getD, List.getElem?_eq_getElem il]; rfl⟩
  refine set_update_ints ((Walks.list h3 s.heap.objs.size l (Nat.ne_of_lt ll) items).toS) S ?_ ns hsz hb val (items.size - 0) 0 _ (by omega) (Nat.zero_le _) ⟨⟨_, Heap.get?_push_size _ rfl, rfl, rfl⟩, hl.push _⟩ ⟨0, Nat.le_refl 0, setR_new_at (Heap.get?_push_of_some _ hS)⟩ fun s2 c hm hc hR => ?_
  · intro z
    rcases List.mem_cons.mp z with z | z
    · exact Nat.ne_of_lt lS z
    · exact ne (List.mem_singleton.mp z).symm
  · obtain ⟨h2, g2, d2, t2, o2⟩ := s2
    obtain rfl : g2 = s.gens := hm.gens
    obtain rfl : d2 = s.drawn := hm.drawn
    obtain rfl : o2 = s.os := hm.os
    rw [hsz] at hc
    have fin : Q .none { s with heap := h2, toks := t2 } := h h2 t2 c hR hc fun b o hb e => hm.heap b o (by
      intro z
      rcases List.mem_cons.mp z with z | z
      · exact hb z
      · exact Nat.ne_of_lt (Heap.lt_size e) (List.mem_singleton.mp z)) (Heap.get?_push_of_some _ e)
    exact wpAny_pure (wpAny_pure fin)
theorem call_set_listI {l : Addr} {items : Array Value} {ns : List Int} {Q : Value → Shared → Prop} (hh : A.handled = none) (hl : s.heap.IsList l items) (hit : IntsAre items.toList ns) (hb : ns.length + 1 < scanBound)
    (h : ∀ (h' : Heap) (tk c : Nat), SetR w h' s.heap.objs.size (fun j => decide (j ∈ ns)) c → c ≤ ns.length → (∀ b o, s.heap.get? b = some o → h'.get? b = some o) → Q (.ref s.heap.objs.size) { s with heap := h', toks := tk }) :
    wpAny (model P w) A (call (.type "set") [.ref l]) Q E s := by
  have ll : l < s.heap.objs.size := let ⟨o, e, _⟩ := hl; Heap.lt_size e
  refine made_then (Q1 := fun obj s1 => obj = .ref s.heap.objs.size ∧ s1 = { s with heap := s.heap.push { cls := .type "set", dict := none, data := .set #[] 0 (.fresh 0 0 (!w.params.followText "set-order")) } }) F.called_set (F.typeCall_set_1 (.ref l)) (code_set_led1 (.ref l) ⟨rfl, rfl⟩) ?_
  rintro obj s1 ⟨rfl, rfl⟩
  have hS := Heap.get?_push_size s.heap (o := { cls := .type "set", dict := none, data := .set #[] 0 (.fresh 0 0 (!w.params.followText "set-order")) }) rfl
  refine ⟨⟨_, hS, rfl⟩, set_begins (ns := ns) (Q := fun r s2 => r = .none ∧ Q (.ref s.heap.objs.size) s2) hh (hl.push _) hit hb (Nat.ne_of_lt ll) hS fun h' tk c R hc k => ⟨rfl, h h' tk c R hc fun b o e => k b o (Nat.ne_of_lt (Heap.lt_size e)) (Heap.get?_push_of_some _ e)⟩⟩
end
def rSetI (K : PySem.W.Frag) (w : World) : List V → Hp → VK → Prop := fun vs H Q => ∃ (l : Addr) (ns : List Int), vs = [.ref l] ∧ SqL K H l (ns.map V.int) ∧ ns.length ≤ 1000 ∧ ∀ p n, H p = none → n ≤ ns.length → Q (.ref p) (upd H p (SetO w p (fun j => decide (j ∈ ns)) n))
theorem cr_setI {X : Cx} (hc : X.calm = true) : CallR X (.type "set") (rSetI X.K X.w) := by
  intro pins s σ H vs us Q I r h
  obtain ⟨l, ns, rfl, hl, hn, q⟩ := h
  obtain ⟨u, rfl, ru⟩ := vals1 r
  obtain rfl : u = Value.ref l := ru
  obtain ⟨its, rv, pl, hz⟩ := I.list hl
  refine call_set_listI (I.ok.hd hc) pl.isList (ns := ns) (by simpa using rv.ints) (by unfold scanBound; omega) fun h' tk c R hc k => ?_
  exact ⟨.ref s.heap.objs.size, upd H s.heap.objs.size (SetO X.w s.heap.objs.size (fun j => decide (j ∈ ns)) c), I.laid (t' := tk) k (Nat.le_refl _) (setO_new R), rfl, q _ c (I.hok.fresh (Nat.le_refl _)) hc⟩
/-! ### x in a tuple, deep -/
def rInDT (K : PySem.W.Frag) : R2 := fun x y H Q => ∃ d ds, Dp K H x d ∧ Dp K H y (.tuple ds) ∧ SeqAt.shaped d = true ∧ SeqAt.shaped (.tuple ds) = true ∧ Q (.bl (ds.any fun z => PyData.eqv z d)) H
theorem op_inDT {X : Cx} (hu : X.A.units + 65 < cLine) : OpR X (compareOp .In) (rInDT X.K) := by
  intro pins s σ H x y v u Q I rx ry h
  obtain ⟨d, ds, hd, he, sd, se, q⟩ := h
  obtain ⟨as, r1⟩ := Dp.reads I d x v hd rx
  obtain ⟨bs, r2⟩ := Dp.reads I (.tuple ds) y u he ry
  exact SeqAt.in_tuple_reads r2 r1 (SeqAt.canLay_of_shaped se) (SeqAt.canLay_of_shaped sd) (room_in_shaped sd hu) ⟨.bl _, H, I, rfl, q⟩
end OwnSet
/-! Rules of our own over the hand layer: an own operator, an own ==, // by any divisor, classes made within a try, a method called by keywords. -/
namespace Own
open PySem PySem.Spec PyProof.Rows L2
abbrev St := L2.St
section
variable {X : Cx} {CX : CXT} {k n : Nat} {f C : Addr} {fd : FuncData} {ps : List Str} {sp : Sp}
/-- // by a divisor of any sign below 2 ^ 9000 in size -/
def CDivM (_ j : Int) : Prop := j ≠ 0 ∧ j.natAbs.log2 < 9000
theorem op_fdivWN : OpR X (binaryOp .FloorDiv) (rI CDivM fun i j => .int (i.fdiv j)) := opI fun i j _ _ _ _ _ hc q =>
  floordiv_int hc.1 q (.inl (PyProof.noPylong_of_log2 hc.2))
/-- x op y by the class's own method: x and y are instances of the class at C -/
def rOwn (C : Addr) (sp : Sp) (E : XK) : R2 := fun x y H Q => ∃ a b dx dy fs gs, x = .ref a ∧ y = .ref b ∧ H a = some (.ins C dx fs) ∧ H b = some (.ins C dy gs) ∧ sp [.ref a, .ref b] H Q E
theorem op_own {op : Operator} {E : XK} (F : FnOk X.prog X.w X.K X.mg X.base CX n f fd ps sp) (hr : Room n X.A) (hsf : PySem.W.selfFirst X.K C = true) (hs : PySem.W.findIn X.K (.ref C) (PySem.dunder op.info.2) = some (some (.ref f)))
    (hf : PySem.W.isFn X.K (.ref f) = true) (hb : Binds X.K fd ps []) (hx : Passes CX X E) : OpR X (binaryOp op) (rOwn C sp E) := by
  intro pins s σ H x y u v Q I rx ry h
  obtain ⟨a, b, dx, dy, fs, gs, rfl, rfl, ha, hb', hq⟩ := h
  cases rx
  cases ry
  obtain ⟨mA, J, _⟩ := ins_get I.hok ha
  obtain ⟨mB, J', _⟩ := ins_get I.hok hb'
  obtain ⟨od, J, _⟩ := J.look
  obtain ⟨od', J', _⟩ := J'.look
  obtain ⟨m, hF⟩ := I.fr
  refine PySem.W.binop_K hF I.ok.mod.kin J J'.type hsf hs hf ?_
  refine wpAny_mono (run_fn (us := [.ref a, .ref b]) (vs := [.ref a, .ref b]) F hr hb .nil hx I (.cons rfl (.cons rfl .nil)) (by rw [List.append_nil]; exact hq)) (fun u s' z => ?_) fun _ _ e => e
  obtain ⟨v', H', I', rv, q⟩ := id z
  cases u <;> first
    | exact z
    | (exfalso; cases v' <;> first | (cases rv; done) | (obtain ⟨_, rv⟩ := rv; cases rv))
/-- x == y by the class's own method: x is an instance of the class at C, y of any type that is not below it -/
def rOwnEq (K : PySem.W.Frag) (C : Addr) (sp : Sp) (E : XK) : R2 := fun x y H Q => ∃ a dx fs t, x = .ref a ∧ H a = some (.ins C dx fs) ∧ TyX K H y t ∧ PySem.W.notFirst K C t = true ∧ sp [.ref a, y] H Q E
theorem op_eqOwn {E : XK} (F : FnOk X.prog X.w X.K X.mg X.base CX n f fd ps sp) (hr : Room n X.A) (hs : PySem.W.findIn X.K (.ref C) "__eq__" = some (some (.ref f)))
    (hf : PySem.W.isFn X.K (.ref f) = true) (hb : Binds X.K fd ps []) (hx : Passes CX X E) : OpR X (compareOp .Eq) (rOwnEq X.K C sp E) := by
  intro pins s σ H x y u v Q I rx ry h
  obtain ⟨a, dx, fs, t, rfl, ha, ty, hn, hq⟩ := h
  cases rx
  obtain ⟨mA, J, _⟩ := ins_get I.hok ha
  obtain ⟨od, J, _⟩ := J.look
  obtain ⟨m, hF⟩ := I.fr
  obtain ⟨P, Z, p, hne⟩ := kit_of I ry ty
  refine PySem.W.cmp_K (op := .Eq) hr.units0 hF I.ok.mod.kin J (Z.ty _ _ I.kIn p) hn hs hf ?_
  refine wpAny_mono (run_fn (us := [.ref a, v]) (vs := [.ref a, y]) F hr hb .nil hx I (.cons rfl (.cons ry .nil)) (by rw [List.append_nil]; exact hq)) (fun u s' z => ?_) fun _ _ e => e
  obtain ⟨v', H', I', rv, q⟩ := id z
  cases u <;> first
    | exact z
    | (exfalso; cases v' <;> first | (cases rv; done) | (obtain ⟨_, rv⟩ := rv; cases rv))
end

/-! ### within a try: what is raised is wished for at the slots -/
/-- a new instance of C, its __init__ a def of one promise (ws: its values behind self, as they are bound) -/
theorem made_at {X : Cx} {CX : CXT} {k : Nat} {f C : Addr} {fd : FuncData} {ps : List Str} {sp : Sp} {E : XK} {pins : List (Addr × Obj)} {σ : St} {H : Hp} {s : Shared} {Q : VK} {us rest : List Value} {kw : List (Str × Value)} {zs : List V} (M : Mk X.K C f) (F : FnOk X.prog X.w X.K X.mg X.base CX k f fd ps sp) (hr : Room (k + 1) X.A)
    (hx : PassesAt CX X σ E) (I : Inv X pins σ H s) (r : Vals zs rest) (bd : ∀ (s' : Shared) (y : Value), X.K.In s'.heap → (y :: rest).length = ps.length → BindsTo s' fd ⟨y :: us, kw⟩ (ps.zip (y :: rest)))
    (h : ∀ x dx, H x = none → H dx = none → dx ≠ x → sp (.ref x :: zs) (upd (upd H dx (.own x)) x (.ins C dx [])) (fun v H2 => v = .non ∧ Q (.ref x) H2) E) :
    wpAny (model X.prog X.w) X.A (call (.ref C) us kw) (EP X pins σ Q) X.xe s := by
  have at1 := I.hok.fresh (Nat.le_succ s.heap.objs.size)
  have q := h (s.heap.objs.size + 1) s.heap.objs.size at1 (I.hok.fresh (Nat.le_refl _)) (Nat.ne_of_lt (Nat.lt_succ_self _))
  have J := Inv.made (C := C) I
  have args : Vals (V.ref (s.heap.objs.size + 1) :: zs) (Value.ref (s.heap.objs.size + 1) :: rest) := .cons rfl r
  have b := bd _ (Value.ref (s.heap.objs.size + 1)) J.kIn (args.length.symm.trans (F.len _ _ _ _ q))
  refine wpAny_call (make_map (f := f) I.kIn M.makes M.init (beq_iff_eq.mp M.fn) (codeAny_mono (F.run _ X.stack _ _ ⟨Value.ref (s.heap.objs.size + 1) :: us, kw⟩ _ _ _ E (hr.make C us kw) (J.env0.make C us kw) b args q) ?_))
  rintro (e | fl) s' z
  · exact hx pins _ _ e s' J z
  · cases fl with
    | ret u =>
      obtain ⟨v, H', I3, rv, ev, q3⟩ := J.after z
      subst ev
      exact ⟨rv, V.ref (s.heap.objs.size + 1), H', I3, rfl, q3⟩
    | next => exact z.elim
    | brk => exact z.elim
    | cont => exact z.elim
section
variable {X : Cx} {CX : CXT} {k : Nat} {f C : Addr} {fd : FuncData} {ps ks : List Str} {sp : Sp} {E : St → XK} {dvs : List V} {ds : List Value} {x m : Str} {p pos apos : Pos} {e o : Expr} {es : List Expr} {kws : List Keyword} {ta : TE} {t tk : TA}
/-- C(e, ..) -/
def tMakeS (C : Addr) (sp : Sp) (dvs : List V) (E : St → XK) (t : TA) : TE := fun σ H Q => t σ H fun vs H1 => ∀ x dx, H1 x = none → H1 dx = none → dx ≠ x →
  sp (.ref x :: (vs ++ dvs)) (upd (upd H1 dx (.own x)) x (.ins C dx [])) (fun v H2 => v = .non ∧ Q (.ref x) H2) (E σ)
theorem pe_makeS (M : Mk X.K C f) (F : FnOk X.prog X.w X.K X.mg X.base CX k f fd ps sp) (hr : Room (k + 1) X.A) (hg : Gl X x) (hm : X.mg x = some (.ref C)) (hb : Binds X.K fd ps ds) (hd : Vals dvs ds) (hx : ∀ σ, PassesAt CX X σ (E σ))
    (ha : PA X (e :: es) t) (hdb : (x == ("__debug__" : Str)) = false := by decide) (he : starEach (e :: es) X.env = (false, eval e X.env) :: starEach es X.env := by rfl) (hpl : (backTo pos (starEach es X.env)).any (·.1) = false := by rfl) :
    PE X (.Call (.Name x p) (e :: es) [] pos) (tMakeS C sp dvs E t) :=
  ⟨fun pins s σ H Q I h => wpAny_Call_Name_kw (ld_glob I hg hm (PySem.W.callWith_K (h₀ := X.base) I.ok.mod.kin M.kp (thn (ha.run pos pins s σ H _ I h) fun us s1 ⟨vs, H1, I1, r, q⟩ =>
    ⟨I1.kIn, made_at M F hr (hx σ) I1 (r.append hd) (fun s' y X' l => hb s' (y :: us) X' l) q⟩) he hpl) hdb)⟩
/-- C(k = v, ..) -/
def tMakeKS (C : Addr) (m : Nat) (sp : Sp) (gV : List V → List V → List V) (E : St → XK) (tk : TA) : TE := fun σ H Q => tk σ H fun zs H2 => zs.length = m ∧ ∀ x dx, H2 x = none → H2 dx = none → dx ≠ x →
  sp (gV [.ref x] zs) (upd (upd H2 dx (.own x)) x (.ins C dx [])) (fun v H3 => v = .non ∧ Q (.ref x) H3) (E σ)
/-- the keywords' order is told by g: self stands first -/
theorem pe_makeKS {g : List Value → List Value → List Value} {gV : List V → List V → List V} {g' : List Value → List Value} {gV' : List V → List V} (M : Mk X.K C f) (F : FnOk X.prog X.w X.K X.mg X.base CX k f fd ps sp) (hr : Room (k + 1) X.A) (hg : Gl X x) (hm : X.mg x = some (.ref C)) (hb : KBn X.K fd ps 1 ks g gV)
    (hg1 : ∀ y ws, g [y] ws = y :: g' ws) (hg2 : ∀ y zs, gV [y] zs = y :: gV' zs) (hx : ∀ σ, PassesAt CX X σ (E σ)) (hkw : PK X kws tk)
    (hall : (backToKw pos (keywordEach kws X.env)).all (·.1.isSome) = true := by rfl) (hks : (backToKw pos (keywordEach kws X.env)).filterMap (·.1) = ks := by rfl) (hdb : (x == ("__debug__" : Str)) = false := by decide)
    (hpl : ((backTo pos (starEach [] X.env)).any (·.1) || (backToKw pos (keywordEach kws X.env)).any (·.1.isNone)) = false := by rfl) :
    PE X (.Call (.Name x p) [] kws pos) (tMakeKS C ks.length sp gV E tk) := by
  refine ⟨fun pins s σ H Q I h => wpAny_Call_Name_kw (ld_glob I hg hm (PySem.W.callWith_KW0 (h₀ := X.base) I.ok.mod.kin M.kp hall (thn (hkw.run pos pins s σ H _ I h) ?_) hpl) hdb)⟩
  rintro ws s2 ⟨zs, H2, I2, rz, lz, q⟩
  rw [hks]
  have rr := hb.rel (vs := [V.non]) (us := [Value.none]) (.cons rfl .nil) rz
  rw [hg1, hg2] at rr
  cases rr with
  | cons _ rest =>
    refine ⟨I2.kIn, made_at (us := []) M F hr (hx σ) I2 rest (fun s' y X' _ => ?_) fun x dx a b c => ?_⟩
    · have z := hb.to s' [y] ws X' rfl (rz.length.symm.trans lz)
      rwa [hg1] at z
    · have z := q x dx a b c
      rwa [hg2] at z
/-- o.m(e, ..) -/
def tMethS (C : Addr) (m : Str) (sp : Sp) (E : St → XK) (ta : TE) (t : TA) : TE := fun σ H Q => ta σ H fun x H1 => ∃ a dx fs, x = .ref a ∧ H1 a = some (.ins C dx fs) ∧ fs.lookup m = none ∧ t σ H1 fun vs H2 => sp (x :: vs) H2 Q (E σ)
theorem pe_methS {pl : Sem Bool} (he : PE X o ta) (c : Cls X.K C) (hm : Meth X.K C m f) (F : FnOk X.prog X.w X.K X.mg X.base CX k f fd ps sp) (hr : Room k X.A) (hb : Binds X.K fd ps []) (hx : ∀ σ, PassesAt CX X σ (E σ)) (ha : PA X (e :: es) t)
    (hst : starEach (e :: es) X.env = (false, eval e X.env) :: starEach es X.env := by rfl) (hpl : (backTo pos (starEach es X.env)).any (·.1) = false := by rfl)
    (ht : eval (.Call (.Attribute o m apos) (e :: es) [] pos) X.env = (do
      let ov ← eval o X.env
      standAt apos.atName
      let (f, first) ← holding [ov] (getMethod ov m pl)
      callWith pos f first (backTo pos (starEach (e :: es) X.env)) (backToKw pos (keywordEach [] X.env))) := by rfl) :
    PE X (.Call (.Attribute o m apos) (e :: es) [] pos) (tMethS C m sp E ta t) := by
  refine ⟨fun pins s σ H Q I h => PySem.W.methodCall_KW (pl := pl) (thn (he.run pins s σ H _ I h) ?_) ht⟩
  rintro u s1 ⟨x, H1, I1, rx, a, dx, fs, rfl, ea, l, q⟩
  obtain rfl : u = Value.ref a := rx
  refine getmeth_ok I1 ea c hm l (PySem.W.callWith_K (first := [.ref a]) (h₀ := X.base) I.ok.mod.kin hm.kp (thn (ha.run pos pins s1 σ H1 _ I1 q) ?_) hst hpl)
  rintro us s2 ⟨vs, H2, I2, r, q2⟩
  exact ⟨I2.kIn, run_fnS (us := .ref a :: us) (vs := .ref a :: vs) F hr hb (hx σ) I2 (.cons rfl r) q2⟩
end
end Own
/-! Rules of our own for what may be a list or a tuple: walked, taken apart, enumerated. -/
namespace OwnSeq
open PySem PySem.Spec PyProof.Rows L2
/-! ### enumerate of a tuple -/
theorem enum_made (t : Addr) (items : Array Value) :
    Meets (Builtin.«enumerate.__new__» ⟨[.type "enumerate", .ref t], []⟩) (fun _ R s => s.heap.IsTuple t items ∧
      R (.ok (.ret (.ref (s.heap.push { cls := .type "tuple_iterator", data := .fields #[.ref t, .int 0 0] }).objs.size)))
        { s with heap := (s.heap.push { cls := .type "tuple_iterator", data := .fields #[.ref t, .int 0 0] }).push { cls := .type "enumerate", data := .fields #[.none, .bool false, .ref s.heap.objs.size, rawInt 0, .none, .none] } }) :=
  .of_wp fun prog w A R s ⟨hL, h⟩ => by
    cases s with | mk hp g d tk os =>
    have below := sub_enumerate
    wp_walk
    refine wpAny_stack_any fun st => wpAny_pure ?_
    split
    · rename_i c _ _ _ _ _
      cases (c == Value.type "enumerate") <;> (wp_walk using wpAny_pyIter_tuple hL; exact ⟨_, rfl, h⟩)
    · wp_walk using wpAny_pyIter_tuple hL
      exact ⟨_, rfl, h⟩
theorem enum_tuple {prog : Program} {w : World} {A : Around} {E : Value → Shared → Prop} {s : Shared} {t : Addr} {items : Array Value} {Q : Value → Shared → Prop} (hL : s.heap.IsTuple t items)
    (h : ∀ h', IsEnum h' (s.heap.objs.size + 1) s.heap.objs.size 0 .none → h'.IsTupleIter s.heap.objs.size t 0 → (∀ b o, s.heap.get? b = some o → h'.get? b = some o) → Q (.ref (s.heap.objs.size + 1)) { s with heap := h' }) :
    wpAny (model prog w) A (call (.type "enumerate") [.ref t]) Q E s := by
  refine callType_new F.called_enumerate (by decide) (F.typeCall_enumerate_1 _) (F.newCall_enumerate_1 _) (fun obj => F.args_object_init_2 obj _) F.entry_enumerate_new (enum_made t items) ⟨hL, ?_⟩
  have grown : (s.heap.push { cls := .type "tuple_iterator", data := .fields #[.ref t, .int 0 0] }).objs.size = s.heap.objs.size + 1 := Heap.size_push ..
  have at2 := Heap.get?_push_size (s.heap.push { cls := .type "tuple_iterator", data := .fields #[.ref t, .int 0 0] }) (o := { cls := .type "enumerate", data := .fields #[.none, .bool false, .ref s.heap.objs.size, rawInt 0, .none, .none] }) rfl
  rw [grown] at at2
  show _ ∧ _
  rw [grown]
  exact ⟨⟨_, at2, rfl⟩, h _ at2 ⟨_, Heap.get?_push_of_some _ (Heap.get?_push_size _ rfl), rfl, rfl⟩ fun b o x => Heap.get?_push_of_some _ (Heap.get?_push_of_some _ x)⟩
/-- the tuple at a as it stands at each turn, each item in a new pair -/
def IteT (K : PySem.W.Frag) (a : Addr) : It :=
  ⟨fun i H => ∃ (xs : List V) (x : V), SqT K H a xs ∧ xs[i]? = some x, fun i H v H' => ∃ T x, v = .ref T ∧ H T = none ∧ H' = upd H T (.tup [.int (i : Nat), x]) ∧ ∀ xs, SqT K H a xs → xs[i]? = some x, fun i H => ∃ xs : List V, SqT K H a xs ∧ xs.length = i⟩
theorem turn_enumT {P : Program} {w : World} {K : PySem.W.Frag} {elts : List Expr} {kk : Nat} {tpos : Pos} (a e it : Addr) :
    Turn P w K (.Tuple elts kk tpos) (IteT K a) [e, it] e (fun i h => (∃ old, IsEnum h e it ((i : Nat) : Int) old) ∧ h.IsTupleIter it a i ∧ e ≠ it) where
  mem := List.mem_cons_self
  obj := fun i h ⟨⟨old, he⟩, ⟨o, ho, hc, hd⟩, _⟩ b hb => by
    rcases List.mem_cons.mp hb with rfl | hb
    · exact ⟨_, he, fun v q => nomatch q⟩
    · rw [List.mem_singleton.mp hb]
      exact ⟨o, ho, fun v q => by rw [hd] at q; cases q⟩
  keep := fun i h h' ⟨⟨old, he⟩, hi, hne⟩ k => ⟨⟨old, k e (by simp) _ he⟩, hi.at fun o q => k it (by simp) o q, hne⟩
  item := fun X hP hw hK hc i pins s σ H E I hf ⟨⟨old, he⟩, hit, hne⟩ ⟨xs, x, hq, hx⟩ => by
    subst hP hw hK
    obtain ⟨its, rv, p, hz⟩ := I.tuple hq
    obtain ⟨u, hu, ru⟩ := rv.get hx
    have p : s.heap.IsTuple a its.toArray := p
    have old1 : e < s.heap.objs.size := Heap.lt_size he
    have old2 : it < s.heap.objs.size := let ⟨_, q, _⟩ := hit; Heap.lt_size q
    have ai : a ≠ it := fun z => by
      obtain ⟨o1, g1, c1, _⟩ := hit
      obtain ⟨o2, g2, c2, _⟩ := p
      rw [z, g1] at g2
      cases g2
      exact absurd (Value.type.inj (c1.symm.trans c2)) (by decide)
    have ae : e ≠ a := fun z => by
      obtain ⟨o2, g2, c2, _⟩ := p
      have he : s.heap.get? e = some _ := he
      rw [← z, he] at g2
      cases g2
      exact absurd (Value.type.inj c2) (by decide)
    have li : i < its.toArray.size := by
      have z := (List.getElem?_eq_some_iff.mp hu).1
      simpa using z
    refine wpAny_pyNext_enum_itemD (Draws.tuple (show X.A.in1.handled = none from I.ok.hd hc) it a ai its.toArray) he ⟨hit, p⟩ li hne (by simp [hne, ae]) fun y h' tk hy ho st' hT hsz hk => ?_
    obtain rfl : y = u := by
      have z : its.toArray[i]? = some u := by simpa using hu
      rw [z] at hy
      exact (Option.some.inj hy).symm
    refine ⟨_, rfl, wpAny_letOwnedTupleGo_enum (s := { s with heap := h', toks := tk + 1 }) ho fun h'' he' sb => ?_⟩
    have hT2 : h''.get? s.heap.objs.size = some { cls := .type "tuple", data := .seq #[.int i tk, y] } := (sb.2 _ (Nat.ne_of_gt old1)).trans hT
    have new : ObjOk X.prog X.w (upd H s.heap.objs.size (.tup [.int (i : Nat), x])) h'' s.heap.objs.size (.tup [.int (i : Nat), x]) :=
      ⟨by show 2 ≤ sizeLine; decide, [.int i tk, y], .cons ⟨_, rfl⟩ (.cons ru .nil), ⟨_, hT2, rfl, _, rfl⟩⟩
    have I1 : Inv X pins σ (upd H s.heap.objs.size (.tup [.int (i : Nat), x])) { s with heap := h'', toks := tk + 1 } :=
      I.turnedNew (ch := [e, it]) (fun b ob hb q => (sb.2 b (fun z => hb (by simp [z]))).trans (hk b ob (fun z => hb (by simp [z])) (fun z => hb (by simp [z])) q)) hf (Nat.le_refl _) new
    refine ⟨.ref s.heap.objs.size, _, I1, rfl, ⟨_, x, rfl, I.hok.fresh (Nat.le_refl _), rfl, fun ys hy => by rw [I.tuple_inj hy hq]; exact hx⟩, ⟨⟨y, ?_⟩, st'.1.at fun o q => (sb.2 it (Ne.symm hne)).trans q, hne⟩, fun b hb => ?_⟩
    · rw [show ((i + 1 : Nat) : Int) = (i : Int) + 1 by omega]
      exact he'
    · have hb' : b < s.heap.objs.size := by
        rcases List.mem_cons.mp hb with rfl | hb
        · exact old1
        · rw [List.mem_singleton.mp hb]; exact old2
      rw [upd_ne (Nat.ne_of_lt hb')]
      exact (hf b hb).1
  done := fun X hP hw hK hc i pins s σ H E I hf ⟨⟨old, he⟩, hit, hne⟩ ⟨xs, hq, hx⟩ => by
    subst hP hw hK
    obtain ⟨its, rv, p, hz⟩ := I.tuple hq
    have p : s.heap.IsTuple a its.toArray := p
    obtain ⟨f0, f1, f2, f3, f4, f5⟩ := hf it (by simp)
    have hl := rv.length
    have ai : a ≠ it := fun z => by
      obtain ⟨o1, g1, c1, _⟩ := hit
      obtain ⟨o2, g2, c2, _⟩ := p
      rw [z, g1] at g2
      cases g2
      exact absurd (Value.type.inj (c1.symm.trans c2)) (by decide)
    have e' : i = its.toArray.size := by rw [List.size_toArray, ← hl, hx]
    exact wpAny_pyNext_enum_endD (Draws.tuple (show X.A.in1.handled = none from I.ok.hd hc) it a ai its.toArray) he ⟨by rw [← e']; exact hit, p⟩ fun h' eb => ⟨rfl, I.turned (t' := s.toks) (fun b o hb q => eb b o hb q) f0 f1 f3 f4 f5⟩
  self := fun A i s Q E ⟨⟨_, he⟩, _⟩ h => wpAny_pyIter_enum he h
def iEnumT (K : PySem.W.Frag) (ta : TA) : TI := fun σ H R => ta σ H fun vs H1 => ∃ a xs, vs = [.ref a] ∧ SqT K H1 a xs ∧ R (IteT K a) H1
section
variable {X : Cx} {e tg : Expr} {te : TE} {ta : TA} {p pos tpos : Pos} {elts : List Expr} {kk : Nat}
theorem pi_enumT (hg : Gl X "enumerate") (hm : X.mg "enumerate" = none) (ha : PA X [e] ta) (hs : starEach [e] X.env = [(false, eval e X.env)] := by rfl) : PI X (.Tuple elts kk tpos) (.Call (.Name "enumerate" p) [e] [] pos) (iEnumT X.K ta) :=
  ⟨fun pins s σ H R I h => Call_ (ld_blt I hg hm boot_enumerate (PyProof.Rows.callWith_type1 (thn (ha.run pos pins s σ H _ I h) fun us s1 ⟨vs, H1, I1, r1, a, xs, ex, hq, q⟩ => by
    subst ex
    cases r1 with
    | cons r rr =>
      cases rr
      cases r
      obtain ⟨its, rv, p', hz⟩ := I1.tuple hq
      refine enum_tuple (show s1.heap.IsTuple a its.toArray from p') fun h' he hit hk => wpAny_pyIter_enum he ?_
      refine ⟨s1.heap.objs.size + 1, [s1.heap.objs.size + 1, s1.heap.objs.size], _, _, H1, rfl, I1.kept (t' := s1.toks) hk, turn_enumT a (s1.heap.objs.size + 1) s1.heap.objs.size, ⟨⟨.none, he⟩, hit, Nat.succ_ne_self _⟩, fun b hb => ?_, q⟩
      have le : s1.heap.objs.size ≤ b := by
        rcases List.mem_cons.mp hb with rfl | hb
        · exact Nat.le_succ _
        · exact Nat.le_of_eq (List.mem_singleton.mp hb).symm
      exact I1.fpOk le (I1.hok.fresh le)) hs rfl))⟩
/-! ### a list or a tuple -/
theorem PI.or {w1 w2 : TI} {it : Expr} (a : PI X tg it w1) (b : PI X tg it w2) : PI X tg it (fun σ H R => w1 σ H R ∨ w2 σ H R) := ⟨fun pins s σ H R I h => h.elim (a.run pins s σ H R I) (b.run pins s σ H R I)⟩
theorem PG.or {g1 g2 : TG} (a : PG X tg g1) (b : PG X tg g2) : PG X tg (fun v σ H Q => g1 v σ H Q ∨ g2 v σ H Q) := ⟨fun pins s σ H v u Q I r h => h.elim (a.run pins s σ H v u Q I r) (b.run pins s σ H v u Q I r)⟩
/-- l: a list; else a tuple -/
def sq (l : Bool) (xs : List V) : HO := if l = true then .lst xs else .tup xs
theorem sq_l {K : PySem.W.Frag} {H : Hp} {a : Addr} {xs : List V} (h : H a = some (sq true xs)) : SqL K H a xs := SqL.of h
theorem sq_t {K : PySem.W.Frag} {H : Hp} {a : Addr} {xs : List V} (h : H a = some (sq false xs)) : SqT K H a xs := SqT.of h
def iSeq (K : PySem.W.Frag) (te : TE) : TI := fun σ H R => te σ H fun x H1 => ∃ a l xs, x = .ref a ∧ H1 a = some (sq l xs) ∧ R (if l = true then Itl K a else Itt K a) H1
theorem pi_seq (he : PE X e te) : PI X tg e (iSeq X.K te) := ⟨fun pins s σ H R I h => thn (he.run pins s σ H _ I h) fun v s1 ⟨x, H1, I1, rx, a, l, xs, ex, hx, q⟩ => by
  subst ex
  cases rx
  cases l with
  | true =>
    obtain ⟨its, rv, p, _⟩ := I1.list (SqL.of hx)
    exact wpAny_pyIter_list p.isList ⟨s1.heap.objs.size, [s1.heap.objs.size], _, _, H1, rfl, I1.kept (t' := s1.toks) fun b o e => Heap.get?_push_of_some _ e, turn_list a _, ⟨_, Heap.get?_push_size _ rfl, rfl, rfl⟩, fun b hb => by
      rw [List.mem_singleton.mp hb]
      exact I1.fpOk (Nat.le_refl _) (I1.hok.fresh (Nat.le_refl _)), q⟩
  | false =>
    obtain ⟨its, rv, p, _⟩ := I1.tuple (SqT.of hx)
    exact wpAny_pyIter_tuple (show s1.heap.IsTuple a its.toArray from p) ⟨s1.heap.objs.size, [s1.heap.objs.size], _, _, H1, rfl, I1.kept (t' := s1.toks) fun b o e => Heap.get?_push_of_some _ e, turn_tuple a _, ⟨_, Heap.get?_push_size _ rfl, rfl, rfl⟩, fun b hb => by
      rw [List.mem_singleton.mp hb]
      exact I1.fpOk (Nat.le_refl _) (I1.hok.fresh (Nat.le_refl _)), q⟩⟩
def iEnumS (K : PySem.W.Frag) (ta : TA) : TI := fun σ H R => ta σ H fun vs H1 => ∃ a l xs, vs = [.ref a] ∧ H1 a = some (sq l xs) ∧ R (if l = true then Ite K a else IteT K a) H1
theorem pi_enumS (hg : Gl X "enumerate") (hm : X.mg "enumerate" = none) (ha : PA X [e] ta) (hs : starEach [e] X.env = [(false, eval e X.env)] := by rfl) : PI X (.Tuple elts kk tpos) (.Call (.Name "enumerate" p) [e] [] pos) (iEnumS X.K ta) :=
  ⟨fun pins s σ H R I h => Call_ (ld_blt I hg hm boot_enumerate (PyProof.Rows.callWith_type1 (thn (ha.run pos pins s σ H _ I h) fun us s1 ⟨vs, H1, I1, r1, a, l, xs, ex, hq, q⟩ => by
    subst ex
    have young : ∀ b ∈ [s1.heap.objs.size + 1, s1.heap.objs.size], FpOk X pins H1 b := fun b hb => by
      have le : s1.heap.objs.size ≤ b := by
        rcases List.mem_cons.mp hb with rfl | hb
        · exact Nat.le_succ _
        · exact Nat.le_of_eq (List.mem_singleton.mp hb).symm
      exact I1.fpOk le (I1.hok.fresh le)
    cases r1 with
    | cons r rr =>
      cases rr
      cases r
      cases l with
      | true =>
        obtain ⟨its, rv, p', hz⟩ := I1.list (SqL.of hq)
        exact call_enumerate_list p'.isList fun h' he hit hsz hk => wpAny_pyIter_enum he ⟨_, _, _, _, H1, rfl, I1.kept (t' := s1.toks) hk, turn_enum a (s1.heap.objs.size + 1) s1.heap.objs.size, ⟨⟨.none, he⟩, hit, Nat.succ_ne_self _⟩, young, q⟩
      | false =>
        obtain ⟨its, rv, p', hz⟩ := I1.tuple (SqT.of hq)
        exact enum_tuple (show s1.heap.IsTuple a its.toArray from p') fun h' he hit hk => wpAny_pyIter_enum he ⟨_, _, _, _, H1, rfl, I1.kept (t' := s1.toks) hk, turn_enumT a (s1.heap.objs.size + 1) s1.heap.objs.size, ⟨⟨.none, he⟩, hit, Nat.succ_ne_self _⟩, young, q⟩) hs rfl))⟩
end
/-! ### loops over what walks n items -/
structure Goes (J : It) (S : Hp → Prop) (n : Nat) (y : Nat → Hp → V → Hp → Prop) : Prop where
  go : ∀ i H, i < n → S H → J.go i H
  stop : ∀ H, S H → J.stop n H
  yld : ∀ i H x H', S H → J.yld i H x H' → y i H x H'
theorem goes_seq {K : PySem.W.Frag} {a : Addr} {l : Bool} {xs : List V} : Goes (if l = true then Itl K a else Itt K a) (fun H => H a = some (sq l xs)) xs.length (fun i H x H' => H' = H ∧ xs[i]? = some x) := by
  cases l with
  | true => exact ⟨fun i H hi h => ⟨xs, xs[i], SqL.of h, by simp [hi]⟩, fun H h => ⟨xs, SqL.of h, Nat.le_refl _⟩, fun i H x H' h y => ⟨y.1, y.2 xs (SqL.of h)⟩⟩
  | false => exact ⟨fun i H hi h => ⟨xs, xs[i], SqT.of h, by simp [hi]⟩, fun H h => ⟨xs, SqT.of h, Nat.le_refl _⟩, fun i H x H' h y => ⟨y.1, y.2 xs (SqT.of h)⟩⟩
theorem goes_enum {K : PySem.W.Frag} {a : Addr} {l : Bool} {xs : List V} : Goes (if l = true then Ite K a else IteT K a) (fun H => H a = some (sq l xs)) xs.length (fun i H x H' => ∃ T z, x = .ref T ∧ H T = none ∧ H' = upd H T (.tup [.int (i : Nat), z]) ∧ xs[i]? = some z) := by
  cases l with
  | true => exact ⟨fun i H hi h => ⟨xs, xs[i], SqL.of h, by simp [hi]⟩, fun H h => ⟨xs, SqL.of h, Nat.le_refl _⟩, fun i H x H' h ⟨T, z, a, b, c, d⟩ => ⟨T, z, a, b, c, d xs (SqL.of h)⟩⟩
  | false => exact ⟨fun i H hi h => ⟨xs, xs[i], SqT.of h, by simp [hi]⟩, fun H h => ⟨xs, SqT.of h, rfl⟩, fun i H x H' h ⟨T, z, a, b, c, d⟩ => ⟨T, z, a, b, c, d xs (SqT.of h)⟩⟩
theorem loop_goes {J : It} {S : Hp → Prop} {n : Nat} {y : Nat → Hp → V → Hp → Prop} {g : TG} {tb : TS} {D : Ends} {σ : L2.St} {H : Hp} (G : Goes J S n y) (Pe : L2.St → Hp → Prop) (Pv : Nat → L2.St → Hp → Prop) (h0 : Pv 0 σ H) (hl : ∀ i σ H, i ≤ n → Pv i σ H → S H)
    (hs : ∀ (bk : L2.St → Hp → Prop), (∀ σ H, Pe σ H → bk σ H) → ∀ i x σ H H', i < n → Pv i σ H → y i H x H' → g x σ H' fun σ2 H2 => tb { D with nx := Pv (i + 1), ct := Pv (i + 1), bk := bk } σ2 H2)
    (hd : ∀ σ H, Pv n σ H → Pe σ H) (he : ∀ σ H, Pe σ H → D.nx σ H) : Rd.Loop J g tb D σ H :=
  ⟨fun i m σ H => m = n - i ∧ i ≤ n ∧ Pv i σ H, ⟨n, rfl, Nat.zero_le _, h0⟩, fun i m σ H ⟨e, hi, p⟩ => by
    subst e
    have q := hl i σ H hi p
    rcases Nat.lt_or_eq_of_le hi with lt | eq
    · exact .inr ⟨G.go i H lt q, Pv (i + 1), fun σ' H' p' => ⟨n - (i + 1), by omega, rfl, lt, p'⟩, fun x H' z => hs D.nx he i x σ H H' lt p (G.yld i H x H' q z)⟩
    · subst eq
      exact .inl ⟨G.stop H q, he σ H (hd σ H p)⟩⟩
theorem lcl_goes {J : It} {S : Hp → Prop} {n : Nat} {y : Nat → Hp → V → Hp → Prop} {g : TG} {tt : TT} {te : TE} {vs : List Nat} {σ : L2.St} {H : Hp} {Q : VK} (G : Goes J S n y) (Pv : Addr → Nat → Hp → Prop) (h0 : ∀ D, H D = none → Pv D 0 (upd H D (.lst []))) (hl : ∀ D i H1, i ≤ n → Pv D i H1 → S H1)
    (hs : ∀ D i x H1 H', i < n → Pv D i H1 → y i H1 x H' → g x (wipe σ vs) H' fun σ2 H2 => Rd.LcTurn te tt D (wipe σ vs) σ2 vs H2 (Pv D (i + 1))) (hd : ∀ D H1, H D = none → Pv D n H1 → Q (.ref D) H1) : Rd.LcL J g tt te vs σ H Q := fun D hD =>
  ⟨fun i m H => m = n - i ∧ i ≤ n ∧ Pv D i H, ⟨n, rfl, Nat.zero_le _, h0 D hD⟩, fun i m H1 ⟨e, hi, p⟩ => by
    subst e
    have q := hl D i H1 hi p
    rcases Nat.lt_or_eq_of_le hi with lt | eq
    · exact .inr ⟨G.go i H1 lt q, Pv D (i + 1), fun H' p' => ⟨n - (i + 1), by omega, rfl, lt, p'⟩, fun x H' z => hs D i x H1 H' lt p (G.yld i H1 x H' q z)⟩
    · subst eq
      exact .inl ⟨G.stop H1 q, hd D H1 hD p⟩⟩
theorem tFor_seq {K : PySem.W.Frag} {te : TE} {g : TG} {tb : TS} {D : Ends} {σ : L2.St} {H : Hp} : tFor (iSeq K te) g tb D σ H = te σ H (fun x H1 => ∃ a l xs, x = .ref a ∧ H1 a = some (sq l xs) ∧ Rd.Loop (if l = true then Itl K a else Itt K a) g tb D σ H1) := rfl
theorem tFor_enumS {K : PySem.W.Frag} {ta : TA} {g : TG} {tb : TS} {D : Ends} {σ : L2.St} {H : Hp} : tFor (iEnumS K ta) g tb D σ H = ta σ H (fun vs H1 => ∃ a l xs, vs = [.ref a] ∧ H1 a = some (sq l xs) ∧ Rd.Loop (if l = true then Ite K a else IteT K a) g tb D σ H1) := rfl
theorem tLc_seq {K : PySem.W.Frag} {te0 : TE} {g : TG} {tt : TT} {te : TE} {vs : List Nat} {σ : L2.St} {H : Hp} {Q : VK} : tLc (iSeq K te0) g tt te vs σ H Q = te0 σ H (fun x H1 => ∃ a l xs, x = .ref a ∧ H1 a = some (sq l xs) ∧ Rd.LcL (if l = true then Itl K a else Itt K a) g tt te vs σ H1 Q) := rfl
theorem tLc_enumS {K : PySem.W.Frag} {ta : TA} {g : TG} {tt : TT} {te : TE} {vs : List Nat} {σ : L2.St} {H : Hp} {Q : VK} : tLc (iEnumS K ta) g tt te vs σ H Q = ta σ H (fun ws H1 => ∃ a l xs, ws = [.ref a] ∧ H1 a = some (sq l xs) ∧ Rd.LcL (if l = true then Ite K a else IteT K a) g tt te vs σ H1 Q) := rfl
/-! ### x, *rest = a list or a tuple -/
section
variable {prog : Program} {w : World} {A : Around} {E : Value → Shared → Prop} {s : Shared}
theorem rest_list {l : Addr} {x : Value} {xs : List Value} {Q : List Value → Shared → Prop} (hl : s.heap.IsList l (x :: xs).toArray) (hh : A.handled = none) (hz : xs.length ≤ 1000)
    (h : ∀ (h' : Heap) (tk : Nat), (∀ b o, s.heap.get? b = some o → h'.get? b = some o) → Q [x, .ref h'.objs.size] { s with heap := h'.push { cls := .type "list", data := .seq xs.toArray }, toks := tk }) : wpAny (model prog w) A (unpackItems (.ref l) 2 (some 1)) Q E s := by
  have ne : l ≠ s.heap.objs.size := let ⟨_, g, _⟩ := hl; Nat.ne_of_lt (Heap.lt_size g)
  unfold unpackItems notIterableAtAll
  refine wpAny_bind (wpAny_bind (wpAny_specialOf hl.typeIs slot_list_iter.lookup (wpAny_pure ?_)))
  simp only [Bool.false_eq_true, if_false]
  refine wpAny_bind (wpAny_holding (wpAny_pyIter_list hl (wpAny_bind (wpAny_holding (PySem.W.kun_draw ne 1 0 _ _ ⟨_, Heap.get?_push_size _ rfl, rfl, rfl⟩ (hl.push _) (by simp) fun h1 it1 sb1 => ?_)))))
  have e1 : ((x :: xs).toArray.toList.drop 0).take 1 = [x] := rfl
  rw [e1]
  have it1 : h1.IsListIter s.heap.objs.size l 1 := it1
  have l1 : h1.IsList l (x :: xs).toArray := (hl.push _).extBut sb1.extBut ne
  have lt1 : s.heap.objs.size < h1.objs.size := let ⟨_, g, _⟩ := it1; Heap.lt_size g
  have lt2 : l < h1.objs.size := let ⟨_, g, _⟩ := l1; Heap.lt_size g
  rw [if_neg (show ¬ ([x] : List Value).length < 1 from Nat.lt_irrefl 1)]
  refine wpAny_bind (wpAny_holding (PySem.W.kun_collect (s := { s with heap := h1 }) (T := "list_iterator") (.inr (.inr (.inl rfl))) (Walks.list (A := A.in1) hh s.heap.objs.size l ne (x :: xs).toArray) (fun j u st => st.1.typeIs) (k := 1) (by simp) ⟨it1, l1⟩ lt1 lt2 (fun h2 tk k2 => ?_) (by simp; exact Nat.le_trans (Nat.succ_le_succ hz) (by decide))))
  rw [if_neg (Nat.not_lt_zero _)]
  have e2 : (x :: xs).toArray.toList.drop 1 = xs := rfl
  have e3 : xs.take (xs.length - (2 - 1 - 1)) = xs := List.take_length
  have e4 : xs.drop (xs.length - (2 - 1 - 1)) = [] := List.drop_length
  rw [e2, e3, e4]
  exact wpAny_bind (wpAny_newList (wpAny_pure (h h2 tk fun b o g => k2 b o (Nat.ne_of_lt (Heap.lt_size g)) (sb1.extBut b o (Nat.ne_of_lt (Heap.lt_size g)) (Heap.get?_push_of_some _ g)))) (Nat.le_trans hz (by decide)))
theorem rest_tuple {l : Addr} {x : Value} {xs : List Value} {Q : List Value → Shared → Prop} (hl : s.heap.IsTuple l (x :: xs).toArray) (hh : A.handled = none) (hz : xs.length ≤ 1000)
    (h : ∀ (h' : Heap) (tk : Nat), (∀ b o, s.heap.get? b = some o → h'.get? b = some o) → Q [x, .ref h'.objs.size] { s with heap := h'.push { cls := .type "list", data := .seq xs.toArray }, toks := tk }) : wpAny (model prog w) A (unpackItems (.ref l) 2 (some 1)) Q E s := by
  have ne : l ≠ s.heap.objs.size := let ⟨_, g, _⟩ := hl; Nat.ne_of_lt (Heap.lt_size g)
  unfold unpackItems notIterableAtAll
  refine wpAny_bind (wpAny_bind (wpAny_specialOf hl.typeIs slot_tuple_iter.lookup (wpAny_pure ?_)))
  simp only [Bool.false_eq_true, if_false]
  refine wpAny_bind (wpAny_holding (wpAny_pyIter_tuple hl (wpAny_bind (wpAny_holding (wpAny_draw_tuple ne 1 0 _ _ ⟨_, Heap.get?_push_size _ rfl, rfl, rfl⟩ (hl.push _) (by simp) fun h1 it1 sb1 => ?_)))))
  have e1 : ((x :: xs).toArray.toList.drop 0).take 1 = [x] := rfl
  rw [e1]
  have it1 : h1.IsTupleIter s.heap.objs.size l 1 := it1
  have l1 : h1.IsTuple l (x :: xs).toArray := (hl.push _).extBut sb1.extBut ne
  have lt1 : s.heap.objs.size < h1.objs.size := let ⟨_, g, _⟩ := it1; Heap.lt_size g
  have lt2 : l < h1.objs.size := let ⟨_, g, _⟩ := l1; Heap.lt_size g
  rw [if_neg (show ¬ ([x] : List Value).length < 1 from Nat.lt_irrefl 1)]
  refine wpAny_bind (wpAny_holding (PySem.W.kun_collect (s := { s with heap := h1 }) (T := "tuple_iterator") (.inr (.inr (.inr rfl))) (Walks.tuple (A := A.in1) hh s.heap.objs.size l ne (x :: xs).toArray) (fun j u st => st.1.typeIs) (k := 1) (by simp) ⟨it1, l1⟩ lt1 lt2 (fun h2 tk k2 => ?_) (by simp; exact Nat.le_trans (Nat.succ_le_succ hz) (by decide))))
  rw [if_neg (Nat.not_lt_zero _)]
  have e2 : (x :: xs).toArray.toList.drop 1 = xs := rfl
  have e3 : xs.take (xs.length - (2 - 1 - 1)) = xs := List.take_length
  have e4 : xs.drop (xs.length - (2 - 1 - 1)) = [] := List.drop_length
  rw [e2, e3, e4]
  exact wpAny_bind (wpAny_newList (wpAny_pure (h h2 tk fun b o g => k2 b o (Nat.ne_of_lt (Heap.lt_size g)) (sb1.extBut b o (Nat.ne_of_lt (Heap.lt_size g)) (Heap.get?_push_of_some _ g)))) (Nat.le_trans hz (by decide)))
end
def gRest (t : TGs) : TG := fun v σ H Q => ∃ a l x xs, v = .ref a ∧ H a = some (sq l (x :: xs)) ∧ xs.length ≤ 1000 ∧ ∀ D, H D = none → t [x, .ref D] σ (upd H D (.lst xs)) Q
theorem pg_rest {X : Cx} {t1 t2 : Expr} {p pos : Pos} {k : Nat} {t : TGs} (hc : X.calm = true) (h : PGs X [t1, t2] t) (he : (assignEach [t1, .Starred t2 p] X.env).map (·.2) = (assignEach [t1, t2] X.env).map (·.2) := by rfl)
    (hn : (assignEach [t1, .Starred t2 p] X.env).length = 2 := by rfl) (hst : (assignEach [t1, .Starred t2 p] X.env).findIdx? (·.1) = some 1 := by rfl) : PG X (.Tuple [t1, .Starred t2 p] k pos) (gRest t) := by
  refine ⟨fun pins s σ H v u Q I r ⟨a, l, x, xs, e1, hq, hz, hw⟩ => ?_⟩
  subst e1
  cases r
  rw [assign_Tuple]
  refine wpAny_bind (wpAny_standAt ?_)
  unfold unpack
  rw [hn, hst, he]
  have fin : ∀ {u : Value} {us : List Value}, RelV x u → Vals xs us → ∀ (h' : Heap) (tk : Nat), (∀ b o, s.heap.get? b = some o → h'.get? b = some o) →
      wpAny (model X.prog X.w) X.A (assignInOrder ((assignEach [t1, t2] X.env).map (·.2)) [u, .ref h'.objs.size]) (fun _ s' => ∃ σ' H', Inv X pins σ' H' s' ∧ Q σ' H') X.xe { s with heap := h'.push { cls := .type "list", data := .seq us.toArray }, toks := tk } := fun {u us} ru rus h' tk kp => by
    have I1 : Inv X pins σ H { s with heap := h', toks := tk } := I.kept (t' := tk) kp
    have I2 := I1.laid (t' := tk) (a := h'.objs.size) (o := .lst xs) (h' := h'.push { cls := .type "list", data := .seq us.toArray }) (fun b o e => Heap.get?_push_of_some _ e) (Nat.le_refl _) ⟨Nat.le_trans hz (by decide), us, 0, rus, Heap.get?_push_size _ rfl⟩
    exact h.run pins _ σ _ [x, .ref h'.objs.size] _ Q I2 (.cons ru (.cons rfl .nil)) (hw h'.objs.size (I1.hok.fresh (Nat.le_refl _)))
  cases l with
  | true =>
    obtain ⟨its, rv, pl, _⟩ := I.list (SqL.of hq)
    cases rv with
    | cons ru rus => exact wpAny_bind (wpAny_holding (rest_list pl.isList (I.ok.hd hc) (by rw [← rus.length]; exact hz) (fin ru rus)))
  | false =>
    obtain ⟨its, rv, pl, _⟩ := I.tuple (SqT.of hq)
    cases rv with
    | cons ru rus => exact wpAny_bind (wpAny_holding (rest_tuple (show s.heap.IsTuple a _ from pl) (I.ok.hd hc) (by rw [← rus.length]; exact hz) (fin ru rus)))
/-- x, y, .. = a list or a tuple of that length -/
def gSeq (n : Nat) (t : TGs) : TG := fun v σ H Q => ∃ a l xs, v = .ref a ∧ H a = some (sq l xs) ∧ xs.length = n ∧ t xs σ H Q
theorem pg_seq {X : Cx} {es : List Expr} {k n : Nat} {pos : Pos} {t : TGs} (hc : X.calm = true) (h : PGs X es t) (hn : (assignEach es X.env).length = n := by rfl) (hst : (assignEach es X.env).findIdx? (·.1) = none := by rfl) : PG X (.Tuple es k pos) (gSeq n t) := by
  refine ⟨fun pins s σ H v u Q I r ⟨a, l, xs, e1, hq, hl, hw⟩ => ?_⟩
  cases l with
  | true => exact (pg_unl hc h hn hst).run pins s σ H v u Q I r ⟨a, xs, e1, SqL.of hq, hl, hw⟩
  | false => exact (pg_tup hc h hn hst).run pins s σ H v u Q I r ⟨a, xs, e1, SqT.of hq, hl, hw⟩
end OwnSeq
/-! A list comprehension within a def that runs while an exception is handled. -/
namespace OwnHot
open PySem PySem.Spec PyProof.Rows L2 L2H HotX
section
variable {prog : Program} {w : World} {A : Around} {E : Value → Shared → Prop} {s : Shared}
/-- what stands behind an iterator's last item: a StopIteration, taken by the one who asked -/
theorem stop_hot {α : Type} {Qa : α → Shared → Prop} {t : Sem α} {k : Value → Sem α} (et : t = newExc (.type "StopIteration") [] >>= k) (ek : ∀ a, k (.ref a) = raiseNew (.ref a)) {x1 : Addr} {Q : Option Value → Shared → Prop} (hot : HotAt A x1 s.heap)
    (hQ : ∀ h', (∀ b o, s.heap.get? b = some o → h'.get? b = some o) → Q none { s with heap := h' }) :
    wpAny (model prog w) A.in1 t Qa (fun e s' => wpAny (model prog w) A (do let b ← isInstance e (.type "StopIteration"); if b = true then pure none else throw e) Q E s') s := by
  obtain ⟨hh, o1, vs1, g1, d1, c1⟩ := hot
  rw [et]
  refine wpAny_bind ?_
  simp only [newExc, newTuple]
  refine wpAny_bind (wpAny_newObj_type ?_ (by size_fits))
  refine wpAny_bind (m := firstArgMember _ _) (wpAny_of_eq (a := Value.none) (by first | rfl | (simp only [firstArgMember]; rfl)) ?_)
  refine wpAny_newObj_type ?_ (by size_fits)
  rw [ek]
  refine raiseNew_hot ⟨hh, o1, vs1, Heap.get?_push_of_some _ (Heap.get?_push_of_some _ g1), d1, c1⟩ (Nat.ne_of_lt (Heap.lt_size (Heap.get?_push_of_some _ g1))) (Heap.get?_push_size _ rfl) rfl (by first | (simp; done) | (simp; omega) | (simp only [Array.size_append]; simp; omega)) ?_
  refine wpAny_bind (wpAny_isInstance (T := "StopIteration") (b := true) ⟨_, Heap.get?_update_self _ (Heap.get?_push_size _ rfl) rfl, rfl⟩ isSubtype_stop (wpAny_pure (hQ _ fun b o e => ?_)))
  rw [Heap.get?_update_other _ _ (Nat.ne_of_gt (Heap.lt_size (Heap.get?_push_of_some _ e)))]
  exact Heap.get?_push_of_some _ (Heap.get?_push_of_some _ e)
theorem list_end {it l x1 : Addr} {i : Nat} {items : Array Value} {Q : Option Value → Shared → Prop} (hot : HotAt A x1 s.heap) (ne : x1 ≠ it) (hit : s.heap.IsListIter it l i) (hl : s.heap.IsList l items) (hx : items[i]? = none)
    (hQ : ∀ h', Heap.ExtBut it s.heap h' → Q none { s with heap := h' }) : wpAny (model prog w) A (pyNext (.ref it)) Q E s := by
  obtain ⟨o, ho, hc, hd⟩ := id hit
  obtain ⟨ol, hol, _, nl, hdl⟩ := hl
  unfold pyNext
  refine wpAny_bind (wpAny_attempt (wpAny_callSpecial?_slot (name := Str.ofString "__next__") hit.typeIs slot_listiter_next (wpAny_call_entry slot_listiter_next hit.typeIs entry_listiter_next ?_ (args_listiter_next _))))
  show wpAny _ _ (field (.ref it) 0 >>= _) _ _ s
  refine wpAny_bind (wpAny_field ho hd (x := .ref l) rfl ?_)
  rw [if_neg (show ¬ ((Value.ref l == Value.none) = true) from Bool.false_ne_true)]
  refine wpAny_bind (wpAny_field ho hd (x := .int i 0) rfl (wpAny_bind (wpAny_seqItems hol hdl ?_)))
  simp only [Int.toNat_natCast, hx]
  refine wpAny_bind (wpAny_rule (wpAny_bind (wpAny_setField ho hd (by simp) ?_)))
  obtain ⟨hh, o1, vs1, g1, d1, c1⟩ := hot
  refine stop_hot (k := fun e => raiseNew e) rfl (fun _ => rfl) ⟨hh, o1, vs1, (Heap.get?_update_other _ _ ne.symm).trans g1, d1, c1⟩ fun h' kp => hQ h' fun b ob hb e => kp b ob ((Heap.get?_update_other _ _ (Ne.symm hb)).trans e)
theorem tuple_end {it l x1 : Addr} {i : Nat} {items : Array Value} {Q : Option Value → Shared → Prop} (hot : HotAt A x1 s.heap) (ne : x1 ≠ it) (hit : s.heap.IsTupleIter it l i) (hl : s.heap.IsTuple l items) (hx : items[i]? = none)
    (hQ : ∀ h', Heap.ExtBut it s.heap h' → Q none { s with heap := h' }) : wpAny (model prog w) A (pyNext (.ref it)) Q E s := by
  obtain ⟨o, ho, hc, hd⟩ := id hit
  obtain ⟨ol, hol, _, nl, hdl⟩ := hl
  unfold pyNext
  refine wpAny_bind (wpAny_attempt (wpAny_callSpecial?_slot (name := Str.ofString "__next__") hit.typeIs F.slot_tuple_iterator_next (wpAny_call_entry F.slot_tuple_iterator_next hit.typeIs F.entry_tuple_iterator_next ?_ (F.args_tuple_iterator_next_1 _))))
  show wpAny _ _ (field (.ref it) 0 >>= _) _ _ s
  refine wpAny_bind (wpAny_field ho hd (x := .ref l) rfl ?_)
  rw [if_neg (show ¬ ((Value.ref l == Value.none) = true) from Bool.false_ne_true)]
  refine wpAny_bind (wpAny_field ho hd (x := .int i 0) rfl (wpAny_bind (wpAny_seqItems hol hdl ?_)))
  simp only [Int.toNat_natCast, hx]
  refine wpAny_bind (wpAny_rule (wpAny_bind (wpAny_setField ho hd (by simp) ?_)))
  obtain ⟨hh, o1, vs1, g1, d1, c1⟩ := hot
  refine stop_hot (k := fun e => raiseNew e) rfl (fun _ => rfl) ⟨hh, o1, vs1, (Heap.get?_update_other _ _ ne.symm).trans g1, d1, c1⟩ fun h' kp => hQ h' fun b ob hb e => kp b ob ((Heap.get?_update_other _ _ (Ne.symm hb)).trans e)
end
/-! ### walks -/
section
variable {P : Program} {w : World} {K : PySem.W.Frag} {tg : Expr}
theorem hot_of {X : Cx} {pins : List (Addr × Obj)} {σ : L2.St} {H : Hp} {s : Shared} {it : Addr} (hc : HotC X) (I : Inv X pins σ H s) (hf : FpOk X pins H it) : ∃ x1, HotAt X.A x1 s.heap ∧ x1 ≠ it := by
  obtain ⟨p, ⟨hh, v1, e1, c1⟩, hp⟩ := hc
  exact ⟨p.1, ⟨hh, p.2, v1, (I.pin p (List.mem_append_left _ hp)).1, e1, c1⟩, hf.2.2.2.2.2 p (List.mem_append_left _ hp)⟩
theorem turnL (a it : Addr) : TurnH P w K tg (Itl K a) [it] it (fun i h => h.IsListIter it a i) :=
  let T : Turn P w K tg (Itl K a) [it] it (fun i h => h.IsListIter it a i) := turn_list a it
  { mem := T.mem, obj := T.obj, keep := T.keep, self := T.self
    item := fun X hP hw hK hc i pins s σ H E I hf st ⟨xs, x, hq, hx⟩ => by
      subst hP hw hK
      obtain ⟨f0, f1, f2, f3, f4, f5⟩ := hf it (List.mem_singleton.mpr rfl)
      obtain ⟨its, rv, p, _⟩ := I.list hq
      obtain ⟨u, hu, ru⟩ := rv.get hx
      refine wpAny_pyNext_list_item st p.isList (x := u) (by simpa using hu) fun h' st' sb => ?_
      have I1 := I.turned (t' := s.toks) (fun b o hb e => (sb.2 b hb).trans e) f0 f1 f3 f4 f5
      obtain ⟨o, e, c, d⟩ := id st'
      exact ⟨u, rfl, go_of (s := { s with heap := h' }) e c d (by decide) ⟨x, H, I1, ru, ⟨rfl, fun ys hy => (congrArg (·[i]?) (I.list_inj hy hq)).trans hx⟩, st', fun b hb => (hf b hb).1⟩⟩
    done := fun X hP hw hK hc i pins s σ H E I hf st ⟨xs, hq, hx⟩ => by
      subst hP hw hK
      have ff := hf it (List.mem_singleton.mpr rfl)
      obtain ⟨f0, f1, f2, f3, f4, f5⟩ := id ff
      obtain ⟨its, rv, p, _⟩ := I.list hq
      obtain ⟨x1, hot, ne⟩ := hot_of hc I ff
      have hl := rv.length
      exact list_end hot ne st p.isList (by simp; omega) fun h' eb => ⟨rfl, I.turned (t' := s.toks) (fun b o hb e => eb b o hb e) f0 f1 f3 f4 f5⟩ }
theorem turnT (a it : Addr) : TurnH P w K tg (Itt K a) [it] it (fun i h => h.IsTupleIter it a i) :=
  let T : Turn P w K tg (Itt K a) [it] it (fun i h => h.IsTupleIter it a i) := turn_tuple a it
  { mem := T.mem, obj := T.obj, keep := T.keep, self := T.self
    item := fun X hP hw hK hc i pins s σ H E I hf st ⟨xs, x, hq, hx⟩ => by
      subst hP hw hK
      obtain ⟨f0, f1, f2, f3, f4, f5⟩ := hf it (List.mem_singleton.mpr rfl)
      obtain ⟨its, rv, p, _⟩ := I.tuple hq
      obtain ⟨u, hu, ru⟩ := rv.get hx
      refine wpAny_pyNext_tuple_item st (show s.heap.IsTuple a its.toArray from p) (x := u) (by simpa using hu) fun h' st' sb => ?_
      have I1 := I.turned (t' := s.toks) (fun b o hb e => (sb.2 b hb).trans e) f0 f1 f3 f4 f5
      obtain ⟨o, e, c, d⟩ := id st'
      exact ⟨u, rfl, go_of (s := { s with heap := h' }) e c d (by decide) ⟨x, H, I1, ru, ⟨rfl, fun ys hy => (congrArg (·[i]?) (I.tuple_inj hy hq)).trans hx⟩, st', fun b hb => (hf b hb).1⟩⟩
    done := fun X hP hw hK hc i pins s σ H E I hf st ⟨xs, hq, hx⟩ => by
      subst hP hw hK
      have ff := hf it (List.mem_singleton.mpr rfl)
      obtain ⟨f0, f1, f2, f3, f4, f5⟩ := id ff
      obtain ⟨its, rv, p, _⟩ := I.tuple hq
      obtain ⟨x1, hot, ne⟩ := hot_of hc I ff
      have hl := rv.length
      exact tuple_end hot ne st (show s.heap.IsTuple a its.toArray from p) (by simp; omega) fun h' eb => ⟨rfl, I.turned (t' := s.toks) (fun b o hb e => eb b o hb e) f0 f1 f3 f4 f5⟩ }
end
section
variable {X : Cx} {tg l : Expr} {tl : TE}
theorem pi_listH (hl : PE X l tl) : PIH X tg l (iList X.K tl) := ⟨fun pins s σ H R I h => thn (hl.run pins s σ H _ I h) fun v s1 ⟨x, H1, I1, r1, a, e, ⟨xs, hq⟩, q⟩ => by
  subst e
  cases r1
  obtain ⟨its, rv, p, _⟩ := I1.list hq
  exact wpAny_pyIter_list p.isList ⟨s1.heap.objs.size, [s1.heap.objs.size], _, _, H1, rfl, I1.kept (t' := s1.toks) fun b o e => Heap.get?_push_of_some _ e, turnL a _, ⟨_, Heap.get?_push_size _ rfl, rfl, rfl⟩, fun b hb => by
    rw [List.mem_singleton.mp hb]
    exact I1.fpOk (Nat.le_refl _) (I1.hok.fresh (Nat.le_refl _)), q⟩⟩
theorem pi_tupH (hl : PE X l tl) : PIH X tg l (iTup X.K tl) := ⟨fun pins s σ H R I h => thn (hl.run pins s σ H _ I h) fun v s1 ⟨x, H1, I1, r1, a, e, ⟨xs, hq⟩, q⟩ => by
  subst e
  cases r1
  obtain ⟨its, rv, p, _⟩ := I1.tuple hq
  exact wpAny_pyIter_tuple (show s1.heap.IsTuple a its.toArray from p) ⟨s1.heap.objs.size, [s1.heap.objs.size], _, _, H1, rfl, I1.kept (t' := s1.toks) fun b o e => Heap.get?_push_of_some _ e, turnT a _, ⟨_, Heap.get?_push_size _ rfl, rfl, rfl⟩, fun b hb => by
    rw [List.mem_singleton.mp hb]
    exact I1.fpOk (Nat.le_refl _) (I1.hok.fresh (Nat.le_refl _)), q⟩⟩
end
/-! ### the block -/
/-- a comprehension's block whose pins stay -/
abbrev blkP (X : Cx) (s : Shared) (H : Hp) (scope : Scope) (cenv : Env) (fp : List Addr) : Cx := { X.blk s H scope cenv fp with pn := X.pn }
theorem toP {X : Cx} {s0 : Shared} {H0 : Hp} {scope : Scope} {cenv : Env} {fp : List Addr} {pins : List (Addr × Obj)} {σ : L2.St} {H : Hp} {s : Shared} (I : Inv (X.blk s0 H0 scope cenv fp) pins σ H s)
    (hp : ∀ p ∈ X.pn, s.heap.get? p.1 = some p.2 ∧ H p.1 = none ∧ p.1 ≠ cenv.locals ∧ p.1 ∉ frs X.stack ∧ ∀ v, p.2.data ≠ .cell v) : Inv (blkP X s0 H0 scope cenv fp) pins σ H s :=
  let o := I.ok
  { ok := ⟨o.mod, o.kind, o.glob, o.blt, o.above, o.inj, o.has, o.cab, o.hd, o.frames, o.stk, o.exf, o.bs, o.bsz, o.noex, o.exfs, o.funs, o.frf⟩
    os := I.os, bare := I.bare, base := I.base, loc := I.loc, cell := I.cell, free := I.free, freeC := I.freeC, hok := I.hok, len := I.len
    pin := fun p h => (List.mem_append.mp h).elim (hp p) fun h => I.pin p (List.mem_append_right _ h) }
/-- [elt for target in iter], an exception being handled -/
theorem pe_lcH {X : Cx} {elt tg iter : Expr} {scope : Scope} {own : List (Str × Nat)} {pos : Pos} {wi : TI} {g : TG} {te : TE} (hc : HotC X) (hN : X.N.Nodup) (hi : PIH X tg iter wi) (ok : BlkOk X.N X.env.scope scope own)
    (hg : ∀ (s : Shared) (H : Hp) (C : Addr) (cl : List (Str × Addr)) (fp : List Addr), PG (blkP X s H scope (compEnvC scope cl C X.env) fp) tg g)
    (he : ∀ (s : Shared) (H : Hp) (C : Addr) (cl : List (Str × Addr)) (fp : List Addr), PE (blkP X s H scope (compEnvC scope cl C X.env) fp) elt te) (hs : ∀ x, foldedSetIterable iter X.env x = pure x := by intro _; rfl) :
    PE X (.ListComp elt [⟨tg, iter, [], 0⟩] scope pos) (tLc wi g tYes te (own.map (·.2))) := by
  refine ⟨fun pins s σ H Q I h => ?_⟩
  have free : ∀ y ∈ scope.names, y.2 = .free → ∃ c, X.env.cells.lookup y.1 = some c := fun y hy e => I.ok.has _ ((ok.free y hy e).imp (fun k => k) fun k => k)
  rw [eval_ListComp]
  refine wpAny_comprehension_free (use := none) rfl hs (closure_ok free) ok.kind (fun y hy e => (ok.uniq y hy).trans (congrArg some e)) (thn (hi.run pins s σ H _ I h) fun _ s1 h1 => thn h1 fun _ s2 ⟨it, fp, tn, J, H2, e, I2, T, st2, f2, q⟩ => ?_)
  subst e
  refine wpAny_newObj_type (newEnv_comp ?_) (Nat.zero_le sizeLine)
  -- the new list stands at D
  obtain ⟨W, ⟨m0, w0⟩, turn⟩ := q _ (I2.hok.fresh (Nat.le_refl s2.heap.objs.size))
  have I3 : Inv X pins σ (upd H2 s2.heap.objs.size (.lst [])) { s2 with heap := s2.heap.push { cls := .type "list", data := .seq ([] : List Value).toArray } } :=
    I2.laid (t' := s2.toks) (fun b o e => Heap.get?_push_of_some _ e) (Nat.le_refl _) ⟨Nat.zero_le _, [], 0, .nil, Heap.get?_push_size _ rfl⟩
  have below : ∀ b ∈ fp, b < s2.heap.objs.size := fun b hb => by
    obtain ⟨o, e, _⟩ := T.obj _ _ st2 b hb
    exact Heap.lt_size e
  have f3 : ∀ b ∈ fp, FpOk X pins (upd H2 s2.heap.objs.size (.lst [])) b ∧ b < ({ s2 with heap := s2.heap.push { cls := .type "list", data := .seq ([] : List Value).toArray } } : Shared).heap.objs.size := fun b hb =>
    ⟨⟨(upd_ne (Nat.ne_of_lt (below b hb))).trans (f2 b hb).1, (f2 b hb).2⟩, by rw [Heap.size_push]; exact Nat.lt_succ_of_lt (below b hb)⟩
  have st3 : tn 0 ({ s2 with heap := s2.heap.push { cls := .type "list", data := .seq ([] : List Value).toArray } } : Shared).heap := T.keep _ _ _ st2 fun b _ o e => Heap.get?_push_of_some _ e
  generalize hD : s2.heap.objs.size = D at turn I3 f3 st3 w0 ⊢
  generalize hs3 : ({ s2 with heap := s2.heap.push { cls := .type "list", data := .seq ([] : List Value).toArray } } : Shared) = s3 at I3 f3 st3
  have B0 := block_start I3 ok hN f3
  have pg := hg s3 (upd H2 D (.lst [])) s3.heap.objs.size (cellsFrom (s3.heap.objs.size + 1) scope.names (cloFrom X.env.cells scope.names [])) fp
  have pe := he s3 (upd H2 D (.lst [])) s3.heap.objs.size (cellsFrom (s3.heap.objs.size + 1) scope.names (cloFrom X.env.cells scope.names [])) fp
  show codeAny _ _ (.compStart (.ListComp elt [⟨tg, iter, [], 0⟩] scope pos) 0 (.ref it) (.ref D) (compEnvC scope (cellsFrom (s3.heap.objs.size + 1) scope.names (cloFrom X.env.cells scope.names [])) s3.heap.objs.size X.env)) (compPost (model X.prog X.w) X.A X.xe none (EP X pins σ Q) (.ref D) s3.heap.objs.size) { s3 with heap := pushCells (s3.heap.push { cls := .type "dict", data := .dict #[] }) scope.names }
  have cL : (compEnvC scope (cellsFrom (s3.heap.objs.size + 1) scope.names (cloFrom X.env.cells scope.names [])) s3.heap.objs.size X.env).locals = s3.heap.objs.size := rfl
  generalize compEnvC scope (cellsFrom (s3.heap.objs.size + 1) scope.names (cloFrom X.env.cells scope.names [])) s3.heap.objs.size X.env = ce at B0 pg pe cL ⊢
  have B := toP B0 fun p hp => by
    obtain ⟨g1, g2, g3, g4, g5⟩ := I3.pin p (List.mem_append_left _ hp)
    exact ⟨pushCells_keeps _ _ _ _ (Heap.get?_push_of_some _ g1), g2, by rw [cL]; exact Nat.ne_of_lt (Heap.lt_size g1), fun hm => (List.mem_cons.mp (I3.stkSub p.1 hm)).elim g3 g4, g5⟩
  have st4 : tn 0 ({ s3 with heap := pushCells (s3.heap.push { cls := .type "dict", data := .dict #[] }) scope.names } : Shared).heap := T.keep _ _ _ st3 fun b _ o e => pushCells_keeps _ _ _ _ (Heap.get?_push_of_some _ e)
  generalize ({ s3 with heap := pushCells (s3.heap.push { cls := .type "dict", data := .dict #[] }) scope.names } : Shared) = s4 at B st4 ⊢
  have fpk : ∀ {σ' : L2.St} {H' : Hp} {s' : Shared}, Inv (blkP X s3 (upd H2 D (.lst [])) scope ce fp) [] σ' H' s' → (∀ b ∈ fp, H' b = none) → ∀ b ∈ fp, FpOk (blkP X s3 (upd H2 D (.lst [])) scope ce fp) [] H' b := fun I' hn b hb =>
    ⟨hn b hb, (I'.ok.exf b hb).1, I'.ok.exfs b hb, .inl hb, (I'.ok.exf b hb).2, fun p hp => (f3 b hb).1.2.2.2.2.2 p (List.mem_append_left _ (by rw [List.append_nil] at hp; exact hp))⟩
  have L : codeAny (model X.prog X.w) X.A (.compLoop (.ListComp elt [⟨tg, iter, [], 0⟩] scope pos) 0 (.ref it) (.ref D) ce) (compPost (model X.prog X.w) X.A X.xe none (EP X pins σ Q) (.ref D) s3.heap.objs.size) s4 := by
    refine compLoop_any (fun n s' => ∃ i H', Inv (blkP X s3 (upd H2 D (.lst [])) scope ce fp) [] (wipe σ (own.map (·.2))) H' s' ∧ tn i s'.heap ∧ (∀ b ∈ fp, H' b = none) ∧ W i n H') ?_ m0 ⟨0, _, B, st4, fun b hb => (f3 b hb).1.1, w0⟩
    rintro n s5 ⟨i, H5, I5, st5, n5, w5⟩
    rcases turn i n H5 w5 with ⟨stop, done⟩ | ⟨go, Nx, next, step⟩
    · refine thnF (T.done (blkP X s3 (upd H2 D (.lst [])) scope ce fp) rfl rfl rfl hc i [] s5 _ H5 (fun _ _ => False) I5 (fpk I5 n5) st5 stop) fun r s6 ⟨hr, I6⟩ => ?_
      subst hr
      obtain ⟨m, hn, _⟩ := I6.loc
      have hn : s6.heap.Ns ce.locals m := hn
      have nC : H5 ce.locals = none := I6.free
      rw [cL] at hn nC
      obtain ⟨f0, f1, f2', f4, f5, f6⟩ := I3.fpOk (H' := H5) (Nat.le_refl _) nC
      have I7 : Inv X pins σ H5 s6 := I3.call' (ch := fp) I6.os I6.base I6.hok I6.bare fun b hb =>
        let ⟨_, a1, a2, a3, a4, a5⟩ := (f3 b hb).1
        ⟨a3, a1, a4, a5⟩
      exact ⟨m, hn, fun h' sb => ⟨.ref D, H5, I7.turned (t' := s6.toks) (fun b o hb e => (sb.2 b hb).trans e) f0 f1 f4 f5 f6, rfl, done⟩⟩
    · refine thnF (T.item (blkP X s3 (upd H2 D (.lst [])) scope ce fp) rfl rfl rfl hc i [] s5 _ H5 (fun _ _ => False) I5 (fpk I5 n5) st5 go) fun r s6 ⟨u, hr, h6⟩ => ?_
      subst hr
      refine thnF h6 fun _ s7 ⟨x, H7, I7, r7, y7, st7, n7⟩ => ?_
      refine thnF (pg.run _ s7 _ H7 x u _ (I7.pinned (fpk I7 n7) (T.obj _ _ st7)) r7 (step x H7 y7)) fun _ s8 ⟨σ8, H8, I8, hw, q8⟩ => ?_
      refine wpAny_tests_nil ?_
      have q8 : te σ8 H8 fun y H4 => ∃ acc, H4 D = some (.lst acc) ∧ acc.length < sizeLine ∧ Nx (upd H4 D (.lst (acc ++ [y]))) := q8
      refine thnF (pe.run _ s8 σ8 H8 _ I8 q8) fun z s9 ⟨yv, H9, I9, r9, acc, hD9, hz9, nx⟩ => ?_
      refine app_ok (X := blkP X s3 (upd H2 D (.lst [])) scope ce fp) I9 hD9 hz9 r9 fun s10 I10 => ?_
      obtain ⟨m', hm, w'⟩ := next _ nx
      have kept : ∀ b ∈ fp, ∀ o, s7.heap.get? b = some o → s10.heap.get? b = some o ∧ (upd H9 D (.lst (acc ++ [yv]))) b = none := fun b hb o e =>
        let z := I10.pin (b, o) (List.mem_append_right _ (List.mem_append_right _ (mem_pinsAt hb e)))
        ⟨z.1, z.2.1⟩
      refine ⟨m', hm, i + 1, _, (I10.unpinned (pins := [])).weak (by rw [← hw, wipe_length]) (fun j v e => ?_), T.keep _ _ _ st7 fun b hb o e => (kept b hb o e).1, fun b hb => ?_, w'⟩
      · rw [← hw] at e
        exact (wipe_some e).1
      · obtain ⟨o, e, _⟩ := T.obj _ _ st7 b hb
        exact (kept b hb o e).2
  exact codeAny_compStart_list L (T.self X.A 0 _ _ _ st4 L)
end OwnHot
/-! Own exceptions with a known context: what is raised by an own class, told so that a suite may call defs. -/
namespace OwnExN
open PySem PySem.Spec PyProof.Rows L2
section
variable {X : Cx} {CX : CXT} {x : Str} {C fI : Addr} {k : Nat} {fd : FuncData} {ps : List Str} {sp : Sp} {e : Expr} {es : List Expr} {ta : TA} {p pos : Pos}
/-- an own exception's call, its __init__ a def of one promise: what stands behind it -/
theorem raised_new {pins : List (Addr × Obj)} {σ : L2.St} {H1 : Hp} {s1 : Shared} {us : List Value} {vs : List V} {Q : XK} (T : OexC X.K C) (iC : PySem.W.findIn X.K (.ref C) "__init__" = some (some (.ref fI))) (tI : PySem.W.typeIn X.K (.ref fI) = some (.type "function"))
    (F1 : FnOk X.prog X.w X.K X.mg X.base CX k fI fd ps sp) (hr : Room (k + 1) X.A) (hb : Binds X.K fd ps []) (hx : Passes CX X (fun _ _ _ => False)) (I1 : Inv X pins σ H1 s1) (r1 : Vals vs us) (hz : vs.length ≤ 1000)
    (h : ∀ a, H1 a = none → sp (.ref a :: vs) (upd H1 a (exo a C none)) (fun v H2 => v = .non ∧ ∃ (d : Addr) (fs : List (Str × V)), H2 a = some (exo a C (some d)) ∧ H2 d = some (exd d fs) ∧ H1 d = none ∧ Q (.ref C) (some d) (upd (del H2 a) d (.xd fs))) (fun _ _ _ => False)) :
    wpAny (model X.prog X.w) X.A (call (.ref C) us) (L2N.MkP X pins σ Q) X.xe s1 := by
  obtain ⟨_, _, _, _, bm, _, _, _, _, _, _, _, _, _, _, inK, bmOk⟩ := T.cls
  have small : us.length ≤ sizeLine := Nat.le_trans (Nat.le_of_eq (Paired.length r1).symm) (Nat.le_trans hz (by decide))
  cases s1 with | mk hp g dr tk os =>
  -- the address of the new exception; what it promises there
  have q := h (hp.objs.size + 1) (I1.hok.fresh (Nat.le_succ _))
  have args : Vals (V.ref (hp.objs.size + 1) :: vs) (Value.ref (hp.objs.size + 1) :: us) := .cons rfl r1
  have J := I1.laid (t' := tk) (a := hp.objs.size + 1) (o := exo (hp.objs.size + 1) C none) (h' := (hp.push (PySem.W.kdv_tup us)).push (PySem.HandSPX.excO C hp.objs.size)) (fun b o z => Heap.get?_push_of_some _ (Heap.get?_push_of_some _ z)) (Nat.le_succ _) (exo_ok (by heap_get))
  have bd := hb _ (Value.ref (hp.objs.size + 1) :: us) J.kIn (by rw [List.append_nil]; exact args.length.symm.trans (F1.len _ _ _ _ q))
  rw [List.append_nil] at bd
  refine wpAny_call (PySem.HandSPX.call_own F.excBase_ValueError (PySem.HandSPX.refsVE_contains · bm bmOk) (I1.kIn _ _ inK) (PySem.W.looks_findIn I1.kIn iC) (fun self => PySem.W.bind_fn I1.kIn self tI) small ?_)
  refine codeAny_mono (F1.run _ X.stack _ _ ⟨Value.ref (hp.objs.size + 1) :: us, []⟩ _ _ _ (fun _ _ _ => False) (hr.make C us []) (J.env0.make C us []) bd args q) ?_
  rintro (er | fl) s' z
  · exact hx pins σ _ _ er s' J z
  · cases fl with
    | ret u =>
      obtain ⟨v, H2, o1, o2, o3, o4, rv, ev, d, fs, m1, m2, m3, fin⟩ := z
      subst ev
      cases s' with | mk h2 g2 d2 t2 os' =>
      obtain ⟨t0, G, JG, kG, nG, at2, free⟩ := mk_end0 (d2 := d2) (t2 := t2) I1 (Nat.le_succ _) (fun b o z => Heap.get?_push_of_some _ (Heap.get?_push_of_some _ z)) o3 o4 o1 o2 m1 m2 m3
      exact ⟨rv, hp.objs.size + 1, _, _, ⟨G, g2, d2, t2, os'⟩, _, .ref C, some d, rfl, JG, kG, nG, at2, ⟨rfl, rfl, fun vs hv => by cases hv; rfl⟩, rfl, rfl, free, rfl, o2, raises_own T.exC T.tyC, fin⟩
    | next => exact z.elim
    | brk => exact z.elim
    | cont => exact z.elim
theorem pmk_oexN (T : OexC X.K C) (iC : PySem.W.findIn X.K (.ref C) "__init__" = some (some (.ref fI))) (tI : PySem.W.typeIn X.K (.ref fI) = some (.type "function"))
    (F1 : FnOk X.prog X.w X.K X.mg X.base CX k fI fd ps sp) (hr : Room (k + 1) X.A) (hb : Binds X.K fd ps []) (hx : Passes CX X (fun _ _ _ => False)) (hg : Gl X x) (hm : X.mg x = some (.ref C)) (ha : PA X (e :: es) ta)
    (hdb : (x == ("__debug__" : Str)) = false := by decide) (he : starEach (e :: es) X.env = (false, eval e X.env) :: starEach es X.env := by rfl) (hpl : (backTo pos (starEach es X.env)).any (·.1) = false := by rfl) :
    L2N.PMk X (.Call (.Name x p) (e :: es) [] pos) (tMkO C sp [] ta) := fun pins s σ H Q I h =>
  wpAny_Call_Name_kw (ld_glob I hg hm (PySem.W.callWith_K (h₀ := X.base) I.ok.mod.kin T.kC (thn (ha.run pos pins s σ H _ I h) fun us s1 ⟨vs, H1, I1, r1, hz, q1⟩ => ⟨I1.kIn, raised_new T iC tI F1 hr hb hx I1 r1 hz fun a n => by
    have z := q1 a n
    rw [List.append_nil] at z
    exact z⟩) he hpl) hdb)
end
theorem passN {X : Cx} : Passes (L2N.CX X.prog X.w) X E0 := fun _ _ _ _ _ _ _ h => by
  obtain ⟨_, _, _, _, _, _, _, _, _, _, _, _, z⟩ := h
  exact z.elim
theorem takesN0 {X : Cx} : L2N.Takes X (fun _ _ _ _ => False) := fun _ _ x => by
  obtain ⟨_, _, _, _, _, _, _, _, _, _, _, _, _, _, _, _, z⟩ := x
  exact z.elim
/-- the rule of a def that may raise, the exception's context known -/
theorem okN {P : Program} {w : World} {K : PySem.W.Frag} {mg : Str → Option Value} {base : Heap} {x qual : Str} {st : Stmt} {f : Addr} {fd : FuncData} {N ps : List Str} {k : Nat} {sp : Sp} (F : Fun K x qual st f fd) (S : FnScope N ps (defScope st)) (len : ∀ vs H Q E, sp vs H Q E → vs.length = ps.length)
    (hbody : ∀ (cdv : Value) (A : Around) (outer : List Env) (s : Shared) (H : Hp) (vs : List V) (Q : VK) (E : XK), Room k (A.deeper (envOfC qual (defScope st) s.heap.objs.size f cdv)) → sp vs H Q E →
      ∃ t, PSs (cxOf (L2N.CX P w) P w K mg base N qual (defScope st) f cdv A outer s H E) (defBody st) t ∧ t { nx := fun _ H' => Q .non H', rt := Q } (L2.start N vs) H) : FnOk P w K mg base (L2N.CX P w) (k + 1) f fd ps sp :=
  match F.ex with
  | ⟨_, _, _, _, _, _, _, _, _, e, lk, hcd⟩ => e ▸ fn_of (e ▸ lk) hcd S len fun A outer s H vs Q E hr hsp => hbody _ A outer s H vs Q E hr hsp
end OwnExN
/-! Rules of our own: len of an own instance; a try with several handlers, named or not. -/
namespace OwnProj
open PySem PySem.Spec PyProof.Rows L2
section
variable {X : Cx} {CX : CXT} {n : Nat} {f C : Addr} {fd : FuncData} {ps : List Str} {sp : Sp} {E : XK}
/-- len(x) by the class's own __len__ -/
def rLenO (C : Addr) (sp : Sp) (E : XK) : List V → Hp → VK → Prop := fun xs H Q => ∃ a dx fs, xs = [.ref a] ∧ H a = some (.ins C dx fs) ∧ sp [.ref a] H (fun v H' => ∃ k : Nat, v = .int k ∧ k < 2 ^ 62 ∧ Q v H') E
theorem call_lenO (F : FnOk X.prog X.w X.K X.mg X.base CX n f fd ps sp) (hr : Room (n + 1) X.A) (m : Meth X.K C "__len__" f) (hb : Binds X.K fd ps []) (hx : Passes CX X E) : CallR X (.builtin "len") (rLenO C sp E) := by
  rintro pins s σ H xs us Q I r ⟨a, dx, fs, rfl, ha, hq⟩
  obtain ⟨u, rfl, rx⟩ := vals1 r
  cases rx
  obtain ⟨mA, J, _⟩ := ins_get I.hok ha
  obtain ⟨od, J, _⟩ := J.look
  obtain ⟨m0, hF⟩ := I.fr
  have args : Vals [V.ref a] [Value.ref a] := .cons rfl .nil
  have bd := hb s [Value.ref a] I.kIn (by rw [List.append_nil]; exact args.length.symm.trans (F.len _ _ _ _ hq))
  rw [List.append_nil] at bd
  refine PySem.W.len_K hF I.ok.mod.kin J m.at_ m.fn (wpAny_call (codeAny_mono (F.run X.A.in1 X.stack s H ⟨[Value.ref a], []⟩ _ _ _ E hr.in1 I.env0.in1 bd args hq) ?_))
  rintro (e | fl) s' z
  · exact hx pins σ H s e s' I z
  · cases fl with
    | ret u =>
      obtain ⟨v, H', I', rv, k, ev, hk, q⟩ := I.after z
      subst ev
      obtain ⟨t, rfl⟩ := rv
      refine ⟨⟨by omega, by omega⟩, ?_⟩
      exact ⟨.int k, H', I'.tok _, ⟨_, rfl⟩, q⟩
    | next => exact z.elim
    | brk => exact z.elim
    | cont => exact z.elim
end
/-! ### several handlers, some with a name -/
structure HdD where
  c : Value
  i : Option Nat
  ts : Addr → Value → Option Addr → TS
def endsAt (D : Ends) : Option Nat → Ends
  | none => D
  | some i => { nx := fun σ' H' => D.nx (σ'.set i none) H', rt := D.rt, bk := fun σ' H' => D.bk (σ'.set i none) H', ct := fun σ' H' => D.ct (σ'.set i none) H' }
def slotAt (σ : L2.St) (a : Addr) : Option Nat → L2.St
  | none => σ
  | some i => σ.set i (some (.ref a))
/-- what is wished of a body's exception: the first handler that takes it -/
def wHds (K : PySem.W.Frag) (Wout : WX) (D : Ends) : List HdD → WX
  | [] => Wout
  | h :: r => fun cls d σ H => ∃ b, PySem.W.exmOne K cls h.c = some b ∧ (b = true → ∀ a, H a = none → h.ts a cls d (endsAt D h.i) (slotAt σ a h.i) H) ∧ (b = false → wHds K Wout D r cls d σ H)
inductive Hds (X : Cx) : List ExceptHandler → List HdD → Prop
  | nil : Hds X [] []
  | bare {x : Str} {c : Value} {ts : Addr → Value → Option Addr → TS} {b₀ : Stmt} {suite : List Stmt} {np pos' : Pos} {hds : List ExceptHandler} {l : List HdD} (hc : Names X x c)
      (su : ∀ (ea : Addr) (oe : Obj) (cls : Value) (d : Option Addr) (pn : List (Addr × Obj)), L2N.Zn cls d oe → (∃ vs, oe.data = .fields vs) → PSs (X.suite ea ((ea, oe) :: pn)) (b₀ :: suite) (ts ea cls d)) (r : Hds X hds l) :
      Hds X (.ExceptHandler (some (.Name x np)) none (b₀ :: suite) pos' :: hds) (⟨c, none, ts⟩ :: l)
  | named {x n : Str} {c : Value} {i : Nat} {ts : Addr → Value → Option Addr → TS} {b₀ : Stmt} {suite : List Stmt} {np pos' : Pos} {hds : List ExceptHandler} {l : List HdD} (hN : X.N.Nodup) (hi : X.N[i]? = some n) (hn : X.env.kindOf n = some .local) (hc : Names X x c)
      (su : ∀ (ea : Addr) (oe : Obj) (cls : Value) (d : Option Addr) (pn : List (Addr × Obj)), L2N.Zn cls d oe → (∃ vs, oe.data = .fields vs) → PSs (X.suite ea ((ea, oe) :: pn)) (b₀ :: suite) (ts ea cls d)) (r : Hds X hds l) :
      Hds X (.ExceptHandler (some (.Name x np)) (some n) (b₀ :: suite) pos' :: hds) (⟨c, some i, ts⟩ :: l)
section
variable {X : Cx} {body : List Stmt} {h₀ : ExceptHandler} {hds : List ExceptHandler} {l : List HdD} {pos : Pos} {tb : WX → TS} {Wout : WX}
/-- where an exception has landed in our frame: the handlers in their order -/
theorem hds_run {pins : List (Addr × Obj)} {σ : L2.St} {H : Hp} {D : Ends} {ea : Addr} {B : Heap} {sI : Shared} {cls : Value} {d : Option Addr} {s : Shared} {h3 : Heap} (own : X.stack = X.env :: X.outer) (fr : X.env.frame = some X.env.locals) (tk : L2N.Takes X Wout) (ok : X.Ok)
    (J : Inv X pins σ H sI) (nb : ∀ b o, sI.heap.get? b = some o → b ∉ frs X.stack → B.get? b = some o) (up3 : sI.heap.UpToSlots h3) (fl3 : HandSPX.FlyingZ B (X.env :: X.outer) ea (L2N.Zn cls d) h3) (na : H ea = none) (os : s.os = sI.os) (ag : AllBare s.gens) :
    ∀ {hds : List ExceptHandler} {l : List HdD}, Hds X hds l → wHds X.K Wout D l cls d σ H → wpAny (model X.prog X.w) X.A (handleBy (.ref ea) X.env hds) (SP X pins D) X.xe { s with heap := h3 } := by
  have landed : ∀ {h : Heap}, HandSPX.FlyingZ B (X.env :: X.outer) ea (L2N.Zn cls d) h → sI.heap.UpToSlots h → Inv X pins σ H { s with heap := h } := fun fl up => J.landed nb fl.1 up os ag
  obtain ⟨oe3, vs3, he3, hz3, hd3⟩ := fl3.there
  have apart : ea ∉ frs (X.env :: X.outer) := fun hm => by
    obtain ⟨_, o, at1, no⟩ := fl3.2.2.1.mem hm
    rw [he3] at at1
    cases at1
    exact no _ hd3
  have n1 : ea ≠ X.env.locals := fun z => apart (List.mem_filterMap.mpr ⟨X.env, List.mem_cons_self, by rw [fr, z]⟩)
  have n2 : ea ∉ X.fs := fun hm => let ⟨e, he, q⟩ := List.mem_filterMap.mp hm; apart (List.mem_filterMap.mpr ⟨e, List.mem_cons_of_mem _ he, q⟩)
  have I3 := (landed fl3 up3).suite he3 hd3 na n1 n2
  -- a handler's test
  have asks : ∀ {x : Str} {c : Value} {np : Pos} {b : Bool} {Qs : Bool → Shared → Prop} {Es Et : Value → Shared → Prop}, Names X x c → PySem.W.exmOne X.K cls c = some b → Qs b { s with heap := h3 } →
      wpAny (model X.prog X.w) (X.A.mark (some (.ref ea))) (eval (.Name x np) X.env) (fun t s' => wpAny (model X.prog X.w) (X.A.mark (some (.ref ea))) (excMatches (.ref ea) t) Qs Es s') Et { s with heap := h3 } := fun {x c np b Qs Es Et} hc hb q => by
    have kind : PySem.W.Looks (model X.prog X.w) h3 (typeOf (.ref ea)) cls := fun A Q E s k q => wpAny_typeOf_ref (k _ _ he3) (by rw [hz3.1]; exact q)
    have m := PySem.W.exm_one (M := model X.prog X.w) I3.kIn kind hb
    obtain ⟨hg, hdbg, hm | ⟨hm, hv, hnn⟩⟩ := hc
    · exact ld_glob (X := X.suite ea ((ea, oe3) :: (X.pn ++ pins))) I3 hg hm (m.here q) hdbg
    · exact ld_blt (X := X.suite ea ((ea, oe3) :: (X.pn ++ pins))) I3 hg hm hv (m.here q) hnn hdbg
  intro hds l hk
  induction hk with
  | nil =>
    intro out
    refine wpAny_handleBy_nil ?_
    obtain ⟨_, _, _, _, _, T, _, _, at1, _, data, head, _⟩ := id fl3
    have flies : wpAny (model X.prog X.w) X.A (setFlight (.ref ea) X.env.frame) (fun _ s4 => wpAny (model X.prog X.w) X.A (throw (.ref ea) : Sem Flow) (SP X pins D) X.xe s4) X.xe { s with heap := h3 } := by
      rw [fr]
      exact HandSPX.setFlight_upZ fl3 fun h4 held up4 => wpAny_throw (tk _ _ ⟨ea, B, sI, pins, σ, H, cls, d, rfl, J, nb, up3.trans up4, .inr (.inr (by rw [own]; exact held)), na, os, ag, out⟩)
    unfold PySem.passOn
    refine wpAny_bind (wpAny_field at1 data head ?_)
    rw [if_neg (show ¬ ((Value.ref T == Value.none) = true) by simp)]
    first
      | exact wpAny_bind flies
      | exact wpAny_bind (wpAny_pure (wpAny_bind flies))
  | @bare x c ts b₀ suite np pos' hds2 l2 hc su r ih =>
    rintro ⟨b, hb, yes, no⟩
    refine wpAny_handleBy_cons (codeAny_handlers_test (asks hc hb ?_)) (by intro q; cases q)
    cases b with
    | false => exact ih (no rfl)
    | true =>
      refine codeAny_handlers_suite (HandSPX.lands_againZ fl3 fun h4 fl4 up4 => ?_)
      obtain ⟨oe4, vs4, he4, hz4, hd4⟩ := fl4.there
      refine wpAny_mono ((su ea oe4 cls d (X.pn ++ pins) hz4 ⟨_, hd4⟩).run [] _ _ H _ ((landed fl4 (up3.trans up4)).suite he4 hd4 na n1 n2) (yes rfl ea na)) (fun f s6 z => ?_) (fun _ _ z => z.elim)
      cases f with
      | next => exact let ⟨_, _, S6, q6⟩ := z; ⟨_, _, S6.unsuite ok, q6⟩
      | brk => exact let ⟨_, _, S6, q6⟩ := z; ⟨_, _, S6.unsuite ok, q6⟩
      | cont => exact let ⟨_, _, S6, q6⟩ := z; ⟨_, _, S6.unsuite ok, q6⟩
      | ret u => exact let ⟨_, _, _, S6, r6, q6⟩ := z; ⟨_, _, _, S6.unsuite ok, r6, q6⟩
  | @named x n c i ts b₀ suite np pos' hds2 l2 hN hi hn hc su r ih =>
    rintro ⟨b, hb, yes, no⟩
    refine wpAny_handleBy_cons (codeAny_handlers_test (asks hc hb ?_)) (by intro q; cases q)
    cases b with
    | false => exact ih (no rfl)
    | true =>
      refine codeAny_handlers_suite_as (HandSPX.lands_againZ fl3 fun h4 fl4 up4 => ?_)
      obtain ⟨oe4, vs4, he4, hz4, hd4⟩ := fl4.there
      refine store_ok (X := X.suite ea ((ea, oe4) :: (X.pn ++ pins))) (v := .ref ea) ((landed fl4 (up3.trans up4)).suite he4 hd4 na n1 n2) hN hi (.inl hn) rfl (fun s5 S5 => ?_) (.inr hn)
      refine wpAny_mono ((su ea oe4 cls d (X.pn ++ pins) hz4 ⟨_, hd4⟩).run [] s5 _ H _ S5 (yes rfl ea na)) (fun f s6 z => ?_) (fun _ _ z => z.elim)
      have gone : ∀ {σ6 : L2.St} {H6 : Hp} {Q : Shared → Prop}, Inv (X.suite ea ((ea, oe4) :: (X.pn ++ pins))) [] σ6 H6 s6 → (∀ s7, Inv X pins (σ6.set i none) H6 s7 → Q s7) → wpAny (model X.prog X.w) X.A (do bindName X.env n .none; unbindBehindTheSuite X.env n pos') (fun _ s7 => Q s7) X.xe s6 := fun S6 hq => gone_ok (S6.unsuite ok) hN hi hn hq
      cases f with
      | next => exact let ⟨_, _, S6, q6⟩ := z; gone S6 fun s7 J7 => ⟨_, _, J7, q6⟩
      | brk => exact let ⟨_, _, S6, q6⟩ := z; gone S6 fun s7 J7 => ⟨_, _, J7, q6⟩
      | cont => exact let ⟨_, _, S6, q6⟩ := z; gone S6 fun s7 J7 => ⟨_, _, J7, q6⟩
      | ret u => exact let ⟨_, _, _, S6, r6, q6⟩ := z; gone S6 fun s7 J7 => ⟨_, _, _, J7, r6, q6⟩
theorem ps_try_hds (own : X.stack = X.env :: X.outer) (fr : X.env.frame = some X.env.locals) (tk : L2N.Takes X Wout)
    (hb : ∀ (W : WX) (pn : List (Addr × Obj)) (xe : Value → Shared → Prop), L2N.Takes (X.tr pn xe) W → PassesOwn (model X.prog X.w) X.A X.env xe → PSs (X.tr pn xe) body (tb W)) (hh : Hds X (h₀ :: hds) l) :
    PS X (.Try body (h₀ :: hds) [] [] pos) (fun D σ H => tb (wHds X.K Wout D l) D σ H) := ⟨fun pins s σ H D I h => by
  have frames : X.A.frames = some (X.env :: X.outer) := by rw [I.ok.frames, own]
  let caught : Value → Shared → Prop := fun e s₁ => wpAny (model X.prog X.w) X.A (noteFrame e X.env) (fun _ s₂ => wpAny (model X.prog X.w) X.A (setFlight e none) (fun _ s₃ => wpAny (model X.prog X.w) X.A (handleBy e X.env (h₀ :: hds)) (SP X pins D) X.xe s₃) X.xe s₂) X.xe s₁
  have inner := hb (wHds X.K Wout D l) (X.pn ++ pins) caught (fun u s' ⟨ea, B, sI, pins', σ', H', cls, d, e, J, nb, up, sky, na, os, ag, w⟩ => by
    subst e
    have sky' : Sky B (X.env :: X.outer) ea (L2N.Zn cls d) X.env.locals s'.heap := by rw [← own]; exact sky
    exact L2N.Sky.land L2N.Zn.steady frames fr sky' fun h3 fl3 up3 => hds_run own fr tk I.ok (J.ofTry I.ok) nb (up.trans up3) fl3 na os ag hh w) PassesOwn.looking
  refine wpAny_Try_except (wpAny_mono (inner.run [] s σ H D (I.toTry _) h) (fun f s1 z => ?_) (fun e s1 he => he))
  cases f with
  | next => exact let ⟨_, _, J, q⟩ := z; wpAny_execs_nil ⟨_, _, J.ofTry I.ok, q⟩
  | brk => exact let ⟨_, _, J, q⟩ := z; ⟨_, _, J.ofTry I.ok, q⟩
  | cont => exact let ⟨_, _, J, q⟩ := z; ⟨_, _, J.ofTry I.ok, q⟩
  | ret u => exact let ⟨_, _, _, J, r, q⟩ := z; ⟨_, _, _, J.ofTry I.ok, r, q⟩⟩
end
end OwnProj
/-! isinstance(e, c) for the exception that a suite holds, an instance with attributes. -/
namespace OwnIsE
open PySem PySem.Spec PyProof.Rows L2
def rIsED (K : PySem.W.Frag) (C a : Addr) (cls : Value) (d : Option Addr) : List V → Hp → VK → Prop := fun xs H Q => ∃ (c : Addr) (b : Bool) (dd : Addr) (fs : List (Str × V)), xs = [.ref a, .ref c] ∧ cls = .ref C ∧ d = some dd ∧ H dd = some (.xd fs) ∧ PySem.W.kitOne K (.ref C) (.ref c) = some b ∧ Q (.bl b) H
theorem call_isED {X : Cx} {a C : Addr} {oe : Obj} {cls : Value} {d : Option Addr} {pn : List (Addr × Obj)} (T : XfC X.K C) (ha : PySem.W.findIn X.K (.ref C) "__class__" = some (some (.builtin "object.__class__")))
    (hn : PySem.W.specialIn X.K (.builtin "object.__class__") "__get__" = some (some (.builtin "getset_descriptor.__get__"))) (ht : PySem.W.takesIn X.K (.builtin "object.__class__") = some true) (hm : PySem.W.mroIn X.K C (.type "object") = some true)
    (hz : Zc cls d oe) (hf : ∃ vs, oe.data = .fields vs) : CallR (X.suite a ((a, oe) :: pn)) (.builtin "isinstance") (rIsED X.K C a cls d) := by
  intro pins s σ H xs us Q I r h
  obtain ⟨c, b, dd, fs, rfl, rfl, rfl, hd, e, q⟩ := h
  obtain ⟨u1, u2, rfl, r1, r2⟩ := vals2 r
  cases r1
  cases r2
  have here := (I.pin (a, oe) (List.mem_append_left _ List.mem_cons_self)).1
  obtain ⟨vs, hv⟩ := hf
  obtain ⟨mA, hns, _⟩ := (show ObjOk X.prog X.w H s.heap dd (.xd fs) from I.hok dd _ hd)
  obtain ⟨od, ho, _⟩ := lookIn_ns hns
  obtain ⟨cd, hc, _⟩ := PySem.W.any_some T.hdC
  have J : PySem.W.InstAt s.heap a oe C (some od) := ⟨here, hz.1, by unfold PySem.W.notCls; rw [hv] <;> rfl, by rw [hz.2]; exact ho⟩
  exact PySem.W.kia_one (PySem.W.kitx_exc (Option.isSome_iff_exists.mpr ⟨cd, hc⟩) T.ga T.gg T.exC ha hn ht hm) I.kIn J e (fun z => nomatch z) fun tk => ⟨.bl b, H, I.tok tk, rfl, q⟩
end OwnIsE
namespace K05
open PySem PySem.Spec PyProof.Rows L2
def topS (i : Nat) : Stmt := PySem.Challenge.pw_greatestnext_k05_first_wrong_state.main.body.getD i (.Pass ⟨0, 0, 0, 0⟩)
abbrev s_InvalidProject_init : Stmt := inClass (topS 5) 0
abbrev s_Endless_init : Stmt := inClass (topS 6) 0
abbrev s_is_whole : Stmt := topS 8
abbrev s_is_within : Stmt := topS 9
abbrev s_is_row_of : Stmt := topS 10
abbrev s_Frac_init : Stmt := inClass (topS 15) 0
abbrev s_as_frac : Stmt := topS 16
abbrev s_is_amount : Stmt := topS 23
abbrev s_is_cost : Stmt := topS 24
abbrev s_are_goals : Stmt := topS 25
abbrev s_clean_row : Stmt := topS 26
abbrev s_first_endless : Stmt := topS 27
abbrev s_is_step_into : Stmt := topS 28
abbrev s_clean_rows : Stmt := topS 29
abbrev s_Project_init : Stmt := inClass (topS 30) 0
abbrev s_Project_len : Stmt := inClass (topS 30) 1
abbrev s_Project_kind : Stmt := inClass (topS 30) 3
abbrev s_law_box : Stmt := topS 32
abbrev s_law_draw : Stmt := topS 33
abbrev s_law_integer : Stmt := topS 34
abbrev s_law_row_of : Stmt := topS 35
abbrev s_law_shape : Stmt := topS 36
abbrev s_law_worth : Stmt := topS 37
abbrev s_law_right_row : Stmt := topS 38
abbrev s_law_deep : Stmt := topS 39
abbrev s_law_no_amount : Stmt := topS 40
abbrev s_law_no_number : Stmt := topS 41
abbrev s_law_no_goals : Stmt := topS 42
abbrev s_law_no_row : Stmt := topS 43
abbrev s_law_amount : Stmt := topS 44
abbrev s_law_goals_fit : Stmt := topS 45
abbrev s_law_fits : Stmt := topS 46
abbrev s_law_endless : Stmt := topS 47
abbrev s_law_text : Stmt := topS 48
abbrev s_law_made : Stmt := topS 49
abbrev s_law_all : Stmt := topS 50
abbrev s_law : Stmt := topS 51
structure Ad where
  C_Frac : Addr
  C_Project : Addr
  C_InvalidProject : Addr
  C_Endless : Addr
  C_NextError : Addr
  a_InvalidProject_init : Addr
  a_Endless_init : Addr
  a_is_whole : Addr
  a_is_within : Addr
  a_is_row_of : Addr
  a_Frac_init : Addr
  a_as_frac : Addr
  a_is_amount : Addr
  a_is_cost : Addr
  a_are_goals : Addr
  a_clean_row : Addr
  a_first_endless : Addr
  a_is_step_into : Addr
  a_clean_rows : Addr
  a_Project_init : Addr
  a_Project_len : Addr
  a_Project_kind : Addr
  a_law_box : Addr
  a_law_draw : Addr
  a_law_integer : Addr
  a_law_row_of : Addr
  a_law_shape : Addr
  a_law_worth : Addr
  a_law_right_row : Addr
  a_law_deep : Addr
  a_law_no_amount : Addr
  a_law_no_number : Addr
  a_law_no_goals : Addr
  a_law_no_row : Addr
  a_law_amount : Addr
  a_law_goals_fit : Addr
  a_law_fits : Addr
  a_law_endless : Addr
  a_law_text : Addr
  a_law_made : Addr
  a_law_all : Addr
  a_law : Addr
  d_InvalidProject_init : FuncData
  d_Endless_init : FuncData
  d_is_whole : FuncData
  d_is_within : FuncData
  d_is_row_of : FuncData
  d_Frac_init : FuncData
  d_as_frac : FuncData
  d_is_amount : FuncData
  d_is_cost : FuncData
  d_are_goals : FuncData
  d_clean_row : FuncData
  d_first_endless : FuncData
  d_is_step_into : FuncData
  d_clean_rows : FuncData
  d_Project_init : FuncData
  d_Project_len : FuncData
  d_Project_kind : FuncData
  d_law_box : FuncData
  d_law_draw : FuncData
  d_law_integer : FuncData
  d_law_row_of : FuncData
  d_law_shape : FuncData
  d_law_worth : FuncData
  d_law_right_row : FuncData
  d_law_deep : FuncData
  d_law_no_amount : FuncData
  d_law_no_number : FuncData
  d_law_no_goals : FuncData
  d_law_no_row : FuncData
  d_law_amount : FuncData
  d_law_goals_fit : FuncData
  d_law_fits : FuncData
  d_law_endless : FuncData
  d_law_text : FuncData
  d_law_made : FuncData
  d_law_all : FuncData
  d_law : FuncData
structure Txt (K : PySem.W.Frag) (mg : Str → Option Value) (a : Ad) : Prop where
  mg_Frac : mg "Frac" = some (.ref a.C_Frac)
  mg_Project : mg "Project" = some (.ref a.C_Project)
  mg_InvalidProject : mg "InvalidProject" = some (.ref a.C_InvalidProject)
  mg_Endless : mg "Endless" = some (.ref a.C_Endless)
  mg_NextError : mg "NextError" = some (.ref a.C_NextError)
  cl_Frac : Cls K a.C_Frac
  na_Frac_num : NoAttr K a.C_Frac "num"
  na_Frac_den : NoAttr K a.C_Frac "den"
  cg_Frac : PySem.W.findIn K (.ref a.C_Frac) "__class__" = some (some (.builtin "object.__class__"))
  mr_Frac : PySem.W.mroIn K a.C_Frac (.type "object") = some true
  cl_Project : Cls K a.C_Project
  na_Project_rows : NoAttr K a.C_Project "rows"
  cg_Project : PySem.W.findIn K (.ref a.C_Project) "__class__" = some (some (.builtin "object.__class__"))
  mr_Project : PySem.W.mroIn K a.C_Project (.type "object") = some true
  cget : PySem.W.specialIn K (.builtin "object.__class__") "__get__" = some (some (.builtin "getset_descriptor.__get__"))
  ctk : PySem.W.takesIn K (.builtin "object.__class__") = some true
  fn_InvalidProject_init : Fun K "__init__" "InvalidProject.__init__" s_InvalidProject_init a.a_InvalidProject_init a.d_InvalidProject_init
  b_InvalidProject_init : Binds K a.d_InvalidProject_init ["self", "state"] []
  fn_Endless_init : Fun K "__init__" "Endless.__init__" s_Endless_init a.a_Endless_init a.d_Endless_init
  b_Endless_init : Binds K a.d_Endless_init ["self", "state"] []
  mg_is_whole : mg "is_whole" = some (.ref a.a_is_whole)
  fn_is_whole : Fun K "is_whole" "is_whole" s_is_whole a.a_is_whole a.d_is_whole
  b_is_whole : Binds K a.d_is_whole ["value"] []
  mg_is_within : mg "is_within" = some (.ref a.a_is_within)
  fn_is_within : Fun K "is_within" "is_within" s_is_within a.a_is_within a.d_is_within
  b_is_within : Binds K a.d_is_within ["value", "least", "most"] []
  mg_is_row_of : mg "is_row_of" = some (.ref a.a_is_row_of)
  fn_is_row_of : Fun K "is_row_of" "is_row_of" s_is_row_of a.a_is_row_of a.d_is_row_of
  b_is_row_of : Binds K a.d_is_row_of ["value", "least", "most"] []
  fn_Frac_init : FunD K "__init__" "Frac.__init__" (defArgs s_Frac_init) (defBody s_Frac_init) (defScope s_Frac_init) [.int 1] [] a.a_Frac_init a.d_Frac_init
  mt_Frac_init : Meth K a.C_Frac "__init__" a.a_Frac_init
  mg_as_frac : mg "as_frac" = some (.ref a.a_as_frac)
  fn_as_frac : Fun K "as_frac" "as_frac" s_as_frac a.a_as_frac a.d_as_frac
  b_as_frac : Binds K a.d_as_frac ["value"] []
  mg_is_amount : mg "is_amount" = some (.ref a.a_is_amount)
  fn_is_amount : Fun K "is_amount" "is_amount" s_is_amount a.a_is_amount a.d_is_amount
  b_is_amount : Binds K a.d_is_amount ["value"] []
  mg_is_cost : mg "is_cost" = some (.ref a.a_is_cost)
  fn_is_cost : Fun K "is_cost" "is_cost" s_is_cost a.a_is_cost a.d_is_cost
  b_is_cost : Binds K a.d_is_cost ["value"] []
  mg_are_goals : mg "are_goals" = some (.ref a.a_are_goals)
  fn_are_goals : Fun K "are_goals" "are_goals" s_are_goals a.a_are_goals a.d_are_goals
  b_are_goals : Binds K a.d_are_goals ["goals", "states"] []
  mg_clean_row : mg "clean_row" = some (.ref a.a_clean_row)
  fn_clean_row : Fun K "clean_row" "clean_row" s_clean_row a.a_clean_row a.d_clean_row
  b_clean_row : Binds K a.d_clean_row ["row", "states"] []
  mg_first_endless : mg "first_endless" = some (.ref a.a_first_endless)
  fn_first_endless : Fun K "first_endless" "first_endless" s_first_endless a.a_first_endless a.d_first_endless
  b_first_endless : Binds K a.d_first_endless ["rows"] []
  mg_is_step_into : mg "is_step_into" = some (.ref a.a_is_step_into)
  fn_is_step_into : Fun K "is_step_into" "is_step_into" s_is_step_into a.a_is_step_into a.d_is_step_into
  b_is_step_into : Binds K a.d_is_step_into ["row", "marks"] []
  mg_clean_rows : mg "clean_rows" = some (.ref a.a_clean_rows)
  fn_clean_rows : Fun K "clean_rows" "clean_rows" s_clean_rows a.a_clean_rows a.d_clean_rows
  b_clean_rows : Binds K a.d_clean_rows ["rows"] []
  fn_Project_init : Fun K "__init__" "Project.__init__" s_Project_init a.a_Project_init a.d_Project_init
  b_Project_init : Binds K a.d_Project_init ["self", "rows"] []
  mt_Project_init : Meth K a.C_Project "__init__" a.a_Project_init
  fn_Project_len : Fun K "__len__" "Project.__len__" s_Project_len a.a_Project_len a.d_Project_len
  b_Project_len : Binds K a.d_Project_len ["self"] []
  mt_Project_len : Meth K a.C_Project "__len__" a.a_Project_len
  fn_Project_kind : Fun K "kind" "Project.kind" s_Project_kind a.a_Project_kind a.d_Project_kind
  b_Project_kind : Binds K a.d_Project_kind ["self", "state"] []
  mt_Project_kind : Meth K a.C_Project "kind" a.a_Project_kind
  mg_law_box : mg "_law_box" = some (.ref a.a_law_box)
  fn_law_box : Fun K "_law_box" "_law_box" s_law_box a.a_law_box a.d_law_box
  b_law_box : Binds K a.d_law_box ["script"] []
  mg_law_draw : mg "_law_draw" = some (.ref a.a_law_draw)
  fn_law_draw : Fun K "_law_draw" "_law_draw" s_law_draw a.a_law_draw a.d_law_draw
  b_law_draw : Binds K a.d_law_draw ["box", "limit"] []
  mg_law_integer : mg "_law_integer" = some (.ref a.a_law_integer)
  fn_law_integer : Fun K "_law_integer" "_law_integer" s_law_integer a.a_law_integer a.d_law_integer
  b_law_integer : Binds K a.d_law_integer ["value"] []
  mg_law_row_of : mg "_law_row_of" = some (.ref a.a_law_row_of)
  fn_law_row_of : Fun K "_law_row_of" "_law_row_of" s_law_row_of a.a_law_row_of a.d_law_row_of
  b_law_row_of : Binds K a.d_law_row_of ["value"] []
  mg_law_shape : mg "_law_shape" = some (.ref a.a_law_shape)
  fn_law_shape : Fun K "_law_shape" "_law_shape" s_law_shape a.a_law_shape a.d_law_shape
  b_law_shape : Binds K a.d_law_shape ["box", "parts"] []
  mg_law_worth : mg "_law_worth" = some (.ref a.a_law_worth)
  fn_law_worth : Fun K "_law_worth" "_law_worth" s_law_worth a.a_law_worth a.d_law_worth
  b_law_worth : Binds K a.d_law_worth ["box", "least"] []
  mg_law_right_row : mg "_law_right_row" = some (.ref a.a_law_right_row)
  fn_law_right_row : Fun K "_law_right_row" "_law_right_row" s_law_right_row a.a_law_right_row a.d_law_right_row
  b_law_right_row : Binds K a.d_law_right_row ["box", "many"] []
  mg_law_deep : mg "_law_deep" = some (.ref a.a_law_deep)
  fn_law_deep : Fun K "_law_deep" "_law_deep" s_law_deep a.a_law_deep a.d_law_deep
  b_law_deep : Binds K a.d_law_deep ["box"] []
  mg_law_no_amount : mg "_law_no_amount" = some (.ref a.a_law_no_amount)
  fn_law_no_amount : Fun K "_law_no_amount" "_law_no_amount" s_law_no_amount a.a_law_no_amount a.d_law_no_amount
  b_law_no_amount : Binds K a.d_law_no_amount ["box", "cost"] []
  mg_law_no_number : mg "_law_no_number" = some (.ref a.a_law_no_number)
  fn_law_no_number : Fun K "_law_no_number" "_law_no_number" s_law_no_number a.a_law_no_number a.d_law_no_number
  b_law_no_number : Binds K a.d_law_no_number ["box", "edge"] []
  mg_law_no_goals : mg "_law_no_goals" = some (.ref a.a_law_no_goals)
  fn_law_no_goals : Fun K "_law_no_goals" "_law_no_goals" s_law_no_goals a.a_law_no_goals a.d_law_no_goals
  b_law_no_goals : Binds K a.d_law_no_goals ["box", "many"] []
  mg_law_no_row : mg "_law_no_row" = some (.ref a.a_law_no_row)
  fn_law_no_row : Fun K "_law_no_row" "_law_no_row" s_law_no_row a.a_law_no_row a.d_law_no_row
  b_law_no_row : Binds K a.d_law_no_row ["box", "many"] []
  mg_law_amount : mg "_law_amount" = some (.ref a.a_law_amount)
  fn_law_amount : Fun K "_law_amount" "_law_amount" s_law_amount a.a_law_amount a.d_law_amount
  b_law_amount : Binds K a.d_law_amount ["value", "least"] []
  mg_law_goals_fit : mg "_law_goals_fit" = some (.ref a.a_law_goals_fit)
  fn_law_goals_fit : Fun K "_law_goals_fit" "_law_goals_fit" s_law_goals_fit a.a_law_goals_fit a.d_law_goals_fit
  b_law_goals_fit : Binds K a.d_law_goals_fit ["goals", "many"] []
  mg_law_fits : mg "_law_fits" = some (.ref a.a_law_fits)
  fn_law_fits : Fun K "_law_fits" "_law_fits" s_law_fits a.a_law_fits a.d_law_fits
  b_law_fits : Binds K a.d_law_fits ["row", "many"] []
  mg_law_endless : mg "_law_endless" = some (.ref a.a_law_endless)
  fn_law_endless : Fun K "_law_endless" "_law_endless" s_law_endless a.a_law_endless a.d_law_endless
  b_law_endless : Binds K a.d_law_endless ["rows"] []
  mg_law_text : mg "_law_text" = some (.ref a.a_law_text)
  fn_law_text : Fun K "_law_text" "_law_text" s_law_text a.a_law_text a.d_law_text
  b_law_text : Binds K a.d_law_text ["value"] []
  mg_law_made : mg "_law_made" = some (.ref a.a_law_made)
  fn_law_made : Fun K "_law_made" "_law_made" s_law_made a.a_law_made a.d_law_made
  b_law_made : Binds K a.d_law_made ["value", "due", "place"] []
  mg_law_all : mg "_law_all" = some (.ref a.a_law_all)
  fn_law_all : Fun K "_law_all" "_law_all" s_law_all a.a_law_all a.d_law_all
  b_law_all : Binds K a.d_law_all ["script"] []
  mg_law : mg "law" = some (.ref a.a_law)
  fn_law : Fun K "law" "law" s_law a.a_law a.d_law
  b_law : Binds K a.d_law ["script"] []
  mk_Frac : Mk K a.C_Frac a.a_Frac_init
  mk_Project : Mk K a.C_Project a.a_Project_init
  ex_InvalidProject : OexC K a.C_InvalidProject
  xf_InvalidProject : XfC K a.C_InvalidProject
  xm_InvalidProject : PySem.W.exmOne K (.ref a.C_InvalidProject) (.ref a.C_InvalidProject) = some true
  na_InvalidProject_state : PySem.W.findIn K (.ref a.C_InvalidProject) "state" = some none
  cg_InvalidProject : PySem.W.findIn K (.ref a.C_InvalidProject) "__class__" = some (some (.builtin "object.__class__"))
  mr_InvalidProject : PySem.W.mroIn K a.C_InvalidProject (.type "object") = some true
  xi_InvalidProject : PySem.W.findIn K (.ref a.C_InvalidProject) "__init__" = some (some (.ref a.a_InvalidProject_init))
  ti_InvalidProject : PySem.W.typeIn K (.ref a.a_InvalidProject_init) = some (.type "function")
  ex_Endless : OexC K a.C_Endless
  xf_Endless : XfC K a.C_Endless
  xm_Endless : PySem.W.exmOne K (.ref a.C_Endless) (.ref a.C_Endless) = some true
  na_Endless_state : PySem.W.findIn K (.ref a.C_Endless) "state" = some none
  xi_Endless : PySem.W.findIn K (.ref a.C_Endless) "__init__" = some (some (.ref a.a_Endless_init))
  ti_Endless : PySem.W.typeIn K (.ref a.a_Endless_init) = some (.type "function")
  xm_Endless_InvalidProject : PySem.W.exmOne K (.ref a.C_Endless) (.ref a.C_InvalidProject) = some false
  no_isinstance : mg "isinstance" = none
  no_int : mg "int" = none
  no_bool : mg "bool" = none
  no_range : mg "range" = none
  no_len : mg "len" = none
  no_abs : mg "abs" = none
  no_max : mg "max" = none
  no_str : mg "str" = none
  no_list : mg "list" = none
  no_tuple : mg "tuple" = none
  no_enumerate : mg "enumerate" = none
  no_any : mg "any" = none
  mg_MOST_STATES : ∃ t, mg "MOST_STATES" = some (.int 8 t)
  mg_MOST_GOALS : ∃ t, mg "MOST_GOALS" = some (.int 8 t)
  mg_MOST_WEIGHT : ∃ t, mg "MOST_WEIGHT" = some (.int 999 t)
  mg_MOST_NUM : ∃ t, mg "MOST_NUM" = some (.int 9999 t)
  mg_MOST_DEN : ∃ t, mg "MOST_DEN" = some (.int 99 t)
  mg_gcd : mg "gcd" = some (.builtin "math.gcd")
  kit_F_F : PySem.W.kitOne K (.ref a.C_Frac) (.ref a.C_Frac) = some true
  kit_IP_E : PySem.W.kitOne K (.ref a.C_InvalidProject) (.ref a.C_Endless) = some false
  kit_F_int : PySem.W.kitOne K (.ref a.C_Frac) (.type "int") = some false
  kit_F_list : PySem.W.kitOne K (.ref a.C_Frac) (.type "list") = some false
  kit_F_tuple : PySem.W.kitOne K (.ref a.C_Frac) (.type "tuple") = some false
  kit_F_str : PySem.W.kitOne K (.ref a.C_Frac) (.type "str") = some false
  kit_none_F : PySem.W.kitOne K (.type "NoneType") (.ref a.C_Frac) = some false
  kit_bool_F : PySem.W.kitOne K (.type "bool") (.ref a.C_Frac) = some false
  kit_int_F : PySem.W.kitOne K (.type "int") (.ref a.C_Frac) = some false
  kit_str_F : PySem.W.kitOne K (.type "str") (.ref a.C_Frac) = some false
  kit_list_F : PySem.W.kitOne K (.type "list") (.ref a.C_Frac) = some false
  kit_tuple_F : PySem.W.kitOne K (.type "tuple") (.ref a.C_Frac) = some false
end K05
namespace K05
open PySem PySem.Spec PyProof.Rows L2 Own OwnSeq OwnSet OwnComb OwnSort OwnHot OwnExN OwnProj
/-! ### values by their kinds -/
inductive Tg | non | bl | int | str | lst | tup
  deriving DecidableEq
inductive Ty (H : Hp) : V → Tg → Prop
  | non : Ty H .non .non
  | bl (b : Bool) : Ty H (.bl b) .bl
  | int (i : Int) : Ty H (.int i) .int
  | str (x : Str) : Ty H (.str x) .str
  | lst {p : Addr} {xs : List V} (h : H p = some (.lst xs)) : Ty H (.ref p) .lst
  | tup {p : Addr} {xs : List V} (h : H p = some (.tup xs)) : Ty H (.ref p) .tup
def tyv : Tg → Value
  | .non => .type "NoneType"
  | .bl => .type "bool"
  | .int => .type "int"
  | .str => .type "str"
  | .lst => .type "list"
  | .tup => .type "tuple"
def isB (g : Tg) : Tg → Bool
  | .int => decide (g = .int) || decide (g = .bl)
  | c => decide (g = c)
def clv : Tg → V
  | .non => .ty "NoneType"
  | .bl => .ty "bool"
  | .int => .ty "int"
  | .str => .ty "str"
  | .lst => .ty "list"
  | .tup => .ty "tuple"
theorem Ty.x {K : PySem.W.Frag} {H : Hp} {v : V} {g : Tg} (t : Ty H v g) : TyX K H v (tyv g) := by
  cases t with
  | non => exact .base .non
  | bl b => exact .base (.bl b)
  | int i => exact .base (.int i)
  | str x => exact .base (.str x)
  | lst h => exact .base (.lst h)
  | tup h => exact .base (.tup h)
theorem kit_by {K : PySem.W.Frag} (g c : Tg) (h2 : c ≠ .non) : ∃ n : String, clv c = .ty n ∧ PySem.W.kitOne K (tyv g) (.type n) = some (isB g c) := by
  cases c with
  | non => exact absurd rfl h2
  | int => exact ⟨"int", rfl, by cases g <;> exact kit_ty (by decide +kernel)⟩
  | bl => exact ⟨"bool", rfl, by cases g <;> exact kit_ty (by decide +kernel)⟩
  | str => exact ⟨"str", rfl, by cases g <;> exact kit_ty (by decide +kernel)⟩
  | lst => exact ⟨"list", rfl, by cases g <;> exact kit_ty (by decide +kernel)⟩
  | tup => exact ⟨"tuple", rfl, by cases g <;> exact kit_ty (by decide +kernel)⟩
def rIsB (c : Tg) : List V → Hp → VK → Prop := fun xs H Q => ∃ v g, xs = [v, clv c] ∧ Ty H v g ∧ Q (.bl (isB g c)) H
theorem call_isB {X : Cx} (c : Tg) (h : c ≠ .non := by decide) : CallR X (.builtin "isinstance") (rIsB c) := Rd.CallR.imp call_isi fun xs H Q ⟨v, g, e, t, q⟩ =>
  let ⟨n, e1, k⟩ := kit_by (K := X.K) g c h
  ⟨v, clv c, tyv g, .type n, isB g c, e, e1 ▸ .ty n, t.x, k, q⟩
theorem kit_any {K : PySem.W.Frag} (g : Tg) : PySem.W.kitAny K (tyv g) [.type "list", .type "tuple"] = some (decide (g = .lst) || decide (g = .tup)) := by
  obtain ⟨n1, e1, k1⟩ := kit_by (K := K) g .lst (by decide)
  obtain ⟨n2, e2, k2⟩ := kit_by (K := K) g .tup (by decide)
  have e1 : V.ty "list" = V.ty n1 := e1
  have e2 : V.ty "tuple" = V.ty n2 := e2
  cases e1
  cases e2
  have k1 : PySem.W.kitOne K (tyv g) (.type "list") = some (decide (g = .lst)) := k1
  have k2 : PySem.W.kitOne K (tyv g) (.type "tuple") = some (decide (g = .tup)) := k2
  unfold PySem.W.kitAny
  rw [k1]
  cases decide (g = .lst) with
  | true => rfl
  | false =>
    unfold PySem.W.kitAny
    show (match PySem.W.kitOne K (tyv g) (.type "tuple") with | some true => some true | some false => PySem.W.kitAny K (tyv g) [] | none => none) = _
    rw [k2]
    cases decide (g = .tup) <;> rfl
def rIsS : List V → Hp → VK → Prop := fun xs H Q => ∃ v g tp, xs = [v, .ref tp] ∧ H tp = some (.tup [.ty "list", .ty "tuple"]) ∧ Ty H v g ∧ Q (.bl (decide (g = .lst) || decide (g = .tup))) H
theorem call_isS {X : Cx} : CallR X (.builtin "isinstance") rIsS := Rd.CallR.imp call_isiT fun xs H Q ⟨v, g, tp, e, ht, t, q⟩ =>
  ⟨v, tp, _, _, _, _, e, ht, .cons (.ty "list") (.cons (.ty "tuple") .nil), t.x, kit_any g, q⟩
theorem same_upd {H : Hp} {p : Addr} {o : HO} (h : H p = none) : Same H (upd H p o) := fun b x e => by
  rw [upd_ne (ne_of_none e h)]
  exact e
theorem small {n : Nat} (h : n < 1000) : n < sizeLine := Nat.lt_of_lt_of_le h (by decide)
theorem small_le {n : Nat} (h : n ≤ 1000) : n ≤ sizeLine := Nat.le_trans h (by decide)
/-- an item of a tuple that stands in H by itself -/
def rIxHT : R2 := fun x y H Q => ∃ p xs i v, x = .ref p ∧ y = .int i ∧ H p = some (.tup xs) ∧ atI xs i = some v ∧ Q v H
theorem ixHT {X : Cx} : IxR X rIxHT := fun value slice pins s σ H x y v u Q I rx ry ⟨p, xs, i, z, e1, e2, h, e3, q⟩ hs => ix_tup value slice pins s σ H x y v u Q I rx ry ⟨p, xs, i, z, e1, e2, SqT.of h, e3, q⟩ hs
/-! ### sets of things -/
/-- the things as values -/
def iv (s : List Nat) : List V := s.map fun g => V.int (g : Nat)
theorem iv_len (s : List Nat) : (iv s).length = s.length := List.length_map _
def mk (s : List Nat) : Nat := (s.map fun g => 2 ^ g).sum
def bit (m k : Nat) : Bool := decide (m / 2 ^ k % 2 = 1)
def bits (m : Nat) : List Nat := (List.range 6).filter (bit m)
/-- all sets of n things, in order of size -/
def allS (n : Nat) : List (List Nat) := (List.range (n + 1)).flatMap (combs n)
/-- a part, its masks -/
def Sub (m' m : Nat) : Prop := m' &&& m = m'
instance (m' m : Nat) : Decidable (Sub m' m) := inferInstanceAs (Decidable (_ = _))
def In (S : List Bool) (m : Nat) : Bool := S.getD m false
/-- what may be taken: which masks; () is one, and every part of one -/
structure Fam (n : Nat) (S : List Bool) : Prop where
  n1 : 1 ≤ n
  n6 : n ≤ 6
  len : S.length = 2 ^ n
  zero : In S 0 = true
  down : ∀ m m', Sub m' m → In S m = true → In S m' = true
def famL (n : Nat) (S : List Bool) : List (List Nat) := (allS n).filter fun s => In S (mk s)

/-! ### rules with the table of kept things told -/
theorem op_inK {X : Cx} (K : PySem.W.Frag) (hK : X.K = K := by rfl) : OpR X (compareOp .In) (rIn K false) := by
  subst hK
  exact op_in_seq
theorem op_notInK {X : Cx} (K : PySem.W.Frag) (hK : X.K = K := by rfl) : OpR X (compareOp .NotIn) (rIn K true) := by
  subst hK
  exact op_notIn_seq
theorem pi_combK {X : Cx} {tg e e2 : Expr} {ta : TA} {x : Str} {p pos : Pos} (K : PySem.W.Frag) (hg : Gl X x) (hm : X.mg x = some (.type OwnComb.T)) (ha : PA X [e, e2] ta) (hK : X.K = K := by rfl) (hdb : (x == ("__debug__" : Str)) = false := by decide)
    (hs : starEach [e, e2] X.env = (false, eval e X.env) :: starEach [e2] X.env := by rfl) (hpl : (backTo pos (starEach [e2] X.env)).any (·.1) = false := by rfl) :
    PI X tg (.Call (.Name x p) [e, e2] [] pos) (iComb K ta) := by
  subst hK
  exact pi_comb hg hm ha hdb hs hpl
theorem pe_fldK {X : Cx} {e : Expr} {f : Str} {pos : Pos} {ta : TE} (K : PySem.W.Frag) (he : PE X e ta) (hK : X.K = K := by rfl) (hb : attributeBase e f X.env (eval e X.env) = eval e X.env := by rfl) : PE X (.Attribute e f pos) (tFld K ta f) := by
  subst hK
  exact pe_fld he hb

end K05
namespace K05
open PySem PySem.Spec PyProof.Rows L2 Own OwnSeq OwnSet OwnComb OwnSort OwnHot OwnExN OwnProj
local macro_rules | `(tactic| walk_at "rd") => `(tactic| simp only [tSeq, tAsg, tOp, tUn, tVar, gName, gSub, rIxL, rIxT, rSetL, tC, rI0, rI, rU, rEq, rNe, tCons, tNil, tCB, tLst, tTup, tIfS, tAnd, tOr, tNot, tAndV, tOrV, tNotV, tTest, tB, tIf, tRet, tDrop, tNext, tBreak, tCont, tCall, tCallS, L2.WE, tMakeS, rIsS, rIsB, tChain, gSeq, gRest, gCons, gNil, tFor_seq, tFor_enumS, tLc_seq, tLc_enumS, rAny, rAll, L2.tMeth, StX.tStar, rIn, tLstRg, tRg1, tRg2, rSetI, rSortedSet, rInDT, rInD, rNotInD, rEqD, rNeD, iComb, tFld, tMake, tMkO, sFld, tOst, tNever, tBits, clv, isB,
  Rd.tFor_rng1, Rd.tFor_rng2, Rd.tFor_list, Rd.tFor_tup, Rd.tLc_list, Rd.tLc_tup, Rd.tLc_rng1, Rd.LcTurn, tYes, wipe, Rd.rLenL, Rd.rLenT, Rd.rIntI, Rd.rIxH, rIxHT,  HO.tup.injEq, Rd.at0, Rd.at1, Rd.at2, Rd.at3, Rd.ixN40, Rd.ixN41, Rd.ixN42, Rd.ixN43, Rd.scal_ii, cxOf,
  List.length_cons, List.length_nil, List.length_map, List.map_cons, List.map_nil, upd_same, decide_eq_true_eq, decide_true, decide_false, if_true, if_false, Bool.false_eq_true, Bool.not_true, Bool.not_false, HO.lst.injEq, HO.ins.injEq, List.set_cons_zero, List.set_cons_succ, List.getElem?_cons_zero, List.getElem?_cons_succ, List.append_nil, List.nil_append, List.cons_append, Option.some.injEq, V.ref.injEq, V.int.injEq, V.bl.injEq, List.cons.injEq, exists_eq_left', exists_and_left, exists_eq_left, true_and, and_true, and_self, and_assoc, implies_true, reduceCtorEq, Nat.reduceAdd])

/-! ### a fraction's fields -/
theorem nd_ne : ¬ (("num" : Str) = "den") := by decide +kernel
def fF (n d : Int) : List (Str × V) := putF "den" (.int d) (putF "num" (.int n) [])
theorem fF_num (n d : Int) : (fF n d).lookup ("num" : Str) = some (.int n) := by
  unfold fF
  rw [lookup_putF, if_neg nd_ne, lookup_putF, if_pos rfl]
theorem fF_den (n d : Int) : (fF n d).lookup ("den" : Str) = some (.int d) := by
  unfold fF
  rw [lookup_putF, if_pos rfl]
/-! ### values by their kinds -/
inductive Kd | non | bl | int | str | lst | tup | fr
  deriving DecidableEq
inductive Kn (C : Addr) (H : Hp) : V → Kd → Prop
  | non : Kn C H .non .non
  | bl (b : Bool) : Kn C H (.bl b) .bl
  | int (i : Int) : Kn C H (.int i) .int
  | str (x : Str) : Kn C H (.str x) .str
  | lst {p : Addr} {xs : List V} (h : H p = some (.lst xs)) : Kn C H (.ref p) .lst
  | tup {p : Addr} {xs : List V} (h : H p = some (.tup xs)) : Kn C H (.ref p) .tup
  | fr {p dx : Addr} {fs : List (Str × V)} (h : H p = some (.ins C dx fs)) : Kn C H (.ref p) .fr
theorem Kn.same {C : Addr} {H H' : Hp} {v : V} {g : Kd} (e : Same H H') (t : Kn C H v g) : Kn C H' v g := by
  cases t with
  | non => exact .non
  | bl b => exact .bl b
  | int i => exact .int i
  | str x => exact .str x
  | lst h => exact .lst (e _ _ h)
  | tup h => exact .tup (e _ _ h)
  | fr h => exact .fr (e _ _ h)
def kdv (C : Addr) : Kd → Value
  | .non => .type "NoneType"
  | .bl => .type "bool"
  | .int => .type "int"
  | .str => .type "str"
  | .lst => .type "list"
  | .tup => .type "tuple"
  | .fr => .ref C
def isK (g : Kd) : Kd → Bool
  | .int => decide (g = .int) || decide (g = .bl)
  | c => decide (g = c)
def kcv (C : Addr) : Kd → V
  | .non => .ty "NoneType"
  | .bl => .ty "bool"
  | .int => .ty "int"
  | .str => .ty "str"
  | .lst => .ty "list"
  | .tup => .ty "tuple"
  | .fr => .ref C
section
variable {P : Program} {w : World} {K : PySem.W.Frag} {mg : Str → Option Value} {base : Heap} {a : Ad}
theorem Kn.x (T : Txt K mg a) {H : Hp} {v : V} {g : Kd} (t : Kn a.C_Frac H v g) : TyX K H v (kdv a.C_Frac g) := by
  cases t with
  | non => exact .base .non
  | bl b => exact .base (.bl b)
  | int i => exact .base (.int i)
  | str x => exact .base (.str x)
  | lst h => exact .base (.lst h)
  | tup h => exact .base (.tup h)
  | fr h => exact .base (.ins h T.cl_Frac T.cg_Frac T.cget T.ctk T.mr_Frac)
/-- isinstance with one of the classes -/
def rIsK (C : Addr) (c : Kd) : List V → Hp → VK → Prop := fun xs H Q => ∃ v g, xs = [v, kcv C c] ∧ Kn C H v g ∧ Q (.bl (isK g c)) H
theorem kit_frac (T : Txt K mg a) (g : Kd) : PySem.W.kitOne K (kdv a.C_Frac g) (.ref a.C_Frac) = some (isK g .fr) := by
  cases g with
  | non => exact T.kit_none_F
  | bl => exact T.kit_bool_F
  | int => exact T.kit_int_F
  | str => exact T.kit_str_F
  | lst => exact T.kit_list_F
  | tup => exact T.kit_tuple_F
  | fr => exact T.kit_F_F
theorem call_isF {X : Cx} (T : Txt X.K mg a) : CallR X (.builtin "isinstance") (rIsK a.C_Frac .fr) := Rd.CallR.imp call_isi fun xs H Q ⟨v, g, e, t, q⟩ => ⟨v, .ref a.C_Frac, kdv a.C_Frac g, .ref a.C_Frac, isK g .fr, e, .own _, t.x T, kit_frac T g, q⟩
theorem kitK (T : Txt K mg a) (g c : Kd) (h1 : c ≠ .fr) (h2 : c ≠ .non) (h3 : g = .fr → c ≠ .bl) : ∃ n : String, kcv a.C_Frac c = .ty n ∧ PySem.W.kitOne K (kdv a.C_Frac g) (.type n) = some (isK g c) := by
  cases c with
  | fr => exact absurd rfl h1
  | non => exact absurd rfl h2
  | int => exact ⟨"int", rfl, by cases g <;> first | exact T.kit_F_int | exact kit_ty (by decide +kernel)⟩
  | bl => exact ⟨"bool", rfl, by cases g <;> first | exact absurd rfl (h3 rfl) | exact kit_ty (by decide +kernel)⟩
  | str => exact ⟨"str", rfl, by cases g <;> first | exact T.kit_F_str | exact kit_ty (by decide +kernel)⟩
  | lst => exact ⟨"list", rfl, by cases g <;> first | exact T.kit_F_list | exact kit_ty (by decide +kernel)⟩
  | tup => exact ⟨"tuple", rfl, by cases g <;> first | exact T.kit_F_tuple | exact kit_ty (by decide +kernel)⟩
/-- .. with a built-in one (of an own instance bool is not asked) -/
def rIsKB (C : Addr) (c : Kd) : List V → Hp → VK → Prop := fun xs H Q => ∃ v g, xs = [v, kcv C c] ∧ Kn C H v g ∧ (g = .fr → c ≠ .bl) ∧ Q (.bl (isK g c)) H
theorem call_isK {X : Cx} (T : Txt X.K mg a) (c : Kd) (h1 : c ≠ .fr := by decide) (h2 : c ≠ .non := by decide) : CallR X (.builtin "isinstance") (rIsKB a.C_Frac c) := Rd.CallR.imp call_isi fun xs H Q ⟨v, g, e, t, h3, q⟩ => by
  obtain ⟨n, e1, k⟩ := kitK T g c h1 h2 h3
  exact ⟨v, .ty n, kdv a.C_Frac g, .type n, isK g c, by rw [e, e1], .ty n, t.x T, k, q⟩
theorem kitA (T : Txt K mg a) (g : Kd) : PySem.W.kitAny K (kdv a.C_Frac g) [.type "list", .type "tuple"] = some (decide (g = .lst) || decide (g = .tup)) := by
  obtain ⟨n1, e1, k1⟩ := kitK T g .lst (by decide) (by decide) (fun _ => by decide)
  obtain ⟨n2, e2, k2⟩ := kitK T g .tup (by decide) (by decide) (fun _ => by decide)
  have e1 : V.ty "list" = V.ty n1 := e1
  have e2 : V.ty "tuple" = V.ty n2 := e2
  cases e1
  cases e2
  have k1 : PySem.W.kitOne K (kdv a.C_Frac g) (.type "list") = some (decide (g = .lst)) := k1
  have k2 : PySem.W.kitOne K (kdv a.C_Frac g) (.type "tuple") = some (decide (g = .tup)) := k2
  unfold PySem.W.kitAny
  rw [k1]
  cases decide (g = .lst) with
  | true => rfl
  | false =>
    unfold PySem.W.kitAny
    show (match PySem.W.kitOne K (kdv a.C_Frac g) (.type "tuple") with | some true => some true | some false => PySem.W.kitAny K (kdv a.C_Frac g) [] | none => none) = _
    rw [k2]
    cases decide (g = .tup) <;> rfl
def rIsKS (C : Addr) : List V → Hp → VK → Prop := fun xs H Q => ∃ v g tp, xs = [v, .ref tp] ∧ H tp = some (.tup [.ty "list", .ty "tuple"]) ∧ Kn C H v g ∧ Q (.bl (decide (g = .lst) || decide (g = .tup))) H
theorem call_isKS {X : Cx} (T : Txt X.K mg a) : CallR X (.builtin "isinstance") (rIsKS a.C_Frac) := Rd.CallR.imp call_isiT fun xs H Q ⟨v, g, tp, e, ht, t, q⟩ =>
  ⟨v, tp, _, _, _, _, e, ht, .cons (.ty "list") (.cons (.ty "tuple") .nil), t.x T, kitA T g, q⟩
end
/-! ### values of every kind -/
inductive Wv
  | non
  | bl (b : Bool)
  | int (i : Int)
  | str (s : Str)
  | fr (n d : Int)
  | lst (ws : List Wv)
  | tup (ws : List Wv)
mutual
inductive IsW (C : Addr) (H : Hp) : V → Wv → Prop
  | non : IsW C H .non .non
  | bl (b : Bool) : IsW C H (.bl b) (.bl b)
  | int (i : Int) : IsW C H (.int i) (.int i)
  | str (s : Str) : IsW C H (.str s) (.str s)
  | fr {p dx : Addr} {n d : Int} (h : H p = some (.ins C dx (fF n d))) : IsW C H (.ref p) (.fr n d)
  | lst {p : Addr} {vs : List V} {ws : List Wv} (h : H p = some (.lst vs)) (e : IsWs C H vs ws) : IsW C H (.ref p) (.lst ws)
  | tup {p : Addr} {vs : List V} {ws : List Wv} (h : H p = some (.tup vs)) (e : IsWs C H vs ws) : IsW C H (.ref p) (.tup ws)
inductive IsWs (C : Addr) (H : Hp) : List V → List Wv → Prop
  | nil : IsWs C H [] []
  | cons {v : V} {w : Wv} {vs : List V} {ws : List Wv} (h : IsW C H v w) (e : IsWs C H vs ws) : IsWs C H (v :: vs) (w :: ws)
end
mutual
theorem IsW.same {C : Addr} {H H' : Hp} (e : Same H H') : ∀ {v : V} {w : Wv}, IsW C H v w → IsW C H' v w
  | _, _, .non => .non
  | _, _, .bl b => .bl b
  | _, _, .int i => .int i
  | _, _, .str s => .str s
  | _, _, .fr h => .fr (e _ _ h)
  | _, _, .lst h a => .lst (e _ _ h) (IsWs.same e a)
  | _, _, .tup h a => .tup (e _ _ h) (IsWs.same e a)
theorem IsWs.same {C : Addr} {H H' : Hp} (e : Same H H') : ∀ {vs : List V} {ws : List Wv}, IsWs C H vs ws → IsWs C H' vs ws
  | _, _, .nil => .nil
  | _, _, .cons h a => .cons (IsW.same e h) (IsWs.same e a)
end
def kd : Wv → Kd
  | .non => .non
  | .bl _ => .bl
  | .int _ => .int
  | .str _ => .str
  | .fr _ _ => .fr
  | .lst _ => .lst
  | .tup _ => .tup
theorem IsW.kn {C : Addr} {H : Hp} {v : V} {w : Wv} (h : IsW C H v w) : Kn C H v (kd w) := by
  cases h with
  | non => exact .non
  | bl b => exact .bl b
  | int i => exact .int i
  | str s => exact .str s
  | fr h => exact .fr h
  | lst h _ => exact .lst h
  | tup h _ => exact .tup h
theorem IsWs.len {C : Addr} {H : Hp} : ∀ {vs : List V} {ws : List Wv}, IsWs C H vs ws → vs.length = ws.length
  | _, _, .nil => rfl
  | _, _, .cons _ a => congrArg (· + 1) a.len
theorem IsWs.at {C : Addr} {H : Hp} : ∀ {vs : List V} {ws : List Wv} {i : Nat} {x : V}, IsWs C H vs ws → vs[i]? = some x → ∃ w, ws[i]? = some w ∧ IsW C H x w
  | _, _, 0, _, .cons h _, e => ⟨_, rfl, by cases Option.some.inj e; exact h⟩
  | _, _, i + 1, _, .cons _ a, e => IsWs.at (i := i) a e
theorem IsWs.app {C : Addr} {H : Hp} : ∀ {vs : List V} {ws : List Wv} {us : List V} {zs : List Wv}, IsWs C H vs ws → IsWs C H us zs → IsWs C H (vs ++ us) (ws ++ zs)
  | _, _, _, _, .nil, b => b
  | _, _, _, _, .cons h a, b => .cons h (a.app b)
section
variable {P : Program} {w : World} {K : PySem.W.Frag} {mg : Str → Option Value} {base : Heap} {a : Ad}
/-! ### is_whole, is_within, is_ascending -/
def spWhole (C : Addr) : Sp := fun vs H Q _ => ∃ (v : V) (g : Kd), vs = [v] ∧ Kn C H v g ∧ Q (.bl (decide (g = .int))) H
theorem sc_is_whole : FnScope ["value"] ["value"] (defScope s_is_whole) := ⟨rfl, rfl, rfl, by decide +kernel, rfl, by decide +kernel, by decide +kernel⟩
theorem ok_is_whole (T : Txt K mg a) : FnOk P w K mg base CX0 1 a.a_is_whole a.d_is_whole ["value"] (spWhole a.C_Frac) := by
  refine T.fn_is_whole.ok sc_is_whole (fun vs H Q E h => ?_) (fun cdv A outer s H vs Q E hr h => ?_)
  · obtain ⟨v, g, rfl, _⟩ := h
    rfl
  · obtain ⟨v, g, rfl, t, k⟩ := h
    refine ⟨_, (pss_one (ps_ret (pe_and (pe_callB (call_isK T .int) (by rfl) T.no_isinstance (by decide +kernel) (pa_cons (pv 0) (pa_cons (pe_bltn (v := .ty "int") (u := .type "int") (by rfl) T.no_int (by decide +kernel) rfl) pa_nil))) (pe_one (pe_not (pe_callB (call_isK T .bl) (by rfl) T.no_isinstance (by decide +kernel) (pa_cons (pv 0) (pa_cons (pe_bltn (v := .ty "bool") (u := .type "bool") (by rfl) T.no_bool (by decide +kernel) rfl) pa_nil)))))))), ?_⟩
    show (_ : TS) _ [some v] H
    walk_at "rd"
    refine ⟨v, g, rfl, t, fun _ => by decide, ?_⟩
    refine ⟨_, rfl, ?_⟩
    cases g with
    | int => exact ite2 (fun _ => ⟨v, _, rfl, t, (fun z => nomatch z), _, rfl, k⟩) (fun h => absurd rfl h)
    | bl => exact ite2 (fun _ => ⟨v, _, rfl, t, (fun z => nomatch z), _, rfl, k⟩) (fun h => absurd rfl h)
    | _ => exact ite2 (fun (h : false = true) => nomatch h) (fun _ => k)
def inW (lo hi : Int) : Wv → Bool
  | .int i => decide (lo ≤ i) && decide (i ≤ hi)
  | _ => false
def spWithin (C : Addr) : Sp := fun vs H Q _ => ∃ (v : V) (w : Wv) (lo hi : Int), vs = [v, .int lo, .int hi] ∧ IsW C H v w ∧ Q (.bl (inW lo hi w)) H
theorem sc_is_within : FnScope ["value", "least", "most"] ["value", "least", "most"] (defScope s_is_within) := ⟨rfl, rfl, rfl, by decide +kernel, rfl, by decide +kernel, by decide +kernel⟩
theorem ok_is_within (T : Txt K mg a) : FnOk P w K mg base CX0 2 a.a_is_within a.d_is_within ["value", "least", "most"] (spWithin a.C_Frac) := by
  refine T.fn_is_within.ok sc_is_within (fun vs H Q E h => ?_) (fun cdv A outer s H vs Q E hr h => ?_)
  · obtain ⟨v, w, lo, hi, rfl, _⟩ := h
    rfl
  · obtain ⟨v, w', lo, hi, rfl, t, k⟩ := h
    refine ⟨_, (pss_one (ps_ret (pe_and (pe_call (ok_is_whole T) (hr.mono (by decide)) (by rfl) T.mg_is_whole T.fn_is_whole.kp T.b_is_whole .nil pass0 (pa_cons (pv 0) pa_nil)) (pe_one (pe_chain op_le op_le (pv 1) (pv 0) (pv 2)))))), ?_⟩
    show (_ : TS) _ [some v, some (V.int lo), some (V.int hi)] H
    walk_at "rd"
    refine ⟨v, kd w', rfl, t.kn, _, rfl, ?_⟩
    cases t with
    | int i =>
      refine ite2 (fun _ => ⟨i, rfl, ?_⟩) (fun h => absurd rfl h)
      have k : Q (.bl (decide (lo ≤ i) && decide (i ≤ hi))) H := k
      refine ite2 (fun h => ⟨i, rfl, ?_⟩) (fun h => ?_)
      · rw [decide_eq_true h] at k
        exact k
      · rw [decide_eq_false h] at k
        exact k
    | _ => exact ite2 (fun (h : false = true) => nomatch h) (fun _ => k)
end

end K05
namespace K05
open PySem PySem.Spec PyProof.Rows L2 Own OwnSeq OwnSet OwnComb OwnSort OwnHot OwnExN OwnProj
local macro_rules | `(tactic| walk_at "rd") => `(tactic| simp only [tSeq, tAsg, tOp, tUn, tVar, gName, gSub, rIxL, rIxT, rSetL, tC, rI0, rI, rU, rEq, rNe, tCons, tNil, tCB, tLst, tTup, tIfS, tAnd, tOr, tNot, tAndV, tOrV, tNotV, tTest, tB, tIf, tRet, tDrop, tNext, tBreak, tCont, tCall, tCallS, L2.WE, tMakeS, rIsS, rIsB, tChain, gSeq, gRest, gCons, gNil, tFor_seq, tFor_enumS, tLc_seq, tLc_enumS, rAny, rAll, L2.tMeth, StX.tStar, rIn, tLstRg, tRg1, tRg2, rSetI, rSortedSet, rInDT, rInD, rNotInD, rEqD, rNeD, iComb, tFld, tMake, tMkO, sFld, tOst, tNever, tBits, clv, isB,
  Rd.tFor_rng1, Rd.tFor_rng2, Rd.tFor_list, Rd.tFor_tup, Rd.tLc_list, Rd.tLc_tup, Rd.tLc_rng1, Rd.LcTurn, tYes, wipe, Rd.rLenL, Rd.rLenT, Rd.rIntI, Rd.rIxH, rIxHT,  HO.tup.injEq, Rd.at0, Rd.at1, Rd.at2, Rd.at3, Rd.ixN40, Rd.ixN41, Rd.ixN42, Rd.ixN43, Rd.scal_ii, cxOf,
  List.length_cons, List.length_nil, List.length_map, List.map_cons, List.map_nil, upd_same, decide_eq_true_eq, decide_true, decide_false, if_true, if_false, Bool.false_eq_true, Bool.not_true, Bool.not_false, HO.lst.injEq, HO.ins.injEq, List.set_cons_zero, List.set_cons_succ, List.getElem?_cons_zero, List.getElem?_cons_succ, List.append_nil, List.nil_append, List.cons_append, Option.some.injEq, V.ref.injEq, V.int.injEq, V.bl.injEq, List.cons.injEq, exists_eq_left', exists_and_left, exists_eq_left, true_and, and_true, and_self, and_assoc, implies_true, reduceCtorEq, Nat.reduceAdd])

theorem at_int {ns : List Int} {z : Int} (h0 : 0 ≤ z) (h1 : z < (ns.length : Int)) : ∃ y, atI (ns.map V.int) z = some (V.int y) := by
  obtain ⟨j, rfl⟩ : ∃ j : Nat, z = (j : Int) := ⟨z.toNat, by omega⟩
  have hj : j < ns.length := by omega
  exact ⟨ns[j], atI_nat (by rw [List.getElem?_map, List.getElem?_eq_getElem hj]; rfl)⟩
theorem abs_nn (x : Int) : 0 ≤ (if x < 0 then -x else x) := by split <;> omega
theorem abs_eq (x : Int) : (if x < 0 then -x else x) = (x.natAbs : Int) := by split <;> omega
theorem cm_mod {x y m : Int} (h : 0 < m) (h2 : m ≤ 2 ^ 64) : CMul (x % m) y := by
  have a := Int.emod_nonneg x (show m ≠ 0 by omega)
  have b := Int.emod_lt_of_pos x h
  exact .inl ⟨by omega, by omega⟩
/-- what stood stands, but for b -/
def But (b : Addr) (H H' : Hp) : Prop := ∀ p o, p ≠ b → H p = some o → H' p = some o
theorem But.refl (b : Addr) (H : Hp) : But b H H := fun _ _ _ h => h
theorem But.trans {b : Addr} {H H1 H2 : Hp} (x : But b H H1) (y : But b H1 H2) : But b H H2 := fun p o n h => y p o n (x p o n h)
theorem But.free {b : Addr} {H H1 : Hp} (x : But b H H1) {p : Addr} (n : p ≠ b) (h : H1 p = none) : H p = none := by
  cases e : H p with
  | none => rfl
  | some o =>
    rw [x p o n e] at h
    cases h
theorem Same.but {b : Addr} {H H1 : Hp} (x : Same H H1) : But b H H1 := fun p o _ h => x p o h
theorem SqL.but {K : PySem.W.Frag} {H H' : Hp} {b c : Addr} {xs : List V} (h : SqL K H c xs) (n : c ≠ b) (e : But b H H') : SqL K H' c xs := by
  rcases h with (h | ⟨o, h⟩) | h
  · exact .inl (.inl (e _ _ n h))
  · exact .inl (.inr ⟨o, e _ _ n h⟩)
  · exact .inr h
/-- the law's box: its cells, what is drawn from -/
structure BoxAt (K : PySem.W.Frag) (H : Hp) (b c : Addr) (ns : List Int) : Prop where
  ne : c ≠ b
  len : ns.length ≤ 63
  ob : ∃ n1 n2 n3 : Int, H b = some (.lst [.ref c, .int n1, .int n2, .int n3]) ∧ 0 ≤ n2 ∧ 0 ≤ n3
  cells : SqL K H c (ns.map V.int)
theorem BoxAt.same {K : PySem.W.Frag} {H H' : Hp} {b c : Addr} {ns : List Int} (B : BoxAt K H b c ns) (e : Same H H') : BoxAt K H' b c ns :=
  let ⟨n1, n2, n3, h, p, q⟩ := B.ob
  ⟨B.ne, B.len, ⟨n1, n2, n3, e _ _ h, p, q⟩, e.seq B.cells⟩
theorem BoxAt.ne_new {K : PySem.W.Frag} {H : Hp} {b c : Addr} {ns : List Int} (B : BoxAt K H b c ns) {p : Addr} (h : H p = none) : p ≠ b := fun e => by
  obtain ⟨n1, n2, n3, hb, _⟩ := B.ob
  rw [e, hb] at h
  cases h
section
variable {P : Program} {w : World} {K : PySem.W.Frag} {mg : Str → Option Value} {base : Heap} {a : Ad}
/-! ### _law_box -/
def spBox (K : PySem.W.Frag) : Sp := fun vs H Q _ => ∃ (s : Addr) (ns : List Int), vs = [.ref s] ∧ SqL K H s (ns.map V.int) ∧ ns.length ≤ 63 ∧ ∀ b c H', BoxAt K H' b c ns → Same H H' → H b = none → Q (.ref b) H'
theorem sc_law_box : FnScope ["script", "cell"] ["script"] (defScope s_law_box) := ⟨rfl, rfl, rfl, by decide +kernel, rfl, by decide +kernel, by decide +kernel⟩
theorem ok_law_box (T : Txt K mg a) : FnOk P w K mg base CX0 1 a.a_law_box a.d_law_box ["script"] (spBox K) := by
  refine T.fn_law_box.ok sc_law_box (fun vs H Q E h => ?_) (fun cdv A outer s H vs Q E hr h => ?_)
  · obtain ⟨p, ns, rfl, _⟩ := h
    rfl
  · obtain ⟨p, ns, rfl, hs, hl, k⟩ := h
    refine ⟨_, (pss_one (ps_ret (pe_lst (pa_cons (pe_lc (own := [("cell", 1)]) (by rfl) sc_law_box.nd (pi_list (pv 0)) (blkOk_by (own := [("cell", 1)]) (N := ["script", "cell"]) (sc := defScope s_law_box) (by decide +kernel)) (fun _ _ _ _ _ => pg_name (i := 1) sc_law_box.nd rfl (Or.inl rfl)) (fun _ _ _ _ _ => pts_nil) (fun _ _ _ _ _ => (pe_callTy Rd.call_intI (by rfl) T.no_int (by decide +kernel) (pa_cons (pv 1) pa_nil)))) (pa_cons pe_int (pa_cons pe_int (pa_cons pe_int pa_nil))))))), ?_⟩
    show (_ : TS) _ [some (V.ref p), none] H
    walk_at "rd"
    refine ⟨⟨_, hs⟩, Rd.lcl_list (xs := ns.map V.int) (fun D i H1 => (Same H H1 ∧ H D = none) ∧ H1 D = some (.lst ((ns.take i).map V.int))) (fun D hD => ⟨⟨same_upd hD, hD⟩, upd_same⟩) (fun D i H1 _ p => p.1.1.seq hs) ?_ ?_⟩
    · rintro D i x H1 hx ⟨⟨s1, hD⟩, e1⟩
      obtain ⟨z, hz, rfl⟩ : ∃ z, ns[i]? = some z ∧ x = V.int z := by
        rw [List.getElem?_map] at hx
        cases e : ns[i]? with
        | none => rw [e] at hx; cases hx
        | some z => rw [e] at hx; exact ⟨z, rfl, (Option.some.inj hx).symm⟩
      walk_at "rd"
      refine ⟨_, e1, ?_, fun b o e => ?_, ?_⟩
      · rw [List.length_map, List.length_take]
        exact Nat.lt_of_le_of_lt (Nat.min_le_left _ _) (by have := (List.getElem?_eq_some_iff.mp hz).1; exact small1000 (by omega))
      · rw [upd_ne (ne_of_none e hD)]
        exact s1 _ _ e
      · rw [List.take_add_one, hz, List.map_append]
        exact ⟨hD, rfl⟩
    · rw [List.length_map, List.take_length]
      rintro D H1 _ ⟨⟨s1, hD⟩, e1⟩
      refine ⟨by decide, fun b hb => ?_⟩
      have nbD : D ≠ b := fun e => by rw [← e, e1] at hb; cases hb
      refine k b D _ ⟨nbD, hl, ⟨0, 0, 0, upd_same, Int.le_refl _, Int.le_refl _⟩, SqL.of ((upd_ne nbD).trans e1)⟩ (s1.trans (same_upd hb)) (s1.free hb)
/-! ### _law_draw -/
def spDraw (K : PySem.W.Frag) : Sp := fun vs H Q _ => ∃ (b c : Addr) (ns : List Int) (m : Int), vs = [.ref b, .int m] ∧ BoxAt K H b c ns ∧ 0 < m ∧ m < 1000000000 ∧
  ∀ (d : Int) (H' : Hp), 0 ≤ d → d < m → BoxAt K H' b c ns → (∀ p, p ≠ b → H' p = H p) → Q (.int d) H'
theorem sc_law_draw : FnScope ["box", "limit", "cells", "k", "digit", "cell", "mixed"] ["box", "limit"] (defScope s_law_draw) := ⟨rfl, rfl, rfl, by decide +kernel, rfl, by decide +kernel, by decide +kernel⟩
theorem ok_law_draw (T : Txt K mg a) : FnOk P w K mg base CX0 1 a.a_law_draw a.d_law_draw ["box", "limit"] (spDraw K) := by
  refine T.fn_law_draw.ok sc_law_draw (fun vs H Q E h => ?_) (fun cdv A outer s H vs Q E hr h => ?_)
  · obtain ⟨b, c, ns, m, rfl, _⟩ := h
    rfl
  · obtain ⟨b, c, ns, m, rfl, ⟨hbc, hl, ⟨n1, n2, n3, hb, p2, p3⟩, hc⟩, hm, hm2, k⟩ := h
    refine ⟨_, (pss_cons (ps_set (i := 2) sc_law_draw.nd rfl (Or.inl rfl) (pe_ix Rd.ixH (pv 0) pe_int (fun _ _ => rfl)))
      (pss_cons (ps_asg (pe_op op_add (pe_ix Rd.ixH (pv 0) pe_int (fun _ _ => rfl)) pe_int) (pg_sub (pv 0) pe_int set_list))
      (pss_cons (ps_for PassesOwn.never rfl (pi_range1 (by rfl) T.no_range (pa_cons (pe_callB Rd.call_lenL (by rfl) T.no_len PySem.boot_len (pa_cons (pv 2) pa_nil)) pa_nil)) (pg_name (i := 3) sc_law_draw.nd rfl (Or.inl rfl))
        (pss_one (ps_if (PW.pt (pw_and (pt_cmpR op_eq (pe_ix Rd.ixH (pv 0) pe_int (fun _ _ => rfl)) pe_int (nomark _)) (pw_and1 (pt_cmpR op_lt (pe_ix Rd.ixH (pv 0) pe_int (fun _ _ => rfl)) (pe_callB Rd.call_lenL (by rfl) T.no_len PySem.boot_len (pa_cons (pv 2) pa_nil)) (nomark _))))) (pss_cons (ps_if (pt_cmpR op_ge (pe_callB call_abs (by rfl) T.no_abs (by decide +kernel) (pa_cons (pe_ix ix_list (pv 2) (pe_ix Rd.ixH (pv 0) pe_int (fun _ _ => rfl)) (fun _ _ => rfl)) pa_nil)) (pe_op op_pow pe_int pe_int) (nomark _)) (pss_one (ps_asg (pe_callB call_abs (by rfl) T.no_abs (by decide +kernel) (pa_cons (pe_ix ix_list (pv 2) (pe_ix Rd.ixH (pv 0) pe_int (fun _ _ => rfl)) (fun _ _ => rfl)) pa_nil)) (pg_sub (pv 0) pe_int set_list))) pss_nil)
          (pss_one (ps_asg (pe_op op_add (pe_ix Rd.ixH (pv 0) pe_int (fun _ _ => rfl)) pe_int) (pg_sub (pv 0) pe_int set_list)))) (pss_one ps_break))))
      (pss_cons (ps_if (pt_cmpR op_gt (pe_ix Rd.ixH (pv 0) pe_int (fun _ _ => rfl)) pe_int (nomark _)) (pss_cons (ps_set (i := 4) sc_law_draw.nd rfl (Or.inl rfl) (pe_op op_mod (pe_callTy Rd.call_intI (by rfl) T.no_int (by decide +kernel) (pa_cons (pe_ix Rd.ixH (pv 0) pe_int (fun _ _ => rfl)) pa_nil)) (pv 1)))
        (pss_cons (ps_asg (pe_op op_fdiv (pe_ix Rd.ixH (pv 0) pe_int (fun _ _ => rfl)) (pv 1)) (pg_sub (pv 0) pe_int set_list))
        (pss_one (ps_ret (pv 4))))) pss_nil)
      (pss_cons (ps_set (i := 5) sc_law_draw.nd rfl (Or.inl rfl) pe_int)
      (pss_cons (ps_if (pt_cmpR op_gt (pe_callB Rd.call_lenL (by rfl) T.no_len PySem.boot_len (pa_cons (pv 2) pa_nil)) pe_int (nomark _)) (pss_one (ps_set (i := 5) sc_law_draw.nd rfl (Or.inl rfl) (pe_callB call_abs (by rfl) T.no_abs (by decide +kernel) (pa_cons (pe_ix ix_list (pv 2) (pe_op op_mod (pe_callTy Rd.call_intI (by rfl) T.no_int (by decide +kernel) (pa_cons (pe_ix Rd.ixH (pv 0) pe_int (fun _ _ => rfl)) pa_nil)) (pe_callB Rd.call_lenL (by rfl) T.no_len PySem.boot_len (pa_cons (pv 2) pa_nil))) (fun _ _ => rfl)) pa_nil)))) pss_nil)
      (pss_cons (ps_set (i := 6) sc_law_draw.nd rfl (Or.inl rfl) (pe_op op_mod (pe_callTy Rd.call_intI (by rfl) T.no_int (by decide +kernel) (pa_cons (pe_op op_add (pe_op op_add (pe_op op_mul (pv 5) pe_int) (pe_op op_mul (pe_ix Rd.ixH (pv 0) pe_int (fun _ _ => rfl)) pe_int)) pe_int) pa_nil)) pe_int))
      (pss_cons (ps_set (i := 6) sc_law_draw.nd rfl (Or.inl rfl) (pe_op op_mod (pe_callTy Rd.call_intI (by rfl) T.no_int (by decide +kernel) (pa_cons (pe_op op_add (pe_op op_add (pe_op op_mul (pv 6) (pv 6)) (pe_op op_mul (pe_ix Rd.ixH (pv 0) pe_int (fun _ _ => rfl)) pe_int)) (pv 5)) pa_nil)) pe_int))
      (pss_cons (ps_set (i := 6) sc_law_draw.nd rfl (Or.inl rfl) (pe_op op_mod (pe_callTy Rd.call_intI (by rfl) T.no_int (by decide +kernel) (pa_cons (pe_op op_add (pe_op op_add (pe_op op_mul (pe_op op_mul (pv 6) (pv 6)) pe_int) (pe_op op_fdiv (pv 5) pe_int)) pe_int) pa_nil)) pe_int))
      (pss_one (ps_ret (pe_op op_mod (pe_callTy Rd.call_intI (by rfl) T.no_int (by decide +kernel) (pa_cons (pe_op op_fdiv (pv 6) pe_int) pa_nil)) (pv 1))))))))))))), ?_⟩
    show (_ : TS) _ [some (V.ref b), some (V.int m), none, none, none, none, none] H
    walk_at "rd"
    simp only [hb]
    walk_at "rd"
    have e1 : ∀ a, a ≠ b → (upd H b (.lst [V.ref c, .int (n1 + 1), .int n2, .int n3])) a = H a := fun a ha => upd_ne ha
    refine ⟨_, SqL.but hc hbc fun p o n h => (e1 p n).trans h, ?_⟩
    rw [List.length_map]
    refine ⟨by omega, by omega, ?_⟩
    refine Rd.loop_rngC (fun σ H' => ∃ (x : Option V) (k2 k3 : Int), σ = [some (.ref b), some (.int m), some (.ref c), x, none, none, none] ∧ (∀ a, a ≠ b → H' a = H a) ∧ H' b = some (.lst [.ref c, .int (n1 + 1), .int k2, .int k3]) ∧ 0 ≤ k2 ∧ 0 ≤ k3)
      (fun _ σ H' => ∃ (x : Option V) (k2 k3 : Int), σ = [some (.ref b), some (.int m), some (.ref c), x, none, none, none] ∧ (∀ a, a ≠ b → H' a = H a) ∧ H' b = some (.lst [.ref c, .int (n1 + 1), .int k2, .int k3]) ∧ 0 ≤ k2 ∧ 0 ≤ k3)
      ⟨none, n2, n3, rfl, e1, upd_same, p2, p3⟩ ?_ (fun _ _ z => z) ?_
    · rintro bk hbk i σ H1 hi ⟨x, k2, k3, rfl, e, hb1, q2, q3⟩
      walk_at "rd"
      simp only [hb1]
      walk_at "rd"
      have hc1 : SqL K H1 c (ns.map V.int) := SqL.but hc hbc fun p o n h => (e p n).trans h
      have out : bk [some (V.ref b), some (V.int m), some (V.ref c), some (V.int (0 + ↑i)), none, none, none] H1 := hbk _ _ ⟨_, k2, k3, rfl, e, hb1, q2, q3⟩
      refine ite2 (fun h => ?_) (fun _ => out)
      refine ⟨_, hc1, ?_⟩
      try rw [List.length_map]
      refine ite2 (fun h2 => ?_) (fun _ => out)
      obtain ⟨y, hy⟩ := at_int q3 h2
      refine ⟨_, hc1, _, hy, _, rfl, ⟨by decide, by decide, by decide⟩, ite2 (fun _ => ?_) (fun _ => ?_)⟩
      · refine ⟨_, hc1, _, hy, _, rfl, fun a ha => ?_, abs_nn y, by omega⟩
        rw [upd_ne ha, upd_ne ha, e a ha]
      · refine ⟨fun a ha => ?_, q2, by omega⟩
        rw [upd_ne ha, e a ha]
    · rintro σ H1 ⟨x, k2, k3, rfl, e, hb1, q2, q3⟩
      walk_at "rd"
      simp only [hb1]
      walk_at "rd"
      have hc1 : SqL K H1 c (ns.map V.int) := SqL.but hc hbc fun p o n h => (e p n).trans h
      refine ite2 (fun h => ?_) (fun h => ?_)
      · refine ⟨hm, ⟨hm, by omega⟩, k _ _ (Int.emod_nonneg _ (by omega)) (Int.emod_lt_of_pos _ hm) ⟨hbc, hl, ⟨_, _, _, upd_same, Int.ediv_nonneg (by omega) (by omega), q3⟩, SqL.but hc1 hbc fun p o n h => (upd_ne n).trans h⟩ fun a ha => ?_⟩
        rw [upd_ne ha, e a ha]
      · refine ⟨_, hc1, ?_⟩
        try rw [List.length_map]
        have fin : ∀ z : Int, Q (V.int (z % m)) H1 := fun z => k _ _ (Int.emod_nonneg _ (by omega)) (Int.emod_lt_of_pos _ hm) ⟨hbc, hl, ⟨_, _, _, hb1, q2, q3⟩, hc1⟩ e
        refine ite2 (fun h2 => ?_) (fun h2 => ?_)
        · obtain ⟨y, hy⟩ := at_int (ns := ns) (z := (n1 + 1) % (ns.length : Int)) (Int.emod_nonneg _ (by omega)) (Int.emod_lt_of_pos _ h2)
          refine ⟨_, hc1, by rw [List.length_map]; exact h2, _, hc1, _, by rw [List.length_map]; exact hy, _, rfl, .inr ⟨by decide, by decide⟩, .inr ⟨by decide, by decide⟩, by decide, cm_mod (by decide) (by decide), .inr ⟨by decide, by decide⟩, by decide, cm_mod (by decide) (by decide), .inr ⟨by decide, by decide⟩, ⟨by decide, by decide⟩, by decide, ⟨by decide, by decide⟩, hm, fin _⟩
        · exact ⟨.inr ⟨by decide, by decide⟩, .inr ⟨by decide, by decide⟩, by decide, cm_mod (by decide) (by decide), .inr ⟨by decide, by decide⟩, by decide, cm_mod (by decide) (by decide), .inr ⟨by decide, by decide⟩, ⟨by decide, by decide⟩, by decide, ⟨by decide, by decide⟩, hm, fin _⟩
end
section
variable {P : Program} {w : World} {K : PySem.W.Frag} {mg : Str → Option Value} {base : Heap} {a : Ad}
theorem But.of {b : Addr} {H H' : Hp} (e : ∀ p, p ≠ b → H' p = H p) : But b H H' := fun p o n h => (e p n).trans h
theorem But.updn {b p : Addr} {o : HO} {H H' : Hp} (e : But b H H') (h : H p = none) : But b H (upd H' p o) := fun q u n z => (upd_ne (ne_of_none z h)).trans (e q u n z)
theorem BoxAt.upd {H0 H : Hp} {b c p : Addr} {ns : List Int} {o : HO} (B0 : BoxAt K H0 b c ns) (B : BoxAt K H b c ns) (n : p ≠ b) (e : But b H0 (L2.upd H p o)) : BoxAt K (L2.upd H p o) b c ns :=
  let ⟨n1, n2, n3, h, u, v⟩ := B.ob
  ⟨B.ne, B.len, ⟨n1, n2, n3, (upd_ne (Ne.symm n)).trans h, u, v⟩, SqL.but B0.cells B.ne e⟩
theorem drw {H : Hp} {b c : Addr} {ns : List Int} {m : Int} {Q : VK} {E : XK} (B : BoxAt K H b c ns) (h0 : 0 < m) (h1 : m < 1000000000) (k : ∀ (d : Nat) (H' : Hp), (d : Int) < m → BoxAt K H' b c ns → But b H H' → Q (.int (d : Nat)) H') : spDraw K [.ref b, .int m] H Q E :=
  ⟨b, c, ns, m, rfl, B, h0, h1, fun d H' p q B' e => by
    obtain ⟨j, rfl⟩ : ∃ j : Nat, d = (j : Int) := ⟨d.toNat, by omega⟩
    exact k j H' q B' (But.of e)⟩
end

end K05
namespace K05
open PySem PySem.Spec PyProof.Rows L2 Own OwnSeq OwnSet OwnComb OwnSort OwnHot OwnExN OwnProj
local macro_rules | `(tactic| walk_at "rd") => `(tactic| simp only [tSeq, tAsg, tOp, tUn, tVar, gName, gSub, rIxL, rIxT, rSetL, tC, rI0, rI, rU, rEq, rNe, tCons, tNil, tCB, tLst, tTup, tIfS, tAnd, tOr, tNot, tAndV, tOrV, tNotV, tTest, tB, tIf, tRet, tDrop, tNext, tBreak, tCont, tCall, tCallS, L2.WE, tMakeS, rIsS, rIsB, tChain, gSeq, gRest, gCons, gNil, tFor_seq, tFor_enumS, tLc_seq, tLc_enumS, rAny, rAll, L2.tMeth, StX.tStar, rIn, tLstRg, tRg1, tRg2, rSetI, rSortedSet, rInDT, rInD, rNotInD, rEqD, rNeD, iComb, tFld, tMake, tMkO, sFld, tOst, tNever, tBits, clv, isB,
  Rd.tFor_rng1, Rd.tFor_rng2, Rd.tFor_list, Rd.tFor_tup, Rd.tLc_list, Rd.tLc_tup, Rd.tLc_rng1, Rd.LcTurn, tYes, wipe, Rd.rLenL, Rd.rLenT, Rd.rIntI, Rd.rIxH, rIxHT,  HO.tup.injEq, Rd.at0, Rd.at1, Rd.at2, Rd.at3, Rd.ixN40, Rd.ixN41, Rd.ixN42, Rd.ixN43, Rd.scal_ii, cxOf,
  List.length_cons, List.length_nil, List.length_map, List.map_cons, List.map_nil, upd_same, decide_eq_true_eq, decide_true, decide_false, if_true, if_false, Bool.false_eq_true, Bool.not_true, Bool.not_false, HO.lst.injEq, HO.ins.injEq, List.set_cons_zero, List.set_cons_succ, List.getElem?_cons_zero, List.getElem?_cons_succ, List.append_nil, List.nil_append, List.cons_append, Option.some.injEq, V.ref.injEq, V.int.injEq, V.bl.injEq, List.cons.injEq, exists_eq_left', exists_and_left, exists_eq_left, true_and, and_true, and_self, and_assoc, implies_true, reduceCtorEq, Nat.reduceAdd])

theorem fF_no (n d : Int) {m : Str} (h1 : ¬ m = "den") (h2 : ¬ m = "num") : (fF n d).lookup m = none := by
  unfold fF
  rw [lookup_putF, if_neg h1, lookup_putF, if_neg h2]
  all_goals rfl
/-- a fraction as an object -/
def FrV (C : Addr) (H : Hp) (p : Addr) (n d : Int) : Prop := ∃ dx, H p = some (.ins C dx (fF n d))
theorem FrV.same {C : Addr} {H H' : Hp} {p : Addr} {n d : Int} (e : Same H H') : FrV C H p n d → FrV C H' p n d := fun ⟨dx, h⟩ => ⟨dx, e _ _ h⟩
/-- the sign of the divisor on the greatest common divisor -/
def gS (n d : Int) : Int := if d < 0 then -((Nat.gcd n.natAbs d.natAbs : Nat) : Int) else ((Nat.gcd n.natAbs d.natAbs : Nat) : Int)
def LN (n d : Int) : Int := n.fdiv (gS n d)
def LD (n d : Int) : Int := d.fdiv (gS n d)
abbrev Big (x : Int) : Prop := x.natAbs < 2 ^ 4000
abbrev Mid (x : Int) : Prop := x.natAbs < 2 ^ 1900
theorem gcd_pos {n d : Int} (h : d ≠ 0) : 0 < Nat.gcd n.natAbs d.natAbs := Nat.gcd_pos_of_pos_right _ (by omega)
theorem gcd_le {n d : Int} (h : d ≠ 0) : Nat.gcd n.natAbs d.natAbs ≤ d.natAbs := Nat.le_of_dvd (by omega) (Nat.gcd_dvd_right _ _)
theorem gS_div {n d : Int} (h : d ≠ 0) (hb : Big d) : CDivM n (gS n d) := by
  have p := gcd_pos (n := n) h
  have l := gcd_le (n := n) h
  have e : (gS n d).natAbs = Nat.gcd n.natAbs d.natAbs := by
    unfold gS
    split
    · rw [Int.natAbs_neg, Int.natAbs_natCast]
    · rw [Int.natAbs_natCast]
  refine ⟨by omega, ?_⟩
  rw [e]
  have z : Nat.log2 (Nat.gcd n.natAbs d.natAbs) < 4000 := PySem.Flt.log2_lt_of (by decide) (Nat.lt_of_le_of_lt l hb)
  omega
theorem mid_mul {x y : Int} (hx : Mid x) (hy : Mid y) : CMulW x y ∧ (x * y).natAbs < 2 ^ 3800 := ⟨wide_mul hx hy (by decide) (by decide) (by decide), wide_lt hx hy⟩
theorem big_of {x : Int} (h : x.natAbs < 2 ^ 3800) : Big x := Nat.lt_of_lt_of_le h (Nat.pow_le_pow_right (by decide) (by decide))
/-! a value of which what may be changed is new since H0 -/
mutual
inductive IsN (C : Addr) (H0 H : Hp) : V → Wv → Prop
  | non : IsN C H0 H .non .non
  | bl (b : Bool) : IsN C H0 H (.bl b) (.bl b)
  | int (i : Int) : IsN C H0 H (.int i) (.int i)
  | str (s : Str) : IsN C H0 H (.str s) (.str s)
  | fr {p dx : Addr} {n d : Int} (h : H p = some (.ins C dx (fF n d))) : IsN C H0 H (.ref p) (.fr n d)
  | lst {p : Addr} {vs : List V} {ws : List Wv} (h : H p = some (.lst vs)) (n : H0 p = none) (e : IsNs C H0 H vs ws) : IsN C H0 H (.ref p) (.lst ws)
  | tup {p : Addr} {vs : List V} {ws : List Wv} (h : H p = some (.tup vs)) (e : IsNs C H0 H vs ws) : IsN C H0 H (.ref p) (.tup ws)
inductive IsNs (C : Addr) (H0 H : Hp) : List V → List Wv → Prop
  | nil : IsNs C H0 H [] []
  | cons {v : V} {w : Wv} {vs : List V} {ws : List Wv} (h : IsN C H0 H v w) (e : IsNs C H0 H vs ws) : IsNs C H0 H (v :: vs) (w :: ws)
end
mutual
theorem IsN.is {C : Addr} {H0 H : Hp} : ∀ {v : V} {w : Wv}, IsN C H0 H v w → IsW C H v w
  | _, _, .non => .non
  | _, _, .bl b => .bl b
  | _, _, .int i => .int i
  | _, _, .str s => .str s
  | _, _, .fr h => .fr h
  | _, _, .lst h _ e => .lst h (IsNs.is e)
  | _, _, .tup h e => .tup h (IsNs.is e)
theorem IsNs.is {C : Addr} {H0 H : Hp} : ∀ {vs : List V} {ws : List Wv}, IsNs C H0 H vs ws → IsWs C H vs ws
  | _, _, .nil => .nil
  | _, _, .cons h e => .cons (IsN.is h) (IsNs.is e)
end
/-! it stands in another heap, and was new in an older one -/
mutual
theorem IsN.go {C : Addr} {H0 H0' H H' : Hp} (e : ∀ q o, (∀ xs, o = .lst xs → H0 q = none) → H q = some o → H' q = some o) (f : ∀ q, H0 q = none → H0' q = none) : ∀ {v : V} {w : Wv}, IsN C H0 H v w → IsN C H0' H' v w
  | _, _, .non => .non
  | _, _, .bl b => .bl b
  | _, _, .int i => .int i
  | _, _, .str s => .str s
  | _, _, .fr h => .fr (e _ _ (fun _ z => by cases z) h)
  | _, _, .lst h n a => .lst (e _ _ (fun _ _ => n) h) (f _ n) (IsNs.go e f a)
  | _, _, .tup h a => .tup (e _ _ (fun _ z => by cases z) h) (IsNs.go e f a)
theorem IsNs.go {C : Addr} {H0 H0' H H' : Hp} (e : ∀ q o, (∀ xs, o = .lst xs → H0 q = none) → H q = some o → H' q = some o) (f : ∀ q, H0 q = none → H0' q = none) : ∀ {vs : List V} {ws : List Wv}, IsNs C H0 H vs ws → IsNs C H0' H' vs ws
  | _, _, .nil => .nil
  | _, _, .cons h a => .cons (IsN.go e f h) (IsNs.go e f a)
end
theorem IsN.same {C : Addr} {H0 H H' : Hp} {v : V} {w : Wv} (e : Same H H') (h : IsN C H0 H v w) : IsN C H0 H' v w := h.go (fun q o _ z => e q o z) fun _ z => z
theorem IsNs.at {C : Addr} {H0 H : Hp} : ∀ {vs : List V} {ws : List Wv} {i : Nat}, IsNs C H0 H vs ws → i < vs.length → ∃ v w, vs[i]? = some v ∧ ws[i]? = some w ∧ IsN C H0 H v w
  | _, _, _, .nil, h => absurd h (Nat.not_lt_zero _)
  | _, _, 0, .cons a _, _ => ⟨_, _, rfl, rfl, a⟩
  | _, _, i + 1, .cons _ a, h => IsNs.at (i := i) a (Nat.lt_of_succ_lt_succ h)
theorem IsN.but {K : PySem.W.Frag} {C b c : Addr} {ns : List Int} {H H1 H' : Hp} {v : V} {w : Wv} (B : BoxAt K H b c ns) (B1 : BoxAt K H1 b c ns) (e : But b H1 H') (h : IsN C H H1 v w) : IsN C H H' v w :=
  h.go (fun q o n z => e q o (fun eq => by
    subst eq
    obtain ⟨_, _, _, hb, _⟩ := B.ob
    obtain ⟨_, _, _, hb1, _⟩ := B1.ob
    rw [hb1] at z
    have z := (Option.some.inj z).symm
    rw [n _ z] at hb
    cases hb) z) fun _ z => z
theorem IsNs.but {K : PySem.W.Frag} {C b c : Addr} {ns : List Int} {H H1 H' : Hp} (B : BoxAt K H b c ns) (B1 : BoxAt K H1 b c ns) (e : But b H1 H') : ∀ {vs : List V} {ws : List Wv}, IsNs C H H1 vs ws → IsNs C H H' vs ws
  | _, _, .nil => .nil
  | _, _, .cons h a => .cons (h.but B B1 e) (IsNs.but B B1 e a)
theorem IsNs.len {C : Addr} {H0 H : Hp} : ∀ {vs : List V} {ws : List Wv}, IsNs C H0 H vs ws → vs.length = ws.length
  | _, _, .nil => rfl
  | _, _, .cons _ a => congrArg (· + 1) a.len
section
variable {P : Program} {w : World} {K : PySem.W.Frag} {mg : Str → Option Value} {base : Heap} {a : Ad}
/-! ### Frac.__init__ -/
def spFrac (C : Addr) : Sp := fun vs H Q _ => ∃ (p dx : Addr) (n d : Int), vs = [.ref p, .int n, .int d] ∧ H p = some (.ins C dx []) ∧ d ≠ 0 ∧ Big n ∧ Big d ∧ ∀ H', H' p = some (.ins C dx (fF (LN n d) (LD n d))) → (∀ b, b ≠ p → H' b = H b) → Q .non H'
theorem sc_Frac_init : FnScope ["self", "num", "den", "common"] ["self", "num", "den"] (defScope s_Frac_init) := ⟨rfl, rfl, rfl, by decide +kernel, rfl, by decide +kernel, by decide +kernel⟩
theorem ok_Frac_init (T : Txt K mg a) : FnOk P w K mg base CX0 2 a.a_Frac_init a.d_Frac_init ["self", "num", "den"] (spFrac a.C_Frac) := by
  refine T.fn_Frac_init.ok sc_Frac_init (fun vs H Q E h => ?_) (fun cdv A outer s H vs Q E hr h => ?_)
  · obtain ⟨p, dx, n, d, rfl, _⟩ := h
    rfl
  · obtain ⟨p, dx, n, d, rfl, hp, h0, bn, bd, k⟩ := h
    refine ⟨_, (pss_cons (ps_if (PW.pt (pw_or (pt_not (pt_val (pe_call (ok_is_whole T) (hr.mono (by decide)) (by rfl) T.mg_is_whole T.fn_is_whole.kp T.b_is_whole .nil pass0 (pa_cons (pv 1) pa_nil)))) (pw_or (pt_not (pt_val (pe_call (ok_is_whole T) (hr.mono (by decide)) (by rfl) T.mg_is_whole T.fn_is_whole.kp T.b_is_whole .nil pass0 (pa_cons (pv 2) pa_nil)))) (pw_or1 (pt_cmpR op_eq (pv 2) pe_int (nomark _)))))) (pss_one ps_never) pss_nil)
      (pss_cons (ps_set (i := 3) sc_Frac_init.nd rfl (Or.inl rfl) (pe_callBfun cr_gcd (by rfl) T.mg_gcd (pa_cons (pv 1) (pa_cons (pv 2) pa_nil))))
      (pss_cons (ps_if (pt_cmpR op_lt (pv 2) pe_int (nomark _)) (pss_one (ps_set (i := 3) sc_Frac_init.nd rfl (Or.inl rfl) (pe_un un_neg (pv 3)))) pss_nil)
      (pss_cons (ps_fld (pv 0) (pe_op op_fdivWN (pv 1) (pv 3)) rfl)
      (pss_one (ps_fld (pv 0) (pe_op op_fdivWN (pv 2) (pv 3)) rfl)))))), ?_⟩
    show (_ : TS) _ [some (V.ref p), some (V.int n), some (V.int d), none] H
    walk_at "rd"
    refine ⟨.int n, .int, rfl, .int n, _, rfl, ?_⟩
    rw [if_neg (by decide)]
    refine ⟨.int d, .int, rfl, .int d, _, rfl, ?_⟩
    rw [if_neg (by decide), if_neg h0]
    simp only [rGcd]
    walk_at "rd"
    have gd := gS_div (n := n) h0 bd
    refine ite2 (fun hn => ?_) (fun hn => ?_)
    · have e : gS n d = -((Nat.gcd n.natAbs d.natAbs : Nat) : Int) := if_pos hn
      rw [e] at gd
      refine ⟨gd, _, _, _, hp, T.cl_Frac, T.na_Frac_num, (by show 0 < 1000; decide), gd, T.cl_Frac, T.na_Frac_den, (by show 1 < 1000; decide), k _ ?_ fun b hb => by rw [upd_ne hb, upd_ne hb]⟩
      rw [upd_same]
      unfold fF LN LD
      rw [e]
    · have e : gS n d = ((Nat.gcd n.natAbs d.natAbs : Nat) : Int) := if_neg hn
      rw [e] at gd
      refine ⟨gd, _, _, _, hp, T.cl_Frac, T.na_Frac_num, (by show 0 < 1000; decide), gd, T.cl_Frac, T.na_Frac_den, (by show 1 < 1000; decide), k _ ?_ fun b hb => by rw [upd_ne hb, upd_ne hb]⟩
      rw [upd_same]
      unfold fF LN LD
      rw [e]
theorem b3 (T : Txt K mg a) : Binds K a.d_Frac_init ["self", "num", "den"] [] := by
  obtain ⟨ds, v, b⟩ := T.fn_Frac_init.binds1 (ps := ["self", "num", "den"]) 3 1 (by decide) rfl fun Tt kV doc pm an cdv ct us its hu hi => match us, its, hu, hi with | [_, _, _], [_], _, _ => ⟨_, rfl, by first | rfl | with_unfolding_all rfl | kernel_rfl⟩
  cases v
  exact b
theorem b2 (T : Txt K mg a) : ∃ ds, Vals [.int 1] ds ∧ Binds K a.d_Frac_init ["self", "num", "den"] ds :=
  T.fn_Frac_init.binds1 2 0 (by decide) rfl fun Tt kV doc pm an cdv ct us its hu hi => match us, its, hu, hi with | [_, _], [_], _, _ => ⟨_, rfl, by first | rfl | with_unfolding_all rfl | kernel_rfl⟩
/-- Frac(n, d) -/
theorem frac_made {C : Addr} {n d : Int} {H : Hp} {Q : VK} {E : XK} (hd : d ≠ 0) (bn : Big n) (bd : Big d) (k : ∀ x H', H x = none → FrV C H' x (LN n d) (LD n d) → Same H H' → Q (.ref x) H') :
    ∀ x dx, H x = none → H dx = none → dx ≠ x → spFrac C [.ref x, .int n, .int d] (upd (upd H dx (.own x)) x (.ins C dx [])) (fun v H2 => v = .non ∧ Q (.ref x) H2) E := fun x dx hx hdx hne =>
  ⟨x, dx, n, d, rfl, upd_same, hd, bn, bd, fun H' h1 h2 => ⟨rfl, k x H' hx ⟨dx, h1⟩ fun b o e => by
    rw [h2 b (ne_of_none e hx), upd_ne (ne_of_none e hx), upd_ne (ne_of_none e hdx)]
    exact e⟩⟩
theorem fr_made {C : Addr} {n : Nat} (hn : n < 4) {H1 : Hp} {x dx : Addr} {R : Hp → Prop} {E : XK} (hx : H1 x = none) (hdx : H1 dx = none) (hne : dx ≠ x) (k : ∀ H', H' x = some (.ins C dx (fF n 1)) → Same H1 H' → R H') :
    spFrac C [.ref x, .int n, .int 1] (upd (upd H1 dx (.own x)) x (.ins C dx [])) (fun v H2 => v = .non ∧ R H2) E := by
  have l : LN (n : Int) 1 = n := by match n, hn with | 0, _ => decide +kernel | 1, _ => decide +kernel | 2, _ => decide +kernel | 3, _ => decide +kernel
  have d : LD (n : Int) 1 = 1 := by match n, hn with | 0, _ => decide +kernel | 1, _ => decide +kernel | 2, _ => decide +kernel | 3, _ => decide +kernel
  have b : ∀ m : Nat, m < 4 → Big (m : Int) := fun m h => Nat.lt_of_lt_of_le (show ((m : Int)).natAbs < 2 ^ 2 by omega) (Nat.pow_le_pow_right (by decide) (by decide))
  refine ⟨x, dx, n, 1, rfl, upd_same, by decide, b n hn, b 1 (by decide), fun H' h1 h2 => ⟨rfl, ?_⟩⟩
  rw [l, d] at h1
  exact k H' h1 fun b o e => by
    rw [h2 b (ne_of_none e hx), upd_ne (ne_of_none e hx), upd_ne (ne_of_none e hdx)]
    exact e
end

end K05
namespace K05
open PySem PySem.Spec PyProof.Rows L2 Own OwnSeq OwnSet OwnComb OwnSort OwnHot OwnExN OwnProj
local macro_rules | `(tactic| walk_at "rd") => `(tactic| simp only [tSeq, tAsg, tOp, tUn, tVar, gName, gSub, rIxL, rIxT, rSetL, tC, rI0, rI, rU, rEq, rNe, tCons, tNil, tCB, tLst, tTup, tIfS, tAnd, tOr, tNot, tAndV, tOrV, tNotV, tTest, tB, tIf, tRet, tDrop, tNext, tBreak, tCont, tCall, tCallS, L2.WE, tMakeS, rIsS, rIsB, tChain, gSeq, gRest, gCons, gNil, tFor_seq, tFor_enumS, tLc_seq, tLc_enumS, rAny, rAll, L2.tMeth, StX.tStar, rIn, tLstRg, tRg1, tRg2, rSetI, rSortedSet, rInDT, rInD, rNotInD, rEqD, rNeD, iComb, tFld, tMake, tMkO, sFld, tOst, tNever, tBits, clv, isB,
  Rd.tFor_rng1, Rd.tFor_rng2, Rd.tFor_list, Rd.tFor_tup, Rd.tLc_list, Rd.tLc_tup, Rd.tLc_rng1, Rd.LcTurn, tYes, wipe, Rd.rLenL, Rd.rLenT, Rd.rIntI, Rd.rIxH, rIxHT,  HO.tup.injEq, Rd.at0, Rd.at1, Rd.at2, Rd.at3, Rd.ixN40, Rd.ixN41, Rd.ixN42, Rd.ixN43, Rd.scal_ii, cxOf,
  List.length_cons, List.length_nil, List.length_map, List.map_cons, List.map_nil, upd_same, decide_eq_true_eq, decide_true, decide_false, if_true, if_false, Bool.false_eq_true, Bool.not_true, Bool.not_false, HO.lst.injEq, HO.ins.injEq, List.set_cons_zero, List.set_cons_succ, List.getElem?_cons_zero, List.getElem?_cons_succ, List.append_nil, List.nil_append, List.cons_append, Option.some.injEq, V.ref.injEq, V.int.injEq, V.bl.injEq, List.cons.injEq, exists_eq_left', exists_and_left, exists_eq_left, true_and, and_true, and_self, and_assoc, implies_true, reduceCtorEq, Nat.reduceAdd])

theorem lenK {X : Cx} (K : PySem.W.Frag) (hK : X.K = K := by rfl) : CallR X (.builtin "len") fun xs H Q => ∃ p ys, xs = [V.ref p] ∧ (SqL K H p ys ∨ SqT K H p ys) ∧ Q (V.int ys.length) H := by
  subst hK
  exact call_len_seq
theorem seqOr {K : PySem.W.Frag} {H : Hp} {p : Addr} {l : Bool} {xs : List V} (h : H p = some (sq l xs)) : SqL K H p xs ∨ SqT K H p xs := by
  cases l with
  | true => exact .inl (SqL.of h)
  | false => exact .inr (SqT.of h)
/-! ### what fits -/
def elems : Wv → Option (List Wv)
  | .lst ws => some ws
  | .tup ws => some ws
  | _ => none
def rowB (lo hi : Int) (w : Wv) : Bool := match elems w with
  | some ws => decide (lo ≤ (ws.length : Int)) && decide ((ws.length : Int) ≤ hi)
  | none => false
def amtB (lo : Int) : Wv → Bool
  | .int i => decide (lo ≤ i) && decide (i ≤ 9999)
  | .fr n d => decide (lo ≤ n) && (decide (n ≤ 9999) && decide (d ≤ 99))
  | _ => false
def numP : Wv → Int × Int
  | .int i => (i, 1)
  | .fr n d => (n, d)
  | _ => (0, 1)
def intW : Wv → Int
  | .int i => i
  | _ => 0
def pairB (n z : Int) (w : Wv) : Bool := match elems w with
  | some [x, y] => inW 1 999 x && inW z (n - 1) y
  | _ => false
def pairD (w : Wv) : Int × Int := match elems w with
  | some [x, y] => (intW x, intW y)
  | _ => (0, 0)
def risB (n : Int) : Int → List Wv → Bool
  | _, [] => true
  | z, w :: ws => pairB n z w && risB n ((pairD w).2 + 1) ws
def goalsB (n : Int) (w : Wv) : Bool := match elems w with
  | some ws => decide (1 ≤ (ws.length : Int)) && decide ((ws.length : Int) ≤ 8) && risB n 0 ws
  | none => false
/-- a value that is a list or a tuple -/
theorem isw_elems {C : Addr} {H : Hp} {v : V} {w : Wv} {ws : List Wv} (h : IsW C H v w) (e : elems w = some ws) : ∃ p l xs, v = .ref p ∧ H p = some (sq l xs) ∧ IsWs C H xs ws := by
  cases h with
  | lst h a => cases e; exact ⟨_, true, _, rfl, h, a⟩
  | tup h a => cases e; exact ⟨_, false, _, rfl, h, a⟩
  | _ => cases e
theorem kd_elems (w : Wv) : (decide (kd w = .lst) || decide (kd w = .tup)) = (elems w).isSome := by cases w <;> rfl
theorem iw2 {C : Addr} {H : Hp} {xs : List V} {x y : Wv} (h : IsWs C H xs [x, y]) : ∃ u v, xs = [u, v] ∧ IsW C H u x ∧ IsW C H v y := by
  cases h with
  | cons h1 h => cases h with
    | cons h2 h => cases h; exact ⟨_, _, rfl, h1, h2⟩
def Nb (w : Wv) : Prop := ∀ i, w = .int i → Big i
section
variable {P : Program} {w : World} {K : PySem.W.Frag} {mg : Str → Option Value} {base : Heap} {a : Ad}
/-! ### is_row_of -/
def spRowOf (C : Addr) : Sp := fun vs H Q _ => ∃ (v : V) (w : Wv) (lo hi : Int), vs = [v, .int lo, .int hi] ∧ IsW C H v w ∧ ∀ H', Same H H' → Q (.bl (rowB lo hi w)) H'
theorem sc_is_row_of : FnScope ["value", "least", "most"] ["value", "least", "most"] (defScope s_is_row_of) := ⟨rfl, rfl, rfl, by decide +kernel, rfl, by decide +kernel, by decide +kernel⟩
theorem ok_is_row_of (T : Txt K mg a) : FnOk P w K mg base CX0 1 a.a_is_row_of a.d_is_row_of ["value", "least", "most"] (spRowOf a.C_Frac) := by
  refine T.fn_is_row_of.ok sc_is_row_of (fun vs H Q E h => ?_) (fun cdv A outer s H vs Q E hr h => ?_)
  · obtain ⟨v, w, lo, hi, rfl, _⟩ := h
    rfl
  · obtain ⟨v, w', lo, hi, rfl, t, k⟩ := h
    refine ⟨_, (pss_one (ps_ret (pe_and (pe_callB (call_isKS T) (by rfl) T.no_isinstance (by decide +kernel) (pa_cons (pv 0) (pa_cons (pe_tup (pa_cons (pe_bltn (v := .ty "list") (u := .type "list") (by rfl) T.no_list (by decide +kernel) rfl) (pa_cons (pe_bltn (v := .ty "tuple") (u := .type "tuple") (by rfl) T.no_tuple (by decide +kernel) rfl) pa_nil))) pa_nil))) (pe_one (pe_chain op_le op_le (pv 1) (pe_callB (lenK K) (by rfl) T.no_len PySem.boot_len (pa_cons (pv 0) pa_nil)) (pv 2)))))), ?_⟩
    show (_ : TS) _ [some v, some (V.int lo), some (V.int hi)] H
    walk_at "rd"
    refine ⟨by decide, fun p hp => ⟨v, kd w', p, rfl, upd_same, (t.same (same_upd hp)).kn, ?_⟩⟩
    refine ⟨_, rfl, ?_⟩
    rw [kd_elems]
    have e1 := same_upd (o := .tup [V.ty "list", V.ty "tuple"]) hp
    have k := k _ e1
    unfold rowB at k
    cases e : elems w' with
    | none =>
      rw [e] at k
      rw [if_neg (by decide)]
      exact k
    | some ws =>
      obtain ⟨q, l, xs, rfl, hq, iw⟩ := isw_elems t e
      rw [e] at k
      have k : Q (.bl (decide (lo ≤ (ws.length : Int)) && decide ((ws.length : Int) ≤ hi))) _ := k
      refine ite2 (fun _ => ?_) (fun h => absurd rfl h)
      refine ⟨q, rfl, xs, seqOr (e1 _ _ hq), ?_⟩
      rw [iw.len]
      exact ite2 (fun z => by rw [decide_eq_true z, Bool.true_and] at k; exact k) (fun z => by rw [decide_eq_false z, Bool.false_and] at k; exact k)
/-! ### as_frac -/
theorem LN_one (n : Int) : LN n 1 = n := by
  unfold LN gS
  rw [if_neg (by decide), show (1 : Int).natAbs = 1 from rfl, Nat.gcd_one_right]
  exact Int.fdiv_one n
theorem LD_one (n : Int) : LD n 1 = 1 := by
  unfold LD gS
  rw [if_neg (by decide), show (1 : Int).natAbs = 1 from rfl, Nat.gcd_one_right]
  rfl
theorem amt_ty {C : Addr} {H : Hp} {v : V} {w : Wv} (h : IsW C H v w) (g : kd w = .int ∨ kd w = .fr) : (v = .int (numP w).1 ∧ w = .int (numP w).1 ∧ (numP w).2 = 1) ∨ ∃ p dx, v = .ref p ∧ H p = some (.ins C dx (fF (numP w).1 (numP w).2)) ∧ kd w = .fr := by
  cases h with
  | int i => exact .inl ⟨rfl, rfl, rfl⟩
  | fr h => exact .inr ⟨_, _, rfl, h, rfl⟩
  | _ => rcases g with g | g <;> cases g
def spAs (C : Addr) : Sp := fun vs H Q _ => ∃ (v : V) (w : Wv), vs = [v] ∧ IsW C H v w ∧ (kd w = .int ∨ kd w = .fr) ∧ Nb w ∧ ∀ q dq H', Same H H' → H' q = some (.ins C dq (fF (numP w).1 (numP w).2)) → Q (.ref q) H'
theorem sc_as_frac : FnScope ["value"] ["value"] (defScope s_as_frac) := ⟨rfl, rfl, rfl, by decide +kernel, rfl, by decide +kernel, by decide +kernel⟩
theorem ok_as_frac (T : Txt K mg a) : FnOk P w K mg base CX0 5 a.a_as_frac a.d_as_frac ["value"] (spAs a.C_Frac) := by
  refine T.fn_as_frac.ok sc_as_frac (fun vs H Q E h => ?_) (fun cdv A outer s H vs Q E hr h => ?_)
  · obtain ⟨v, w, rfl, _⟩ := h
    rfl
  · obtain ⟨v, w', rfl, t, g, nb, k⟩ := h
    obtain ⟨ds2, b2v, b2b⟩ := b2 T
    refine ⟨_, (pss_cons (ps_if (pt_val (pe_callB (call_isF T) (by rfl) T.no_isinstance (by decide +kernel) (pa_cons (pv 0) (pa_cons (pe_glob (v := .ref a.C_Frac) rfl T.mg_Frac rfl) pa_nil)))) (pss_one (ps_ret (pv 0))) pss_nil)
      (pss_cons (ps_if (pt_not (pt_val (pe_call (ok_is_whole T) (hr.mono (by decide)) (by rfl) T.mg_is_whole T.fn_is_whole.kp T.b_is_whole .nil pass0 (pa_cons (pv 0) pa_nil)))) (pss_one ps_never) pss_nil)
      (pss_one (ps_ret (pe_make T.mk_Frac (ok_Frac_init T) (hr.mono (by decide)) (by rfl) T.mg_Frac b2b b2v pass0 (pa_cons (pv 0) pa_nil)))))), ?_⟩
    show (_ : TS) _ [some v] H
    walk_at "rd"
    refine ⟨v, kd w', rfl, t.kn, _, rfl, ?_⟩
    rcases amt_ty t g with ⟨hv, hw, e1⟩ | ⟨p, dx, rfl, hp, e1⟩
    · generalize (numP w').1 = i at hv hw k
      subst hw hv
      refine ite2 (fun (h : false = true) => nomatch h) (fun _ => ?_)
      refine ⟨_, .int, rfl, .int _, _, rfl, ?_⟩
      rw [if_neg (by decide)]
      refine frac_made (by decide) (nb i rfl) (by decide +kernel) fun x H' _ ⟨dx, h⟩ e => k x dx H' e ?_
      rw [LN_one, LD_one] at h
      exact h
    · rw [e1, if_pos (by decide)]
      exact k p dx H (fun _ _ z => z) hp
/-! ### is_amount, is_cost -/
def spAmt (C : Addr) (lo : Int) : Sp := fun vs H Q _ => ∃ (v : V) (w : Wv), vs = [v] ∧ IsW C H v w ∧ Nb w ∧ ∀ H', Same H H' → Q (.bl (amtB lo w)) H'
theorem amt_eq {lo : Int} {w : Wv} (g : kd w = .int ∨ kd w = .fr) : amtB lo w = (decide (lo ≤ (numP w).1) && (decide ((numP w).1 ≤ 9999) && decide ((numP w).2 ≤ 99))) := by
  cases w with
  | int i =>
    show (decide (lo ≤ i) && decide (i ≤ 9999)) = (decide (lo ≤ i) && (decide (i ≤ 9999) && true))
    rw [Bool.and_true]
  | fr n d => rfl
  | _ => rcases g with g | g <;> cases g
theorem amt_no {lo : Int} {w : Wv} (g1 : kd w ≠ .int) (g2 : kd w ≠ .fr) : amtB lo w = false := by
  cases w with
  | int i => exact absurd rfl g1
  | fr n d => exact absurd rfl g2
  | _ => rfl
theorem sc_is_amount : FnScope ["value", "frac"] ["value"] (defScope s_is_amount) := ⟨rfl, rfl, rfl, by decide +kernel, rfl, by decide +kernel, by decide +kernel⟩
theorem ok_is_amount (T : Txt K mg a) : FnOk P w K mg base CX0 6 a.a_is_amount a.d_is_amount ["value"] (spAmt a.C_Frac (-9999)) := by
  refine T.fn_is_amount.ok sc_is_amount (fun vs H Q E h => ?_) (fun cdv A outer s H vs Q E hr h => ?_)
  · obtain ⟨v, w, rfl, _⟩ := h
    rfl
  · obtain ⟨v, w', rfl, t, nb, k⟩ := h
    obtain ⟨t1, mg_MOST_NUM⟩ := T.mg_MOST_NUM
    obtain ⟨t2, mg_MOST_DEN⟩ := T.mg_MOST_DEN
    refine ⟨_, (pss_cons (ps_if (PW.pt (pw_and (pt_not (pt_val (pe_callB (call_isF T) (by rfl) T.no_isinstance (by decide +kernel) (pa_cons (pv 0) (pa_cons (pe_glob (v := .ref a.C_Frac) rfl T.mg_Frac rfl) pa_nil))))) (pw_and1 (pt_not (pt_val (pe_call (ok_is_whole T) (hr.mono (by decide)) (by rfl) T.mg_is_whole T.fn_is_whole.kp T.b_is_whole .nil pass0 (pa_cons (pv 0) pa_nil))))))) (pss_one (ps_ret pe_bl)) pss_nil)
      (pss_cons (ps_set (i := 1) sc_is_amount.nd rfl (Or.inl rfl) (pe_call (ok_as_frac T) (hr.mono (by decide)) (by rfl) T.mg_as_frac T.fn_as_frac.kp T.b_as_frac .nil pass0 (pa_cons (pv 0) pa_nil)))
      (pss_one (ps_ret (pe_and (pe_chain op_le op_le (pe_un un_neg (pe_glob (v := .int 9999) rfl mg_MOST_NUM ⟨_, rfl⟩)) (pe_fldK K (pv 1)) (pe_glob (v := .int 9999) rfl mg_MOST_NUM ⟨_, rfl⟩)) (pe_one (pe_cmpR op_le (pe_fldK K (pv 1)) (pe_glob (v := .int 99) rfl mg_MOST_DEN ⟨_, rfl⟩) (nomark _)))))))), ?_⟩
    show (_ : TS) _ [some v, none] H
    walk_at "rd"
    have go : (kd w' = .int ∨ kd w' = .fr) → ∀ {q dq : Addr} {H1 : Hp}, Same H H1 → H1 q = some (.ins a.C_Frac dq (fF (numP w').1 (numP w').2)) → (if -9999 ≤ (numP w').1 then (if (numP w').1 ≤ 9999 then Q (V.bl (decide ((numP w').2 ≤ 99))) H1 else Q (V.bl false) H1) else Q (V.bl false) H1) := fun g {q dq H1} e1 hq => by
      have k := k H1 e1
      rw [amt_eq g] at k
      refine ite2 (fun h1 => ?_) (fun h1 => ?_)
      · rw [decide_eq_true h1, Bool.true_and] at k
        refine ite2 (fun h2 => ?_) (fun h2 => ?_)
        · rw [decide_eq_true h2, Bool.true_and] at k
          exact k
        · rw [decide_eq_false h2, Bool.false_and] at k
          exact k
      · rw [decide_eq_false h1, Bool.false_and] at k
        exact k
    refine ⟨v, kd w', rfl, t.kn, _, rfl, ?_⟩
    by_cases gf : kd w' = .fr
    · rw [gf, if_neg (by decide)]
      refine ⟨v, w', rfl, t, .inr gf, nb, fun q dq H1 e1 hq => ⟨q, rfl, _, _, _, hq, T.cl_Frac, T.na_Frac_num, _, fF_num _ _, _, rfl, ?_⟩⟩
      have z := go (.inr gf) e1 hq
      refine ite2 (fun h1 => ⟨_, rfl, ite2 (fun h2 => ⟨q, rfl, _, _, _, hq, T.cl_Frac, T.na_Frac_den, _, fF_den _ _, _, rfl, ?_⟩) (fun h2 => ?_)⟩) (fun h1 => ?_)
      · rw [if_pos h1, if_pos h2] at z; exact z
      · rw [if_pos h1, if_neg h2] at z; exact z
      · rw [if_neg h1] at z; exact z
    · have e0 : isK (kd w') .fr = false := decide_eq_false gf
      rw [e0, if_pos (by decide)]
      refine ⟨v, kd w', rfl, t.kn, _, rfl, ?_⟩
      by_cases gi : kd w' = .int
      · rw [gi, if_neg (by decide)]
        refine ⟨v, w', rfl, t, .inl gi, nb, fun q dq H1 e1 hq => ⟨q, rfl, _, _, _, hq, T.cl_Frac, T.na_Frac_num, _, fF_num _ _, _, rfl, ?_⟩⟩
        have z := go (.inl gi) e1 hq
        refine ite2 (fun h1 => ⟨_, rfl, ite2 (fun h2 => ⟨q, rfl, _, _, _, hq, T.cl_Frac, T.na_Frac_den, _, fF_den _ _, _, rfl, ?_⟩) (fun h2 => ?_)⟩) (fun h1 => ?_)
        · rw [if_pos h1, if_pos h2] at z; exact z
        · rw [if_pos h1, if_neg h2] at z; exact z
        · rw [if_neg h1] at z; exact z
      · rw [decide_eq_false gi, if_pos (by decide)]
        have k := k H (Same.refl _)
        rw [amt_no gi gf] at k
        exact k
theorem sc_is_cost : FnScope ["value"] ["value"] (defScope s_is_cost) := ⟨rfl, rfl, rfl, by decide +kernel, rfl, by decide +kernel, by decide +kernel⟩
theorem ok_is_cost (T : Txt K mg a) : FnOk P w K mg base CX0 7 a.a_is_cost a.d_is_cost ["value"] (spAmt a.C_Frac 0) := by
  refine T.fn_is_cost.ok sc_is_cost (fun vs H Q E h => ?_) (fun cdv A outer s H vs Q E hr h => ?_)
  · obtain ⟨v, w, rfl, _⟩ := h
    rfl
  · obtain ⟨v, w', rfl, t, nb, k⟩ := h
    refine ⟨_, (pss_one (ps_ret (pe_and (pe_call (ok_is_amount T) (hr.mono (by decide)) (by rfl) T.mg_is_amount T.fn_is_amount.kp T.b_is_amount .nil pass0 (pa_cons (pv 0) pa_nil)) (pe_one (pe_cmpR op_ge (pe_fldK K (pe_call (ok_as_frac T) (hr.mono (by decide)) (by rfl) T.mg_as_frac T.fn_as_frac.kp T.b_as_frac .nil pass0 (pa_cons (pv 0) pa_nil))) pe_int (nomark _)))))), ?_⟩
    show (_ : TS) _ [some v] H
    walk_at "rd"
    refine ⟨v, w', rfl, t, nb, fun H1 e1 => ⟨_, rfl, ?_⟩⟩
    cases z : amtB (-9999) w' with
    | false =>
      rw [if_neg (by decide)]
      have k := k H1 e1
      have : amtB 0 w' = false := by
        by_cases g : kd w' = .int ∨ kd w' = .fr
        · rw [amt_eq g] at z ⊢
          by_cases h : (0 : Int) ≤ (numP w').1
          · rw [decide_eq_true (show (-9999 : Int) ≤ (numP w').1 by omega), Bool.true_and] at z
            rw [z, Bool.and_false]
          · rw [decide_eq_false h, Bool.false_and]
        · exact amt_no (fun e => g (.inl e)) (fun e => g (.inr e))
      rw [this] at k
      exact k
    | true =>
      rw [if_pos rfl]
      have g : kd w' = .int ∨ kd w' = .fr := by
        by_cases g : kd w' = .int ∨ kd w' = .fr
        · exact g
        · rw [amt_no (fun e => g (.inl e)) (fun e => g (.inr e))] at z; cases z
      refine ⟨v, w', rfl, t.same e1, g, nb, fun q dq H2 e2 hq => ⟨q, rfl, _, _, _, hq, T.cl_Frac, T.na_Frac_num, _, fF_num _ _, _, rfl, ?_⟩⟩
      have k := k H2 (e1.trans e2)
      rw [amt_eq g] at z k
      rw [Bool.and_eq_true] at z
      rw [z.2, Bool.and_true] at k
      exact k
/-! ### are_goals -/
def spGoals (C : Addr) : Sp := fun vs H Q _ => ∃ (v : V) (w : Wv) (n : Int), vs = [v, .int n] ∧ IsW C H v w ∧ ∀ H', Same H H' → Q (.bl (goalsB n w)) H'
theorem sc_are_goals : FnScope ["goals", "states", "least", "goal", "weight", "state"] ["goals", "states"] (defScope s_are_goals) := ⟨rfl, rfl, rfl, by decide +kernel, rfl, by decide +kernel, by decide +kernel⟩
theorem ok_are_goals (T : Txt K mg a) : FnOk P w K mg base CX0 3 a.a_are_goals a.d_are_goals ["goals", "states"] (spGoals a.C_Frac) := by
  refine T.fn_are_goals.ok sc_are_goals (fun vs H Q E h => ?_) (fun cdv A outer s H vs Q E hr h => ?_)
  · obtain ⟨v, w, n, rfl, _⟩ := h
    rfl
  · obtain ⟨v, w', n, rfl, t, k⟩ := h
    obtain ⟨t1, mg_MOST_GOALS⟩ := T.mg_MOST_GOALS
    obtain ⟨t2, mg_MOST_WEIGHT⟩ := T.mg_MOST_WEIGHT
    refine ⟨_, (pss_cons (ps_if (pt_not (pt_val (pe_call (ok_is_row_of T) (hr.mono (by decide)) (by rfl) T.mg_is_row_of T.fn_is_row_of.kp T.b_is_row_of .nil pass0 (pa_cons (pv 0) (pa_cons pe_int (pa_cons (pe_glob (v := .int 8) rfl mg_MOST_GOALS ⟨_, rfl⟩) pa_nil)))))) (pss_one (ps_ret pe_bl)) pss_nil)
      (pss_cons (ps_set (i := 2) sc_are_goals.nd rfl (Or.inl rfl) pe_int)
      (pss_cons (ps_for PassesOwn.never rfl (pi_seq (pv 0)) (pg_name (i := 3) sc_are_goals.nd rfl (Or.inl rfl))
        (pss_cons (ps_if (pt_not (pt_val (pe_call (ok_is_row_of T) (hr.mono (by decide)) (by rfl) T.mg_is_row_of T.fn_is_row_of.kp T.b_is_row_of .nil pass0 (pa_cons (pv 3) (pa_cons pe_int (pa_cons pe_int pa_nil)))))) (pss_one (ps_ret pe_bl)) pss_nil)
        (pss_cons (ps_asg (pv 3) (pg_seq (n := 2) rfl (pgs_cons (pg_name (i := 4) sc_are_goals.nd rfl (Or.inl rfl)) (pgs_cons (pg_name (i := 5) sc_are_goals.nd rfl (Or.inl rfl)) pgs_nil))))
        (pss_cons (ps_if (PW.pt (pw_or (pt_not (pt_val (pe_call (ok_is_within T) (hr.mono (by decide)) (by rfl) T.mg_is_within T.fn_is_within.kp T.b_is_within .nil pass0 (pa_cons (pv 4) (pa_cons pe_int (pa_cons (pe_glob (v := .int 999) rfl mg_MOST_WEIGHT ⟨_, rfl⟩) pa_nil)))))) (pw_or1 (pt_not (pt_val (pe_call (ok_is_within T) (hr.mono (by decide)) (by rfl) T.mg_is_within T.fn_is_within.kp T.b_is_within .nil pass0 (pa_cons (pv 5) (pa_cons (pv 2) (pa_cons (pe_op op_sub (pv 1) pe_int) pa_nil))))))))) (pss_one (ps_ret pe_bl)) pss_nil)
        (pss_one (ps_set (i := 2) sc_are_goals.nd rfl (Or.inl rfl) (pe_op op_add (pv 5) pe_int)))))))
      (pss_one (ps_ret pe_bl))))), ?_⟩
    show (_ : TS) _ [some v, some (V.int n), none, none, none, none] H
    walk_at "rd"
    refine ⟨v, w', 1, 8, rfl, t, fun H1 e1 => ⟨_, rfl, ?_⟩⟩
    unfold rowB
    unfold goalsB at k
    cases e : elems w' with
    | none =>
      rw [if_pos (by decide)]
      have k := k H1 e1
      rw [e] at k
      exact k
    | some ws =>
      rw [e] at k
      have k : ∀ H', Same H H' → Q (.bl (decide ((1 : Int) ≤ (ws.length : Int)) && decide ((ws.length : Int) ≤ 8) && risB n 0 ws)) H' := k
      show (if (!(decide ((1 : Int) ≤ (ws.length : Int)) && decide ((ws.length : Int) ≤ 8))) = true then _ else _)
      cases z : (decide ((1 : Int) ≤ (ws.length : Int)) && decide ((ws.length : Int) ≤ 8)) with
      | false =>
        rw [if_pos (by decide)]
        have k := k H1 e1
        rw [z] at k
        exact k
      | true =>
        rw [if_neg (by decide)]
        rw [z] at k
        obtain ⟨p, l, xs, rfl, hp, iw⟩ := isw_elems t e
        have len := iw.len
        refine ⟨p, rfl, l, xs, e1 _ _ hp, loop_goes goes_seq (fun σ H' => ∃ z o3 o4 o5, σ = [some (V.ref p), some (V.int n), some (V.int z), o3, o4, o5] ∧ Same H H' ∧ risB n 0 ws = true) (fun i σ H' => ∃ z o3 o4 o5, σ = [some (V.ref p), some (V.int n), some (V.int z), o3, o4, o5] ∧ Same H H' ∧ risB n 0 ws = risB n z (ws.drop i))
          ⟨0, none, none, none, rfl, e1, rfl⟩ (fun i σ H' _ ⟨_, _, _, _, _, e, _⟩ => e _ _ hp) ?_ (fun σ H' ⟨z, o3, o4, o5, q1, q2, q3⟩ => ⟨z, o3, o4, o5, q1, q2, by rw [q3, len, List.drop_length]; rfl⟩) ?_⟩
        · rintro bk hbk i x σ H2 H2' hi ⟨z, o3, o4, o5, rfl, e2, rs⟩ ⟨rfl, hx⟩
          obtain ⟨g, hg, gw⟩ := (iw.same e2).at hx
          have dr : ws.drop i = g :: ws.drop (i + 1) := by
            rw [List.drop_eq_getElem_cons (List.getElem?_eq_some_iff.mp hg).1, (List.getElem?_eq_some_iff.mp hg).2]
          rw [dr] at rs
          have rs : risB n 0 ws = (pairB n z g && risB n ((pairD g).2 + 1) (ws.drop (i + 1))) := rs
          have no : pairB n z g = false → ∀ H', Same H H' → Q (.bl false) H' := fun h H' e' => by
            have k := k H' e'
            rw [rs, h] at k
            exact k
          walk_at "rd"
          refine ⟨x, g, 2, 2, rfl, gw, fun H3 e3 => ⟨_, rfl, ?_⟩⟩
          have e23 := e2.trans e3
          unfold rowB
          cases eg : elems g with
          | none =>
            rw [if_pos (by decide)]
            exact no (by unfold pairB; rw [eg]) H3 e23
          | some gs =>
            show (if (!(decide ((2 : Int) ≤ (gs.length : Int)) && decide ((gs.length : Int) ≤ 2))) = true then _ else _)
            obtain ⟨q, l', ys, rfl, hq, gi⟩ := isw_elems gw eg
            match gs, eg, gi with
            | [], eg, gi => rw [if_pos (by decide)]; exact no (by unfold pairB; rw [eg]) H3 e23
            | [_], eg, gi => exact ite2 (fun _ => no (by unfold pairB; rw [eg]) H3 e23) (fun h => absurd rfl h)
            | g1 :: g2 :: g3 :: gr, eg, gi =>
              rw [decide_eq_false (show ¬ (((g1 :: g2 :: g3 :: gr).length : Nat) : Int) ≤ 2 by simp only [List.length_cons]; omega), Bool.and_false, if_pos (by decide)]
              exact no (by unfold pairB; rw [eg]) H3 e23
            | [wx, wy], eg, gi =>
              refine ite2 (fun (h : false = true) => nomatch h) (fun _ => ?_)
              obtain ⟨ux, uy, rfl, hux, huy⟩ := iw2 gi
              have pb : pairB n z g = (inW 1 999 wx && inW z (n - 1) wy) := by unfold pairB; rw [eg]
              have pd : (pairD g).2 = intW wy := by unfold pairD; rw [eg]
              refine ⟨q, rfl, l', _, e3 _ _ hq, rfl, _, _, rfl, _, _, rfl, rfl, ux, wx, 1, 999, rfl, hux.same e3, _, rfl, ?_⟩
              cases b1 : inW 1 999 wx with
              | false =>
                rw [if_pos (by decide)]
                exact no (by rw [pb, b1]; rfl) H3 e23
              | true =>
                rw [if_neg (by decide)]
                refine ⟨uy, wy, z, n - 1, rfl, huy.same e3, _, rfl, ?_⟩
                cases b2 : inW z (n - 1) wy with
                | false =>
                  rw [if_pos (by decide)]
                  exact no (by rw [pb, b1, b2]; rfl) H3 e23
                | true =>
                  rw [if_neg (by decide)]
                  rw [pb, b1, b2, pd] at rs
                  cases huy with
                  | int i => exact ⟨i, rfl, e23, rs⟩
                  | _ => cases b2
        · rintro σ H2 ⟨z, o3, o4, o5, rfl, e2, r⟩
          have k := k H2 e2
          rw [r] at k
          exact k
end

end K05
namespace K05
open PySem PySem.Spec PyProof.Rows L2 Own OwnSeq OwnSet OwnComb OwnSort OwnHot OwnExN OwnProj
local macro_rules | `(tactic| walk_at "rd") => `(tactic| simp only [tSeq, tAsg, tOp, tUn, tVar, gName, gSub, rIxL, rIxT, rSetL, tC, rI0, rI, rU, rEq, rNe, tCons, tNil, tCB, tLst, tTup, tIfS, tAnd, tOr, tNot, tAndV, tOrV, tNotV, tTest, tB, tIf, tRet, tDrop, tNext, tBreak, tCont, tCall, tCallS, L2.WE, tMakeS, rIsS, rIsB, tChain, gSeq, gRest, gCons, gNil, tFor_seq, tFor_enumS, tLc_seq, tLc_enumS, rAny, rAll, L2.tMeth, StX.tStar, rIn, tLstRg, tRg1, tRg2, rSetI, rSortedSet, rInDT, rInD, rNotInD, rEqD, rNeD, iComb, tFld, tMake, tMkO, sFld, tOst, tNever, tBits, clv, isB,
  Rd.tFor_rng1, Rd.tFor_rng2, Rd.tFor_list, Rd.tFor_tup, Rd.tLc_list, Rd.tLc_tup, Rd.tLc_rng1, Rd.LcTurn, tYes, wipe, Rd.rLenL, Rd.rLenT, Rd.rIntI, Rd.rIxH, rIxHT,  HO.tup.injEq, Rd.at0, Rd.at1, Rd.at2, Rd.at3, Rd.ixN40, Rd.ixN41, Rd.ixN42, Rd.ixN43, Rd.scal_ii, cxOf,
  List.length_cons, List.length_nil, List.length_map, List.map_cons, List.map_nil, upd_same, decide_eq_true_eq, decide_true, decide_false, if_true, if_false, Bool.false_eq_true, Bool.not_true, Bool.not_false, HO.lst.injEq, HO.ins.injEq, List.set_cons_zero, List.set_cons_succ, List.getElem?_cons_zero, List.getElem?_cons_succ, List.append_nil, List.nil_append, List.cons_append, Option.some.injEq, V.ref.injEq, V.int.injEq, V.bl.injEq, List.cons.injEq, exists_eq_left', exists_and_left, exists_eq_left, true_and, and_true, and_self, and_assoc, implies_true, reduceCtorEq, Nat.reduceAdd])

theorem cut {t u : TS} {D : Ends} {σ : L2.St} {H : Hp} (G : L2.St → Hp → Prop) (h : ∀ R : L2.St → Hp → Prop, (∀ σ H, G σ H → R σ H) → t { D with nx := R } σ H) (k : ∀ σ H, G σ H → u D σ H) : tSeq t u D σ H := h (u D) k
theorem eqD_at {X : Cx} (K : PySem.W.Frag) (hu : X.A.units + 64 < cLine) (hK : X.K = K := by rfl) : OpR X (compareOp .Eq) (rEqD K) := by
  subst hK
  exact op_eqD hu
/-! ### values as data -/
inductive Pl : Nat → Wv → Prop
  | non {d} : Pl d .non
  | bl {d} (b : Bool) : Pl d (.bl b)
  | int {d} (i : Int) : Pl d (.int i)
  | str {d} {s : Str} (h : PyData.strOk s = true) : Pl d (.str s)
  | lst {d} {ws : List Wv} (h : ∀ w ∈ ws, Pl d w) : Pl (d + 1) (.lst ws)
  | tup {d} {ws : List Wv} (h : ∀ w ∈ ws, Pl d w) : Pl (d + 1) (.tup ws)
mutual
def toD : Wv → PyData
  | .non => .none
  | .bl b => .bool b
  | .int i => .int i
  | .str s => .str s
  | .fr _ _ => .none
  | .lst ws => .list (toDs ws)
  | .tup ws => .tuple (toDs ws)
def toDs : List Wv → List PyData
  | [] => []
  | w :: ws => toD w :: toDs ws
end
mutual
theorem pl_dp {K : PySem.W.Frag} {C : Addr} {H : Hp} : ∀ {v : V} {w : Wv} {d : Nat}, IsW C H v w → Pl d w → Dp K H v (toD w) ∧ (toD w).canLay0 = true ∧ (toD w).depth ≤ d
  | _, _, _, .non, _ => ⟨.non, by simp [toD, PyData.canLay0], by simp [toD, PyData.depth]⟩
  | _, _, _, .bl b, _ => ⟨.bl b, by simp [toD, PyData.canLay0], by simp [toD, PyData.depth]⟩
  | _, _, _, .int i, _ => ⟨.int i, by simp [toD, PyData.canLay0], by simp [toD, PyData.depth]⟩
  | _, _, _, .str s, .str h => ⟨.str s, by simp [toD, PyData.canLay0, h], by simp [toD, PyData.depth]⟩
  | _, _, _, .lst h e, .lst hd => by
    obtain ⟨a, b, c⟩ := pls_dp (K := K) e hd
    exact ⟨.lst (SqL.of h) a, by simp only [toD, PyData.canLay0, b], by simp only [toD, PyData.depth]; omega⟩
  | _, _, _, .tup h e, .tup hd => by
    obtain ⟨a, b, c⟩ := pls_dp (K := K) e hd
    exact ⟨.tup (SqT.of h) a, by simp only [toD, PyData.canLay0, b], by simp only [toD, PyData.depth]; omega⟩
theorem pls_dp {K : PySem.W.Frag} {C : Addr} {H : Hp} : ∀ {vs : List V} {ws : List Wv} {d : Nat}, IsWs C H vs ws → (∀ w ∈ ws, Pl d w) → DpAll K H vs (toDs ws) ∧ PyData.canLayAll0 (toDs ws) = true ∧ PyData.depthAll (toDs ws) ≤ d
  | _, _, _, .nil, _ => ⟨.nil, by simp [toDs, PyData.canLayAll0], by simp [toDs, PyData.depthAll]⟩
  | _, _, _, .cons h e, hd => by
    obtain ⟨a1, b1, c1⟩ := pl_dp (K := K) h (hd _ List.mem_cons_self)
    obtain ⟨a, b, c⟩ := pls_dp (K := K) e fun w m => hd w (List.mem_cons_of_mem _ m)
    exact ⟨.cons a1 a, by simp only [toDs, PyData.canLayAll0, b, b1, Bool.and_self], by simp only [toDs, PyData.depthAll]; omega⟩
end
def isS (s : Str) : Wv → Bool
  | .str t => decide (t = s)
  | _ => false
theorem eqv_str {w : Wv} {s : Str} : PyData.eqv (toD w) (.str s) = isS s w := by
  cases w with
  | str t =>
    simp only [toD, PyData.eqv, isS]
    exact Bool.eq_iff_iff.mpr (by rw [beq_iff_eq, decide_eq_true_eq])
  | _ => simp [toD, PyData.eqv, isS]
theorem sh_str {s : Str} (h : PyData.strOk s = true) : SeqAt.shaped (.str s) = true := by
  unfold SeqAt.shaped
  rw [show (PyData.str s).canLay0 = PyData.strOk s by simp only [PyData.canLay0], h, show (PyData.str s).depth = 0 by simp only [PyData.depth]]
  decide
theorem sh_pl {w : Wv} {d : Nat} (d8 : d ≤ 12) (a : (toD w).canLay0 = true) (b : (toD w).depth ≤ d) : SeqAt.shaped (toD w) = true := by
  unfold SeqAt.shaped
  rw [a, Bool.true_and]
  exact decide_eq_true (by omega)
theorem wif {K : PySem.W.Frag} {C : Addr} {H : Hp} {v : V} {w : Wv} {s : Str} {A B : Prop} (hv : IsW C H v w) (hp : Pl 8 w) (hs : PyData.strOk s = true) (ka : isS s w = true → A) (kb : isS s w = false → B) :
    ∃ d, Dp K H v d ∧ ∃ x, Dp K H (.str s) x ∧ SeqAt.shaped d = true ∧ SeqAt.shaped x = true ∧ if d.eqv x = true then A else B := by
  obtain ⟨a, b, c⟩ := pl_dp (K := K) hv hp
  refine ⟨_, a, _, .str s, sh_pl (by decide) b c, sh_str hs, ?_⟩
  rw [eqv_str]
  exact ite2 ka fun h => kb (Bool.eq_false_iff.mpr h)
theorem ok_void : PyData.strOk "void" = true := by decide +kernel
theorem ok_end : PyData.strOk "end" = true := by decide +kernel
theorem ok_step : PyData.strOk "step" = true := by decide +kernel
/-! ### rows -/
inductive RowD
  | void
  | fin (n d : Int)
  | step (n d : Int) (gs : List (Int × Int))
def fitB (n : Int) (w : Wv) : Bool := match elems w with
  | some [k] => isS "void" k
  | some [k, x] => isS "end" k && amtB (-9999) x
  | some [k, x, g] => isS "step" k && (amtB 0 x && goalsB n g)
  | _ => false
def rowD (w : Wv) : RowD := match elems w with
  | some [_, x] => .fin (numP x).1 (numP x).2
  | some [_, x, g] => .step (numP x).1 (numP x).2 (((elems g).getD []).map pairD)
  | _ => .void
def RowOk (w : Wv) : Prop := ∀ ws, elems w = some ws → (∀ x rest, ws = x :: rest → Pl 8 x) ∧ ∀ x ∈ ws, Nb x
/-- a goal's pair as a new tuple -/
def TupV (H : Hp) : List V → List (Int × Int) → Prop
  | [], [] => True
  | v :: vs, g :: gs => (∃ q, v = .ref q ∧ H q = some (.tup [.int g.1, .int g.2])) ∧ TupV H vs gs
  | _, _ => False
theorem TupV.same {H H' : Hp} (e : Same H H') : ∀ {vs : List V} {gs : List (Int × Int)}, TupV H vs gs → TupV H' vs gs
  | [], [], _ => trivial
  | _ :: _, _ :: _, ⟨⟨q, a, b⟩, r⟩ => ⟨⟨q, a, e _ _ b⟩, TupV.same e r⟩
  | [], _ :: _, h => h.elim
  | _ :: _, [], h => h.elim
theorem TupV.upd {H : Hp} {D : Addr} {xs : List V} {o : HO} (h : H D = some (.lst xs)) : ∀ {vs : List V} {gs : List (Int × Int)}, TupV H vs gs → TupV (upd H D o) vs gs
  | [], [], _ => trivial
  | _ :: _, _ :: _, ⟨⟨q, a, b⟩, r⟩ => ⟨⟨q, a, by rw [upd_ne (fun z => by rw [z, h] at b; cases b)]; exact b⟩, TupV.upd h r⟩
  | [], _ :: _, h => h.elim
  | _ :: _, [], h => h.elim
theorem TupV.app {H : Hp} : ∀ {vs ws : List V} {gs hs : List (Int × Int)}, TupV H vs gs → TupV H ws hs → TupV H (vs ++ ws) (gs ++ hs)
  | [], _, [], _, _, h => h
  | _ :: _, _, _ :: _, _, ⟨a, r⟩, h => ⟨a, TupV.app r h⟩
  | [], _, _ :: _, _, h, _ => h.elim
  | _ :: _, _, [], _, h, _ => h.elim
/-- a row as it is kept -/
def CleanV (C : Addr) (H : Hp) (v : V) (r : RowD) : Prop := ∃ p, v = .ref p ∧ match r with
  | .void => H p = some (.tup [.str "void"])
  | .fin n d => ∃ q dx, H p = some (.tup [.str "end", .ref q]) ∧ H q = some (.ins C dx (fF n d))
  | .step n d gs => ∃ q dx t ys, H p = some (.tup [.str "step", .ref q, .ref t]) ∧ H q = some (.ins C dx (fF n d)) ∧ H t = some (.tup ys) ∧ TupV H ys gs
theorem iw1 {C : Addr} {H : Hp} {xs : List V} {x : Wv} (h : IsWs C H xs [x]) : ∃ u, xs = [u] ∧ IsW C H u x := by
  cases h with
  | cons h1 h => cases h; exact ⟨_, rfl, h1⟩
theorem iw3 {C : Addr} {H : Hp} {xs : List V} {x y z : Wv} (h : IsWs C H xs [x, y, z]) : ∃ u v t, xs = [u, v, t] ∧ IsW C H u x ∧ IsW C H v y ∧ IsW C H t z := by
  cases h with
  | cons h1 h => cases h with
    | cons h2 h => cases h with
      | cons h3 h => cases h; exact ⟨_, _, _, rfl, h1, h2, h3⟩
theorem amt_kd {lo : Int} {w : Wv} (h : amtB lo w = true) : kd w = .int ∨ kd w = .fr := by
  by_cases g : kd w = .int ∨ kd w = .fr
  · exact g
  · rw [amt_no (fun e => g (.inl e)) (fun e => g (.inr e))] at h; cases h
theorem inW_int {lo hi : Int} {w : Wv} (h : inW lo hi w = true) : ∃ i, w = .int i ∧ lo ≤ i ∧ i ≤ hi := by
  cases w with
  | int i =>
    have h : (decide (lo ≤ i) && decide (i ≤ hi)) = true := h
    rw [Bool.and_eq_true, decide_eq_true_eq, decide_eq_true_eq] at h
    exact ⟨i, rfl, h⟩
  | _ => cases h
theorem pair_int {n z : Int} {w : Wv} (h : pairB n z w = true) : ∃ x y, elems w = some [.int x, .int y] ∧ pairD w = (x, y) ∧ z ≤ y ∧ y < n := by
  unfold pairB at h
  cases e : elems w with
  | none => rw [e] at h; cases h
  | some ws =>
    rw [e] at h
    match ws, e, h with
    | [x, y], e, h =>
      have h : (inW 1 999 x && inW z (n - 1) y) = true := h
      rw [Bool.and_eq_true] at h
      obtain ⟨i, rfl, _⟩ := inW_int h.1
      obtain ⟨j, rfl, j1, j2⟩ := inW_int h.2
      exact ⟨i, j, rfl, by unfold pairD; rw [e]; rfl, j1, by omega⟩
    | [], _, h => cases h
    | [_], _, h => cases h
    | _ :: _ :: _ :: _, _, h => cases h
theorem ris_at {n : Int} : ∀ {gs : List Wv} {z : Int}, risB n z gs = true → ∀ g ∈ gs, ∃ x y, elems g = some [.int x, .int y] ∧ pairD g = (x, y) ∧ z ≤ y ∧ y < n
  | [], _, _, g, hg => by cases hg
  | w :: ws, z, h, g, hg => by
    have h : (pairB n z w && risB n ((pairD w).2 + 1) ws) = true := h
    rw [Bool.and_eq_true] at h
    obtain ⟨x, y, a, b, c, d⟩ := pair_int h.1
    rcases List.mem_cons.mp hg with rfl | hg
    · exact ⟨x, y, a, b, c, d⟩
    · obtain ⟨x', y', a', b', c', d'⟩ := ris_at h.2 g hg
      rw [b] at c'
      have c' : y + 1 ≤ y' := c'
      exact ⟨x', y', a', b', by omega, d'⟩
theorem goals_of {n : Int} {g : Wv} (h : goalsB n g = true) : ∃ gs, elems g = some gs ∧ 1 ≤ gs.length ∧ gs.length ≤ 8 ∧ risB n 0 gs = true := by
  unfold goalsB at h
  cases e : elems g with
  | none => rw [e] at h; cases h
  | some gs =>
    rw [e] at h
    have h : (decide ((1 : Int) ≤ (gs.length : Int)) && decide ((gs.length : Int) ≤ 8) && risB n 0 gs) = true := h
    rw [Bool.and_eq_true, Bool.and_eq_true, decide_eq_true_eq, decide_eq_true_eq] at h
    exact ⟨gs, rfl, by omega, by omega, h.2⟩
theorem small1000 {n : Nat} (h : n < 1000) : n < sizeLine := Nat.lt_of_lt_of_le h (by decide)
section
variable {P : Program} {w : World} {K : PySem.W.Frag} {mg : Str → Option Value} {base : Heap} {a : Ad}
/-! ### clean_row -/
def spClean (C : Addr) : Sp := fun vs H Q _ => ∃ (v : V) (w : Wv) (n : Int), vs = [v, .int n] ∧ IsW C H v w ∧ RowOk w ∧ (fitB n w = false → ∀ H', Same H H' → Q .non H') ∧ (fitB n w = true → ∀ v' H', Same H H' → CleanV C H' v' (rowD w) → Q v' H')
theorem sc_clean_row : FnScope ["row", "states", "kind", "parts", "goals", "weight", "state"] ["row", "states"] (defScope s_clean_row) := ⟨rfl, rfl, rfl, by decide +kernel, rfl, by decide +kernel, by decide +kernel⟩
theorem ok_clean_row (T : Txt K mg a) : FnOk P w K mg base CX0 8 a.a_clean_row a.d_clean_row ["row", "states"] (spClean a.C_Frac) := by
  refine T.fn_clean_row.ok sc_clean_row (fun vs H Q E h => ?_) (fun cdv A outer s H vs Q E hr h => ?_)
  · obtain ⟨v, w, n, rfl, _⟩ := h
    rfl
  · obtain ⟨v, w', n, rfl, t, ro, kn, ky⟩ := h
    refine ⟨_, (pss_cons (ps_if (pt_not (pt_val (pe_call (ok_is_row_of T) (hr.mono (by decide)) (by rfl) T.mg_is_row_of T.fn_is_row_of.kp T.b_is_row_of .nil pass0 (pa_cons (pv 0) (pa_cons pe_int (pa_cons pe_int pa_nil)))))) (pss_one (ps_ret pe_non)) pss_nil)
      (pss_cons (ps_asg (pv 0) (pg_rest rfl (pgs_cons (pg_name (i := 2) sc_clean_row.nd rfl (Or.inl rfl)) (pgs_cons (pg_name (i := 3) sc_clean_row.nd rfl (Or.inl rfl)) pgs_nil))))
      (pss_cons (ps_if (PW.pt (pw_and (pt_cmpR (eqD_at K hr.units) (pv 2) pe_str (nomark _)) (pw_and1 (pt_cmpR op_eq (pe_callB (lenK K) (by rfl) T.no_len PySem.boot_len (pa_cons (pv 3) pa_nil)) pe_int (nomark _))))) (pss_one (ps_ret (pe_tup (pa_cons pe_str pa_nil)))) pss_nil)
      (pss_cons (ps_if (PW.pt (pw_and (pt_cmpR (eqD_at K hr.units) (pv 2) pe_str (nomark _)) (pw_and (pt_cmpR op_eq (pe_callB (lenK K) (by rfl) T.no_len PySem.boot_len (pa_cons (pv 3) pa_nil)) pe_int (nomark _)) (pw_and1 (pt_val (pe_call (ok_is_amount T) (hr.mono (by decide)) (by rfl) T.mg_is_amount T.fn_is_amount.kp T.b_is_amount .nil pass0 (pa_cons (pe_ix Rd.ixH (pv 3) pe_int (fun _ _ => rfl)) pa_nil))))))) (pss_one (ps_ret (pe_tup (pa_cons pe_str (pa_cons (pe_call (ok_as_frac T) (hr.mono (by decide)) (by rfl) T.mg_as_frac T.fn_as_frac.kp T.b_as_frac .nil pass0 (pa_cons (pe_ix Rd.ixH (pv 3) pe_int (fun _ _ => rfl)) pa_nil)) pa_nil))))) pss_nil)
      (pss_cons (ps_if (PW.pt (pw_and (pt_cmpR (eqD_at K hr.units) (pv 2) pe_str (nomark _)) (pw_and (pt_cmpR op_eq (pe_callB (lenK K) (by rfl) T.no_len PySem.boot_len (pa_cons (pv 3) pa_nil)) pe_int (nomark _)) (pw_and (pt_val (pe_call (ok_is_cost T) (hr.mono (by decide)) (by rfl) T.mg_is_cost T.fn_is_cost.kp T.b_is_cost .nil pass0 (pa_cons (pe_ix Rd.ixH (pv 3) pe_int (fun _ _ => rfl)) pa_nil))) (pw_and1 (pt_val (pe_call (ok_are_goals T) (hr.mono (by decide)) (by rfl) T.mg_are_goals T.fn_are_goals.kp T.b_are_goals .nil pass0 (pa_cons (pe_ix Rd.ixH (pv 3) pe_int (fun _ _ => rfl)) (pa_cons (pv 1) pa_nil))))))))) (pss_cons (ps_setLc (i := 4) (own := [("weight", 5), ("state", 6)]) (by rfl) sc_clean_row.nd rfl rfl (sw_true rfl rfl rfl (by decide +kernel)) (pi_seq (pe_ix Rd.ixH (pv 3) pe_int (fun _ _ => rfl))) (blkOk_by (own := [("weight", 5), ("state", 6)]) (N := ["row", "states", "kind", "parts", "goals", "weight", "state"]) (sc := defScope s_clean_row) (by decide +kernel)) (fun _ _ _ _ _ => pg_seq (n := 2) rfl (pgs_cons (pg_name (i := 5) sc_clean_row.nd rfl (Or.inl rfl)) (pgs_cons (pg_name (i := 6) sc_clean_row.nd rfl (Or.inl rfl)) pgs_nil))) (fun _ _ _ _ _ => pts_nil) (fun _ _ _ _ _ => (pe_tup (pa_cons (pv 5) (pa_cons (pv 6) pa_nil)))))
        (pss_one (ps_ret (pe_tup (pa_cons pe_str (pa_cons (pe_call (ok_as_frac T) (hr.mono (by decide)) (by rfl) T.mg_as_frac T.fn_as_frac.kp T.b_as_frac .nil pass0 (pa_cons (pe_ix Rd.ixH (pv 3) pe_int (fun _ _ => rfl)) pa_nil)) (pa_cons (pe_callTy call_tuple_of (by rfl) T.no_tuple (by decide +kernel) (pa_cons (pv 4) pa_nil)) pa_nil))))))) pss_nil)
      (pss_one (ps_ret pe_non))))))), ?_⟩
    show (_ : TS) _ [some v, some (V.int n), none, none, none, none, none] H
    refine cut (fun σ H1 => ∃ ws, σ = [some v, some (V.int n), none, none, none, none, none] ∧ Same H H1 ∧ elems w' = some ws ∧ 1 ≤ ws.length ∧ ws.length ≤ 3) (fun R hR => ?_) (fun σ H1 h => ?_)
    · walk_at "rd"
      refine ⟨v, w', 1, 3, rfl, t, fun H1 e1 => ⟨_, rfl, ?_⟩⟩
      unfold rowB
      cases e : elems w' with
      | none =>
        rw [if_pos (by decide)]
        exact kn (by unfold fitB; rw [e]) H1 e1
      | some ws =>
        show (if (!(decide ((1 : Int) ≤ (ws.length : Int)) && decide ((ws.length : Int) ≤ 3))) = true then _ else _)
        by_cases h1 : 1 ≤ ws.length ∧ ws.length ≤ 3
        · rw [decide_eq_true (show (1 : Int) ≤ (ws.length : Int) by omega), decide_eq_true (show (ws.length : Int) ≤ 3 by omega), if_neg (by decide)]
          exact hR _ _ ⟨ws, rfl, e1, e, h1.1, h1.2⟩
        · have : (decide ((1 : Int) ≤ (ws.length : Int)) && decide ((ws.length : Int) ≤ 3)) = false := by
            rw [Bool.and_eq_false_iff, decide_eq_false_iff_not, decide_eq_false_iff_not]
            omega
          rw [this, if_pos (by decide)]
          refine kn ?_ H1 e1
          unfold fitB
          rw [e]
          match ws, h1 with
          | [], _ => rfl
          | [_], h1 => exact absurd ⟨by simp, by simp⟩ h1
          | [_, _], h1 => exact absurd ⟨by simp, by simp⟩ h1
          | [_, _, _], h1 => exact absurd ⟨by simp, by simp⟩ h1
          | _ :: _ :: _ :: _ :: _, _ => rfl
    obtain ⟨ws, rfl, e1, ew, l1, l3⟩ := h
    obtain ⟨rp, rn⟩ := ro ws ew
    obtain ⟨p, l, xs, rfl, hp, iw⟩ := isw_elems t ew
    have hp1 := e1 _ _ hp
    have iw1' := iw.same e1
    cases ws with
    | nil => exact absurd l1 (by decide)
    | cons k0 wr =>
      cases iw1' with
      | @cons u _ us _ hu hus =>
        have pk := rp k0 wr rfl
        have ul := hus.len
        refine cut (fun σ H2 => ∃ D, σ = [some (V.ref p), some (V.int n), some u, some (V.ref D), none, none, none] ∧ Same H H2 ∧ IsW a.C_Frac H2 u k0 ∧ H2 D = some (.lst us) ∧ IsWs a.C_Frac H2 us wr) (fun R hR => ?_) (fun σ H2 h => ?_)
        · walk_at "rd"
          exact ⟨l, u, us, hp1, by simp only [List.length_cons] at l3; omega, fun D hD => hR _ _ ⟨D, rfl, e1.trans (same_upd hD), hu.same (same_upd hD), upd_same, hus.same (same_upd hD)⟩⟩
        obtain ⟨D, rfl, e2, hu2, hD, hus2⟩ := h
        refine cut (fun σ H3 => σ = [some (V.ref p), some (V.int n), some u, some (V.ref D), none, none, none] ∧ Same H2 H3 ∧ (isS "void" k0 = true → wr ≠ [])) (fun R hR => ?_) (fun σ H3 h => ?_)
        · walk_at "rd"
          refine wif hu2 pk ok_void (fun h => ⟨us, .inl (SqL.of hD), ite2 (fun hl => ?_) (fun hl => hR _ _ ⟨rfl, Same.refl _, fun _ z => hl (by rw [ul, z]; rfl)⟩)⟩) (fun h => hR _ _ ⟨rfl, Same.refl _, fun z => by rw [h] at z; cases z⟩)
          obtain rfl : wr = [] := List.eq_nil_of_length_eq_zero (by omega)
          have fb : fitB n w' = true := by unfold fitB; rw [ew]; exact h
          have rd : rowD w' = .void := by unfold rowD; rw [ew]
          exact ⟨by decide, fun q hq => ky fb _ _ (e2.trans (same_upd hq)) (by rw [rd]; exact ⟨q, rfl, upd_same⟩)⟩
        obtain ⟨rfl, e3, nv⟩ := h
        have hu3 := hu2.same e3
        have hD3 := e3 _ _ hD
        have hus3 := hus2.same e3
        refine cut (fun σ H4 => σ = [some (V.ref p), some (V.int n), some u, some (V.ref D), none, none, none] ∧ Same H3 H4 ∧ (∀ x, isS "end" k0 = true → wr = [x] → amtB (-9999) x = false)) (fun R hR => ?_) (fun σ H4 h => ?_)
        · walk_at "rd"
          refine wif hu3 pk ok_end (fun h => ⟨us, .inl (SqL.of hD3), ite2 (fun hl => ?_) (fun hl => hR _ _ ⟨rfl, Same.refl _, fun _ _ z => (hl (by rw [ul, z]; rfl)).elim⟩)⟩) (fun h => hR _ _ ⟨rfl, Same.refl _, fun _ z => by rw [h] at z; cases z⟩)
          obtain ⟨x, rfl⟩ : ∃ x, wr = [x] := by
            match wr, (show wr.length = 1 by omega) with
            | [x], _ => exact ⟨x, rfl⟩
          obtain ⟨ux, rfl, hux⟩ := iw1 hus3
          refine ⟨_, hD3, ux, Rd.at0, ux, x, rfl, hux, rn x (by simp), fun H4 e4 => ⟨_, rfl, ?_⟩⟩
          cases za : amtB (-9999) x with
          | false =>
            rw [if_neg (by decide)]
            exact hR _ _ ⟨rfl, e4, fun y _ z => by injection z with z _; rw [← z]; exact za⟩
          | true =>
            rw [if_pos rfl]
            have fb : fitB n w' = true := by unfold fitB; rw [ew]; show (_ && _) = true; rw [h, za]; rfl
            have rd : rowD w' = .fin (numP x).1 (numP x).2 := by unfold rowD; rw [ew]
            refine ⟨_, e4 _ _ hD3, ux, Rd.at0, ux, x, rfl, hux.same e4, amt_kd za, rn x (by simp), fun q dq H5 e5 hq => ⟨by decide, fun t ht => ?_⟩⟩
            exact ky fb _ _ ((((e2.trans e3).trans e4).trans e5).trans (same_upd ht)) (by rw [rd]; exact ⟨t, rfl, q, dq, upd_same, (same_upd ht) _ _ hq⟩)
        obtain ⟨rfl, e4, ne⟩ := h
        have hu4 := hu3.same e4
        have hD4 := e4 _ _ hD3
        have hus4 := hus3.same e4
        have e04 := (e2.trans e3).trans e4
        refine cut (fun σ H5 => ∃ o4 o5 o6, σ = [some (V.ref p), some (V.int n), some u, some (V.ref D), o4, o5, o6] ∧ Same H4 H5 ∧ (∀ x g, isS "step" k0 = true → wr = [x, g] → (amtB 0 x && goalsB n g) = false)) (fun R hR => ?_) (fun σ H5 h => ?_)
        · walk_at "rd"
          refine wif hu4 pk ok_step (fun h => ⟨us, .inl (SqL.of hD4), ite2 (fun hl => ?_) (fun hl => hR _ _ ⟨_, _, _, rfl, Same.refl _, fun _ _ _ z => (hl (by rw [ul, z]; rfl)).elim⟩)⟩) (fun h => hR _ _ ⟨_, _, _, rfl, Same.refl _, fun _ _ z => by rw [h] at z; cases z⟩)
          obtain ⟨x, g, rfl⟩ : ∃ x g, wr = [x, g] := by
            match wr, (show wr.length = 2 by omega) with
            | [x, g], _ => exact ⟨x, g, rfl⟩
          obtain ⟨ux, ug, rfl, hux, hug⟩ := iw2 hus4
          refine ⟨_, hD4, ux, Rd.at0, ux, x, rfl, hux, rn x (by simp), fun H5 e5 => ⟨_, rfl, ?_⟩⟩
          cases za : amtB 0 x with
          | false =>
            rw [if_neg (by decide)]
            exact hR _ _ ⟨_, _, _, rfl, e5, fun y g' _ z => by injection z with z _; rw [← z, za]; rfl⟩
          | true =>
            rw [if_pos rfl]
            refine ⟨_, e5 _ _ hD4, ug, Rd.at1, ug, g, n, rfl, hug.same e5, fun H6 e6 => ⟨_, rfl, ?_⟩⟩
            have e56 := e5.trans e6
            cases zg : goalsB n g with
            | false =>
              rw [if_neg (by decide)]
              exact hR _ _ ⟨_, _, _, rfl, e56, fun y g' _ z => by injection z with z1 z2; injection z2 with z2 _; rw [← z1, ← z2, za, zg]; rfl⟩
            | true =>
              rw [if_pos rfl]
              obtain ⟨gs, eg, g1, g8, rs⟩ := goals_of zg
              have gat := ris_at rs
              have fb : fitB n w' = true := by unfold fitB; rw [ew]; show (_ && (_ && _)) = true; rw [h, za, zg]; rfl
              have rd : rowD w' = .step (numP x).1 (numP x).2 (gs.map pairD) := by unfold rowD; rw [ew]; show RowD.step _ _ (((elems g).getD []).map pairD) = _; rw [eg]; rfl
              obtain ⟨gq, gl, gx, rfl, hgq, giw⟩ := isw_elems (hug.same e56) eg
              have hD6 := e56 _ _ hD4
              have glen := giw.len
              refine ⟨_, hD6, .ref gq, Rd.at1, gq, rfl, gl, gx, hgq, lcl_goes goes_seq (fun D' i H7 => H6 D' = none ∧ Same H6 H7 ∧ ∃ acc, H7 D' = some (.lst acc) ∧ acc.length = i ∧ TupV H7 acc ((gs.take i).map pairD)) (fun D' hD' => ⟨hD', same_upd hD', [], upd_same, rfl, trivial⟩)
                (fun D' i H7 _ h => h.2.1 _ _ hgq) (fun D' i x' H7 H7' hi ⟨n7, e7, acc, a7, l7, t7⟩ ⟨eq7, hx'⟩ => ?_) (fun D' H7 _ ⟨n7, e7, acc, a7, l7, t7⟩ => ?_)⟩
              · subst eq7
                obtain ⟨g', hg', gw'⟩ := (giw.same e7).at hx'
                obtain ⟨ix, iy, eg', pd, _, _⟩ := gat g' (List.mem_of_getElem? hg')
                obtain ⟨q', l', ys', rfl, hq', iw'⟩ := isw_elems gw' eg'
                obtain ⟨y1, y2, rfl, hy1, hy2⟩ := iw2 iw'
                cases hy1
                cases hy2
                walk_at "rd"
                refine ⟨l', _, hq', rfl, _, _, rfl, _, _, rfl, rfl, by decide, fun t ht => ⟨acc, (same_upd ht) _ _ a7, small1000 (by omega), n7, fun b o hb => (upd_ne (ne_of_none hb n7)).trans ((e7.trans (same_upd ht)) _ _ hb), by rw [List.length_append, l7]; rfl, ?_⟩⟩
                rw [List.take_add_one, hg', List.map_append]
                refine TupV.upd ((same_upd ht) _ _ a7) (TupV.app (t7.same (same_upd ht)) ⟨⟨t, rfl, ?_⟩, trivial⟩)
                rw [pd]
                exact upd_same
              · rw [glen, List.take_length] at t7
                refine ⟨_, e7 _ _ hD6, ux, Rd.at0, ux, x, rfl, (hux.same e56).same e7, amt_kd za, rn x (by simp), fun f df H8 e8 hf => ⟨D', rfl, acc, .inl ⟨SqL.of (e8 _ _ a7), fun t ht => ⟨by decide, fun r hr => ?_⟩⟩⟩⟩
                have e9 := (same_upd (o := .tup acc) ht).trans (same_upd (o := .tup [.str "step", .ref f, .ref t]) hr)
                exact ky fb _ _ ((((e04.trans e56).trans e7).trans e8).trans e9) (by rw [rd]; exact ⟨r, rfl, f, df, t, acc, upd_same, e9 _ _ hf, (same_upd hr) _ _ upd_same, (t7.same e8).same e9⟩)
        obtain ⟨o4, o5, o6, rfl, e5, ns⟩ := h
        walk_at "rd"
        refine kn ?_ _ (e04.trans e5)
        unfold fitB
        rw [ew]
        match wr, l3, nv, ne, ns with
        | [], _, nv, _, _ =>
          show isS "void" k0 = false
          cases z : isS "void" k0 with
          | false => rfl
          | true => exact absurd rfl (nv z)
        | [x], _, _, ne, _ =>
          show (isS "end" k0 && amtB (-9999) x) = false
          cases z : isS "end" k0 with
          | false => rfl
          | true => rw [ne x z rfl]; rfl
        | [x, g], _, _, _, ns =>
          show (isS "step" k0 && (amtB 0 x && goalsB n g)) = false
          cases z : isS "step" k0 with
          | false => rfl
          | true => rw [ns x g z rfl]; rfl
        | _ :: _ :: _ :: _, l3, _, _, _ => simp at l3
end

end K05
namespace K05
open PySem PySem.Spec PyProof.Rows L2 Own OwnSeq OwnSet OwnComb OwnSort OwnHot OwnExN OwnProj
local macro_rules | `(tactic| walk_at "rd") => `(tactic| simp only [tSeq, tAsg, tOp, tUn, tVar, gName, gSub, rIxL, rIxT, rSetL, tC, rI0, rI, rU, rEq, rNe, tCons, tNil, tCB, tLst, tTup, tIfS, tAnd, tOr, tNot, tAndV, tOrV, tNotV, tTest, tB, tIf, tRet, tDrop, tNext, tBreak, tCont, tCall, tCallS, L2.WE, tMakeS, rIsS, rIsB, tChain, gSeq, gRest, gCons, gNil, tFor_seq, tFor_enumS, tLc_seq, tLc_enumS, rAny, rAll, L2.tMeth, StX.tStar, rIn, tLstRg, tRg1, tRg2, rSetI, rSortedSet, rInDT, rInD, rNotInD, rEqD, rNeD, iComb, tFld, tMake, tMkO, sFld, tOst, tNever, tBits, clv, isB,
  Rd.tFor_rng1, Rd.tFor_rng2, Rd.tFor_list, Rd.tFor_tup, Rd.tLc_list, Rd.tLc_tup, Rd.tLc_rng1, Rd.LcTurn, tYes, wipe, Rd.rLenL, Rd.rLenT, Rd.rIntI, Rd.rIxH, rIxHT,  HO.tup.injEq, Rd.at0, Rd.at1, Rd.at2, Rd.at3, Rd.ixN40, Rd.ixN41, Rd.ixN42, Rd.ixN43, Rd.scal_ii, cxOf,
  List.length_cons, List.length_nil, List.length_map, List.map_cons, List.map_nil, upd_same, decide_eq_true_eq, decide_true, decide_false, if_true, if_false, Bool.false_eq_true, Bool.not_true, Bool.not_false, HO.lst.injEq, HO.ins.injEq, List.set_cons_zero, List.set_cons_succ, List.getElem?_cons_zero, List.getElem?_cons_succ, List.append_nil, List.nil_append, List.cons_append, Option.some.injEq, V.ref.injEq, V.int.injEq, V.bl.injEq, List.cons.injEq, exists_eq_left', exists_and_left, exists_eq_left, true_and, and_true, and_self, and_assoc, implies_true, reduceCtorEq, Nat.reduceAdd])

def hit (bs : List Bool) (gs : List (Int × Int)) : Bool := gs.any fun g => bs.getD g.2.toNat false
theorem TupV.len {H : Hp} : ∀ {xs : List V} {gs : List (Int × Int)}, TupV H xs gs → xs.length = gs.length
  | [], [], _ => rfl
  | _ :: _, _ :: _, h => congrArg (· + 1) h.2.len
  | [], _ :: _, h => h.elim
  | _ :: _, [], h => h.elim
theorem TupV.at {H : Hp} : ∀ {xs : List V} {gs : List (Int × Int)} {i : Nat} {x : V}, TupV H xs gs → xs[i]? = some x → ∃ g, gs[i]? = some g ∧ ∃ q, x = .ref q ∧ H q = some (.tup [.int g.1, .int g.2])
  | _ :: _, g :: _, 0, _, h, e => ⟨g, rfl, by cases Option.some.inj e; exact h.1⟩
  | _ :: _, _ :: _, i + 1, _, h, e => TupV.at (i := i) h.2 e
  | [], [], _, _, _, e => by cases e
  | [], _ :: _, _, _, h, _ => h.elim
  | _ :: _, [], _, _, h, _ => h.elim
section
variable {P : Program} {w : World} {K : PySem.W.Frag} {mg : Str → Option Value} {base : Heap} {a : Ad}
/-! ### is_step_into -/
def spInto (C : Addr) : Sp := fun vs H Q _ => ∃ (v : V) (mk : Addr) (m d : Int) (gs : List (Int × Int)) (bs : List Bool), vs = [v, .ref mk] ∧ CleanV C H v (.step m d gs) ∧ H mk = some (.lst (bs.map V.bl)) ∧ gs.length ≤ 8 ∧ (∀ g ∈ gs, 0 ≤ g.2 ∧ g.2 < bs.length) ∧
  ∀ H', Same H H' → Q (.bl (hit bs gs)) H'
theorem sc_is_step_into : FnScope ["row", "marks", "_", "state"] ["row", "marks"] (defScope s_is_step_into) := ⟨rfl, rfl, rfl, by decide +kernel, rfl, by decide +kernel, by decide +kernel⟩
theorem ok_is_step_into (T : Txt K mg a) : FnOk P w K mg base CX0 1 a.a_is_step_into a.d_is_step_into ["row", "marks"] (spInto a.C_Frac) := by
  refine T.fn_is_step_into.ok sc_is_step_into (fun vs H Q E h => ?_) (fun cdv A outer s H vs Q E hr h => ?_)
  · obtain ⟨v, mk, m, d, gs, bs, rfl, _⟩ := h
    rfl
  · obtain ⟨v, mk, m, d, gs, bs, rfl, ⟨p, rfl, q, dx, t, ys, hp, hq, ht, tv⟩, hm, g8, hin, k⟩ := h
    refine ⟨_, (pss_one (ps_ret (pe_callB (cr_any rfl) (by rfl) T.no_any (by decide +kernel) (pa_cons (pe_lc (own := [("_", 2), ("state", 3)]) (by rfl) sc_is_step_into.nd (pi_seq (pe_ix ixHT (pv 0) pe_int (fun _ _ => rfl))) (blkOk_by (own := [("_", 2), ("state", 3)]) (N := ["row", "marks", "_", "state"]) (sc := defScope s_is_step_into) (by decide +kernel)) (fun _ _ _ _ _ => pg_seq (n := 2) rfl (pgs_cons (pg_name (i := 2) sc_is_step_into.nd rfl (Or.inl rfl)) (pgs_cons (pg_name (i := 3) sc_is_step_into.nd rfl (Or.inl rfl)) pgs_nil))) (fun _ _ _ _ _ => pts_nil) (fun _ _ _ _ _ => (pe_ix Rd.ixH (pv 1) (pv 3) (fun _ _ => rfl)))) pa_nil)))), ?_⟩
    show (_ : TS) _ [some (V.ref p), some (V.ref mk), none, none] H
    walk_at "rd"
    simp only [hp]
    walk_at "rd"
    refine ⟨false, ys, ht, lcl_goes goes_seq (fun D i H5 => H D = none ∧ Same H H5 ∧ H5 D = some (.lst (((gs.take i).map fun g => bs.getD g.2.toNat false).map V.bl))) (fun D hD => ⟨hD, same_upd hD, upd_same⟩)
      (fun D i H5 _ h => h.2.1 _ _ ht) (fun D i x H5 H5' hi ⟨n5, e5, a5⟩ ⟨eq5, hx⟩ => ?_) (fun D H5 _ ⟨n5, e5, a5⟩ => ?_)⟩
    · subst eq5
      obtain ⟨g, hg, q', rfl, hq'⟩ := tv.at hx
      have il : i < 8 := by have := tv.len; omega
      have gr := hin g (List.mem_of_getElem? hg)
      have at5 := e5 _ _ hm
      walk_at "rd"
      refine ⟨false, _, e5 _ _ hq', rfl, _, _, rfl, _, _, rfl, rfl, ?_⟩
      have ij : g.2.toNat < bs.length := by omega
      have ix : atI (bs.map V.bl) g.2 = some (V.bl (bs.getD g.2.toNat false)) := by
        rw [show g.2 = ((g.2.toNat : Nat) : Int) by omega]
        refine atI_nat ?_
        rw [Int.toNat_natCast, List.getElem?_map, List.getElem?_eq_getElem ij, List.getD_eq_getElem?_getD, List.getElem?_eq_getElem ij]
        rfl
      refine ⟨_, g.2, rfl, at5, _, ix, _, a5, ?_, n5, fun b o hb => ?_, ?_⟩
      · rw [List.length_map, List.length_map, List.length_take]
        exact small1000 (by omega)
      · rw [upd_ne (ne_of_none hb n5)]
        exact e5 _ _ hb
      · rw [List.take_add_one, hg, List.map_append, List.map_append]
        rfl
    · rw [tv.len, List.take_length] at a5
      exact ⟨D, rfl, _, SqL.of a5, by rw [List.any_map]; exact k _ e5⟩
end
def ends : RowD → Bool
  | .step .. => false
  | _ => true
def goalsOf : RowD → List (Int × Int)
  | .step _ _ gs => gs
  | _ => []
/-- one turn of the rows' marks -/
def turn (rs : List RowD) (bs : List Bool) : List Bool := (List.range rs.length).map fun i => bs.getD i false || hit bs (((rs[i]?).map goalsOf).getD [])
def after (rs : List RowD) : Nat → List Bool
  | 0 => rs.map ends
  | n + 1 => turn rs (after rs n)
def firstOpen (bs : List Bool) : Option Nat := bs.findIdx? fun b => !b
def opt : Option Nat → V
  | none => .non
  | some k => .int k
def CleansV (C : Addr) (H : Hp) : List V → List RowD → Prop
  | [], [] => True
  | v :: vs, r :: rs => CleanV C H v r ∧ CleansV C H vs rs
  | _, _ => False
theorem CleanV.same {C : Addr} {H H' : Hp} {v : V} {r : RowD} (e : Same H H') (h : CleanV C H v r) : CleanV C H' v r := by
  obtain ⟨p, rfl, h⟩ := h
  cases r with
  | void => exact ⟨p, rfl, e _ _ h⟩
  | fin n d => exact let ⟨q, dx, a, b⟩ := h; ⟨p, rfl, q, dx, e _ _ a, e _ _ b⟩
  | step n d gs => exact let ⟨q, dx, t, ys, a, b, c, z⟩ := h; ⟨p, rfl, q, dx, t, ys, e _ _ a, e _ _ b, e _ _ c, z.same e⟩
theorem CleansV.same {C : Addr} {H H' : Hp} (e : Same H H') : ∀ {vs : List V} {rs : List RowD}, CleansV C H vs rs → CleansV C H' vs rs
  | [], [], _ => trivial
  | _ :: _, _ :: _, ⟨a, r⟩ => ⟨a.same e, CleansV.same e r⟩
  | [], _ :: _, h => h.elim
  | _ :: _, [], h => h.elim
theorem CleansV.len {C : Addr} {H : Hp} : ∀ {vs : List V} {rs : List RowD}, CleansV C H vs rs → vs.length = rs.length
  | [], [], _ => rfl
  | _ :: _, _ :: _, h => congrArg (· + 1) h.2.len
  | [], _ :: _, h => h.elim
  | _ :: _, [], h => h.elim
theorem CleansV.at {C : Addr} {H : Hp} : ∀ {xs : List V} {rs : List RowD} {i : Nat} {x : V}, CleansV C H xs rs → xs[i]? = some x → ∃ r, rs[i]? = some r ∧ CleanV C H x r
  | _ :: _, r :: _, 0, _, h, e => ⟨r, rfl, by cases Option.some.inj e; exact h.1⟩
  | _ :: _, _ :: _, i + 1, _, h, e => CleansV.at (i := i) h.2 e
  | [], [], _, _, _, e => by cases e
  | [], _ :: _, _, _, h, _ => h.elim
  | _ :: _, [], _, _, h, _ => h.elim
theorem CleanV.head {C : Addr} {H : Hp} {v : V} {r : RowD} (h : CleanV C H v r) : ∃ p wd rest, v = .ref p ∧ H p = some (.tup (.str wd :: rest)) ∧ (!decide (V.str wd = V.str "step")) = ends r := by
  obtain ⟨p, rfl, h⟩ := h
  cases r with
  | void => exact ⟨p, _, _, rfl, h, by decide +kernel⟩
  | fin n d => exact let ⟨q, dx, a, b⟩ := h; ⟨p, _, _, rfl, a, show (!decide (V.str "end" = V.str "step")) = true by decide +kernel⟩
  | step n d gs => exact let ⟨q, dx, t, ys, a, _⟩ := h; ⟨p, _, _, rfl, a, show (!decide (V.str "step" = V.str "step")) = false by decide +kernel⟩
theorem turn_len {rs : List RowD} {bs : List Bool} : (turn rs bs).length = rs.length := by
  unfold turn
  rw [List.length_map, List.length_range]
theorem after_len {rs : List RowD} : ∀ n, (after rs n).length = rs.length
  | 0 => List.length_map _
  | n + 1 => turn_len
theorem mark_at {rs : List RowD} {n j : Nat} (h : j < rs.length) : atI ((after rs n).map V.bl) (j : Nat) = some (V.bl ((after rs n).getD j false)) := by
  refine atI_nat ?_
  have h' : j < (after rs n).length := by rw [after_len]; exact h
  rw [List.getElem?_map, List.getElem?_eq_getElem h', List.getD_eq_getElem?_getD, List.getElem?_eq_getElem h']
  rfl
theorem turn_at {rs : List RowD} {bs : List Bool} {j : Nat} {r : RowD} (h : rs[j]? = some r) : (turn rs bs)[j]? = some (bs.getD j false || hit bs (goalsOf r)) := by
  have jl := (List.getElem?_eq_some_iff.mp h).1
  unfold turn
  rw [List.getElem?_map, List.getElem?_range jl]
  show some (bs.getD j false || hit bs (((rs[j]?).map goalsOf).getD [])) = _
  rw [h]
  rfl
theorem after_ends {rs : List RowD} {j : Nat} {r : RowD} (h : rs[j]? = some r) (e : ends r = true) : ∀ n, (after rs n).getD j false = true
  | 0 => by
    show (rs.map ends).getD j false = true
    rw [List.getD_eq_getElem?_getD, List.getElem?_map, h]
    exact e
  | n + 1 => by
    show (turn rs (after rs n)).getD j false = true
    rw [List.getD_eq_getElem?_getD, turn_at h, after_ends h e n]
    rfl
/-- the steps' goals are states -/
def InR (rs : List RowD) : Prop := ∀ r ∈ rs, (goalsOf r).length ≤ 8 ∧ ∀ g ∈ goalsOf r, 0 ≤ g.2 ∧ g.2 < rs.length
section
variable {P : Program} {w : World} {K : PySem.W.Frag} {mg : Str → Option Value} {base : Heap} {a : Ad}
/-! ### first_endless -/
def spFirst (C : Addr) : Sp := fun vs H Q _ => ∃ (p : Addr) (xs : List V) (rs : List RowD), vs = [.ref p] ∧ H p = some (.lst xs) ∧ CleansV C H xs rs ∧ rs.length ≤ 8 ∧ InR rs ∧ ∀ H', Same H H' → Q (opt (firstOpen (after rs rs.length))) H'
theorem sc_first_endless : FnScope ["rows", "closing", "_", "state", "closes", "row"] ["rows"] (defScope s_first_endless) := ⟨rfl, rfl, rfl, by decide +kernel, rfl, by decide +kernel, by decide +kernel⟩
theorem ok_first_endless (T : Txt K mg a) : FnOk P w K mg base CX0 2 a.a_first_endless a.d_first_endless ["rows"] (spFirst a.C_Frac) := by
  refine T.fn_first_endless.ok sc_first_endless (fun vs H Q E h => ?_) (fun cdv A outer s H vs Q E hr h => ?_)
  · obtain ⟨p, xs, rs, rfl, _⟩ := h
    rfl
  · obtain ⟨p, xs, rs, rfl, hp, cl, r8, inr, k⟩ := h
    refine ⟨_, (pss_cons (ps_set (i := 1) sc_first_endless.nd rfl (Or.inr rfl) (pe_lc (own := [("row", 5)]) (by rfl) sc_first_endless.nd (pi_seq (pv 0)) (blkOk_by (own := [("row", 5)]) (N := ["rows", "closing", "_", "state", "closes", "row"]) (sc := defScope s_first_endless) (by decide +kernel)) (fun _ _ _ _ _ => pg_name (i := 5) sc_first_endless.nd rfl (Or.inl rfl)) (fun _ _ _ _ _ => pts_nil) (fun _ _ _ _ _ => (pe_cmpR op_ne (pe_ix ixHT (pv 5) pe_int (fun _ _ => rfl)) pe_str (nomark _)))))
      (pss_cons (ps_for PassesOwn.never rfl (pi_seq (pv 0)) (pg_name (i := 2) sc_first_endless.nd rfl (Or.inl rfl))
        (pss_one (ps_set (i := 1) sc_first_endless.nd rfl (Or.inr rfl) (pe_lc (own := [("state", 3), ("row", 5)]) (by rfl) sc_first_endless.nd (pi_enumS (by rfl) T.no_enumerate (pa_cons (pv 0) pa_nil)) (blkOk_by (own := [("state", 3), ("row", 5)]) (N := ["rows", "closing", "_", "state", "closes", "row"]) (sc := defScope s_first_endless) (by decide +kernel)) (fun _ _ _ _ _ => pg_seq (n := 2) rfl (pgs_cons (pg_name (i := 3) sc_first_endless.nd rfl (Or.inl rfl)) (pgs_cons (pg_name (i := 5) sc_first_endless.nd rfl (Or.inl rfl)) pgs_nil))) (fun _ _ _ _ _ => pts_nil) (fun _ _ _ _ _ => (pe_or (pe_ix Rd.ixH (pv 1) (pv 3) (fun _ _ => rfl)) (pe_one (pe_call (ok_is_step_into T) (hr.mono (by decide)) (by rfl) T.mg_is_step_into T.fn_is_step_into.kp T.b_is_step_into .nil pass0 (pa_cons (pv 5) (pa_cons (pv 1) pa_nil))))))))))
      (pss_cons (ps_for PassesOwn.never rfl (pi_enumS (by rfl) T.no_enumerate (pa_cons (pv 1) pa_nil)) (pg_seq (n := 2) rfl (pgs_cons (pg_name (i := 3) sc_first_endless.nd rfl (Or.inl rfl)) (pgs_cons (pg_name (i := 4) sc_first_endless.nd rfl (Or.inl rfl)) pgs_nil)))
        (pss_one (ps_if (pt_not (pt_val (pv 4))) (pss_one (ps_ret (pv 3))) pss_nil)))
      (pss_one (ps_ret pe_non))))), ?_⟩
    show (_ : TS) _ [some (V.ref p), none, none, none, none, none] H
    walk_at "rd"
    have len := cl.len
    refine ⟨true, xs, hp, lcl_goes goes_seq (fun D i H5 => H D = none ∧ Same H H5 ∧ H5 D = some (.lst (((rs.take i).map ends).map V.bl))) (fun D hD => ⟨hD, same_upd hD, upd_same⟩)
      (fun D i H5 _ h => h.2.1 _ _ hp) (fun D i x H5 H5' hi ⟨n5, e5, a5⟩ ⟨eq5, hx⟩ => ?_) (fun D H5 nD ⟨n5, e5, a5⟩ => ?_)⟩
    · subst eq5
      obtain ⟨r, hr1, cr⟩ := cl.at hx
      obtain ⟨q, wd, rest, rfl, hq, hw⟩ := (cr.same e5).head
      walk_at "rd"
      simp only [hq]
      walk_at "rd"
      rw [hw]
      refine ⟨rfl, _, a5, ?_, n5, fun b o hb => ?_, ?_⟩
      · rw [List.length_map, List.length_map, List.length_take]
        exact small1000 (by omega)
      · rw [upd_ne (ne_of_none hb n5)]
        exact e5 _ _ hb
      · rw [List.take_add_one, hr1, List.map_append, List.map_append]
        rfl
    · rw [len, List.take_length] at a5
      refine ⟨true, xs, e5 _ _ hp, loop_goes goes_seq (fun σ H' => ∃ c o2 o3 o4 o5, σ = [some (V.ref p), some (V.ref c), o2, o3, o4, o5] ∧ Same H H' ∧ H' c = some (.lst ((after rs rs.length).map V.bl)))
        (fun i σ H' => ∃ c o2 o3 o4 o5, σ = [some (V.ref p), some (V.ref c), o2, o3, o4, o5] ∧ Same H H' ∧ H' c = some (.lst ((after rs i).map V.bl)))
        ⟨D, none, none, none, none, rfl, e5, a5⟩ (fun i σ H' _ ⟨_, _, _, _, _, _, e, _⟩ => e _ _ hp) ?_ (fun σ H' z => by rw [len] at z; exact z) ?_⟩
      · rintro bk hbk i x σ H6 H6' hi ⟨c, o2, o3, o4, o5, rfl, e6, a6⟩ ⟨rfl, hx⟩
        walk_at "rd"
        refine ⟨true, xs, e6 _ _ hp, lcl_goes goes_enum (fun D j H7 => H6' D = none ∧ Same H6' H7 ∧ H7 D = some (.lst (((turn rs (after rs i)).take j).map V.bl))) (fun D hD => ⟨hD, same_upd hD, upd_same⟩)
          (fun D j H7 _ h => h.2.1 _ _ (e6 _ _ hp)) (fun D j y H7 H7' hj ⟨n7, e7, a7⟩ ⟨t, z, ey, ht, eH, hz⟩ => ?_) (fun D H7 _ ⟨n7, e7, a7⟩ => ?_)⟩
        · subst ey eH
          obtain ⟨r, hr2, cr⟩ := cl.at hz
          have jl : j < rs.length := by omega
          have te := same_upd (o := .tup [.int (j : Nat), z]) ht
          have at7 := te _ _ (e7 _ _ a6)
          have ix := mark_at (rs := rs) (n := i) jl
          walk_at "rd"
          refine ⟨false, _, rfl, rfl, _, _, rfl, _, _, rfl, rfl, _, _, rfl, at7, _, ix, _, rfl, ?_⟩
          have fin : ∀ (b : Bool) (H9 : Hp), Same (upd H7 t (.tup [.int (j : Nat), z])) H9 → (turn rs (after rs i))[j]? = some b →
              ∃ acc, H9 D = some (.lst acc) ∧ acc.length < sizeLine ∧ H6' D = none ∧ Same H6' (upd H9 D (.lst (acc ++ [V.bl b]))) ∧ acc ++ [V.bl b] = ((turn rs (after rs i)).take (j + 1)).map V.bl := fun b H9 e9 hb => by
            refine ⟨_, e9 _ _ (te _ _ a7), ?_, n7, fun q o hq => ?_, ?_⟩
            · rw [List.length_map, List.length_take]
              exact small1000 (by omega)
            · rw [upd_ne (ne_of_none hq n7)]
              exact e9 _ _ (te _ _ (e7 _ _ hq))
            · rw [List.take_add_one, hb, List.map_append]
              rfl
          have tat := turn_at (bs := after rs i) hr2
          cases hv : (after rs i).getD j false with
          | true =>
            rw [if_pos rfl]
            rw [hv, Bool.true_or] at tat
            exact fin true _ (fun _ _ z => z) tat
          | false =>
            rw [if_neg (by decide)]
            rw [hv, Bool.false_or] at tat
            have ne : ends r = false := by
              cases e : ends r with
              | false => rfl
              | true => rw [after_ends hr2 e i] at hv; cases hv
            cases r with
            | void => cases ne
            | fin m d => cases ne
            | step m d gs =>
              have g := inr _ (List.mem_of_getElem? hr2)
              exact ⟨z, c, m, d, gs, after rs i, rfl, cr.same (((e6.trans e7).trans te)), at7, g.1, fun q hq => by rw [after_len]; exact g.2 q hq, fun H9 e9 => fin _ H9 e9 tat⟩
        · rw [len, show (turn rs (after rs i)).take rs.length = turn rs (after rs i) by rw [← turn_len (bs := after rs i), List.take_length]] at a7
          exact ⟨D, rfl, e6.trans e7, a7⟩
      · rintro σ H6 ⟨c, o2, o3, o4, o5, rfl, e6, a6⟩
        walk_at "rd"
        refine ⟨true, _, a6, loop_goes goes_enum (fun σ H' => (∀ b ∈ after rs rs.length, b = true) ∧ Same H H' ∧ ∃ o1 o2 o3 o4 o5, σ = [some (V.ref p), o1, o2, o3, o4, o5])
          (fun j σ H' => (∀ b ∈ (after rs rs.length).take j, b = true) ∧ Same H H' ∧ H' c = some (.lst ((after rs rs.length).map V.bl)) ∧ ∃ o2 o3 o4 o5, σ = [some (V.ref p), some (V.ref c), o2, o3, o4, o5])
          ⟨by simp, e6, a6, _, _, _, _, rfl⟩ (fun _ σ H' _ h => h.2.2.1) ?_ (fun σ H' ⟨al, e, _, o2, o3, o4, o5, q⟩ => ⟨by rw [List.length_map, List.take_length] at al; exact al, e, _, o2, o3, o4, o5, q⟩) ?_⟩
        · rintro bk hbk j y σ H8 H8' hj ⟨al, e8, a8, o2, o3, o4, o5, rfl⟩ ⟨t, z, rfl, ht, rfl, hz⟩
          obtain ⟨b, hb, rfl⟩ : ∃ b, (after rs rs.length)[j]? = some b ∧ z = V.bl b := by
            rw [List.getElem?_map] at hz
            cases e : (after rs rs.length)[j]? with
            | none => rw [e] at hz; cases hz
            | some b => rw [e] at hz; exact ⟨b, rfl, (Option.some.inj hz).symm⟩
          obtain ⟨hj2, hb2⟩ := List.getElem?_eq_some_iff.mp hb
          walk_at "rd"
          refine ⟨false, _, rfl, rfl, _, _, rfl, _, _, rfl, rfl, b, rfl, ?_⟩
          have te := same_upd (o := .tup [.int (j : Nat), V.bl b]) ht
          cases b with
          | false =>
            rw [if_pos (by decide)]
            have z := k _ (e8.trans te)
            have fo : firstOpen (after rs rs.length) = some j := by
              unfold firstOpen
              rw [List.findIdx?_eq_some_iff_getElem]
              refine ⟨hj2, by rw [hb2]; rfl, fun i hi => ?_⟩
              have m : (after rs rs.length)[i] ∈ (after rs rs.length).take j := List.mem_take_iff_getElem.mpr ⟨i, by omega, rfl⟩
              rw [al _ m]
              decide
            rw [fo] at z
            exact z
          | true =>
            rw [if_neg (by decide)]
            refine ⟨fun b hb' => ?_, e8.trans te, te _ _ a8, _, rfl⟩
            rw [List.take_add_one, hb] at hb'
            rcases List.mem_append.mp hb' with m | m
            · exact al b m
            · exact List.mem_singleton.mp m
        · rintro σ H8 ⟨al, e8, o1, o2, o3, o4, o5, rfl⟩
          walk_at "rd"
          have z := k _ e8
          rw [show firstOpen (after rs rs.length) = none by unfold firstOpen; rw [List.findIdx?_eq_none_iff]; intro b hb; rw [al b hb]; rfl] at z
          exact z
end

end K05
namespace K05
open PySem PySem.Spec PyProof.Rows L2 Own OwnSeq OwnSet OwnComb OwnSort OwnHot OwnExN OwnProj
local macro_rules | `(tactic| walk_at "rd") => `(tactic| simp only [tSeq, tAsg, tOp, tUn, tVar, gName, gSub, rIxL, rIxT, rSetL, tC, rI0, rI, rU, rEq, rNe, tCons, tNil, tCB, tLst, tTup, tIfS, tAnd, tOr, tNot, tAndV, tOrV, tNotV, tTest, tB, tIf, tRet, tDrop, tNext, tBreak, tCont, tCall, tCallS, L2.WE, tMakeS, rIsS, rIsB, tChain, gSeq, gRest, gCons, gNil, tFor_seq, tFor_enumS, tLc_seq, tLc_enumS, rAny, rAll, L2.tMeth, StX.tStar, rIn, tLstRg, tRg1, tRg2, rSetI, rSortedSet, rInDT, rInD, rNotInD, rEqD, rNeD, iComb, tFld, tMake, tMkO, sFld, tOst, tNever, tBits, clv, isB,
  Rd.tFor_rng1, Rd.tFor_rng2, Rd.tFor_list, Rd.tFor_tup, Rd.tLc_list, Rd.tLc_tup, Rd.tLc_rng1, Rd.LcTurn, tYes, wipe, Rd.rLenL, Rd.rLenT, Rd.rIntI, Rd.rIxH, rIxHT,  HO.tup.injEq, Rd.at0, Rd.at1, Rd.at2, Rd.at3, Rd.ixN40, Rd.ixN41, Rd.ixN42, Rd.ixN43, Rd.scal_ii, cxOf,
  List.length_cons, List.length_nil, List.length_map, List.map_cons, List.map_nil, upd_same, decide_eq_true_eq, decide_true, decide_false, if_true, if_false, Bool.false_eq_true, Bool.not_true, Bool.not_false, HO.lst.injEq, HO.ins.injEq, List.set_cons_zero, List.set_cons_succ, List.getElem?_cons_zero, List.getElem?_cons_succ, List.append_nil, List.nil_append, List.cons_append, Option.some.injEq, V.ref.injEq, V.int.injEq, V.bl.injEq, List.cons.injEq, exists_eq_left', exists_and_left, exists_eq_left, true_and, and_true, and_self, and_assoc, implies_true, reduceCtorEq, Nat.reduceAdd])

/-! ### which states reach an end -/
inductive Opens (rs : List RowD) : Nat → Prop
  | ends {j : Nat} {r : RowD} (h : rs[j]? = some r) (e : ends r = true) : Opens rs j
  | step {j : Nat} {r : RowD} {g : Int × Int} (h : rs[j]? = some r) (hg : g ∈ goalsOf r) (o : Opens rs g.2.toNat) : Opens rs j
def Le (a b : List Bool) : Prop := ∀ j, a.getD j false = true → b.getD j false = true
theorem turn_ge {rs : List RowD} {bs : List Bool} (hl : bs.length = rs.length) : Le bs (turn rs bs) := fun j h => by
  have jl : j < rs.length := by
    rcases Nat.lt_or_ge j bs.length with a | a
    · omega
    · rw [List.getD_eq_getElem?_getD, List.getElem?_eq_none a] at h; cases h
  rw [List.getD_eq_getElem?_getD, turn_at (List.getElem?_eq_getElem jl), h]
  rfl
def cnt : List Bool → Nat
  | [] => 0
  | b :: bs => (if b = true then 1 else 0) + cnt bs
theorem cnt_le : ∀ bs : List Bool, cnt bs ≤ bs.length
  | [] => Nat.le_refl _
  | b :: bs => by
    have := cnt_le bs
    show (if b = true then 1 else 0) + cnt bs ≤ bs.length + 1
    split <;> omega
theorem cnt_lt : ∀ {a b : List Bool}, a.length = b.length → Le a b → a ≠ b → cnt a < cnt b
  | [], [], _, _, n => absurd rfl n
  | x :: a, y :: b, hl, le, n => by
    have hl' : a.length = b.length := by simpa using hl
    have le' : Le a b := fun j h => le (j + 1) h
    have l0 : x = true → y = true := fun h => le 0 h
    show (if x = true then 1 else 0) + cnt a < (if y = true then 1 else 0) + cnt b
    by_cases e : a = b
    · subst e
      cases x <;> cases y
      · exact absurd rfl n
      · exact Nat.add_lt_add_right (by decide) _
      · exact absurd (l0 rfl) (by decide)
      · exact absurd rfl n
    · have := cnt_lt hl' le' e
      cases x <;> cases y
      · simpa using this
      · show 0 + cnt a < 1 + cnt b; omega
      · exact absurd (l0 rfl) (by decide)
      · show 1 + cnt a < 1 + cnt b; omega
  | [], _ :: _, hl, _, _ => by simp at hl
  | _ :: _, [], hl, _, _ => by simp at hl
theorem cnt_all : ∀ {bs : List Bool}, bs.length ≤ cnt bs → ∀ b ∈ bs, b = true
  | [], _, _, h => by cases h
  | x :: bs, hc, b, hb => by
    have := cnt_le bs
    have hc : bs.length + 1 ≤ (if x = true then 1 else 0) + cnt bs := hc
    have hx : x = true := by
      cases x
      · exfalso
        have hc : bs.length + 1 ≤ 0 + cnt bs := hc
        omega
      · rfl
    subst hx
    have hc : bs.length + 1 ≤ 1 + cnt bs := hc
    rcases List.mem_cons.mp hb with rfl | hb
    · rfl
    · exact cnt_all (by omega) b hb
theorem after_fix {rs : List RowD} : ∀ n, turn rs (after rs n) = after rs n ∨ n ≤ cnt (after rs n)
  | 0 => .inr (Nat.zero_le _)
  | n + 1 => by
    rcases after_fix (rs := rs) n with h | h
    · refine .inl ?_
      show turn rs (turn rs (after rs n)) = turn rs (after rs n)
      rw [h, h]
    · by_cases e : after rs n = turn rs (after rs n)
      · refine .inl ?_
        show turn rs (turn rs (after rs n)) = turn rs (after rs n)
        rw [← e, ← e]
      · have := cnt_lt (by rw [after_len, turn_len]) (turn_ge (after_len n)) e
        exact .inr (show n + 1 ≤ cnt (turn rs (after rs n)) by omega)
theorem fixed {rs : List RowD} : turn rs (after rs rs.length) = after rs rs.length := by
  rcases after_fix (rs := rs) rs.length with h | h
  · exact h
  · have al := cnt_all (by rw [after_len]; exact h)
    refine List.ext_getElem (by rw [turn_len, after_len]) fun j h1 h2 => ?_
    have z := turn_ge (after_len (rs := rs) rs.length) j (by rw [List.getD_eq_getElem?_getD, List.getElem?_eq_getElem h2]; exact al _ (List.getElem_mem h2))
    rw [List.getD_eq_getElem?_getD, List.getElem?_eq_getElem h1] at z
    rw [al _ (List.getElem_mem h2)]
    exact z
theorem opens_fix {rs : List RowD} {bs : List Bool} (he : ∀ j r, rs[j]? = some r → ends r = true → bs.getD j false = true) (hf : turn rs bs = bs) {j : Nat} (o : Opens rs j) : bs.getD j false = true := by
  induction o with
  | ends h e => exact he _ _ h e
  | @step j r g h hg o ih =>
    rw [← hf, List.getD_eq_getElem?_getD, turn_at h]
    have : hit bs (goalsOf r) = true := List.any_eq_true.mpr ⟨g, hg, ih⟩
    rw [this, Bool.or_true]
    rfl
theorem after_sound {rs : List RowD} : ∀ n j, (after rs n).getD j false = true → Opens rs j
  | 0, j, h => by
    have h : (rs.map ends).getD j false = true := h
    rw [List.getD_eq_getElem?_getD, List.getElem?_map] at h
    cases e : rs[j]? with
    | none => rw [e] at h; cases h
    | some r => rw [e] at h; exact .ends e h
  | n + 1, j, h => by
    have h : (turn rs (after rs n)).getD j false = true := h
    cases e : rs[j]? with
    | none =>
      rw [List.getD_eq_getElem?_getD, List.getElem?_eq_none (by rw [turn_len]; exact List.getElem?_eq_none_iff.mp e)] at h
      cases h
    | some r =>
      rw [List.getD_eq_getElem?_getD, turn_at e] at h
      have h : ((after rs n).getD j false || hit (after rs n) (goalsOf r)) = true := h
      rcases Bool.or_eq_true_iff.mp h with a | a
      · exact after_sound n j a
      · obtain ⟨g, hg, hb⟩ := List.any_eq_true.mp a
        exact .step e hg (after_sound n _ hb)
/-- what stands behind as many turns as there are states -/
theorem after_opens {rs : List RowD} {j : Nat} : (after rs rs.length).getD j false = true ↔ Opens rs j :=
  ⟨after_sound _ _, opens_fix (fun j r h e => after_ends h e _) fixed⟩
/-- the marks on the way: at least those of k turns, none too many -/
structure Mk (rs : List RowD) (k : Nat) (bs : List Bool) : Prop where
  len : bs.length = rs.length
  le : Le (after rs k) bs
  sound : ∀ j, bs.getD j false = true → Opens rs j
theorem Mk.done {rs : List RowD} {bs : List Bool} (m : Mk rs rs.length bs) : bs = after rs rs.length := by
  refine List.ext_getElem (by rw [m.len, after_len]) fun j h1 h2 => ?_
  have a := m.le j
  have b := fun h => after_opens.mpr (m.sound j h)
  simp only [List.getD_eq_getElem?_getD, List.getElem?_eq_getElem h1, List.getElem?_eq_getElem h2, Option.getD_some] at a b
  have a : (after rs rs.length)[j] = true → bs[j] = true := a
  have b : bs[j] = true → (after rs rs.length)[j] = true := b
  cases hx : bs[j] <;> cases hy : (after rs rs.length)[j]
  · rfl
  · rw [a hy] at hx; cases hx
  · rw [b hx] at hy; cases hy
  · rfl
/-- .. and of the next turn those below t -/
structure Mk2 (rs : List RowD) (k t : Nat) (bs : List Bool) : Prop where
  base : Mk rs k bs
  upto : ∀ j, j < t → (turn rs (after rs k)).getD j false = true → bs.getD j false = true
theorem Mk2.turn {rs : List RowD} {k : Nat} {bs : List Bool} (m : Mk2 rs k rs.length bs) : Mk rs (k + 1) bs := ⟨m.base.len, fun j h => m.upto j (by
  have h : (K05.turn rs (after rs k)).getD j false = true := h
  rcases Nat.lt_or_ge j rs.length with a | a
  · exact a
  · rw [List.getD_eq_getElem?_getD, List.getElem?_eq_none (by rw [turn_len]; exact a)] at h; cases h) h, m.base.sound⟩
theorem bool_at {bs : List Bool} {j : Nat} (h : j < bs.length) : atI (bs.map V.bl) (j : Nat) = some (V.bl (bs.getD j false)) := by
  refine atI_nat ?_
  rw [List.getElem?_map, List.getElem?_eq_getElem h, List.getD_eq_getElem?_getD, List.getElem?_eq_getElem h]
  rfl
theorem set_at {bs : List Bool} {t : Nat} (h : t < bs.length) : (bs.set t true).getD t false = true := by
  rw [List.getD_eq_getElem?_getD, List.getElem?_set_self h]
  rfl
theorem set_ge {bs : List Bool} {t j : Nat} (h : bs.getD j false = true) : (bs.set t true).getD j false = true := by
  by_cases e : t = j
  · subst e
    refine set_at ?_
    rcases Nat.lt_or_ge t bs.length with a | a
    · exact a
    · rw [List.getD_eq_getElem?_getD, List.getElem?_eq_none a] at h; cases h
  · rw [List.getD_eq_getElem?_getD, List.getElem?_set_ne e, ← List.getD_eq_getElem?_getD]
    exact h
theorem Mk2.set {rs : List RowD} {k t : Nat} {bs : List Bool} (m : Mk2 rs k t bs) (h : t < bs.length) (o : Opens rs t) : Mk2 rs k t (bs.set t true) :=
  ⟨⟨by rw [List.length_set, m.base.len], fun j z => set_ge (m.base.le j z), fun j z => by
    by_cases e : t = j
    · exact e ▸ o
    · rw [List.getD_eq_getElem?_getD, List.getElem?_set_ne e, ← List.getD_eq_getElem?_getD] at z
      exact m.base.sound j z⟩, fun j hj z => set_ge (m.upto j hj z)⟩
theorem ixN_of {n t : Nat} (h : t < n) : ixN n (t : Int) = some t := by
  unfold ixN
  split <;> first
    | (split <;> first | rfl | (simp; omega))
    | (simp; omega)
theorem CleansV.app {C : Addr} {H : Hp} : ∀ {vs ws : List V} {rs ss : List RowD}, CleansV C H vs rs → CleansV C H ws ss → CleansV C H (vs ++ ws) (rs ++ ss)
  | [], _, [], _, _, h => h
  | _ :: _, _, _ :: _, _, ⟨a, r⟩, h => ⟨a, CleansV.app r h⟩
  | [], _, _ :: _, _, h, _ => h.elim
  | _ :: _, _, [], _, h, _ => h.elim
/-- a kept row is of tuples and fractions: no list is a part of it -/
theorem CleanV.upd {C : Addr} {H : Hp} {D : Addr} {zs : List V} {o : HO} (h : H D = some (.lst zs)) {v : V} {r : RowD} (c : CleanV C H v r) : CleanV C (L2.upd H D o) v r := by
  have ne : ∀ {q : Addr} {u : HO}, H q = some u → u ≠ .lst zs → (L2.upd H D o) q = some u := fun {q u} hq n => by
    rw [upd_ne (fun z => n (by rw [z, h] at hq; exact (Option.some.inj hq).symm))]
    exact hq
  obtain ⟨p, rfl, c⟩ := c
  cases r with
  | void => exact ⟨p, rfl, ne c (fun z => nomatch z)⟩
  | fin n d => exact let ⟨q, dx, a, b⟩ := c; ⟨p, rfl, q, dx, ne a (fun z => nomatch z), ne b (fun z => nomatch z)⟩
  | step n d gs => exact let ⟨q, dx, t, ys, a, b, e, z⟩ := c; ⟨p, rfl, q, dx, t, ys, ne a (fun z => nomatch z), ne b (fun z => nomatch z), ne e (fun z => nomatch z), z.upd h⟩
theorem CleansV.upd {C : Addr} {H : Hp} {D : Addr} {zs : List V} {o : HO} (h : H D = some (.lst zs)) : ∀ {vs : List V} {rs : List RowD}, CleansV C H vs rs → CleansV C (upd H D o) vs rs
  | [], [], _ => trivial
  | _ :: _, _ :: _, ⟨a, r⟩ => ⟨a.upd h, CleansV.upd h r⟩
  | [], _ :: _, h => h.elim
  | _ :: _, [], h => h.elim
def pf (t : Addr) : List (Str × V) := putF "rows" (.ref t) []
theorem pf_rows (t : Addr) : (pf t).lookup ("rows" : Str) = some (.ref t) := by
  unfold pf
  rw [lookup_putF, if_pos rfl]
theorem inR_of {ws : List Wv} (h : ∀ w ∈ ws, fitB ws.length w = true) : InR (ws.map rowD) := fun r hr => by
  obtain ⟨w, hw, rfl⟩ := List.mem_map.mp hr
  have z := h w hw
  rw [List.length_map]
  unfold fitB at z
  unfold rowD
  cases e : elems w with
  | none => exact ⟨by show 0 ≤ 8; decide, fun g hg => by cases hg⟩
  | some us =>
    rw [e] at z
    match us, z with
    | [], _ => exact ⟨by show 0 ≤ 8; decide, fun g hg => by cases hg⟩
    | [_], _ => exact ⟨by show 0 ≤ 8; decide, fun g hg => by cases hg⟩
    | [_, _], _ => exact ⟨by show 0 ≤ 8; decide, fun g hg => by cases hg⟩
    | _ :: _ :: _ :: _ :: _, _ => exact ⟨by show 0 ≤ 8; decide, fun g hg => by cases hg⟩
    | [k, x, g], z =>
      have z : (isS "step" k && (amtB 0 x && goalsB ws.length g)) = true := z
      rw [Bool.and_eq_true, Bool.and_eq_true] at z
      obtain ⟨gs, eg, g1, g8, rs⟩ := goals_of z.2.2
      show (((elems g).getD []).map pairD).length ≤ 8 ∧ ∀ q ∈ ((elems g).getD []).map pairD, 0 ≤ q.2 ∧ q.2 < (ws.length : Int)
      rw [eg]
      refine ⟨by rw [Option.getD_some, List.length_map]; exact g8, fun q hq => ?_⟩
      obtain ⟨g', hg', rfl⟩ := List.mem_map.mp hq
      obtain ⟨x, y, _, b, c, d⟩ := ris_at rs g' hg'
      rw [b]
      exact ⟨c, d⟩
section
variable {P : Program} {w : World} {K : PySem.W.Frag} {mg : Str → Option Value} {base : Heap} {a : Ad}
theorem passN {X : Cx} : Passes (L2N.CX P w) X (fun _ _ _ => False) := fun _ _ _ _ _ _ _ ⟨_, _, _, _, _, _, _, _, _, _, _, _, h⟩ => h.elim
/-- a def that may raise -/
theorem okN {x qual : Str} {st : Stmt} {f : Addr} {fd : FuncData} {N ps : List Str} {k : Nat} {sp : Sp} (F : Fun K x qual st f fd) (S : FnScope N ps (defScope st)) (len : ∀ vs H Q E, sp vs H Q E → vs.length = ps.length)
    (hbody : ∀ (cdv : Value) (A : Around) (outer : List Env) (s : Shared) (H : Hp) (vs : List V) (Q : VK) (E : XK), Room k (A.deeper (envOfC qual (defScope st) s.heap.objs.size f cdv)) → sp vs H Q E →
      ∃ t, PSs (cxOf (L2N.CX P w) P w K mg base N qual (defScope st) f cdv A outer s H E) (defBody st) t ∧ t { nx := fun _ H' => Q .non H', rt := Q } (L2.start N vs) H) : FnOk P w K mg base (L2N.CX P w) (k + 1) f fd ps sp := by
  obtain ⟨oc, od, kV, doc, pm, an, cdv, ct, osl, rfl, lk, hcd⟩ := F.ex
  exact fn_of lk hcd S len fun A outer s H vs Q E hr hsp => hbody cdv A outer s H vs Q E hr hsp
/-! ### the errors -/
def spEx (C : Addr) : Sp := fun vs H Q _ => ∃ (p : Addr) (v : V), vs = [.ref p, v] ∧ H p = some (exo p C none) ∧ ∀ d, H d = none → d ≠ p → Q .non (upd (upd H d (exd d [("state", v)])) p (exo p C (some d)))
theorem ex_made {C x : Addr} {v : V} {H1 : Hp} {E : XK} (hx : H1 x = none) (k : ∀ d H', H1 d = none → H' d = some (.xd [("state", v)]) → Same H1 H' → E (.ref C) (some d) H') :
    spEx C [.ref x, v] (upd H1 x (exo x C none)) (fun v' H2 => v' = .non ∧ ∃ d, H2 x = some (exo x C (some d)) ∧ ∃ fs, H2 d = some (exd d fs) ∧ H1 d = none ∧ E (.ref C) (some d) (upd (del H2 x) d (.xd fs))) (fun _ _ _ => False) := by
  refine ⟨x, v, rfl, upd_same, fun d hd hne => ?_⟩
  rw [upd_ne hne] at hd
  refine ⟨rfl, d, upd_same, _, (upd_ne hne).trans upd_same, hd, k d _ hd upd_same fun b o e => ?_⟩
  have nd : b ≠ d := ne_of_none e hd
  have nx : b ≠ x := ne_of_none e hx
  rw [upd_ne nd, del_ne nx, upd_ne nx, upd_ne nd, upd_ne nx]
  exact e
theorem sc_InvalidProject_init : FnScope ["self", "state"] ["self", "state"] (defScope s_InvalidProject_init) := ⟨rfl, rfl, rfl, by decide +kernel, rfl, by decide +kernel, by decide +kernel⟩
theorem ok_InvalidProject_init (T : Txt K mg a) : FnOk P w K mg base CX0 1 a.a_InvalidProject_init a.d_InvalidProject_init ["self", "state"] (spEx a.C_InvalidProject) := by
  refine T.fn_InvalidProject_init.ok sc_InvalidProject_init (fun vs H Q E h => ?_) (fun cdv A outer s H vs Q E hr h => ?_)
  · obtain ⟨p, v, rfl, _⟩ := h
    rfl
  · obtain ⟨p, v, rfl, hp, k⟩ := h
    refine ⟨_, (pss_one (ps_ost (pv 0) (pv 1))), ?_⟩
    refine ⟨_, rfl, _, rfl, p, _, rfl, T.ex_InvalidProject, T.na_InvalidProject_state, .inl ⟨hp, fun dx hd hne => k dx hd hne⟩⟩
theorem sc_Endless_init : FnScope ["self", "state"] ["self", "state"] (defScope s_Endless_init) := ⟨rfl, rfl, rfl, by decide +kernel, rfl, by decide +kernel, by decide +kernel⟩
theorem ok_Endless_init (T : Txt K mg a) : FnOk P w K mg base CX0 1 a.a_Endless_init a.d_Endless_init ["self", "state"] (spEx a.C_Endless) := by
  refine T.fn_Endless_init.ok sc_Endless_init (fun vs H Q E h => ?_) (fun cdv A outer s H vs Q E hr h => ?_)
  · obtain ⟨p, v, rfl, _⟩ := h
    rfl
  · obtain ⟨p, v, rfl, hp, k⟩ := h
    refine ⟨_, (pss_one (ps_ost (pv 0) (pv 1))), ?_⟩
    refine ⟨_, rfl, _, rfl, p, _, rfl, T.ex_Endless, T.na_Endless_state, .inl ⟨hp, fun dx hd hne => k dx hd hne⟩⟩
/-! ### clean_rows -/
/-- what becomes of the rows -/
structure Ends (C IC EC : Addr) (H : Hp) (w : Wv) (Qy : Addr → Hp → Prop) (E : XK) : Prop where
  yes : ∀ ws, elems w = some ws → 1 ≤ ws.length → ws.length ≤ 8 → (∀ x ∈ ws, fitB ws.length x = true) → firstOpen (after (ws.map rowD) ws.length) = none → ∀ t ys H', Same H H' → H' t = some (.tup ys) → CleansV C H' ys (ws.map rowD) → Qy t H'
  whole : rowB 1 8 w = false → ∀ d H', H d = none → H' d = some (.xd [("state", .non)]) → Same H H' → E (.ref IC) (some d) H'
  row : ∀ ws (i : Nat) x, elems w = some ws → 1 ≤ ws.length → ws.length ≤ 8 → ws[i]? = some x → fitB ws.length x = false → (∀ u ∈ ws.take i, fitB ws.length u = true) → ∀ d H', H d = none → H' d = some (.xd [("state", .int (i : Nat))]) → Same H H' → E (.ref IC) (some d) H'
  close : ∀ ws (n : Nat), elems w = some ws → 1 ≤ ws.length → ws.length ≤ 8 → (∀ x ∈ ws, fitB ws.length x = true) → firstOpen (after (ws.map rowD) ws.length) = some n → ∀ d H', H d = none → H' d = some (.xd [("state", .int (n : Nat))]) → Same H H' → E (.ref EC) (some d) H'
def RowsOk (w : Wv) : Prop := ∀ ws, elems w = some ws → ∀ x ∈ ws, RowOk x
def spRows (C IC EC : Addr) : Sp := fun vs H Q E => ∃ (v : V) (w : Wv), vs = [v] ∧ IsW C H v w ∧ RowsOk w ∧ Ends C IC EC H w (fun t => Q (.ref t)) E
theorem sc_clean_rows : FnScope ["rows", "cleaned", "state", "row", "clean", "endless"] ["rows"] (defScope s_clean_rows) := ⟨rfl, rfl, rfl, by decide +kernel, rfl, by decide +kernel, by decide +kernel⟩
theorem ok_clean_rows (T : Txt K mg a) : FnOk P w K mg base (L2N.CX P w) 9 a.a_clean_rows a.d_clean_rows ["rows"] (spRows a.C_Frac a.C_InvalidProject a.C_Endless) := by
  refine okN T.fn_clean_rows sc_clean_rows (fun vs H Q E h => ?_) (fun cdv A outer s H vs Q E hr h => ?_)
  · obtain ⟨v, w, rfl, _⟩ := h
    rfl
  · obtain ⟨v, w', rfl, t, ro, en⟩ := h
    obtain ⟨t1, mg_MOST_STATES⟩ := T.mg_MOST_STATES
    refine ⟨_, (pss_cons (ps_if (pt_not (pt_val (pe_call (ok_is_row_of T) (hr.mono (by decide)) (by rfl) T.mg_is_row_of T.fn_is_row_of.kp T.b_is_row_of .nil pass0 (pa_cons (pv 0) (pa_cons pe_int (pa_cons (pe_glob (v := .int 8) rfl mg_MOST_STATES ⟨_, rfl⟩) pa_nil)))))) (pss_one (L2N.ps_raise rfl (L2N.takes_of rfl rfl rfl rfl) (pmk_oexN T.ex_InvalidProject T.xi_InvalidProject T.ti_InvalidProject (ok_InvalidProject_init T) (hr.mono (by decide)) T.b_InvalidProject_init pass0 (by rfl) T.mg_InvalidProject (pa_cons pe_non pa_nil)))) pss_nil)
      (pss_cons (ps_set (i := 1) sc_clean_rows.nd rfl (Or.inl rfl) (pe_lst pa_nil))
      (pss_cons (ps_for (passes_of rfl) rfl (pi_enumS (by rfl) T.no_enumerate (pa_cons (pv 0) pa_nil)) (pg_seq (n := 2) rfl (pgs_cons (pg_name (i := 2) sc_clean_rows.nd rfl (Or.inl rfl)) (pgs_cons (pg_name (i := 3) sc_clean_rows.nd rfl (Or.inl rfl)) pgs_nil)))
        (pss_cons (ps_set (i := 4) sc_clean_rows.nd rfl (Or.inl rfl) (pe_call (ok_clean_row T) (hr.mono (by decide)) (by rfl) T.mg_clean_row T.fn_clean_row.kp T.b_clean_row .nil pass0 (pa_cons (pv 3) (pa_cons (pe_callB (lenK K) (by rfl) T.no_len PySem.boot_len (pa_cons (pv 0) pa_nil)) pa_nil))))
        (pss_cons (ps_if (pt_cmpR op_isN (pv 4) pe_non (nomark _)) (pss_one (L2N.ps_raise rfl (L2N.takes_of rfl rfl rfl rfl) (pmk_oexN T.ex_InvalidProject T.xi_InvalidProject T.ti_InvalidProject (ok_InvalidProject_init T) (hr.mono (by decide)) T.b_InvalidProject_init pass0 (by rfl) T.mg_InvalidProject (pa_cons (pv 2) pa_nil)))) pss_nil)
        (pss_one (ps_expr (pe_bm PySem.F.plainAttrs_list PySem.F.slot_list_append PySem.F.type_list_append mt_append (pv 1) (pa_cons (pv 4) pa_nil)))))))
      (pss_cons (ps_set (i := 5) sc_clean_rows.nd rfl (Or.inl rfl) (pe_call (ok_first_endless T) (hr.mono (by decide)) (by rfl) T.mg_first_endless T.fn_first_endless.kp T.b_first_endless .nil pass0 (pa_cons (pv 1) pa_nil)))
      (pss_cons (ps_if (pt_cmpR op_notN (pv 5) pe_non (nomark _)) (pss_one (L2N.ps_raise rfl (L2N.takes_of rfl rfl rfl rfl) (pmk_oexN T.ex_Endless T.xi_Endless T.ti_Endless (ok_Endless_init T) (hr.mono (by decide)) T.b_Endless_init pass0 (by rfl) T.mg_Endless (pa_cons (pv 5) pa_nil)))) pss_nil)
      (pss_one (ps_ret (pe_callTy call_tuple_of (by rfl) T.no_tuple (by decide +kernel) (pa_cons (pv 1) pa_nil))))))))), ?_⟩
    show (_ : TS) _ [some v, none, none, none, none, none] H
    refine cut (fun σ H1 => ∃ ws, σ = [some v, none, none, none, none, none] ∧ Same H H1 ∧ elems w' = some ws ∧ 1 ≤ ws.length ∧ ws.length ≤ 8) (fun R hR => ?_) (fun σ H1 h => ?_)
    · walk_at "rd"
      refine ⟨v, w', 1, 8, rfl, t, fun H1 e1 => ⟨_, rfl, ite2 (fun h => ?_) (fun h => ?_)⟩⟩
      · have h : rowB 1 8 w' = false := by simpa using h
        exact ⟨by decide, fun x hx => ex_made hx fun d H' hd ed e => en.whole h d H' (e1.free hd) ed (e1.trans e)⟩
      · have h : rowB 1 8 w' = true := by simpa using h
        unfold rowB at h
        cases e : elems w' with
        | none => rw [e] at h; cases h
        | some ws =>
          rw [e] at h
          have h : (decide ((1 : Int) ≤ (ws.length : Int)) && decide ((ws.length : Int) ≤ 8)) = true := h
          rw [Bool.and_eq_true, decide_eq_true_eq, decide_eq_true_eq] at h
          exact hR _ _ ⟨ws, rfl, e1, e, by omega, by omega⟩
    obtain ⟨ws, rfl, e1, ew, r1, r8⟩ := h
    obtain ⟨p, l, xs, rfl, hp, iw⟩ := isw_elems t ew
    have len := iw.len
    have rok := ro ws ew
    refine cut (fun σ H2 => ∃ c, σ = [some (V.ref p), some (V.ref c), none, none, none, none] ∧ Same H H2 ∧ H c = none ∧ H2 c = some (.lst [])) (fun R hR => ?_) (fun σ H2 h => ?_)
    · walk_at "rd"
      exact ⟨by decide, fun c hc => hR _ _ ⟨c, rfl, e1.trans (same_upd hc), e1.free hc, upd_same⟩⟩
    obtain ⟨c, rfl, e2, hc0, at2⟩ := h
    walk_at "rd"
    refine ⟨l, xs, e2 _ _ hp, loop_goes goes_enum (fun σ H' => ∃ o2 o3 o4 o5 acc, σ = [some (V.ref p), some (V.ref c), o2, o3, o4, o5] ∧ Same H H' ∧ H' c = some (.lst acc) ∧ CleansV a.C_Frac H' acc (ws.map rowD) ∧ ∀ x ∈ ws, fitB ws.length x = true)
      (fun i σ H' => ∃ o2 o3 o4 o5 acc, σ = [some (V.ref p), some (V.ref c), o2, o3, o4, o5] ∧ Same H H' ∧ H' c = some (.lst acc) ∧ acc.length = i ∧ CleansV a.C_Frac H' acc ((ws.take i).map rowD) ∧ ∀ x ∈ ws.take i, fitB ws.length x = true)
      ⟨none, none, none, none, [], rfl, e2, at2, rfl, trivial, fun x h => by cases h⟩ (fun i σ H' _ ⟨_, _, _, _, _, _, e, _⟩ => e _ _ hp) ?_ (fun σ H' ⟨o2, o3, o4, o5, acc, q1, q2, q3, _, q4, q5⟩ => ⟨o2, o3, o4, o5, acc, q1, q2, q3, by rw [len, List.take_length] at q4; exact q4, by rw [len, List.take_length] at q5; exact q5⟩) ?_⟩
    · rintro bk hbk i y σ H3 H3' hi ⟨o2, o3, o4, o5, acc, rfl, e3, a3, l3, c3, f3⟩ ⟨t, z, rfl, ht, rfl, hz⟩
      obtain ⟨x, hx, xw⟩ := (iw.same e3).at hz
      have te := same_upd (o := .tup [.int (i : Nat), z]) ht
      have e4 := e3.trans te
      walk_at "rd"
      refine ⟨false, _, rfl, rfl, _, _, rfl, _, _, rfl, rfl, _, seqOr (e4 _ _ hp), z, x, _, rfl, xw.same te, rok x (List.mem_of_getElem? hx), fun hf H5 e5 => ?_, fun hf v' H5 e5 cl => ?_⟩
      · show (if V.non = V.non then _ else _)
        rw [if_pos rfl]
        have e05 := e4.trans e5
        rw [len] at hf
        exact ⟨by decide, fun x0 hx0 => ex_made hx0 fun d H' hd ed e => en.row ws i x ew r1 r8 hx hf f3 d H' (e05.free hd) ed (e05.trans e)⟩
      · have nn : ¬ v' = V.non := by
          obtain ⟨q, rfl, _⟩ := cl
          exact fun z => nomatch z
        show (if v' = V.non then _ else _)
        rw [if_neg nn]
        simp only [tBM, rAppend]
        walk_at "rd"
        rw [len] at hf
        have a5 := e5 _ _ (te _ _ a3)
        refine ⟨.inl ⟨rfl, _, SqL.of a5⟩, acc, a5, small1000 (by omega), fun b o hb => (upd_ne (ne_of_none hb hc0)).trans (e5 _ _ (e4 _ _ hb)), by rw [List.length_append, l3]; rfl, ?_, fun u hu => ?_⟩
        · rw [List.take_add_one, hx, List.map_append]
          exact CleansV.app (CleansV.upd a5 ((c3.same te).same e5)) ⟨cl.upd a5, trivial⟩
        · rw [List.take_add_one, hx] at hu
          rcases List.mem_append.mp hu with hu | hu
          · exact f3 u hu
          · rw [List.mem_singleton.mp hu]; exact hf
    · rintro σ H3 ⟨o2, o3, o4, o5, acc, rfl, e3, a3, c3, fa⟩
      walk_at "rd"
      refine ⟨c, acc, ws.map rowD, rfl, a3, c3, by rw [List.length_map]; exact r8, inR_of fa, fun H4 e4 => ?_⟩
      have e04 := e3.trans e4
      rw [List.length_map]
      cases fo : firstOpen (after (ws.map rowD) ws.length) with
      | none =>
        show (if (!decide (V.non = V.non)) = true then _ else _)
        rw [if_neg (by simp)]
        refine ⟨acc, .inl ⟨SqL.of (e4 _ _ a3), fun t ht => ?_⟩⟩
        exact en.yes ws ew r1 r8 fa fo t acc _ (e04.trans (same_upd ht)) upd_same ((c3.same e4).same (same_upd ht))
      | some n =>
        show (if (!decide (V.int (n : Nat) = V.non)) = true then _ else _)
        rw [if_pos (by simp)]
        exact ⟨by decide, fun x hx => ex_made hx fun d H' hd e s => en.close ws n ew r1 r8 fa fo d H' (e04.free hd) e (e04.trans s)⟩
/-! ### Project.__init__ -/
def spProj (PC C IC EC : Addr) : Sp := fun vs H Q E => ∃ (q dx : Addr) (v : V) (w : Wv), vs = [.ref q, v] ∧ H q = some (.ins PC dx []) ∧ IsW C H v w ∧ RowsOk w ∧ Ends C IC EC H w (fun t H1 => Q .non (upd H1 q (.ins PC dx (pf t)))) E
theorem sc_Project_init : FnScope ["self", "rows"] ["self", "rows"] (defScope s_Project_init) := ⟨rfl, rfl, rfl, by decide +kernel, rfl, by decide +kernel, by decide +kernel⟩
theorem ok_Project_init (T : Txt K mg a) : FnOk P w K mg base (L2N.CX P w) 10 a.a_Project_init a.d_Project_init ["self", "rows"] (spProj a.C_Project a.C_Frac a.C_InvalidProject a.C_Endless) := by
  refine okN T.fn_Project_init sc_Project_init (fun vs H Q E h => ?_) (fun cdv A outer s H vs Q E hr h => ?_)
  · obtain ⟨q, dx, v, w, rfl, _⟩ := h
    rfl
  · obtain ⟨q, dx, v, w', rfl, hq, t, ro, en⟩ := h
    refine ⟨_, (pss_one (ps_fld (pv 0) (pe_callS (ok_clean_rows T) (hr.mono (by decide)) (by rfl) T.mg_clean_rows T.fn_clean_rows.kp T.b_clean_rows (fun σ => L2N.passAt (L2N.takes_of rfl rfl rfl rfl) σ) (pa_cons (pv 1) pa_nil)) rfl)), ?_⟩
    show (_ : TS) _ [some (V.ref q), some v] H
    walk_at "rd"
    refine ⟨v, w', rfl, t, ro, ⟨fun ws ew r1 r8 fa fo t ys H1 e1 ht cl => ?_, en.whole, en.row, en.close⟩⟩
    exact ⟨_, _, _, e1 _ _ hq, T.cl_Project, T.na_Project_rows, by show 0 < 1000; decide, en.yes ws ew r1 r8 fa fo t ys H1 e1 ht cl⟩
/-! ### __len__, kind -/
def spLen (PC : Addr) : Sp := fun vs H Q _ => ∃ (q dx t : Addr) (ys : List V), vs = [.ref q] ∧ H q = some (.ins PC dx (pf t)) ∧ H t = some (.tup ys) ∧ Q (.int ys.length) H
theorem sc_Project_len : FnScope ["self"] ["self"] (defScope s_Project_len) := ⟨rfl, rfl, rfl, by decide +kernel, rfl, by decide +kernel, by decide +kernel⟩
theorem ok_Project_len (T : Txt K mg a) : FnOk P w K mg base CX0 1 a.a_Project_len a.d_Project_len ["self"] (spLen a.C_Project) := by
  refine T.fn_Project_len.ok sc_Project_len (fun vs H Q E h => ?_) (fun cdv A outer s H vs Q E hr h => ?_)
  · obtain ⟨q, dx, t, ys, rfl, _⟩ := h
    rfl
  · obtain ⟨q, dx, t, ys, rfl, hq, ht, k⟩ := h
    refine ⟨_, (pss_one (ps_ret (pe_callB Rd.call_lenT (by rfl) T.no_len PySem.boot_len (pa_cons (pe_fldK K (pv 0)) pa_nil)))), ?_⟩
    show (_ : TS) _ [some (V.ref q)] H
    walk_at "rd"
    exact ⟨_, _, _, hq, T.cl_Project, T.na_Project_rows, _, pf_rows t, t, rfl, ys, SqT.of ht, k⟩
def kindOf : RowD → Str
  | .void => "void"
  | .fin .. => "end"
  | .step .. => "step"
theorem CleanV.kind {C : Addr} {H : Hp} {v : V} {r : RowD} (h : CleanV C H v r) : ∃ p rest, v = .ref p ∧ H p = some (.tup (.str (kindOf r) :: rest)) := by
  obtain ⟨p, rfl, h⟩ := h
  cases r with
  | void => exact ⟨p, _, rfl, h⟩
  | fin n d => exact let ⟨q, dx, a, b⟩ := h; ⟨p, _, rfl, a⟩
  | step n d gs => exact let ⟨q, dx, t, ys, a, _⟩ := h; ⟨p, _, rfl, a⟩
def spKindP (PC C : Addr) : Sp := fun vs H Q _ => ∃ (q dx t : Addr) (ys : List V) (rs : List RowD) (i : Nat) (r : RowD), vs = [.ref q, .int i] ∧ H q = some (.ins PC dx (pf t)) ∧ H t = some (.tup ys) ∧ CleansV C H ys rs ∧ rs[i]? = some r ∧ Q (.str (kindOf r)) H
theorem sc_Project_kind : FnScope ["self", "state"] ["self", "state"] (defScope s_Project_kind) := ⟨rfl, rfl, rfl, by decide +kernel, rfl, by decide +kernel, by decide +kernel⟩
theorem ok_Project_kind (T : Txt K mg a) : FnOk P w K mg base CX0 1 a.a_Project_kind a.d_Project_kind ["self", "state"] (spKindP a.C_Project a.C_Frac) := by
  refine T.fn_Project_kind.ok sc_Project_kind (fun vs H Q E h => ?_) (fun cdv A outer s H vs Q E hr h => ?_)
  · obtain ⟨q, dx, t, ys, rs, i, r, rfl, _⟩ := h
    rfl
  · obtain ⟨q, dx, t, ys, rs, i, r, rfl, hq, ht, cl, hi, k⟩ := h
    refine ⟨_, (pss_one (ps_ret (pe_ix ixHT (pe_ix ixHT (pe_fldK K (pv 0)) (pv 1) (fun _ _ => rfl)) pe_int (fun _ _ => rfl)))), ?_⟩
    show (_ : TS) _ [some (V.ref q), some (V.int i)] H
    walk_at "rd"
    obtain ⟨v, hv⟩ : ∃ v, ys[i]? = some v := by
      have z := (List.getElem?_eq_some_iff.mp hi).1
      rw [← cl.len] at z
      exact ⟨_, List.getElem?_eq_getElem z⟩
    obtain ⟨r', hr', cv⟩ := cl.at hv
    rw [hi] at hr'
    cases hr'
    obtain ⟨w', rest, rfl, hw⟩ := cv.kind
    exact ⟨_, _, _, hq, T.cl_Project, T.na_Project_rows, _, pf_rows t, t, rfl, ys, ht, _, atI_nat hv, w', rfl, _, hw, _, Rd.at0, k⟩
end

end K05
namespace K05
open PySem PySem.Spec PyProof.Rows L2 Own OwnSeq OwnSet OwnComb OwnSort OwnHot OwnExN OwnProj
local macro_rules | `(tactic| walk_at "rd") => `(tactic| simp only [tSeq, tAsg, tOp, tUn, tVar, gName, gSub, rIxL, rIxT, rSetL, tC, rI0, rI, rU, rEq, rNe, tCons, tNil, tCB, tLst, tTup, tIfS, tAnd, tOr, tNot, tAndV, tOrV, tNotV, tTest, tB, tIf, tRet, tDrop, tNext, tBreak, tCont, tCall, tCallS, L2.WE, tMakeS, rIsS, rIsB, tChain, gSeq, gRest, gCons, gNil, tFor_seq, tFor_enumS, tLc_seq, tLc_enumS, rAny, rAll, L2.tMeth, StX.tStar, rIn, tLstRg, tRg1, tRg2, rSetI, rSortedSet, rInDT, rInD, rNotInD, rEqD, rNeD, iComb, tFld, tMake, tMkO, sFld, tOst, tNever, tBits, clv, isB,
  Rd.tFor_rng1, Rd.tFor_rng2, Rd.tFor_list, Rd.tFor_tup, Rd.tLc_list, Rd.tLc_tup, Rd.tLc_rng1, Rd.LcTurn, tYes, wipe, Rd.rLenL, Rd.rLenT, Rd.rIntI, Rd.rIxH, rIxHT,  HO.tup.injEq, Rd.at0, Rd.at1, Rd.at2, Rd.at3, Rd.ixN40, Rd.ixN41, Rd.ixN42, Rd.ixN43, Rd.scal_ii, cxOf,
  List.length_cons, List.length_nil, List.length_map, List.map_cons, List.map_nil, upd_same, decide_eq_true_eq, decide_true, decide_false, if_true, if_false, Bool.false_eq_true, Bool.not_true, Bool.not_false, HO.lst.injEq, HO.ins.injEq, List.set_cons_zero, List.set_cons_succ, List.getElem?_cons_zero, List.getElem?_cons_succ, List.append_nil, List.nil_append, List.cons_append, Option.some.injEq, V.ref.injEq, V.int.injEq, V.bl.injEq, List.cons.injEq, exists_eq_left', exists_and_left, exists_eq_left, true_and, and_true, and_self, and_assoc, implies_true, reduceCtorEq, Nat.reduceAdd])

section
variable {P : Program} {w : World} {K : PySem.W.Frag} {mg : Str → Option Value} {base : Heap} {a : Ad}
theorem passAt0 {X : Cx} {σ : L2.St} : PassesAt CX0 X σ E0 := fun _ _ _ _ _ _ h => h.elim
theorem fn_zero {P : Program} {w : World} {K : PySem.W.Frag} {mg : Str → Option Value} {base : Heap} {CX : CXT} {k : Nat} {f : Addr} {fd : FuncData} {ps : List Str} : FnOk P w K mg base CX k f fd ps (fun _ _ _ _ => False) := ⟨fun _ _ _ _ h => h.elim, fun _ _ _ _ _ _ _ _ _ _ _ _ _ h => h.elim⟩
theorem roomM {k : Nat} {A : Around} {h : Option Value} (r : Room k A) : L2H.RoomH k (A.mark h) := ⟨r.dp, r.un⟩
theorem hotN {A : Around} {a : Addr} {oe : Obj} {cls : Value} {d : Option Addr} (hz : L2N.Zn cls d oe) (hf : ∃ vs, oe.data = .fields vs) : L2H.Hot1 (A.mark (some (.ref a))) (a, oe) := ⟨rfl, let ⟨v, e⟩ := hf; ⟨v, e, hz.2.2 v e⟩⟩
/-- the rule of a def that is called while an exception is handled -/
theorem okH {x qual : Str} {st : Stmt} {f : Addr} {fd : FuncData} {N ps : List Str} {k : Nat} {sp : Sp} (F : Fun K x qual st f fd) (S : FnScope N ps (defScope st)) (len : ∀ vs H Q E, sp vs H Q E → vs.length = ps.length)
    (hbody : ∀ (cdv : Value) (A : Around) (outer : List Env) (s : Shared) (H : Hp) (vs : List V) (Q : VK) (E : XK) (p : Addr × Obj), L2H.Hot1 A p → L2H.RoomH k (A.deeper (envOfC qual (defScope st) s.heap.objs.size f cdv)) → sp vs H Q E →
      ∃ t, PSs (L2H.cxH CX0 P w K mg base N qual (defScope st) f cdv A outer s H E p) (defBody st) t ∧ t { nx := fun _ H' => Q .non H', rt := Q } (L2.start N vs) H) : L2H.FnH P w K mg base CX0 (k + 1) f fd ps sp := by
  obtain ⟨oc, od, kV, doc, pm, an, cdv, ct, osl, rfl, lk, hcd⟩ := F.ex
  exact L2H.fn_ofH lk hcd S len fun A outer s H vs Q E p hot hr hsp => hbody cdv A outer s H vs Q E p hot hr hsp
end
/-- an item of a list or a tuple -/
def rIxHS : R2 := fun x y H Q => ∃ p xs i z l, x = .ref p ∧ y = .int i ∧ H p = some (sq l xs) ∧ atI xs i = some z ∧ Q z H
theorem ixHS {X : Cx} : IxR X rIxHS := fun value slice pins s σ H x y v u Q I rx ry ⟨p, xs, i, z, l, e1, e2, h, e3, q⟩ hs => by
  cases l with
  | true => exact Rd.ixH value slice pins s σ H x y v u Q I rx ry ⟨p, xs, i, z, e1, e2, h, e3, q⟩ hs
  | false => exact ixHT value slice pins s σ H x y v u Q I rx ry ⟨p, xs, i, z, e1, e2, h, e3, q⟩ hs
theorem pi_told {X : Cx} {e tg : Expr} {te : TE} (K : PySem.W.Frag) (he : PE X e te) (hK : X.K = K := by rfl) : PI X tg e (iSeq K te) := hK ▸ pi_seq he
theorem pi_toldL {X : Cx} {e tg : Expr} {te : TE} (K : PySem.W.Frag) (he : PE X e te) (hK : X.K = K := by rfl) : PI X tg e (iList K te) := hK ▸ pi_list he
/-- str(None), str(a bool), str(an int) -/
def txS : Wv → Str
  | .bl b => if b then "True" else "False"
  | .int i => toString i
  | _ => "None"
theorem callStr {X : Cx} : CallR X (.type "str") (fun xs H Q => ∃ v w, xs = [v] ∧ (w = .non ∧ v = .non ∨ (∃ b, w = .bl b ∧ v = .bl b) ∨ ∃ i : Int, w = .int i ∧ v = .int i ∧ i.natAbs.log2 < 1920) ∧ Q (.str (txS w)) H) := by
  intro pins s σ H xs us Q I r h
  obtain ⟨v, w, rfl, hz, q⟩ := h
  obtain ⟨u, rfl, r1⟩ := vals1 r
  rcases hz with ⟨rfl, rfl⟩ | ⟨b, rfl, rfl⟩ | ⟨i, rfl, rfl, hz⟩
  · cases r1
    exact PySem.P.str_of_none ⟨.str _, H, I.tok _, ⟨_, rfl⟩, q⟩
  · cases r1
    exact PySem.P.str_of_bool ⟨.str _, H, I.tok _, ⟨_, rfl⟩, q⟩
  · obtain ⟨t, rfl⟩ := r1
    exact PySem.P.str_of_int hz ⟨.str _, H, I.tok _, ⟨_, rfl⟩, q⟩
theorem len_app (i j : Str) : (i ++ j).length = i.length + j.length := Array.size_append
theorem int_len {i : Int} (h : i.natAbs < 10 ^ 370) : (Str.ofString (toString i)).length ≤ 371 := by
  rw [PyProof.Rows.ofString_len]
  exact PySem.int_text_length_le10 (by decide) h
theorem num_len {i : Int} (h : i.natAbs < 10 ^ 6) : (Str.ofString (toString i)).length ≤ 7 := by
  rw [PyProof.Rows.ofString_len]
  exact PySem.int_text_length_le10 (by decide) h
theorem log_fit {i : Int} (h : i.natAbs < 10 ^ 370) : i.natAbs.log2 < 1920 := by
  by_cases z : i.natAbs = 0
  · rw [z]; decide
  · exact (Nat.log2_lt z).mpr (Nat.lt_of_lt_of_le h (by decide +kernel))
theorem log_num {i : Int} (h : i.natAbs < 10 ^ 6) : i.natAbs.log2 < 1920 := log_fit (Nat.lt_of_lt_of_le h (Nat.pow_le_pow_right (by decide) (by decide)))
/-! ### _law_text -/
mutual
def tx : Wv → Str
  | .fr n d => (((Str.ofString "F(" ++ toString n) ++ Str.ofString ",") ++ toString d) ++ Str.ofString ")"
  | .lst ws => (Str.ofString "[" ++ Txt.join (Str.ofString ",") (txs ws)) ++ Str.ofString "]"
  | .tup ws => (Str.ofString "(" ++ Txt.join (Str.ofString ",") (txs ws)) ++ Str.ofString ")"
  | .str s => (Str.ofString "'" ++ s) ++ Str.ofString "'"
  | w => txS w
def txs : List Wv → List Str
  | [] => []
  | w :: ws => tx w :: txs ws
end
theorem txs_eq : ∀ ws : List Wv, txs ws = ws.map tx
  | [] => rfl
  | w :: ws => by rw [List.map_cons, ← txs_eq ws]; rfl
theorem txs_len (ws : List Wv) : (txs ws).length = ws.length := by rw [txs_eq, List.length_map]
theorem sum_le {B : Nat} : ∀ {ws : List Wv}, (∀ w ∈ ws, (tx w).length ≤ B) → ((txs ws).map (·.length)).sum ≤ ws.length * B
  | [], _ => by simp [txs]
  | w :: ws, h => by
    have i := sum_le fun w m => h w (List.mem_cons_of_mem _ m)
    have j := h w List.mem_cons_self
    rw [List.length_cons, Nat.succ_mul]
    show (tx w).length + ((txs ws).map (·.length)).sum ≤ _
    omega
/-- a value whose text is not too long -/
inductive Fit : Nat → Wv → Prop
  | non {d} : Fit d .non
  | bl {d} (b : Bool) : Fit d (.bl b)
  | int {d} {i : Int} (h : i.natAbs < 10 ^ 370) : Fit d (.int i)
  | str {d} {s : Str} (h : s.length ≤ 10) : Fit d (.str s)
  | fr {d} {n e : Int} (h : n.natAbs < 10 ^ 6) (h' : e.natAbs < 10 ^ 6) : Fit d (.fr n e)
  | lst {d} {ws : List Wv} (m : Nat) (l : ws.length ≤ 200) (h : ∀ w ∈ ws, Fit d w) (ht : ∀ w ∈ ws, (tx w).length ≤ m) (b : ws.length * m + ws.length ≤ 8000000) : Fit (d + 1) (.lst ws)
  | tup {d} {ws : List Wv} (m : Nat) (l : ws.length ≤ 200) (h : ∀ w ∈ ws, Fit d w) (ht : ∀ w ∈ ws, (tx w).length ≤ m) (b : ws.length * m + ws.length ≤ 8000000) : Fit (d + 1) (.tup ws)
theorem Fit.up {d : Nat} : ∀ {w : Wv}, Fit d w → Fit (d + 1) w := by
  induction d with
  | zero =>
    intro w h
    cases h with
    | non => exact .non
    | bl b => exact .bl b
    | int h => exact .int h
    | str h => exact .str h
    | fr h h' => exact .fr h h'
  | succ d ih =>
    intro w h
    cases h with
    | non => exact .non
    | bl b => exact .bl b
    | int h => exact .int h
    | str h => exact .str h
    | fr h h' => exact .fr h h'
    | lst m l h t b => exact .lst m l (fun w m => ih (h w m)) t b
    | tup m l h t b => exact .tup m l (fun w m => ih (h w m)) t b
theorem Fit.le {d e : Nat} (h : d ≤ e) {w : Wv} (f : Fit d w) : Fit e w := by
  induction h with
  | refl => exact f
  | step _ ih => exact ih.up
theorem join_fit {m : Nat} {ws : List Wv} (h : ∀ w ∈ ws, (tx w).length ≤ m) : ((txs ws).map (·.length)).sum + (txs ws).length * (Str.ofString ",").length ≤ ws.length * m + ws.length ∧ (Txt.join (Str.ofString ",") (txs ws)).length ≤ ws.length * m + ws.length := by
  have a := sum_le h
  have c : (Str.ofString ",").length = 1 := by decide +kernel
  have d := PySem.StrLaws.join_length_le (Str.ofString ",") (txs ws)
  rw [show Str.join (Str.ofString ",") (txs ws) = Txt.join (Str.ofString ",") (txs ws) from (PySem.StrLaws.glued_eq_join _ _).symm] at d
  rw [txs_len, c, Nat.mul_one] at *
  exact ⟨by omega, by omega⟩
section
variable {P : Program} {w : World} {K : PySem.W.Frag} {mg : Str → Option Value} {base : Heap} {a : Ad}
/-! ### _law_integer -/
theorem sc_law_integer : FnScope ["value"] ["value"] (defScope s_law_integer) := ⟨rfl, rfl, rfl, by decide +kernel, rfl, by decide +kernel, by decide +kernel⟩
theorem ok_law_integer (T : Txt K mg a) : FnOk P w K mg base CX0 1 a.a_law_integer a.d_law_integer ["value"] (spWhole a.C_Frac) := by
  refine T.fn_law_integer.ok sc_law_integer (fun vs H Q E h => ?_) (fun cdv A outer s H vs Q E hr h => ?_)
  · obtain ⟨v, g, rfl, _⟩ := h
    rfl
  · obtain ⟨v, g, rfl, t, k⟩ := h
    refine ⟨_, (pss_one (ps_ret (pe_and (pe_callB (call_isK T .int) (by rfl) T.no_isinstance (by decide +kernel) (pa_cons (pv 0) (pa_cons (pe_bltn (v := .ty "int") (u := .type "int") (by rfl) T.no_int (by decide +kernel) rfl) pa_nil))) (pe_one (pe_not (pe_callB (call_isK T .bl) (by rfl) T.no_isinstance (by decide +kernel) (pa_cons (pv 0) (pa_cons (pe_bltn (v := .ty "bool") (u := .type "bool") (by rfl) T.no_bool (by decide +kernel) rfl) pa_nil)))))))), ?_⟩
    show (_ : TS) _ [some v] H
    walk_at "rd"
    refine ⟨v, g, rfl, t, fun _ => by decide, ?_⟩
    refine ⟨_, rfl, ?_⟩
    cases g with
    | int => exact ite2 (fun _ => ⟨v, _, rfl, t, (fun z => nomatch z), _, rfl, k⟩) (fun h => absurd rfl h)
    | bl => exact ite2 (fun _ => ⟨v, _, rfl, t, (fun z => nomatch z), _, rfl, k⟩) (fun h => absurd rfl h)
    | _ => exact ite2 (fun (h : false = true) => nomatch h) (fun _ => k)
theorem okH_law_integer (T : Txt K mg a) : L2H.FnH P w K mg base CX0 1 a.a_law_integer a.d_law_integer ["value"] (spWhole a.C_Frac) := by
  refine okH T.fn_law_integer sc_law_integer (fun vs H Q E h => ?_) (fun cdv A outer s H vs Q E hp0 hot hr h => ?_)
  · obtain ⟨v, g, rfl, _⟩ := h
    rfl
  · obtain ⟨v, g, rfl, t, k⟩ := h
    refine ⟨_, (pss_one (ps_ret (pe_and (pe_callB (call_isK T .int) (by rfl) T.no_isinstance (by decide +kernel) (pa_cons (pv 0) (pa_cons (pe_bltn (v := .ty "int") (u := .type "int") (by rfl) T.no_int (by decide +kernel) rfl) pa_nil))) (pe_one (pe_not (pe_callB (call_isK T .bl) (by rfl) T.no_isinstance (by decide +kernel) (pa_cons (pv 0) (pa_cons (pe_bltn (v := .ty "bool") (u := .type "bool") (by rfl) T.no_bool (by decide +kernel) rfl) pa_nil)))))))), ?_⟩
    show (_ : TS) _ [some v] H
    walk_at "rd"
    refine ⟨v, g, rfl, t, fun _ => by decide, ?_⟩
    refine ⟨_, rfl, ?_⟩
    cases g with
    | int => exact ite2 (fun _ => ⟨v, _, rfl, t, (fun z => nomatch z), _, rfl, k⟩) (fun h => absurd rfl h)
    | bl => exact ite2 (fun _ => ⟨v, _, rfl, t, (fun z => nomatch z), _, rfl, k⟩) (fun h => absurd rfl h)
    | _ => exact ite2 (fun (h : false = true) => nomatch h) (fun _ => k)
def spText (C : Addr) : Nat → Sp
  | 0 => fun _ _ _ _ => False
  | d + 1 => fun vs H Q _ => ∃ (v : V) (w : Wv), vs = [v] ∧ IsW C H v w ∧ Fit d w ∧ ∀ H', Same H H' → Q (.str (tx w)) H'
theorem sc_law_text : FnScope ["value", "part"] ["value"] (defScope s_law_text) := ⟨rfl, rfl, rfl, by decide +kernel, rfl, by decide +kernel, by decide +kernel⟩
theorem ok_law_textN (T : Txt K mg a) : ∀ n, n ≤ 12 → FnOk P w K mg base CX0 n a.a_law_text a.d_law_text ["value"] (spText a.C_Frac n)
  | 0, _ => fn_zero
  | d + 1, d6 => by
    have ih := ok_law_textN T d (by omega)
    refine T.fn_law_text.ok sc_law_text (fun vs H Q E h => ?_) (fun cdv A outer s H vs Q E hr h => ?_)
    · obtain ⟨v, w, rfl, _⟩ := h
      rfl
    · obtain ⟨v, w, rfl, hv, hd, k⟩ := h
      refine ⟨_, (pss_cons (ps_if (pt_val (pe_callB (call_isF T) (by rfl) T.no_isinstance (by decide +kernel) (pa_cons (pv 0) (pa_cons (pe_glob (v := .ref a.C_Frac) rfl T.mg_Frac rfl) pa_nil)))) (pss_one (ps_ret (pe_op op_add_str (pe_op op_add_str (pe_op op_add_str (pe_op op_add_str pe_str (pe_callTy callStr (by rfl) T.no_str (by decide +kernel) (pa_cons (pe_fldK K (pv 0)) pa_nil))) pe_str) (pe_callTy callStr (by rfl) T.no_str (by decide +kernel) (pa_cons (pe_fldK K (pv 0)) pa_nil))) pe_str))) pss_nil)
      (pss_cons (ps_if (pt_val (pe_callB (call_isK T .lst) (by rfl) T.no_isinstance (by decide +kernel) (pa_cons (pv 0) (pa_cons (pe_bltn (v := .ty "list") (u := .type "list") (by rfl) T.no_list (by decide +kernel) rfl) pa_nil)))) (pss_one (ps_ret (pe_op op_add_str (pe_op op_add_str pe_str (pe_join pe_str (pe_lc (own := [("part", 1)]) (by rfl) sc_law_text.nd (pi_told K (pv 0)) (blkOk_by (own := [("part", 1)]) (N := ["value", "part"]) (sc := defScope s_law_text) (by decide +kernel)) (fun _ _ _ _ _ => pg_name (i := 1) sc_law_text.nd rfl (Or.inl rfl)) (fun _ _ _ _ _ => pts_nil) (fun _ _ _ _ _ => (pe_call ih (hr.mono (by omega)) (by rfl) T.mg_law_text T.fn_law_text.kp T.b_law_text .nil pass0 (pa_cons (pv 1) pa_nil)))))) pe_str))) pss_nil)
      (pss_cons (ps_if (pt_val (pe_callB (call_isK T .tup) (by rfl) T.no_isinstance (by decide +kernel) (pa_cons (pv 0) (pa_cons (pe_bltn (v := .ty "tuple") (u := .type "tuple") (by rfl) T.no_tuple (by decide +kernel) rfl) pa_nil)))) (pss_one (ps_ret (pe_op op_add_str (pe_op op_add_str pe_str (pe_join pe_str (pe_lc (own := [("part", 1)]) (by rfl) sc_law_text.nd (pi_told K (pv 0)) (blkOk_by (own := [("part", 1)]) (N := ["value", "part"]) (sc := defScope s_law_text) (by decide +kernel)) (fun _ _ _ _ _ => pg_name (i := 1) sc_law_text.nd rfl (Or.inl rfl)) (fun _ _ _ _ _ => pts_nil) (fun _ _ _ _ _ => (pe_call ih (hr.mono (by omega)) (by rfl) T.mg_law_text T.fn_law_text.kp T.b_law_text .nil pass0 (pa_cons (pv 1) pa_nil)))))) pe_str))) pss_nil)
      (pss_cons (ps_if (pt_val (pe_callB (call_isK T .str) (by rfl) T.no_isinstance (by decide +kernel) (pa_cons (pv 0) (pa_cons (pe_bltn (v := .ty "str") (u := .type "str") (by rfl) T.no_str (by decide +kernel) rfl) pa_nil)))) (pss_one (ps_ret (pe_op op_add_str (pe_op op_add_str pe_str (pv 0)) pe_str))) pss_nil)
      (pss_one (ps_ret (pe_callTy callStr (by rfl) T.no_str (by decide +kernel) (pa_cons (pv 0) pa_nil)))))))), ?_⟩
      show (_ : TS) _ [some v, none] H
      walk_at "rd"
      have sl := sizeLine_eq
      refine ⟨v, _, rfl, hv.kn, _, rfl, ?_⟩
      cases hv with
      | fr hp =>
        cases hd with | fr h1 h2 =>
        rename_i p dx n e
        refine ite2 (fun _ => ?_) (fun h => absurd rfl h)
        have z1 := num_len h1
        have z2 := num_len h2
        have l1 : (Str.ofString "F(").length = 2 := by decide +kernel
        have l2 : (Str.ofString ",").length = 1 := by decide +kernel
        have l3 : (Str.ofString ")").length = 1 := by decide +kernel
        have z1' : (txS (.int n)).length ≤ 7 := z1
        have z2' : (txS (.int e)).length ≤ 7 := z2
        refine ⟨p, rfl, _, dx, _, hp, T.cl_Frac, T.na_Frac_num, _, fF_num _ _, .int n, .inr (.inr ⟨_, rfl, rfl, log_num h1⟩), _, rfl, _, rfl, by omega, _, rfl, _, rfl, ?_, p, rfl, _, dx, _, hp, T.cl_Frac, T.na_Frac_den, _, fF_den _ _, .int e, .inr (.inr ⟨_, rfl, rfl, log_num h2⟩), _, rfl, _, rfl, ?_, _, rfl, _, rfl, ?_, k _ (fun _ _ h => h)⟩
        all_goals
          simp only [len_app]
          omega
      | lst hp hs =>
        rename_i p vs ws
        cases hd with | @lst d' _ m9 l9 hw ht9 hb9 =>
        refine ite2 (fun h => nomatch h) (fun _ => ?_)
        refine ⟨_, .lst, rfl, .lst hp, (by intro z; cases z), _, rfl, ite2 (fun _ => ?_) (fun h => absurd rfl h)⟩
        unfold tM1
        walk_at "rd"
        have lo : (Str.ofString "[").length = 1 := by decide +kernel
        have lc : (Str.ofString "]").length = 1 := by decide +kernel
        have vl := hs.len
        refine ⟨⟨_, rfl⟩, true, vs, hp, lcl_goes goes_seq (fun D i H5 => H D = none ∧ Same H H5 ∧ H5 D = some (.lst ((txs (ws.take i)).map V.str))) (fun D hD => ⟨hD, same_upd hD, upd_same⟩)
          (fun D i H5 _ h => h.2.1 _ _ hp) (fun D i x H5 H5' hi ⟨n5, e5, a5⟩ ⟨eq5, hx5⟩ => ?_) (fun D H5 nD ⟨n5, e5, a5⟩ => ?_)⟩
        · subst eq5
          obtain ⟨w', hwi, hw'⟩ := (hs.same e5).at hx5
          walk_at "rd"
          refine ⟨x, w', rfl, hw', hw w' (List.mem_of_getElem? hwi), fun H6 e6 => ⟨_, e6 _ _ a5, small (by rw [List.length_map, txs_len, List.length_take]; omega), n5, fun b o hb => (upd_ne (ne_of_none hb n5)).trans (e6 _ _ (e5 _ _ hb)), ?_⟩⟩
          rw [List.take_add_one, hwi, txs_eq, txs_eq, List.map_append, List.map_append]
          rfl
        · rw [vl, List.take_length] at a5
          obtain ⟨j1, j2⟩ := join_fit ht9
          refine ⟨_, rfl, D, rfl, txs ws, .inl (SqL.of a5), by omega, _, rfl, _, rfl, by omega, _, rfl, _, rfl, ?_, k _ e5⟩
          rw [len_app]
          omega
      | tup hp hs =>
        rename_i p vs ws
        cases hd with | @tup d' _ m9 l9 hw ht9 hb9 =>
        refine ite2 (fun h => nomatch h) (fun _ => ?_)
        refine ⟨_, .tup, rfl, .tup hp, (by intro z; cases z), _, rfl, ite2 (fun h => nomatch h) (fun _ => ?_)⟩
        refine ⟨_, .tup, rfl, .tup hp, (by intro z; cases z), _, rfl, ite2 (fun _ => ?_) (fun h => absurd rfl h)⟩
        unfold tM1
        walk_at "rd"
        have lo : (Str.ofString "(").length = 1 := by decide +kernel
        have lc : (Str.ofString ")").length = 1 := by decide +kernel
        have vl := hs.len
        refine ⟨⟨_, rfl⟩, false, vs, hp, lcl_goes goes_seq (fun D i H5 => H D = none ∧ Same H H5 ∧ H5 D = some (.lst ((txs (ws.take i)).map V.str))) (fun D hD => ⟨hD, same_upd hD, upd_same⟩)
          (fun D i H5 _ h => h.2.1 _ _ hp) (fun D i x H5 H5' hi ⟨n5, e5, a5⟩ ⟨eq5, hx5⟩ => ?_) (fun D H5 nD ⟨n5, e5, a5⟩ => ?_)⟩
        · subst eq5
          obtain ⟨w', hwi, hw'⟩ := (hs.same e5).at hx5
          walk_at "rd"
          refine ⟨x, w', rfl, hw', hw w' (List.mem_of_getElem? hwi), fun H6 e6 => ⟨_, e6 _ _ a5, small (by rw [List.length_map, txs_len, List.length_take]; omega), n5, fun b o hb => (upd_ne (ne_of_none hb n5)).trans (e6 _ _ (e5 _ _ hb)), ?_⟩⟩
          rw [List.take_add_one, hwi, txs_eq, txs_eq, List.map_append, List.map_append]
          rfl
        · rw [vl, List.take_length] at a5
          obtain ⟨j1, j2⟩ := join_fit ht9
          refine ⟨_, rfl, D, rfl, txs ws, .inl (SqL.of a5), by omega, _, rfl, _, rfl, by omega, _, rfl, _, rfl, ?_, k _ e5⟩
          rw [len_app]
          omega
      | str s =>
        cases hd with | str h3 =>
        refine ite2 (fun h => nomatch h) (fun _ => ?_)
        refine ⟨_, .str, rfl, .str _, (by intro z; cases z), _, rfl, ite2 (fun h => nomatch h) (fun _ => ?_)⟩
        refine ⟨_, .str, rfl, .str _, (by intro z; cases z), _, rfl, ite2 (fun h => nomatch h) (fun _ => ?_)⟩
        refine ⟨_, .str, rfl, .str _, (by intro z; cases z), _, rfl, ite2 (fun _ => ?_) (fun h => absurd rfl h)⟩
        have l1 : (Str.ofString "'").length = 1 := by decide +kernel
        refine ⟨_, rfl, _, rfl, by omega, _, rfl, _, rfl, ?_, k _ (fun _ _ h => h)⟩
        rw [len_app]
        omega
      | non =>
        refine ite2 (fun h => nomatch h) (fun _ => ?_)
        refine ⟨_, .non, rfl, .non, (by intro z; cases z), _, rfl, ite2 (fun h => nomatch h) (fun _ => ?_)⟩
        refine ⟨_, .non, rfl, .non, (by intro z; cases z), _, rfl, ite2 (fun h => nomatch h) (fun _ => ?_)⟩
        refine ⟨_, .non, rfl, .non, (by intro z; cases z), _, rfl, ite2 (fun h => nomatch h) (fun _ => ?_)⟩
        exact ⟨.non, .inl ⟨rfl, rfl⟩, k _ (fun _ _ h => h)⟩
      | bl b =>
        refine ite2 (fun h => nomatch h) (fun _ => ?_)
        refine ⟨_, .bl, rfl, .bl b, (by intro z; cases z), _, rfl, ite2 (fun h => nomatch h) (fun _ => ?_)⟩
        refine ⟨_, .bl, rfl, .bl b, (by intro z; cases z), _, rfl, ite2 (fun h => nomatch h) (fun _ => ?_)⟩
        refine ⟨_, .bl, rfl, .bl b, (by intro z; cases z), _, rfl, ite2 (fun h => nomatch h) (fun _ => ?_)⟩
        exact ⟨.bl b, .inr (.inl ⟨b, rfl, rfl⟩), k _ (fun _ _ h => h)⟩
      | int i =>
        cases hd with | int h1 =>
        refine ite2 (fun h => nomatch h) (fun _ => ?_)
        refine ⟨_, .int, rfl, .int i, (by intro z; cases z), _, rfl, ite2 (fun h => nomatch h) (fun _ => ?_)⟩
        refine ⟨_, .int, rfl, .int i, (by intro z; cases z), _, rfl, ite2 (fun h => nomatch h) (fun _ => ?_)⟩
        refine ⟨_, .int, rfl, .int i, (by intro z; cases z), _, rfl, ite2 (fun h => nomatch h) (fun _ => ?_)⟩
        exact ⟨.int i, .inr (.inr ⟨i, rfl, rfl, log_fit h1⟩), k _ (fun _ _ h => h)⟩
end

end K05
namespace K05
open PySem PySem.Spec PyProof.Rows L2 Own OwnSeq OwnSet OwnComb OwnSort OwnHot OwnExN OwnProj
local macro_rules | `(tactic| walk_at "rd") => `(tactic| simp only [tSeq, tAsg, tOp, tUn, tVar, gName, gSub, rIxL, rIxT, rSetL, tC, rI0, rI, rU, rEq, rNe, tCons, tNil, tCB, tLst, tTup, tIfS, tAnd, tOr, tNot, tAndV, tOrV, tNotV, tTest, tB, tIf, tRet, tDrop, tNext, tBreak, tCont, tCall, tCallS, L2.WE, tMakeS, rIsS, rIsB, tChain, gSeq, gRest, gCons, gNil, tFor_seq, tFor_enumS, tLc_seq, tLc_enumS, rAny, rAll, L2.tMeth, StX.tStar, rIn, tLstRg, tRg1, tRg2, rSetI, rSortedSet, rInDT, rInD, rNotInD, rEqD, rNeD, iComb, tFld, tMake, tMkO, sFld, tOst, tNever, tBits, clv, isB,
  Rd.tFor_rng1, Rd.tFor_rng2, Rd.tFor_list, Rd.tFor_tup, Rd.tLc_list, Rd.tLc_tup, Rd.tLc_rng1, Rd.LcTurn, tYes, wipe, Rd.rLenL, Rd.rLenT, Rd.rIntI, Rd.rIxH, rIxHT,  HO.tup.injEq, Rd.at0, Rd.at1, Rd.at2, Rd.at3, Rd.ixN40, Rd.ixN41, Rd.ixN42, Rd.ixN43, Rd.scal_ii, cxOf,
  List.length_cons, List.length_nil, List.length_map, List.map_cons, List.map_nil, upd_same, decide_eq_true_eq, decide_true, decide_false, if_true, if_false, Bool.false_eq_true, Bool.not_true, Bool.not_false, HO.lst.injEq, HO.ins.injEq, List.set_cons_zero, List.set_cons_succ, List.getElem?_cons_zero, List.getElem?_cons_succ, List.append_nil, List.nil_append, List.cons_append, Option.some.injEq, V.ref.injEq, V.int.injEq, V.bl.injEq, List.cons.injEq, exists_eq_left', exists_and_left, exists_eq_left, true_and, and_true, and_self, and_assoc, implies_true, reduceCtorEq, Nat.reduceAdd])

theorem gS_abs (n d : Int) : (gS n d).natAbs = Nat.gcd n.natAbs d.natAbs := by
  unfold gS
  split
  · rw [Int.natAbs_neg, Int.natAbs_natCast]
  · rw [Int.natAbs_natCast]
theorem gS_ne {n d : Int} (h : d ≠ 0) : gS n d ≠ 0 := fun z => by
  have a := gS_abs n d
  have p := gcd_pos (n := n) h
  rw [z] at a
  simp at a
  omega
theorem gS_n (n d : Int) : gS n d ∣ n := Int.natAbs_dvd_natAbs.mp (by rw [gS_abs]; exact Nat.gcd_dvd_left _ _)
theorem gS_d (n d : Int) : gS n d ∣ d := Int.natAbs_dvd_natAbs.mp (by rw [gS_abs]; exact Nat.gcd_dvd_right _ _)
theorem LN_eq {n d : Int} (h : d ≠ 0) : n = gS n d * LN n d := by
  obtain ⟨q, e⟩ := gS_n n d
  have g0 := gS_ne (n := n) h
  unfold LN
  generalize gS n d = g at *
  subst e
  rw [Int.mul_fdiv_cancel_left _ g0]
theorem LD_eq {n d : Int} (h : d ≠ 0) : d = gS n d * LD n d := by
  obtain ⟨q, e⟩ := gS_d n d
  have g0 := gS_ne (n := n) h
  unfold LD
  generalize gS n d = g at *
  subst e
  rw [Int.mul_fdiv_cancel_left _ g0]
theorem abs_le_mul {g l : Int} (h : g ≠ 0) : l.natAbs ≤ (g * l).natAbs := by
  rw [Int.natAbs_mul]
  exact Nat.le_mul_of_pos_left _ (by omega)
theorem LN_le {n d : Int} (h : d ≠ 0) : (LN n d).natAbs ≤ n.natAbs := by
  have z := abs_le_mul (g := gS n d) (l := LN n d) (gS_ne h)
  rwa [← LN_eq h] at z
theorem LD_le {n d : Int} (h : d ≠ 0) : (LD n d).natAbs ≤ d.natAbs := by
  have z := abs_le_mul (g := gS n d) (l := LD n d) (gS_ne h)
  rwa [← LD_eq h] at z
/-! ### sizes -/
def seqW (l : Bool) (ws : List Wv) : Wv := if l = true then .lst ws else .tup ws
def Tw (d m : Nat) (w : Wv) : Prop := Fit d w ∧ (tx w).length ≤ m
theorem Tw.le {d d' m m' : Nat} {w : Wv} (h : Tw d m w) (hd : d ≤ d') (hm : m ≤ m') : Tw d' m' w := ⟨h.1.le hd, Nat.le_trans h.2 hm⟩
theorem tw_non {d : Nat} : Tw d 400 .non := ⟨.non, by decide +kernel⟩
theorem tw_bl {d : Nat} (b : Bool) : Tw d 400 (.bl b) := ⟨.bl b, by cases b <;> decide +kernel⟩
theorem tw_int {d : Nat} {i : Int} (h : i.natAbs < 10 ^ 370) : Tw d 400 (.int i) := ⟨.int h, Nat.le_trans (int_len h) (by decide)⟩
theorem tw_i6 {d : Nat} {i : Int} (h : i.natAbs < 10 ^ 6) : Tw d 400 (.int i) := tw_int (Nat.lt_of_lt_of_le h (Nat.pow_le_pow_right (by decide) (by decide)))
theorem tw_str {d : Nat} {s : Str} (h : s.length ≤ 10) : Tw d 400 (.str s) := ⟨.str h, by
  show ((Str.ofString "'" ++ s) ++ Str.ofString "'").length ≤ 400
  rw [len_app, len_app, show (Str.ofString "'").length = 1 by decide +kernel]
  omega⟩
theorem tw_fr {d : Nat} {n e : Int} (h : n.natAbs < 10 ^ 6) (h' : e.natAbs < 10 ^ 6) : Tw d 400 (.fr n e) := ⟨.fr h h', by
  show (((((Str.ofString "F(" ++ Str.ofString (toString n)) ++ Str.ofString ",") ++ Str.ofString (toString e)) ++ Str.ofString ")")).length ≤ 400
  have z1 := num_len h
  have z2 := num_len h'
  rw [len_app, len_app, len_app, len_app, show (Str.ofString "F(").length = 2 by decide +kernel, show (Str.ofString ",").length = 1 by decide +kernel, show (Str.ofString ")").length = 1 by decide +kernel]
  omega⟩
theorem tw_seq {d m k m' : Nat} {l : Bool} {ws : List Wv} (h : ∀ w ∈ ws, Tw d m w) (c : ws.length ≤ k) (k2 : k ≤ 200) (b : k * m + k + 2 ≤ m') (b8 : m' ≤ 8000000) : Tw (d + 1) m' (seqW l ws) := by
  have tl : ∀ w ∈ ws, (tx w).length ≤ m := fun w hw => (h w hw).2
  have b1 : ws.length * m ≤ k * m := Nat.mul_le_mul_right _ c
  have j := (join_fit tl).2
  cases l with
  | true =>
    refine ⟨.lst m (by omega) (fun w hw => (h w hw).1) tl (by omega), ?_⟩
    show ((Str.ofString "[" ++ Txt.join (Str.ofString ",") (txs ws)) ++ Str.ofString "]").length ≤ _
    rw [len_app, len_app, show (Str.ofString "[").length = 1 by decide +kernel, show (Str.ofString "]").length = 1 by decide +kernel]
    omega
  | false =>
    refine ⟨.tup m (by omega) (fun w hw => (h w hw).1) tl (by omega), ?_⟩
    show ((Str.ofString "(" ++ Txt.join (Str.ofString ",") (txs ws)) ++ Str.ofString ")").length ≤ _
    rw [len_app, len_app, show (Str.ofString "(").length = 1 by decide +kernel, show (Str.ofString ")").length = 1 by decide +kernel]
    omega
theorem big_of6 {x : Int} (h : x.natAbs < 10 ^ 6) : Big x := Nat.lt_of_lt_of_le h (by decide +kernel)
theorem Fit.nb {d : Nat} {w : Wv} (h : Fit d w) : Nb w := fun i e => by
  subst e
  cases h with
  | int h => exact Nat.lt_of_lt_of_le h (by decide +kernel)
theorem But.updn2 {b p : Addr} {o : HO} {H H' : Hp} (e : But b H H') (h : H p = none) : But b H (upd H' p o) := fun q u n z => (upd_ne (ne_of_none z h)).trans (e q u n z)
theorem isw_seq {C : Addr} {H : Hp} {p : Addr} {l : Bool} {xs : List V} {ws : List Wv} (h : H p = some (sq l xs)) (e : IsWs C H xs ws) : IsW C H (.ref p) (seqW l ws) := by
  cases l with
  | true => exact .lst h e
  | false => exact .tup h e
theorem seqN {C : Addr} {H H' : Hp} {q : Addr} {l : Bool} {xs : List V} {ws : List Wv} (hq : H' q = some (sq l xs)) (n : l = true → H q = none) (h : IsNs C H H' xs ws) : IsN C H H' (.ref q) (seqW l ws) := by
  cases l with
  | true => exact .lst hq (n rfl) h
  | false => exact .tup hq h
theorem Pl.up {d : Nat} : ∀ {w : Wv}, Pl d w → Pl (d + 1) w := by
  induction d with
  | zero =>
    intro w h
    cases h with
    | non => exact .non
    | bl b => exact .bl b
    | int i => exact .int i
    | str h => exact .str h
  | succ d ih =>
    intro w h
    cases h with
    | non => exact .non
    | bl b => exact .bl b
    | int i => exact .int i
    | str h => exact .str h
    | lst h => exact .lst fun w m => ih (h w m)
    | tup h => exact .tup fun w m => ih (h w m)
theorem Pl.le {d e : Nat} (h : d ≤ e) {w : Wv} (f : Pl d w) : Pl e w := by
  induction h with
  | refl => exact f
  | step _ ih => exact ih.up
theorem el_seq (l : Bool) (ws : List Wv) : elems (seqW l ws) = some ws := by cases l <;> rfl
theorem rowOk_of {l : Bool} {ws : List Wv} (h : ∀ x rest, ws = x :: rest → Pl 8 x) (nb : ∀ x ∈ ws, Nb x) : RowOk (seqW l ws) := fun us e => by
  rw [el_seq] at e
  cases e
  exact ⟨h, nb⟩
theorem pl_seq {d : Nat} {l : Bool} {ws : List Wv} (h : ∀ w ∈ ws, Pl d w) : Pl (d + 1) (seqW l ws) := by
  cases l with
  | true => exact .lst h
  | false => exact .tup h
theorem nb_seq {l : Bool} {ws : List Wv} : Nb (seqW l ws) := fun i e => by cases l <;> cases e
section
variable {P : Program} {w : World} {K : PySem.W.Frag} {mg : Str → Option Value} {base : Heap} {a : Ad}
/-! ### _law_row_of, _law_shape -/
def spLRow (C : Addr) : Sp := fun vs H Q _ => ∃ (v : V) (w : Wv), vs = [v] ∧ IsW C H v w ∧ Q (.bl (elems w).isSome) H
theorem sc_law_row_of : FnScope ["value"] ["value"] (defScope s_law_row_of) := ⟨rfl, rfl, rfl, by decide +kernel, rfl, by decide +kernel, by decide +kernel⟩
theorem ok_law_row_of (T : Txt K mg a) : FnOk P w K mg base CX0 1 a.a_law_row_of a.d_law_row_of ["value"] (spLRow a.C_Frac) := by
  refine T.fn_law_row_of.ok sc_law_row_of (fun vs H Q E h => ?_) (fun cdv A outer s H vs Q E hr h => ?_)
  · obtain ⟨v, w, rfl, _⟩ := h
    rfl
  · obtain ⟨v, w', rfl, t, k⟩ := h
    refine ⟨_, (pss_one (ps_ret (pe_or (pe_callB (call_isK T .lst) (by rfl) T.no_isinstance (by decide +kernel) (pa_cons (pv 0) (pa_cons (pe_bltn (v := .ty "list") (u := .type "list") (by rfl) T.no_list (by decide +kernel) rfl) pa_nil))) (pe_one (pe_callB (call_isK T .tup) (by rfl) T.no_isinstance (by decide +kernel) (pa_cons (pv 0) (pa_cons (pe_bltn (v := .ty "tuple") (u := .type "tuple") (by rfl) T.no_tuple (by decide +kernel) rfl) pa_nil))))))), ?_⟩
    show (_ : TS) _ [some v] H
    walk_at "rd"
    refine ⟨v, kd w', rfl, t.kn, fun _ => by decide, _, rfl, ?_⟩
    rw [← kd_elems] at k
    cases z : kd w' with
    | lst =>
      rw [z] at k
      exact ite2 (fun _ => k) (fun h => absurd rfl h)
    | _ =>
      rw [z] at k
      exact ite2 (fun (h : false = true) => nomatch h) (fun _ => ⟨v, _, rfl, z ▸ t.kn, fun _ => by decide, k⟩)
def spShape (K : PySem.W.Frag) : Sp := fun vs H Q _ => ∃ (b c p : Addr) (ns : List Int) (xs : List V), vs = [.ref b, .ref p] ∧ BoxAt K H b c ns ∧ p ≠ b ∧ H p = some (.lst xs) ∧ ∀ q l H', BoxAt K H' b c ns → But b H H' → q ≠ b → H' q = some (sq l xs) → (l = true → q = p) → Q (.ref q) H'
theorem sc_law_shape : FnScope ["box", "parts"] ["box", "parts"] (defScope s_law_shape) := ⟨rfl, rfl, rfl, by decide +kernel, rfl, by decide +kernel, by decide +kernel⟩
theorem ok_law_shape (T : Txt K mg a) : FnOk P w K mg base CX0 2 a.a_law_shape a.d_law_shape ["box", "parts"] (spShape K) := by
  refine T.fn_law_shape.ok sc_law_shape (fun vs H Q E h => ?_) (fun cdv A outer s H vs Q E hr h => ?_)
  · obtain ⟨b, c, p, ns, xs, rfl, _⟩ := h
    rfl
  · obtain ⟨b, c, p, ns, xs, rfl, B, pb, hp, k⟩ := h
    refine ⟨_, (pss_cons (ps_if (pt_cmpR op_eq (pe_call (ok_law_draw T) (hr.mono (by decide)) (by rfl) T.mg_law_draw T.fn_law_draw.kp T.b_law_draw .nil pass0 (pa_cons (pv 0) (pa_cons pe_int pa_nil))) pe_int (nomark _)) (pss_one (ps_ret (pv 1))) pss_nil)
      (pss_one (ps_ret (pe_callTy call_tuple_of (by rfl) T.no_tuple (by decide +kernel) (pa_cons (pv 1) pa_nil))))), ?_⟩
    show (_ : TS) _ [some (V.ref b), some (V.ref p)] H
    walk_at "rd"
    refine drw B (by decide) (by decide) fun x H1 x2 B1 e1 => ⟨rfl, ?_⟩
    have hp1 := e1 _ _ pb hp
    refine ite2 (fun _ => k p true H1 B1 e1 pb hp1 fun _ => rfl) (fun _ => ⟨xs, .inl ⟨SqL.of hp1, fun r hr => ?_⟩⟩)
    have rb := B1.ne_new hr
    have z : But b H (upd H1 r (.tup xs)) := e1.updn (e1.free rb hr)
    exact k r false _ (B.upd B1 rb z) z rb upd_same fun h => by cases h
/-- a list of new values, as drawn -/
theorem shp {C b c p : Addr} {ns : List Int} {H H1 : Hp} {xs : List V} {ws : List Wv} {Q : VK} {E : XK} (B : BoxAt K H b c ns) (B1 : BoxAt K H1 b c ns) (e1 : But b H H1) (n : H1 p = none) (hx : IsNs C H H1 xs ws)
    (k : ∀ v l H', BoxAt K H' b c ns → But b H H' → But b H1 H' → IsN C H H' v (seqW l ws) → Q v H') : spShape K [.ref b, .ref p] (upd H1 p (.lst xs)) Q E := by
  have pb := B1.ne_new n
  have p0 := e1.free pb n
  have eP : But b H (upd H1 p (.lst xs)) := e1.updn p0
  have BP := B.upd B1 pb eP
  have e2 : But b H1 (upd H1 p (.lst xs)) := Same.but (same_upd n)
  refine ⟨b, c, p, ns, xs, rfl, BP, pb, upd_same, fun q l' H' B' e' qb hq hn => ?_⟩
  have hx' := IsNs.but B BP e' (IsNs.but B B1 e2 hx)
  exact k _ l' H' B' (eP.trans e') (e2.trans e') (seqN hq (fun h => by rw [hn h]; exact p0) hx')
/-! ### _law_worth -/
def spWorth (K : PySem.W.Frag) (C : Addr) : Sp := fun vs H Q _ => ∃ (b c : Addr) (ns : List Int) (lo : Int), vs = [.ref b, .int lo] ∧ BoxAt K H b c ns ∧ -9999 ≤ lo ∧ lo ≤ 0 ∧ ∀ v w H', BoxAt K H' b c ns → But b H H' → IsN C H H' v w → Tw 0 400 w → Q v H'
theorem sc_law_worth : FnScope ["box", "least", "shape"] ["box", "least"] (defScope s_law_worth) := ⟨rfl, rfl, rfl, by decide +kernel, rfl, by decide +kernel, by decide +kernel⟩
theorem ok_law_worth (T : Txt K mg a) : FnOk P w K mg base CX0 4 a.a_law_worth a.d_law_worth ["box", "least"] (spWorth K a.C_Frac) := by
  refine T.fn_law_worth.ok sc_law_worth (fun vs H Q E h => ?_) (fun cdv A outer s H vs Q E hr h => ?_)
  · obtain ⟨b, c, ns, lo, rfl, _⟩ := h
    rfl
  · obtain ⟨b, c, ns, lo, rfl, B, l1, l2, k⟩ := h
    refine ⟨_, (pss_cons (ps_set (i := 2) sc_law_worth.nd rfl (Or.inl rfl) (pe_call (ok_law_draw T) (hr.mono (by decide)) (by rfl) T.mg_law_draw T.fn_law_draw.kp T.b_law_draw .nil pass0 (pa_cons (pv 0) (pa_cons pe_int pa_nil))))
      (pss_cons (ps_if (pt_cmpR op_eq (pv 2) pe_int (nomark _)) (pss_one (ps_ret (pe_make T.mk_Frac (ok_Frac_init T) (hr.mono (by decide)) (by rfl) T.mg_Frac (b3 T) .nil pass0 (pa_cons (pe_callB (call_max2 rfl) (by rfl) T.no_max (by decide +kernel) (pa_cons (pv 1) (pa_cons (pe_op op_sub (pe_call (ok_law_draw T) (hr.mono (by decide)) (by rfl) T.mg_law_draw T.fn_law_draw.kp T.b_law_draw .nil pass0 (pa_cons (pv 0) (pa_cons pe_int pa_nil))) pe_int) pa_nil))) (pa_cons (pe_op op_add pe_int (pe_call (ok_law_draw T) (hr.mono (by decide)) (by rfl) T.mg_law_draw T.fn_law_draw.kp T.b_law_draw .nil pass0 (pa_cons (pv 0) (pa_cons pe_int pa_nil)))) pa_nil))))) pss_nil)
      (pss_cons (ps_if (pt_cmpR op_eq (pv 2) pe_int (nomark _)) (pss_one (ps_ret (pe_callB (call_max2 rfl) (by rfl) T.no_max (by decide +kernel) (pa_cons (pv 1) (pa_cons (pe_op op_sub pe_int (pe_op op_mul pe_int (pe_call (ok_law_draw T) (hr.mono (by decide)) (by rfl) T.mg_law_draw T.fn_law_draw.kp T.b_law_draw .nil pass0 (pa_cons (pv 0) (pa_cons pe_int pa_nil))))) pa_nil))))) pss_nil)
      (pss_cons (ps_if (pt_cmpR op_eq (pv 2) pe_int (nomark _)) (pss_one (ps_ret (pe_make T.mk_Frac (ok_Frac_init T) (hr.mono (by decide)) (by rfl) T.mg_Frac (b3 T) .nil pass0 (pa_cons (pe_callB (call_max2 rfl) (by rfl) T.no_max (by decide +kernel) (pa_cons (pv 1) (pa_cons (pe_op op_sub pe_int (pe_op op_mul pe_int (pe_call (ok_law_draw T) (hr.mono (by decide)) (by rfl) T.mg_law_draw T.fn_law_draw.kp T.b_law_draw .nil pass0 (pa_cons (pv 0) (pa_cons pe_int pa_nil))))) pa_nil))) (pa_cons pe_int pa_nil))))) pss_nil)
      (pss_cons (ps_if (pt_cmpR op_eq (pv 2) pe_int (nomark _)) (pss_one (ps_ret (pe_make T.mk_Frac (ok_Frac_init T) (hr.mono (by decide)) (by rfl) T.mg_Frac (b3 T) .nil pass0 (pa_cons (pe_op op_mul pe_int (pe_op op_add pe_int (pe_call (ok_law_draw T) (hr.mono (by decide)) (by rfl) T.mg_law_draw T.fn_law_draw.kp T.b_law_draw .nil pass0 (pa_cons (pv 0) (pa_cons pe_int pa_nil))))) (pa_cons (pe_op op_mul pe_int pe_int) pa_nil))))) pss_nil)
      (pss_one (ps_ret (pe_callB (call_max2 rfl) (by rfl) T.no_max (by decide +kernel) (pa_cons (pv 1) (pa_cons (pe_op op_sub (pe_call (ok_law_draw T) (hr.mono (by decide)) (by rfl) T.mg_law_draw T.fn_law_draw.kp T.b_law_draw .nil pass0 (pa_cons (pv 0) (pa_cons pe_int pa_nil))) pe_int) pa_nil)))))))))), ?_⟩
    show (_ : TS) _ [some (V.ref b), some (V.int lo), none] H
    have fr : ∀ {H1 : Hp} {n d : Int}, BoxAt K H1 b c ns → But b H H1 → d ≠ 0 → n.natAbs < 10 ^ 6 → d.natAbs < 10 ^ 6 → ∀ x dx, H1 x = none → H1 dx = none → dx ≠ x → spFrac a.C_Frac [.ref x, .int n, .int d] (upd (upd H1 dx (.own x)) x (.ins a.C_Frac dx [])) (fun v H2 => v = .non ∧ Q (.ref x) H2) E0 := fun {H1 n d} B1 e1 d0 hn hd =>
      frac_made d0 (big_of6 hn) (big_of6 hd) fun x H2 x0 ⟨dx, fx⟩ e2 => k _ _ H2 (B1.same e2) (e1.trans (Same.but e2)) (.fr fx) (tw_fr (Nat.lt_of_le_of_lt (LN_le d0) hn) (Nat.lt_of_le_of_lt (LD_le d0) hd))
    have it : ∀ {H1 : Hp} {i : Int}, BoxAt K H1 b c ns → But b H H1 → i.natAbs < 10 ^ 6 → Q (.int i) H1 := fun {H1 i} B1 e1 hi => k _ _ H1 B1 e1 (.int i) (tw_i6 hi)
    walk_at "rd"
    refine drw B (by decide) (by decide) fun x H1 x8 B1 e1 => ⟨rfl, ite2 (fun _ => ?_) (fun _ => ⟨rfl, ite2 (fun _ => ?_) (fun _ => ⟨rfl, ite2 (fun _ => ?_) (fun _ => ⟨rfl, ite2 (fun _ => ?_) (fun _ => ?_)⟩)⟩)⟩)⟩
    · exact drw B1 (by decide) (by decide) fun y H2 y2 B2 e2 => ⟨_, rfl, drw B2 (by decide) (by decide) fun z H3 z2 B3 e3 => ⟨_, rfl, fr B3 ((e1.trans e2).trans e3) (by omega) (by split <;> omega) (by omega)⟩⟩
    · exact drw B1 (by decide) (by decide) fun y H2 y2 B2 e2 => ⟨_, rfl, .inl ⟨by decide, by decide⟩, it B2 (e1.trans e2) (by split <;> omega)⟩
    · exact drw B1 (by decide) (by decide) fun y H2 y2 B2 e2 => ⟨_, rfl, .inl ⟨by decide, by decide⟩, fr B2 (e1.trans e2) (by decide) (by split <;> omega) (by decide)⟩
    · exact drw B1 (by decide) (by decide) fun y H2 y2 B2 e2 => ⟨_, rfl, .inl ⟨by decide, by decide⟩, .inl ⟨by decide, by decide⟩, fr B2 (e1.trans e2) (by decide) (by omega) (by decide)⟩
    · exact drw B1 (by decide) (by decide) fun y H2 y2 B2 e2 => ⟨_, rfl, it B2 (e1.trans e2) (by split <;> omega)⟩
/-! ### _law_no_amount, _law_no_number -/
def spNoA (K : PySem.W.Frag) (C : Addr) : Sp := fun vs H Q _ => ∃ (b c : Addr) (ns : List Int) (cs : Bool), vs = [.ref b, .bl cs] ∧ BoxAt K H b c ns ∧ ∀ v w H', BoxAt K H' b c ns → But b H H' → IsN C H H' v w → Tw 1 1300 w → Q v H'
theorem sc_law_no_amount : FnScope ["box", "cost", "shape", "number", "k"] ["box", "cost"] (defScope s_law_no_amount) := ⟨rfl, rfl, rfl, by decide +kernel, rfl, by decide +kernel, by decide +kernel⟩
theorem ok_law_no_amount (T : Txt K mg a) : FnOk P w K mg base CX0 4 a.a_law_no_amount a.d_law_no_amount ["box", "cost"] (spNoA K a.C_Frac) := by
  refine T.fn_law_no_amount.ok sc_law_no_amount (fun vs H Q E h => ?_) (fun cdv A outer s H vs Q E hr h => ?_)
  · obtain ⟨b, c, ns, lo, rfl, _⟩ := h
    rfl
  · obtain ⟨b, c, ns, cs, rfl, B, k⟩ := h
    refine ⟨_, (pss_cons (ps_set (i := 2) sc_law_no_amount.nd rfl (Or.inl rfl) (pe_call (ok_law_draw T) (hr.mono (by decide)) (by rfl) T.mg_law_draw T.fn_law_draw.kp T.b_law_draw .nil pass0 (pa_cons (pv 0) (pa_cons pe_int pa_nil))))
      (pss_cons (ps_if (pt_cmpR op_lt (pv 2) pe_int (nomark _)) (pss_one (ps_ret (pe_cmpR op_eq (pv 2) pe_int (nomark _)))) pss_nil)
      (pss_cons (ps_if (pt_cmpR op_eq (pv 2) pe_int (nomark _)) (pss_one (ps_ret pe_non)) pss_nil)
      (pss_cons (ps_if (pt_cmpR op_eq (pv 2) pe_int (nomark _)) (pss_one (ps_ret pe_int)) pss_nil)
      (pss_cons (ps_if (pt_cmpR op_eq (pv 2) pe_int (nomark _)) (pss_one (ps_ret (pe_op op_add (pe_un un_neg pe_int) (pe_op op_mul pe_int (pe_callTy call_int1 (by rfl) T.no_int (by decide +kernel) (pa_cons (pv 1) pa_nil)))))) pss_nil)
      (pss_cons (ps_if (pt_cmpR op_eq (pv 2) pe_int (nomark _)) (pss_one (ps_ret (pe_make T.mk_Frac (ok_Frac_init T) (hr.mono (by decide)) (by rfl) T.mg_Frac (b3 T) .nil pass0 (pa_cons pe_int (pa_cons pe_int pa_nil))))) pss_nil)
      (pss_cons (ps_if (pt_cmpR op_eq (pv 2) pe_int (nomark _)) (pss_one (ps_ret (pe_make T.mk_Frac (ok_Frac_init T) (hr.mono (by decide)) (by rfl) T.mg_Frac (b3 T) .nil pass0 (pa_cons pe_int (pa_cons pe_int pa_nil))))) pss_nil)
      (pss_cons (ps_if (pt_cmpR op_eq (pv 2) pe_int (nomark _)) (pss_one (ps_ret (pe_make T.mk_Frac (ok_Frac_init T) (hr.mono (by decide)) (by rfl) T.mg_Frac (b3 T) .nil pass0 (pa_cons (pe_op op_add (pe_un un_neg pe_int) (pe_op op_mul pe_int (pe_callTy call_int1 (by rfl) T.no_int (by decide +kernel) (pa_cons (pv 1) pa_nil)))) (pa_cons pe_int pa_nil))))) pss_nil)
      (pss_cons (ps_if (pt_cmpR op_eq (pv 2) pe_int (nomark _)) (pss_one (ps_ret (pe_callTy callStr (by rfl) T.no_str (by decide +kernel) (pa_cons (pe_call (ok_law_draw T) (hr.mono (by decide)) (by rfl) T.mg_law_draw T.fn_law_draw.kp T.b_law_draw .nil pass0 (pa_cons (pv 0) (pa_cons pe_int pa_nil))) pa_nil)))) pss_nil)
      (pss_cons (ps_if (pt_cmpR op_eq (pv 2) pe_int (nomark _)) (pss_one (ps_ret (pe_tup (pa_cons pe_int (pa_cons pe_int pa_nil))))) pss_nil)
      (pss_cons (ps_set (i := 3) sc_law_no_amount.nd rfl (Or.inl rfl) pe_int)
      (pss_cons (ps_for PassesOwn.never rfl (pi_range1 (by rfl) T.no_range (pa_cons pe_int pa_nil)) (pg_name (i := 4) sc_law_no_amount.nd rfl (Or.inl rfl))
        (pss_one (ps_set (i := 3) sc_law_no_amount.nd rfl (Or.inl rfl) (pe_op op_mulW (pv 3) (pe_op op_pow pe_int pe_int)))))
      (pss_one (ps_ret (pv 3))))))))))))))), ?_⟩
    show (_ : TS) _ [some (V.ref b), some (V.bl cs), none, none, none] H
    have fr : ∀ {H1 : Hp} {n d : Int}, BoxAt K H1 b c ns → But b H H1 → d ≠ 0 → n.natAbs < 10 ^ 6 → d.natAbs < 10 ^ 6 → ∀ x dx, H1 x = none → H1 dx = none → dx ≠ x → spFrac a.C_Frac [.ref x, .int n, .int d] (upd (upd H1 dx (.own x)) x (.ins a.C_Frac dx [])) (fun v H2 => v = .non ∧ Q (.ref x) H2) E0 := fun {H1 n d} B1 e1 d0 hn hd =>
      frac_made d0 (big_of6 hn) (big_of6 hd) fun x H2 x0 ⟨dx, fx⟩ e2 => k _ _ H2 (B1.same e2) (e1.trans (Same.but e2)) (.fr fx) ((tw_fr (d := 1) (Nat.lt_of_le_of_lt (LN_le d0) hn) (Nat.lt_of_le_of_lt (LD_le d0) hd)).le (by decide) (by decide))
    have it : ∀ {H1 : Hp} {i : Int}, BoxAt K H1 b c ns → But b H H1 → i.natAbs < 10 ^ 370 → Q (.int i) H1 := fun {H1 i} B1 e1 hi => k _ _ H1 B1 e1 (.int i) ((tw_int (d := 1) hi).le (by decide) (by decide))
    walk_at "rd"
    refine drw B (by decide) (by decide) fun x H1 x8 B1 e1 => ⟨_, rfl, ite2 (fun _ => ⟨rfl, k _ _ H1 B1 e1 (.bl _) ((tw_bl (d := 1) _).le (by decide) (by decide))⟩) (fun _ => ⟨rfl, ite2 (fun _ => k _ _ H1 B1 e1 .non ((tw_non (d := 1)).le (by decide) (by decide))) (fun _ => ⟨rfl, ite2 (fun _ => it B1 e1 (by decide)) (fun _ => ⟨rfl, ite2 (fun _ => .inr ⟨.inl ⟨by decide, by decide⟩, it B1 e1 (by split <;> decide)⟩) (fun _ => ⟨rfl, ite2 (fun _ => fr B1 e1 (by decide) (by decide) (by decide)) (fun _ => ⟨rfl, ite2 (fun _ => fr B1 e1 (by decide) (by decide) (by decide)) (fun _ =>
      ⟨rfl, ite2 (fun _ => .inr ⟨.inl ⟨by decide, by decide⟩, fr B1 e1 (by decide) (by split <;> decide) (by decide)⟩) (fun _ => ⟨rfl, ite2 (fun _ => ?_) (fun _ => ⟨rfl, ite2 (fun _ => ?_) (fun _ => ?_)⟩)⟩)⟩)⟩)⟩)⟩)⟩)⟩)⟩
    · refine drw B1 (by decide) (by decide) fun y H2 y2 B2 e2 => ⟨.int (y : Nat), .inr (.inr ⟨_, rfl, rfl, log_num (by omega)⟩), ?_⟩
      refine k _ _ H2 B2 (e1.trans e2) (.str _) ((tw_str (d := 1) ?_).le (by decide) (by decide))
      exact Nat.le_trans (num_len (i := (y : Int)) (by omega)) (by decide)
    · refine ⟨by decide, fun p hp => ?_⟩
      have eP := e1.trans (Same.but (same_upd (o := .tup [V.int 1, V.int 2]) hp))
      exact k _ (seqW false [.int 1, .int 2]) _ (B1.same (same_upd hp)) eP (.tup upd_same (.cons (.int _) (.cons (.int _) .nil))) (tw_seq (d := 0) (m := 400) (k := 2) (fun w m => by simp only [List.mem_cons, List.not_mem_nil, or_false] at m; rcases m with rfl | rfl <;> exact tw_i6 (by decide)) (by decide) (by decide) (by decide) (by decide))
    · rw [show Int.toNat 9 = 9 from rfl]
      refine ⟨by decide, by decide, Rd.loop_rngC (fun σ H' => ∃ o4, σ = [some (V.ref b), some (V.bl cs), some (V.int x), some (V.int (3 * 10 ^ 360)), o4] ∧ H' = H1)
        (fun i σ H' => ∃ o4, σ = [some (V.ref b), some (V.bl cs), some (V.int x), some (V.int (3 * 10 ^ (40 * i))), o4] ∧ H' = H1) ⟨none, rfl, rfl⟩ ?_ (fun σ H' z => z) ?_⟩
      · rintro bk hbk i σ H3 hi ⟨o4, rfl, rfl⟩
        walk_at "rd"
        refine ⟨⟨by decide, by decide, by decide⟩, ?_, ?_⟩
        · have : i < 9 := hi
          unfold CMulW
          have z : ∀ j, j < 9 → ((3 : Int) * 10 ^ (40 * j)).natAbs.log2 + ((10 : Int) ^ Int.toNat 40).natAbs.log2 < 1000000 := fun j hj => of_decide_eq_true (List.all_eq_true.mp (show ((List.range 9).all fun j => decide (((3 : Int) * 10 ^ (40 * j)).natAbs.log2 + ((10 : Int) ^ Int.toNat 40).natAbs.log2 < 1000000)) = true by decide +kernel) j (List.mem_range.mpr hj))
          exact z i this
        · rw [show Int.toNat 40 = 40 from rfl, Nat.mul_succ, Int.pow_add, Int.mul_assoc]
          exact ⟨rfl, _, rfl⟩
      · rintro σ H3 ⟨o4, rfl, rfl⟩
        walk_at "rd"
        exact it B1 e1 (by decide +kernel)
def spNoN (K : PySem.W.Frag) (C : Addr) : Sp := fun vs H Q _ => ∃ (b c : Addr) (ns : List Int) (e : Int), vs = [.ref b, .int e] ∧ BoxAt K H b c ns ∧ e.natAbs < 10 ^ 6 ∧ ∀ v w H', BoxAt K H' b c ns → But b H H' → IsN C H H' v w → Tw 1 410 w → Q v H'
theorem sc_law_no_number : FnScope ["box", "edge"] ["box", "edge"] (defScope s_law_no_number) := ⟨rfl, rfl, rfl, by decide +kernel, rfl, by decide +kernel, by decide +kernel⟩
theorem ok_law_no_number (T : Txt K mg a) : FnOk P w K mg base CX0 4 a.a_law_no_number a.d_law_no_number ["box", "edge"] (spNoN K a.C_Frac) := by
  refine T.fn_law_no_number.ok sc_law_no_number (fun vs H Q E h => ?_) (fun cdv A outer s H vs Q E hr h => ?_)
  · obtain ⟨b, c, ns, lo, rfl, _⟩ := h
    rfl
  · obtain ⟨b, c, ns, e, rfl, B, he, k⟩ := h
    obtain ⟨ds2, b2v, b2b⟩ := b2 T
    refine ⟨_, (pss_one (ps_ret (pe_ix Rd.ixH (pe_lst (pa_cons (pv 1) (pa_cons (pe_un un_neg pe_int) (pa_cons pe_bl (pa_cons pe_bl (pa_cons pe_non (pa_cons (pe_make T.mk_Frac (ok_Frac_init T) (hr.mono (by decide)) (by rfl) T.mg_Frac b2b b2v pass0 (pa_cons pe_int pa_nil)) (pa_cons pe_str (pa_cons (pe_lst (pa_cons pe_int pa_nil)) (pa_cons (pe_tup (pa_cons pe_int pa_nil)) pa_nil)))))))))) (pe_call (ok_law_draw T) (hr.mono (by decide)) (by rfl) T.mg_law_draw T.fn_law_draw.kp T.b_law_draw .nil pass0 (pa_cons (pv 0) (pa_cons pe_int pa_nil))) (fun _ _ => rfl)))), ?_⟩
    show (_ : TS) _ [some (V.ref b), some (V.int e)] H
    walk_at "rd"
    intro x dx hx hdx hne
    refine fr_made (n := 1) (by decide) hx hdx hne fun H2 hfr e2 => ⟨by decide, fun p1 h1 => ⟨by decide, fun p2 h2 => ⟨by decide, fun q hq => ?_⟩⟩⟩
    have s1 := same_upd (o := .lst [V.int 1]) h1
    have s2 := same_upd (o := .tup [V.int 0]) h2
    have z1 : upd H2 p1 (.lst [V.int 1]) p1 = _ := upd_same
    have z2 : upd (upd H2 p1 (.lst [V.int 1])) p2 (.tup [V.int 0]) p2 = _ := upd_same
    have z1 := s2 _ _ z1
    have e02 := e2.trans (s1.trans s2)
    have hfr := (s1.trans s2) _ _ hfr
    have f1 : H p1 = none := e2.free h1
    generalize upd (upd H2 p1 (.lst [V.int 1])) p2 (.tup [V.int 0]) = H5 at *
    have B5 := B.same e02
    have qb := B5.ne_new hq
    have eP : But b H (upd H5 q (.lst [V.int e, V.int (-1), V.bl true, V.bl false, V.non, V.ref x, V.str (Str.ofString "1"), V.ref p1, V.ref p2])) := (Same.but e02).updn (e02.free hq)
    have BP := B.upd B5 qb eP
    refine drw BP (by decide) (by decide) fun y H6 y9 B6 e6 => ?_
    have hs : IsNs a.C_Frac H H5 [V.int e, V.int (-1), V.bl true, V.bl false, V.non, V.ref x, V.str (Str.ofString "1"), V.ref p1, V.ref p2] [.int e, .int (-1), .bl true, .bl false, .non, .fr (1 : Nat) 1, .str (Str.ofString "1"), seqW true [.int 1], seqW false [.int 0]] :=
      .cons (.int _) (.cons (.int _) (.cons (.bl _) (.cons (.bl _) (.cons .non (.cons (.fr hfr) (.cons (.str _) (.cons (.lst z1 f1 (.cons (.int _) .nil)) (.cons (.tup z2 (.cons (.int _) .nil)) .nil))))))))
    have hs := IsNs.but B BP e6 (IsNs.but B B5 (Same.but (same_upd hq)) hs)
    obtain ⟨v, w', hv, hw, vw⟩ := hs.at (i := y) (show y < 9 by omega)
    refine ⟨_, _, rfl, e6 _ _ qb upd_same, v, atI_nat hv, k v w' H6 B6 (eP.trans e6) vw ?_⟩
    have all : ∀ w ∈ [Wv.int e, .int (-1), .bl true, .bl false, .non, .fr (1 : Nat) 1, .str (Str.ofString "1"), seqW true [.int 1], seqW false [.int 0]], Tw 1 410 w := by
      intro w m
      simp only [List.mem_cons, List.not_mem_nil, or_false] at m
      have one : ∀ {i : Int} {l : Bool}, i.natAbs < 10 ^ 6 → Tw 1 410 (seqW l [.int i]) := fun {i l} hi => tw_seq (d := 0) (m := 400) (k := 1) (fun w m => by rw [List.mem_singleton.mp m]; exact tw_i6 hi) (Nat.le_refl 1) (by decide) (by decide) (by decide)
      rcases m with rfl | rfl | rfl | rfl | rfl | rfl | rfl | rfl | rfl
      · exact (tw_i6 (d := 1) he).le (by decide) (by decide)
      · exact (tw_i6 (d := 1) (by decide)).le (by decide) (by decide)
      · exact (tw_bl (d := 1) _).le (by decide) (by decide)
      · exact (tw_bl (d := 1) _).le (by decide) (by decide)
      · exact (tw_non (d := 1)).le (by decide) (by decide)
      · exact (tw_fr (d := 1) (by decide) (by decide)).le (by decide) (by decide)
      · exact (tw_str (d := 1) (by decide +kernel)).le (by decide) (by decide)
      · exact one (by decide)
      · exact one (by decide)
    exact all w' (List.mem_of_getElem? hw)
/-! ### _law_deep -/
def spDeep (K : PySem.W.Frag) (C : Addr) : Sp := fun vs H Q _ => ∃ (b c : Addr) (ns : List Int), vs = [.ref b] ∧ BoxAt K H b c ns ∧ ∀ v w H', BoxAt K H' b c ns → But b H H' → IsN C H H' v w → Tw 6 1300 w → Pl 6 w → RowOk w → Q v H'
theorem sc_law_deep : FnScope ["box", "made", "k"] ["box"] (defScope s_law_deep) := ⟨rfl, rfl, rfl, by decide +kernel, rfl, by decide +kernel, by decide +kernel⟩
theorem ok_law_deep (T : Txt K mg a) : FnOk P w K mg base CX0 4 a.a_law_deep a.d_law_deep ["box"] (spDeep K a.C_Frac) := by
  refine T.fn_law_deep.ok sc_law_deep (fun vs H Q E h => ?_) (fun cdv A outer s H vs Q E hr h => ?_)
  · obtain ⟨b, c, ns, rfl, _⟩ := h
    rfl
  · obtain ⟨b, c, ns, rfl, B, k⟩ := h
    refine ⟨_, (pss_cons (ps_set (i := 1) sc_law_deep.nd rfl (Or.inl rfl) (pe_lst (pa_cons pe_int (pa_cons pe_int pa_nil))))
      (pss_cons (ps_for PassesOwn.never rfl (pi_range1 (by rfl) T.no_range (pa_cons pe_int pa_nil)) (pg_name (i := 2) sc_law_deep.nd rfl (Or.inl rfl))
        (pss_one (ps_set (i := 1) sc_law_deep.nd rfl (Or.inl rfl) (pe_call (ok_law_shape T) (hr.mono (by decide)) (by rfl) T.mg_law_shape T.fn_law_shape.kp T.b_law_shape .nil pass0 (pa_cons (pv 0) (pa_cons (pe_lst (pa_cons (pv 1) pa_nil)) pa_nil))))))
      (pss_one (ps_ret (pv 1))))), ?_⟩
    show (_ : TS) _ [some (V.ref b), none, none] H
    walk_at "rd"
    refine ⟨by decide, fun p hp => ⟨by decide, by decide, ?_⟩⟩
    have pb := B.ne_new hp
    have sp := same_upd (o := .lst [V.int 1, V.int 0]) hp
    refine Rd.loop_rngC (fun σ H' => ∃ v w o2, σ = [some (V.ref b), some v, o2] ∧ BoxAt K H' b c ns ∧ But b H H' ∧ IsN a.C_Frac H H' v w ∧ Tw 6 1300 w ∧ Pl 6 w ∧ RowOk w)
      (fun i σ H' => ∃ v l ws o2, σ = [some (V.ref b), some v, o2] ∧ BoxAt K H' b c ns ∧ But b H H' ∧ IsN a.C_Frac H H' v (seqW l ws) ∧ Tw (i + 1) (804 + 3 * i) (seqW l ws) ∧ Pl (i + 1) (seqW l ws) ∧ RowOk (seqW l ws))
      ⟨V.ref p, true, [.int 1, .int 0], none, rfl, B.same sp, Same.but sp, .lst upd_same hp (.cons (.int _) (.cons (.int _) .nil)),
        tw_seq (d := 0) (m := 400) (k := 2) (fun w m => by simp only [List.mem_cons, List.not_mem_nil, or_false] at m; rcases m with rfl | rfl <;> exact tw_i6 (by decide)) (by decide) (by decide) (by decide) (by decide),
        pl_seq (fun w m => by simp only [List.mem_cons, List.not_mem_nil, or_false] at m; rcases m with rfl | rfl <;> exact .int _),
        rowOk_of (fun x rest e => by cases e; exact .int _) (fun x m => by simp only [List.mem_cons, List.not_mem_nil, or_false] at m; rcases m with rfl | rfl <;> exact (tw_i6 (d := 0) (by decide)).1.nb)⟩ ?_
      (fun σ H' ⟨v, l, ws, o2, q1, q2, q3, q4, q5, q6, q7⟩ => ⟨v, _, o2, q1, q2, q3, q4, q5.le (by decide) (by decide), q6, q7⟩) ?_
    · rintro bk hbk i σ H3 hi ⟨v, l, ws, o2, rfl, B3, e3, vn, vt, vp, vr⟩
      walk_at "rd"
      refine ⟨by decide, fun q hq => shp B B3 e3 hq (.cons vn .nil) fun v' l' H4 B4 e4 e34 vn' => ⟨B4, e4, l', _, vn', ?_, pl_seq fun w m => by rw [List.mem_singleton.mp m]; exact vp, rowOk_of (fun x rest e => by cases e; exact vp.le (by have : i < 5 := hi; omega)) (fun x m => by rw [List.mem_singleton.mp m]; exact nb_seq)⟩⟩
      have i5 : i < 5 := hi
      exact tw_seq (k := 1) (fun w m => by rw [List.mem_singleton.mp m]; exact vt) (Nat.le_refl _) (by decide) (by omega) (by omega)
    · rintro σ H3 ⟨v, w', o2, rfl, B3, e3, vn, vt, vp, vr⟩
      walk_at "rd"
      exact k v w' H3 B3 e3 vn vt vp vr
end

end K05
namespace K05
open PySem PySem.Spec PyProof.Rows L2 Own OwnSeq OwnSet OwnComb OwnSort OwnHot OwnExN OwnProj
local macro_rules | `(tactic| walk_at "rd") => `(tactic| simp only [tSeq, tAsg, tOp, tUn, tVar, gName, gSub, rIxL, rIxT, rSetL, tC, rI0, rI, rU, rEq, rNe, tCons, tNil, tCB, tLst, tTup, tIfS, tAnd, tOr, tNot, tAndV, tOrV, tNotV, tTest, tB, tIf, tRet, tDrop, tNext, tBreak, tCont, tCall, tCallS, L2.WE, tMakeS, rIsS, rIsB, tChain, gSeq, gRest, gCons, gNil, tFor_seq, tFor_enumS, tLc_seq, tLc_enumS, rAny, rAll, L2.tMeth, StX.tStar, rIn, tLstRg, tRg1, tRg2, rSetI, rSortedSet, rInDT, rInD, rNotInD, rEqD, rNeD, iComb, tFld, tMake, tMkO, sFld, tOst, tNever, tBits, clv, isB,
  Rd.tFor_rng1, Rd.tFor_rng2, Rd.tFor_list, Rd.tFor_tup, Rd.tLc_list, Rd.tLc_tup, Rd.tLc_rng1, Rd.LcTurn, tYes, wipe, Rd.rLenL, Rd.rLenT, Rd.rIntI, Rd.rIxH, rIxHT,  HO.tup.injEq, Rd.at0, Rd.at1, Rd.at2, Rd.at3, Rd.ixN40, Rd.ixN41, Rd.ixN42, Rd.ixN43, Rd.scal_ii, cxOf,
  List.length_cons, List.length_nil, List.length_map, List.map_cons, List.map_nil, upd_same, decide_eq_true_eq, decide_true, decide_false, if_true, if_false, Bool.false_eq_true, Bool.not_true, Bool.not_false, HO.lst.injEq, HO.ins.injEq, List.set_cons_zero, List.set_cons_succ, List.getElem?_cons_zero, List.getElem?_cons_succ, List.append_nil, List.nil_append, List.cons_append, Option.some.injEq, V.ref.injEq, V.int.injEq, V.bl.injEq, List.cons.injEq, exists_eq_left', exists_and_left, exists_eq_left, true_and, and_true, and_self, and_assoc, implies_true, reduceCtorEq, Nat.reduceAdd])

theorem tup_isn {C : Addr} {H0 H : Hp} : ∀ {vs : List V} {gs : List (Int × Int)}, TupV H vs gs → IsNs C H0 H vs (gs.map fun g => seqW false [.int g.1, .int g.2])
  | [], [], _ => .nil
  | _ :: _, _ :: _, ⟨⟨q, a, b⟩, r⟩ => by subst a; exact .cons (.tup b (.cons (.int _) (.cons (.int _) .nil))) (tup_isn r)
  | [], _ :: _, h => h.elim
  | _ :: _, [], h => h.elim
section
variable {P : Program} {w : World} {K : PySem.W.Frag} {mg : Str → Option Value} {base : Heap} {a : Ad}
theorem IsN.older {C b c : Addr} {ns : List Int} {H H1 H2 : Hp} {v : V} {w : Wv} (B1 : BoxAt K H1 b c ns) (e1 : But b H H1) (h : IsN C H1 H2 v w) : IsN C H H2 v w := h.go (fun _ _ _ z => z) fun _ z => e1.free (B1.ne_new z) z
/-- one of a list's new values -/
theorem pick {C b c q : Addr} {ns : List Int} {H H5 : Hp} {xs : List V} {ws : List Wv} {m : Nat} {Q : VK} {E : XK} (B : BoxAt K H b c ns) (B5 : BoxAt K H5 b c ns) (e5 : But b H H5) (hq : H5 q = none) (hs : IsNs C H H5 xs ws) (hm : xs.length = m) (m0 : 0 < m) (m1 : m < 1000)
    (k : ∀ v w H6, BoxAt K H6 b c ns → But b H H6 → But b H5 H6 → IsN C H H6 v w → w ∈ ws → Q v H6) : spDraw K [.ref b, .int m] (upd H5 q (.lst xs)) (fun y H2 => ∃ x x_1, y = V.int x_1 ∧ H2 q = some (HO.lst x) ∧ ∃ x_2, atI x x_1 = some x_2 ∧ Q x_2 H2) E := by
  have qb := B5.ne_new hq
  have eP : But b H (upd H5 q (.lst xs)) := e5.updn (e5.free qb hq)
  have BP := B.upd B5 qb eP
  have e55 : But b H5 (upd H5 q (.lst xs)) := Same.but (same_upd hq)
  refine drw BP (by omega) (by omega) fun y H6 y9 B6 e6 => ?_
  have hs := IsNs.but B BP e6 (IsNs.but B B5 e55 hs)
  obtain ⟨v, w', hv, hw, vw⟩ := hs.at (i := y) (by omega)
  exact ⟨_, _, rfl, e6 _ _ qb upd_same, v, atI_nat hv, k v w' H6 B6 (eP.trans e6) (e55.trans e6) vw (List.mem_of_getElem? hw)⟩
theorem newo {H : Hp} {p : Addr} (o : HO) (h : H p = none) : Same H (upd H p o) ∧ upd H p o p = some o := ⟨same_upd h, upd_same⟩
theorem two_of {α : Type} {p : α → Prop} {x y : α} (hx : p x) (hy : p y) : ∀ w ∈ [x, y], p w := fun w m => by
  rcases List.mem_cons.mp m with rfl | m
  · exact hx
  · rw [List.mem_singleton.mp m]; exact hy
theorem one_of {α : Type} {p : α → Prop} {x : α} (hx : p x) : ∀ w ∈ [x], p w := fun w m => by rw [List.mem_singleton.mp m]; exact hx
theorem three_of {α : Type} {p : α → Prop} {x y z : α} (hx : p x) (hy : p y) (hz : p z) : ∀ w ∈ [x, y, z], p w := fun w m => by
  rcases List.mem_cons.mp m with rfl | m
  · exact hx
  · exact two_of hy hz w m
/-! ### _law_no_goals -/
def spNoG (K : PySem.W.Frag) (C : Addr) : Sp := fun vs H Q _ => ∃ (b c : Addr) (ns : List Int) (n : Nat), vs = [.ref b, .int n] ∧ BoxAt K H b c ns ∧ 1 ≤ n ∧ n ≤ 8 ∧ ∀ v w H', BoxAt K H' b c ns → But b H H' → IsN C H H' v w → Tw 7 12000 w → Q v H'
theorem sc_law_no_goals : FnScope ["box", "many", "shape", "last", "k"] ["box", "many"] (defScope s_law_no_goals) := ⟨rfl, rfl, rfl, by decide +kernel, rfl, by decide +kernel, by decide +kernel⟩
theorem ok_law_no_goals (T : Txt K mg a) : FnOk P w K mg base CX0 6 a.a_law_no_goals a.d_law_no_goals ["box", "many"] (spNoG K a.C_Frac) := by
  refine T.fn_law_no_goals.ok sc_law_no_goals (fun vs H Q E h => ?_) (fun cdv A outer s H vs Q E hr h => ?_)
  · obtain ⟨b, c, ns, n, rfl, _⟩ := h
    rfl
  · obtain ⟨b, c, ns, n, rfl, B, n1, n8, k⟩ := h
    obtain ⟨ds2, b2v, b2b⟩ := b2 T
    refine ⟨_, (pss_cons (ps_set (i := 2) sc_law_no_goals.nd rfl (Or.inl rfl) (pe_call (ok_law_draw T) (hr.mono (by decide)) (by rfl) T.mg_law_draw T.fn_law_draw.kp T.b_law_draw .nil pass0 (pa_cons (pv 0) (pa_cons pe_int pa_nil))))
      (pss_cons (ps_set (i := 3) sc_law_no_goals.nd rfl (Or.inl rfl) (pe_op op_sub (pv 1) pe_int))
      (pss_cons (ps_if (pt_cmpR op_eq (pv 2) pe_int (nomark _)) (pss_one (ps_ret (pe_ix Rd.ixH (pe_lst (pa_cons pe_non (pa_cons pe_int (pa_cons pe_str (pa_cons (pe_tup (pa_cons pe_int (pa_cons pe_int pa_nil))) (pa_cons (pe_lst (pa_cons pe_int (pa_cons (pv 3) pa_nil))) (pa_cons pe_bl (pa_cons (pe_make T.mk_Frac (ok_Frac_init T) (hr.mono (by decide)) (by rfl) T.mg_Frac b2b b2v pass0 (pa_cons pe_int pa_nil)) pa_nil)))))))) (pe_call (ok_law_draw T) (hr.mono (by decide)) (by rfl) T.mg_law_draw T.fn_law_draw.kp T.b_law_draw .nil pass0 (pa_cons (pv 0) (pa_cons pe_int pa_nil))) (fun _ _ => rfl)))) pss_nil)
      (pss_cons (ps_if (pt_cmpR op_eq (pv 2) pe_int (nomark _)) (pss_one (ps_ret (pe_call (ok_law_shape T) (hr.mono (by decide)) (by rfl) T.mg_law_shape T.fn_law_shape.kp T.b_law_shape .nil pass0 (pa_cons (pv 0) (pa_cons (pe_lst pa_nil) pa_nil))))) pss_nil)
      (pss_cons (ps_if (pt_cmpR op_eq (pv 2) pe_int (nomark _)) (pss_one (ps_ret (pe_call (ok_law_shape T) (hr.mono (by decide)) (by rfl) T.mg_law_shape T.fn_law_shape.kp T.b_law_shape .nil pass0 (pa_cons (pv 0) (pa_cons (pe_lst (pa_cons (pe_lst (pa_cons pe_int (pa_cons (pv 3) pa_nil))) (pa_cons (pe_lst (pa_cons pe_int (pa_cons (pv 3) pa_nil))) pa_nil))) pa_nil))))) pss_nil)
      (pss_cons (ps_if (pt_cmpR op_eq (pv 2) pe_int (nomark _)) (pss_one (ps_ret (pe_call (ok_law_shape T) (hr.mono (by decide)) (by rfl) T.mg_law_shape T.fn_law_shape.kp T.b_law_shape .nil pass0 (pa_cons (pv 0) (pa_cons (pe_lst (pa_cons (pe_tup (pa_cons pe_int (pa_cons (pv 3) pa_nil))) (pa_cons (pe_tup (pa_cons pe_int (pa_cons pe_int pa_nil))) pa_nil))) pa_nil))))) pss_nil)
      (pss_cons (ps_if (pt_cmpR op_eq (pv 2) pe_int (nomark _)) (pss_one (ps_ret (pe_call (ok_law_shape T) (hr.mono (by decide)) (by rfl) T.mg_law_shape T.fn_law_shape.kp T.b_law_shape .nil pass0 (pa_cons (pv 0) (pa_cons (pe_lc (own := [("k", 4)]) (by rfl) sc_law_no_goals.nd (pi_range1 (by rfl) T.no_range (pa_cons pe_int pa_nil)) (blkOk_by (own := [("k", 4)]) (N := ["box", "many", "shape", "last", "k"]) (sc := defScope s_law_no_goals) (by decide +kernel)) (fun _ _ _ _ _ => pg_name (i := 4) sc_law_no_goals.nd rfl (Or.inl rfl)) (fun _ _ _ _ _ => pts_nil) (fun _ _ _ _ _ => (pe_tup (pa_cons pe_int (pa_cons (pv 4) pa_nil))))) pa_nil))))) pss_nil)
      (pss_cons (ps_if (pt_cmpR op_eq (pv 2) pe_int (nomark _)) (pss_one (ps_ret (pe_call (ok_law_shape T) (hr.mono (by decide)) (by rfl) T.mg_law_shape T.fn_law_shape.kp T.b_law_shape .nil pass0 (pa_cons (pv 0) (pa_cons (pe_lst (pa_cons (pe_ix Rd.ixH (pe_lst (pa_cons (pe_tup (pa_cons pe_int pa_nil)) (pa_cons (pe_tup (pa_cons pe_int (pa_cons pe_int (pa_cons pe_int pa_nil)))) (pa_cons pe_non (pa_cons pe_int (pa_cons pe_str (pa_cons (pe_tup pa_nil) pa_nil))))))) (pe_call (ok_law_draw T) (hr.mono (by decide)) (by rfl) T.mg_law_draw T.fn_law_draw.kp T.b_law_draw .nil pass0 (pa_cons (pv 0) (pa_cons pe_int pa_nil))) (fun _ _ => rfl)) pa_nil)) pa_nil))))) pss_nil)
      (pss_cons (ps_if (pt_cmpR op_eq (pv 2) pe_int (nomark _)) (pss_one (ps_ret (pe_call (ok_law_shape T) (hr.mono (by decide)) (by rfl) T.mg_law_shape T.fn_law_shape.kp T.b_law_shape .nil pass0 (pa_cons (pv 0) (pa_cons (pe_lst (pa_cons (pe_tup (pa_cons pe_int (pa_cons (pv 3) pa_nil))) (pa_cons (pe_call (ok_law_deep T) (hr.mono (by decide)) (by rfl) T.mg_law_deep T.fn_law_deep.kp T.b_law_deep .nil pass0 (pa_cons (pv 0) pa_nil)) pa_nil))) pa_nil))))) pss_nil)
      (pss_cons (ps_if (pt_cmpR op_lt (pv 2) pe_int (nomark _)) (pss_one (ps_ret (pe_call (ok_law_shape T) (hr.mono (by decide)) (by rfl) T.mg_law_shape T.fn_law_shape.kp T.b_law_shape .nil pass0 (pa_cons (pv 0) (pa_cons (pe_lst (pa_cons (pe_call (ok_law_shape T) (hr.mono (by decide)) (by rfl) T.mg_law_shape T.fn_law_shape.kp T.b_law_shape .nil pass0 (pa_cons (pv 0) (pa_cons (pe_lst (pa_cons (pe_call (ok_law_no_number T) (hr.mono (by decide)) (by rfl) T.mg_law_no_number T.fn_law_no_number.kp T.b_law_no_number .nil pass0 (pa_cons (pv 0) (pa_cons (pe_op op_sub pe_int (pe_op op_mul pe_int (pe_callTy call_int1 (by rfl) T.no_int (by decide +kernel) (pa_cons (pe_cmpR op_eq (pv 2) pe_int (nomark _)) pa_nil)))) pa_nil))) (pa_cons (pv 3) pa_nil))) pa_nil))) pa_nil)) pa_nil))))) pss_nil)
      (pss_one (ps_ret (pe_call (ok_law_shape T) (hr.mono (by decide)) (by rfl) T.mg_law_shape T.fn_law_shape.kp T.b_law_shape .nil pass0 (pa_cons (pv 0) (pa_cons (pe_lst (pa_cons (pe_call (ok_law_shape T) (hr.mono (by decide)) (by rfl) T.mg_law_shape T.fn_law_shape.kp T.b_law_shape .nil pass0 (pa_cons (pv 0) (pa_cons (pe_lst (pa_cons (pe_op op_add pe_int (pe_call (ok_law_draw T) (hr.mono (by decide)) (by rfl) T.mg_law_draw T.fn_law_draw.kp T.b_law_draw .nil pass0 (pa_cons (pv 0) (pa_cons pe_int pa_nil)))) (pa_cons (pe_call (ok_law_no_number T) (hr.mono (by decide)) (by rfl) T.mg_law_no_number T.fn_law_no_number.kp T.b_law_no_number .nil pass0 (pa_cons (pv 0) (pa_cons (pv 1) pa_nil))) pa_nil))) pa_nil))) pa_nil)) pa_nil))))))))))))))), ?_⟩
    show (_ : TS) _ [some (V.ref b), some (V.int n), none, none, none] H
    refine cut (fun σ H1 => ∃ x : Nat, σ = [some (V.ref b), some (V.int n), some (V.int x), none, none] ∧ BoxAt K H1 b c ns ∧ But b H H1) (fun R hR => ?_) (fun σ H1 h => ?_)
    · walk_at "rd"
      exact drw B (by decide) (by decide) fun x H1 x8 B1 e1 => hR _ _ ⟨x, rfl, B1, e1⟩
    obtain ⟨x, rfl, B1, e1⟩ := h
    have i2 : ∀ {d : Nat} {i : Int}, i.natAbs < 10 ^ 6 → Tw d 410 (.int i) := fun {d i} h => (tw_i6 (d := d) h).le (by omega) (by decide)
    -- a pair of numbers, a list of pairs
    have pr : ∀ {l : Bool} {x y : Wv}, Tw 1 410 x → Tw 1 410 y → Tw 6 1300 (seqW l [x, y]) := fun {l x y} hx hy => (tw_seq (d := 1) (m := 410) (k := 2) (l := l) (m' := 1300) (two_of hx hy) (Nat.le_refl 2) (by decide) (by decide) (by decide)).le (by decide) (by decide)
    have gl : ∀ {l : Bool} {ws : List Wv}, ws.length ≤ 9 → (∀ w ∈ ws, Tw 6 1300 w) → Tw 7 12000 (seqW l ws) := fun {l ws} hl hw => tw_seq (k := 9) hw hl (by decide) (by decide) (by decide)
    have up : ∀ {d m : Nat} {w : Wv}, d ≤ 6 → m ≤ 1300 → Tw d m w → Tw 6 1300 w := fun hd hm h => h.le hd hm
    have put : ∀ {H1 : Hp} {p : Addr} {xs : List V} {ws : List Wv}, BoxAt K H1 b c ns → But b H H1 → H1 p = none → IsNs a.C_Frac H H1 xs ws → ws.length ≤ 9 → (∀ w ∈ ws, Tw 6 1300 w) → spShape K [.ref b, .ref p] (upd H1 p (.lst xs)) Q E0 :=
      fun B1 e1 n hx hl hw => shp B B1 e1 n hx fun v l H' B' e' _ hv => k v _ H' B' e' hv (gl hl hw)
    walk_at "rd"
    have fresh : ∀ {H2 : Hp} {p : Addr}, BoxAt K H2 b c ns → But b H H2 → H2 p = none → H p = none := fun B2 e2 h => e2.free (B2.ne_new h) h
    have sm : ∀ {d : Nat} {l : Bool} {ws : List Wv}, ws.length ≤ 3 → (∀ w ∈ ws, Tw 1 410 w) → Tw 6 1300 (seqW l ws) := fun {d l ws} hl hw => (tw_seq (d := 1) (m := 410) (k := 3) (l := l) (m' := 1300) hw hl (by decide) (by decide) (by decide)).le (by decide) (by decide)
    have pr1 : ∀ {i : Int}, i.natAbs < 10 ^ 6 → Tw 1 410 (.int i) := fun h => i2 h
    have nl : (((n : Int) - 1)).natAbs < 10 ^ 6 := by omega
    refine ite2 (fun _ => ?_) (fun _ => ite2 (fun _ => ?_) (fun _ => ite2 (fun _ => ?_) (fun _ => ite2 (fun _ => ?_) (fun _ => ite2 (fun _ => ?_) (fun _ => ite2 (fun _ => ?_) (fun _ => ite2 (fun _ => ?_) (fun _ => ite2 (fun _ => ?_) (fun _ => ?_))))))))
    · refine ⟨by decide, fun p1 h1 => ⟨by decide, fun p2 h2 => ?_⟩⟩
      intro y dx hy hdx hne
      obtain ⟨s1, z1⟩ := newo (.tup [V.int 1, V.int 0]) h1
      obtain ⟨s2, z2⟩ := newo (.lst [V.int 1, V.int (n - 1)]) h2
      refine fr_made (n := 2) (by decide) hy hdx hne fun H5 hfr e5 => ⟨by decide, fun q hq => ?_⟩
      have u1 := s2.trans e5
      have u0 := s1.trans u1
      have f2 := fresh (B1.same s1) (e1.trans (Same.but s1)) h2
      refine pick (ws := [.non, .int 1, .str (Str.ofString "goals"), seqW false [.int 1, .int 0], seqW true [.int 1, .int (n - 1)], .bl true, .fr (2 : Nat) 1]) B (B1.same u0) (e1.trans (Same.but u0)) hq
        (.cons .non (.cons (.int _) (.cons (.str _) (.cons (.tup (u1 _ _ z1) (.cons (.int _) (.cons (.int _) .nil))) (.cons (.lst (e5 _ _ z2) f2 (.cons (.int _) (.cons (.int _) .nil))) (.cons (.bl _) (.cons (.fr hfr) .nil))))))) rfl (by decide) (by decide) fun v w' H6 B6 e6 _ vw mem => k v w' H6 B6 e6 vw ?_
      simp only [List.mem_cons, List.not_mem_nil, or_false] at mem
      rcases mem with rfl | rfl | rfl | rfl | rfl | rfl | rfl
      · exact (tw_non (d := 6)).le (by decide) (by decide)
      · exact (tw_i6 (d := 6) (by decide)).le (by decide) (by decide)
      · exact (tw_str (d := 6) (by decide +kernel)).le (by decide) (by decide)
      · exact (pr (pr1 (by decide)) (pr1 (by decide))).le (by decide) (by decide)
      · exact (pr (pr1 (by decide)) (pr1 nl)).le (by decide) (by decide)
      · exact (tw_bl (d := 6) _).le (by decide) (by decide)
      · exact (tw_fr (d := 6) (by decide) (by decide)).le (by decide) (by decide)
    · exact ⟨by decide, fun p hp => put B1 e1 hp .nil (by decide) (fun w m => by cases m)⟩
    · refine ⟨by decide, fun p1 h1 => ⟨by decide, fun p2 h2 => ⟨by decide, fun p3 h3 => ?_⟩⟩⟩
      obtain ⟨s1, z1⟩ := newo (.lst [V.int 1, V.int (n - 1)]) h1
      obtain ⟨s2, z2⟩ := newo (.lst [V.int 2, V.int (n - 1)]) h2
      have f1 := fresh B1 e1 h1
      have f2 := fresh (B1.same s1) (e1.trans (Same.but s1)) h2
      exact put (ws := [seqW true [.int 1, .int (n - 1)], seqW true [.int 2, .int (n - 1)]]) (B1.same (s1.trans s2)) (e1.trans (Same.but (s1.trans s2))) h3 (.cons (.lst (s2 _ _ z1) f1 (.cons (.int _) (.cons (.int _) .nil))) (.cons (.lst z2 f2 (.cons (.int _) (.cons (.int _) .nil))) .nil)) (by simp) (two_of (pr (pr1 (by decide)) (pr1 nl)) (pr (pr1 (by decide)) (pr1 nl)))
    · refine ⟨by decide, fun p1 h1 => ⟨by decide, fun p2 h2 => ⟨by decide, fun p3 h3 => ?_⟩⟩⟩
      obtain ⟨s1, z1⟩ := newo (.tup [V.int 1, V.int (n - 1)]) h1
      obtain ⟨s2, z2⟩ := newo (.tup [V.int 1, V.int 0]) h2
      exact put (ws := [seqW false [.int 1, .int (n - 1)], seqW false [.int 1, .int 0]]) (B1.same (s1.trans s2)) (e1.trans (Same.but (s1.trans s2))) h3 (.cons (.tup (s2 _ _ z1) (.cons (.int _) (.cons (.int _) .nil))) (.cons (.tup z2 (.cons (.int _) (.cons (.int _) .nil))) .nil)) (by simp) (two_of (pr (pr1 (by decide)) (pr1 nl)) (pr (pr1 (by decide)) (pr1 (by decide))))
    · rw [show Int.toNat 9 = 9 from rfl]
      refine ⟨by decide, by decide, Rd.lcl_rng (fun D i H5 => H1 D = none ∧ Same H1 H5 ∧ ∃ acc, H5 D = some (.lst acc) ∧ acc.length = i ∧ TupV H5 acc ((List.range i).map fun j => ((1 : Int), ((j : Nat) : Int)))) (fun D hD => ⟨hD, same_upd hD, [], upd_same, rfl, trivial⟩) (fun D i H5 hi ⟨n5, e5, acc, a5, l5, t5⟩ => ?_) (fun D H5 _ ⟨n5, e5, acc, a5, l5, t5⟩ => ?_)⟩
      · walk_at "rd"
        refine ⟨by decide, fun t ht => ⟨acc, (same_upd ht) _ _ a5, small1000 (by omega), n5, fun b o hb => (upd_ne (ne_of_none hb n5)).trans ((e5.trans (same_upd ht)) _ _ hb), by rw [List.length_append, l5]; rfl, ?_⟩⟩
        rw [List.range_succ, List.map_append]
        refine TupV.upd ((same_upd ht) _ _ a5) (TupV.app (t5.same (same_upd ht)) ⟨⟨t, rfl, ?_⟩, trivial⟩)
        rw [upd_same, Int.zero_add]
      · have D0 := fresh B1 e1 n5
        have e15 := e1.trans (Same.but e5)
        refine ⟨b, c, D, ns, acc, rfl, B1.same e5, B1.ne_new n5, a5, fun q l' H' B' e' qb hq hn => ?_⟩
        have hx := IsNs.but B (B1.same e5) e' (tup_isn (C := a.C_Frac) (H0 := H) t5)
        refine k _ (seqW l' _) H' B' (e15.trans e') (seqN hq (fun h => by rw [hn h]; exact D0) hx) (gl (by simp) fun w m => ?_)
        obtain ⟨g, hg, rfl⟩ := List.mem_map.mp m
        obtain ⟨j, hj, rfl⟩ := List.mem_map.mp hg
        have hj := List.mem_range.mp hj
        exact pr (pr1 (by show (1 : Int).natAbs < _; decide)) (pr1 (by show ((j : Nat) : Int).natAbs < _; omega))
    · refine ⟨by decide, fun p1 h1 => ⟨by decide, fun p2 h2 => ⟨by decide, fun p3 h3 => ⟨by decide, fun q hq => ?_⟩⟩⟩⟩
      obtain ⟨s1, z1⟩ := newo (.tup [V.int 1]) h1
      obtain ⟨s2, z2⟩ := newo (.tup [V.int 1, V.int 0, V.int 0]) h2
      obtain ⟨s3, z3⟩ := newo (.tup []) h3
      have u1 := s2.trans s3
      have u0 := s1.trans u1
      refine pick (ws := [seqW false [.int 1], seqW false [.int 1, .int 0, .int 0], .non, .int 5, .str (Str.ofString "10"), seqW false []]) B (B1.same u0) (e1.trans (Same.but u0)) hq
        (.cons (.tup (u1 _ _ z1) (.cons (.int _) .nil)) (.cons (.tup (s3 _ _ z2) (.cons (.int _) (.cons (.int _) (.cons (.int _) .nil)))) (.cons .non (.cons (.int _) (.cons (.str _) (.cons (.tup z3 .nil) .nil)))))) rfl (by decide) (by decide) fun v w' H6 B6 e6 _ vw mem => ⟨by decide, fun p hp => put B6 e6 hp (.cons vw .nil) (by simp) (one_of ?_)⟩
      simp only [List.mem_cons, List.not_mem_nil, or_false] at mem
      rcases mem with rfl | rfl | rfl | rfl | rfl | rfl
      · exact sm (d := 0) (by simp) (one_of (pr1 (by decide)))
      · exact sm (d := 0) (by simp) (three_of (pr1 (by decide)) (pr1 (by decide)) (pr1 (by decide)))
      · exact (tw_non (d := 6)).le (by decide) (by decide)
      · exact (tw_i6 (d := 6) (by decide)).le (by decide) (by decide)
      · exact (tw_str (d := 6) (by decide +kernel)).le (by decide) (by decide)
      · exact sm (d := 0) (by simp) (fun w m => by cases m)
    · refine ⟨by decide, fun p1 h1 => ?_⟩
      obtain ⟨s1, z1⟩ := newo (.tup [V.int 1, V.int (n - 1)]) h1
      refine ⟨b, c, ns, rfl, B1.same s1, fun v w' H2 B2 e2 vn vt _ _ => ⟨by decide, fun p hp => ?_⟩⟩
      have e12 := (e1.trans (Same.but s1)).trans e2
      have p1b := B1.ne_new h1
      exact put (ws := [seqW false [.int 1, .int (n - 1)], w']) B2 e12 hp (.cons (.tup (e2 _ _ p1b z1) (.cons (.int _) (.cons (.int _) .nil))) (.cons (vn.older (B1.same s1) (e1.trans (Same.but s1))) .nil)) (by simp) (two_of (pr (pr1 (by decide)) (pr1 nl)) vt)
    · refine .inr ⟨.inl ⟨by decide, by decide⟩, b, c, ns, _, rfl, B1, by split <;> decide, fun v w' H2 B2 e2 vn vt => ⟨by decide, fun p hp => ?_⟩⟩
      have e12 := e1.trans e2
      refine shp B B2 e12 hp (.cons (vn.older B1 e1) (.cons (.int _) .nil)) fun v2 l2 H3 B3 e3 _ vn2 => ⟨by decide, fun p' hp' => put B3 e3 hp' (.cons vn2 .nil) (by simp) (one_of (pr vt (pr1 nl)))⟩
    · refine drw B1 (by decide) (by decide) fun y H2 y9 B2 e2 => ⟨_, rfl, b, c, ns, _, rfl, B2, by omega, fun v w' H3 B3 e3 vn vt => ⟨by decide, fun p hp => ?_⟩⟩
      have e13 := (e1.trans e2).trans e3
      refine shp B B3 e13 hp (.cons (.int _) (.cons (vn.older B2 (e1.trans e2)) .nil)) fun v2 l2 H4 B4 e4 _ vn2 => ⟨by decide, fun p' hp' => put B4 e4 hp' (.cons vn2 .nil) (by simp) (one_of (pr (pr1 (by omega)) vt))⟩
end

end K05
namespace K05
open PySem PySem.Spec PyProof.Rows L2 Own OwnSeq OwnSet OwnComb OwnSort OwnHot OwnExN OwnProj
local macro_rules | `(tactic| walk_at "rd") => `(tactic| simp only [tSeq, tAsg, tOp, tUn, tVar, gName, gSub, rIxL, rIxT, rSetL, tC, rI0, rI, rU, rEq, rNe, tCons, tNil, tCB, tLst, tTup, tIfS, tAnd, tOr, tNot, tAndV, tOrV, tNotV, tTest, tB, tIf, tRet, tDrop, tNext, tBreak, tCont, tCall, tCallS, L2.WE, tMakeS, rIsS, rIsB, tChain, gSeq, gRest, gCons, gNil, tFor_seq, tFor_enumS, tLc_seq, tLc_enumS, rAny, rAll, L2.tMeth, StX.tStar, rIn, tLstRg, tRg1, tRg2, rSetI, rSortedSet, rInDT, rInD, rNotInD, rEqD, rNeD, iComb, tFld, tMake, tMkO, sFld, tOst, tNever, tBits, clv, isB,
  Rd.tFor_rng1, Rd.tFor_rng2, Rd.tFor_list, Rd.tFor_tup, Rd.tLc_list, Rd.tLc_tup, Rd.tLc_rng1, Rd.LcTurn, tYes, wipe, Rd.rLenL, Rd.rLenT, Rd.rIntI, Rd.rIxH, rIxHT,  HO.tup.injEq, Rd.at0, Rd.at1, Rd.at2, Rd.at3, Rd.ixN40, Rd.ixN41, Rd.ixN42, Rd.ixN43, Rd.scal_ii, cxOf,
  List.length_cons, List.length_nil, List.length_map, List.map_cons, List.map_nil, upd_same, decide_eq_true_eq, decide_true, decide_false, if_true, if_false, Bool.false_eq_true, Bool.not_true, Bool.not_false, HO.lst.injEq, HO.ins.injEq, List.set_cons_zero, List.set_cons_succ, List.getElem?_cons_zero, List.getElem?_cons_succ, List.append_nil, List.nil_append, List.cons_append, Option.some.injEq, V.ref.injEq, V.int.injEq, V.bl.injEq, List.cons.injEq, exists_eq_left', exists_and_left, exists_eq_left, true_and, and_true, and_self, and_assoc, implies_true, reduceCtorEq, Nat.reduceAdd])

theorem IsNs.app {C : Addr} {H H' : Hp} : ∀ {vs us : List V} {ws zs : List Wv}, IsNs C H H' vs ws → IsNs C H H' us zs → IsNs C H H' (vs ++ us) (ws ++ zs)
  | _, _, _, _, .nil, b => b
  | _, _, _, _, .cons h a, b => .cons h (a.app b)
/-- a heap without one object -/
def noD (D : Addr) (H : Hp) : Hp := fun q => if q = D then none else H q
theorem noD_upd {D : Addr} {H : Hp} {o : HO} : noD D (upd H D o) = noD D H := funext fun q => by
  unfold noD
  by_cases h : q = D
  · rw [if_pos h, if_pos h]
  · rw [if_neg h, if_neg h, upd_ne h]
theorem noD_get {D q : Addr} {H : Hp} {o : HO} (h : noD D H q = some o) : q ≠ D ∧ H q = some o := by
  unfold noD at h
  split at h
  · cases h
  · exact ⟨by assumption, h⟩
theorem noD_of {D q : Addr} {H : Hp} {o : HO} (n : q ≠ D) (h : H q = some o) : noD D H q = some o := by
  unfold noD
  rw [if_neg n]
  exact h
theorem IsNs.noD {K : PySem.W.Frag} {C b c D : Addr} {ns : List Int} {H H1 H' : Hp} (B : BoxAt K H b c ns) (B1 : BoxAt K H1 b c ns) (e : But b H1 H') {vs : List V} {ws : List Wv} (h : IsNs C H (noD D H1) vs ws) : IsNs C H (noD D H') vs ws :=
  h.go (fun q o n z => by
    obtain ⟨nd, z⟩ := noD_get z
    refine noD_of nd (e q o (fun eq => ?_) z)
    subst eq
    obtain ⟨_, _, _, hb, _⟩ := B.ob
    obtain ⟨_, _, _, hb1, _⟩ := B1.ob
    rw [hb1] at z
    rw [n _ (Option.some.inj z).symm] at hb
    cases hb) fun _ z => z
theorem IsNs.all {C D : Addr} {H H1 : Hp} {vs : List V} {ws : List Wv} (h : IsNs C H (K05.noD D H1) vs ws) : IsNs C H H1 vs ws := h.go (fun _ _ _ z => (noD_get z).2) fun _ z => z
/-- what is new since H1, in which D stands -/
theorem IsN.since {K : PySem.W.Frag} {C b c D : Addr} {ns : List Int} {H H1 H' : Hp} {v : V} {w : Wv} {xs ys : List V} (B1 : BoxAt K H1 b c ns) (e1 : But b H H1) (hD : H1 D = some (.lst xs)) (hD' : H' D = some (.lst ys)) (h : IsN C H1 H' v w) : IsN C H (K05.noD D H') v w :=
  h.go (fun q o n z => noD_of (fun eq => by
    subst eq
    rw [hD'] at z
    rw [n _ (Option.some.inj z).symm] at hD
    cases hD) z) fun q z => e1.free (B1.ne_new z) z
section
variable {P : Program} {w : World} {K : PySem.W.Frag} {mg : Str → Option Value} {base : Heap} {a : Ad}
/-! ### _law_right_row -/
def spRow (K : PySem.W.Frag) (C : Addr) : Sp := fun vs H Q _ => ∃ (b c : Addr) (ns : List Int) (n : Nat), vs = [.ref b, .int n] ∧ BoxAt K H b c ns ∧ 1 ≤ n ∧ n ≤ 8 ∧ ∀ v w H', BoxAt K H' b c ns → But b H H' → IsN C H H' v w → Tw 8 50000 w → RowOk w → Q v H'
theorem pl_str {d : Nat} {s : Str} (h : PyData.strOk s = true) : Pl d (.str s) := .str h
theorem sc_law_right_row : FnScope ["box", "many", "shape", "mask", "goals", "state", "weight"] ["box", "many"] (defScope s_law_right_row) := ⟨rfl, rfl, rfl, by decide +kernel, rfl, by decide +kernel, by decide +kernel⟩
theorem ok_law_right_row (T : Txt K mg a) : FnOk P w K mg base CX0 6 a.a_law_right_row a.d_law_right_row ["box", "many"] (spRow K a.C_Frac) := by
  refine T.fn_law_right_row.ok sc_law_right_row (fun vs H Q E h => ?_) (fun cdv A outer s H vs Q E hr h => ?_)
  · obtain ⟨b, c, ns, n, rfl, _⟩ := h
    rfl
  · obtain ⟨b, c, ns, n, rfl, B, n1, n8, k⟩ := h
    refine ⟨_, (pss_cons (ps_set (i := 2) sc_law_right_row.nd rfl (Or.inl rfl) (pe_call (ok_law_draw T) (hr.mono (by decide)) (by rfl) T.mg_law_draw T.fn_law_draw.kp T.b_law_draw .nil pass0 (pa_cons (pv 0) (pa_cons pe_int pa_nil))))
      (pss_cons (ps_if (pt_cmpR op_eq (pv 2) pe_int (nomark _)) (pss_one (ps_ret (pe_call (ok_law_shape T) (hr.mono (by decide)) (by rfl) T.mg_law_shape T.fn_law_shape.kp T.b_law_shape .nil pass0 (pa_cons (pv 0) (pa_cons (pe_lst (pa_cons pe_str pa_nil)) pa_nil))))) pss_nil)
      (pss_cons (ps_if (pt_cmpR op_lt (pv 2) pe_int (nomark _)) (pss_one (ps_ret (pe_call (ok_law_shape T) (hr.mono (by decide)) (by rfl) T.mg_law_shape T.fn_law_shape.kp T.b_law_shape .nil pass0 (pa_cons (pv 0) (pa_cons (pe_lst (pa_cons pe_str (pa_cons (pe_call (ok_law_worth T) (hr.mono (by decide)) (by rfl) T.mg_law_worth T.fn_law_worth.kp T.b_law_worth .nil pass0 (pa_cons (pv 0) (pa_cons (pe_un un_neg pe_int) pa_nil))) pa_nil))) pa_nil))))) pss_nil)
      (pss_cons (ps_set (i := 3) sc_law_right_row.nd rfl (Or.inl rfl) (pe_op op_add pe_int (pe_call (ok_law_draw T) (hr.mono (by decide)) (by rfl) T.mg_law_draw T.fn_law_draw.kp T.b_law_draw .nil pass0 (pa_cons (pv 0) (pa_cons (pe_op op_sub (pe_op op_shl pe_int (pv 1)) pe_int) pa_nil)))))
      (pss_cons (ps_set (i := 4) sc_law_right_row.nd rfl (Or.inl rfl) (pe_lst pa_nil))
      (pss_cons (ps_for PassesOwn.never rfl (pi_range1 (by rfl) T.no_range (pa_cons (pv 1) pa_nil)) (pg_name (i := 5) sc_law_right_row.nd rfl (Or.inl rfl))
        (pss_one (ps_if (pt_cmpR op_eq (pe_op op_mod (pe_callTy Rd.call_intI (by rfl) T.no_int (by decide +kernel) (pa_cons (pe_op op_shr (pv 3) (pv 5)) pa_nil)) pe_int) pe_int (nomark _)) (pss_cons (ps_set (i := 6) sc_law_right_row.nd rfl (Or.inl rfl) (pe_ix Rd.ixH (pe_lst (pa_cons pe_int (pa_cons pe_int (pa_cons pe_int (pa_cons pe_int (pa_cons (pe_op op_add pe_int (pe_call (ok_law_draw T) (hr.mono (by decide)) (by rfl) T.mg_law_draw T.fn_law_draw.kp T.b_law_draw .nil pass0 (pa_cons (pv 0) (pa_cons pe_int pa_nil)))) pa_nil)))))) (pe_call (ok_law_draw T) (hr.mono (by decide)) (by rfl) T.mg_law_draw T.fn_law_draw.kp T.b_law_draw .nil pass0 (pa_cons (pv 0) (pa_cons pe_int pa_nil))) (fun _ _ => rfl)))
          (pss_one (ps_expr (pe_bm PySem.F.plainAttrs_list PySem.F.slot_list_append PySem.F.type_list_append mt_append (pv 4) (pa_cons (pe_call (ok_law_shape T) (hr.mono (by decide)) (by rfl) T.mg_law_shape T.fn_law_shape.kp T.b_law_shape .nil pass0 (pa_cons (pv 0) (pa_cons (pe_lst (pa_cons (pv 6) (pa_cons (pv 5) pa_nil))) pa_nil))) pa_nil))))) pss_nil)))
      (pss_one (ps_ret (pe_call (ok_law_shape T) (hr.mono (by decide)) (by rfl) T.mg_law_shape T.fn_law_shape.kp T.b_law_shape .nil pass0 (pa_cons (pv 0) (pa_cons (pe_lst (pa_cons pe_str (pa_cons (pe_call (ok_law_worth T) (hr.mono (by decide)) (by rfl) T.mg_law_worth T.fn_law_worth.kp T.b_law_worth .nil pass0 (pa_cons (pv 0) (pa_cons pe_int pa_nil))) (pa_cons (pe_call (ok_law_shape T) (hr.mono (by decide)) (by rfl) T.mg_law_shape T.fn_law_shape.kp T.b_law_shape .nil pass0 (pa_cons (pv 0) (pa_cons (pv 4) pa_nil))) pa_nil)))) pa_nil))))))))))), ?_⟩
    show (_ : TS) _ [some (V.ref b), some (V.int n), none, none, none, none, none] H
    have p256 : 2 ^ n ≤ 256 := Nat.le_trans (Nat.pow_le_pow_right (by decide) n8) (by decide)
    have p2 : 2 ≤ 2 ^ n := Nat.le_trans (show 2 ≤ 2 ^ 1 by decide) (Nat.pow_le_pow_right (by decide) n1)
    have rl : ∀ {l : Bool} {ws : List Wv}, ws.length ≤ 4 → (∀ w ∈ ws, Tw 7 12000 w) → Tw 8 50000 (seqW l ws) := fun {l ws} hl hw => tw_seq (k := 4) hw hl (by decide) (by decide) (by decide)
    have st : ∀ {s : Str}, s.length ≤ 10 → Tw 7 12000 (.str s) := fun h => (tw_str (d := 7) h).le (by decide) (by decide)
    have put : ∀ {H1 : Hp} {p : Addr} {s : Str} {xs : List V} {ws : List Wv}, PyData.strOk s = true → s.length ≤ 10 → BoxAt K H1 b c ns → But b H H1 → H1 p = none → IsNs a.C_Frac H H1 xs ws → ws.length ≤ 3 → (∀ w ∈ ws, Tw 7 12000 w) → spShape K [.ref b, .ref p] (upd H1 p (.lst (.str s :: xs))) Q E0 :=
      fun {H1 p s xs ws} so sl B1 e1 n hx hl hw => shp B B1 e1 n (.cons (.str s) hx) fun v l H' B' e' _ hv => k v _ H' B' e' hv (rl (by rw [List.length_cons]; omega) fun w m => by
        rcases List.mem_cons.mp m with rfl | m
        · exact st sl
        · exact hw w m) (rowOk_of (fun x rest e => by cases e; exact .str so) fun x m => by
        rcases List.mem_cons.mp m with rfl | m
        · exact (st sl).1.nb
        · exact (hw x m).1.nb)
    refine cut (fun σ H1 => ∃ x : Nat, σ = [some (V.ref b), some (V.int n), some (V.int x), none, none, none, none] ∧ BoxAt K H1 b c ns ∧ But b H H1) (fun R hR => ?_) (fun σ H1 h => ?_)
    · walk_at "rd"
      exact drw B (by decide) (by decide) fun x H1 x8 B1 e1 => hR _ _ ⟨x, rfl, B1, e1⟩
    obtain ⟨x, rfl, B1, e1⟩ := h
    walk_at "rd"
    refine ite2 (fun _ => ⟨by decide, fun p hp => put (by decide +kernel) (by decide +kernel) B1 e1 hp .nil (by decide) (fun w m => by cases m)⟩) (fun _ => ite2 (fun _ => ?_) (fun _ => ?_))
    · refine ⟨b, c, ns, _, rfl, B1, by decide, by decide, fun v w' H2 B2 e2 vn vt => ⟨by decide, fun p hp => put (by decide +kernel) (by decide +kernel) B2 (e1.trans e2) hp (.cons (vn.older B1 e1) .nil) (by simp) (one_of (vt.le (by decide) (by decide)))⟩⟩
    · refine ⟨⟨by omega, by omega, by decide⟩, ?_⟩
      rw [show (1 : Int) * 2 ^ (n : Int).toNat = ((2 ^ n : Nat) : Int) by rw [Int.toNat_natCast, Int.one_mul]; rfl]
      refine drw B1 (by omega) (by omega) fun mk H2 _ B2 e2 => ⟨_, rfl, by decide, fun p hp => ⟨by omega, by omega, ?_⟩⟩
      rw [Int.toNat_natCast]
      have e12 := e1.trans e2
      have pb := B2.ne_new hp
      have p0 : H p = none := e12.free pb hp
      have sp := same_upd (o := .lst []) hp
      refine Rd.loop_rngC (fun σ H' => ∃ o5 o6 xs ws, σ = [some (V.ref b), some (V.int n), some (V.int x), some (V.int (1 + mk)), some (V.ref p), o5, o6] ∧ BoxAt K H' b c ns ∧ But b H H' ∧ H' p = some (.lst xs) ∧ IsNs a.C_Frac H (noD p H') xs ws ∧ ws.length ≤ 8 ∧ ∀ w ∈ ws, Tw 6 1300 w)
        (fun i σ H' => ∃ o5 o6 xs ws, σ = [some (V.ref b), some (V.int n), some (V.int x), some (V.int (1 + mk)), some (V.ref p), o5, o6] ∧ BoxAt K H' b c ns ∧ But b H H' ∧ H' p = some (.lst xs) ∧ IsNs a.C_Frac H (noD p H') xs ws ∧ ws.length ≤ i ∧ ∀ w ∈ ws, Tw 6 1300 w)
        ⟨none, none, [], [], rfl, B2.same sp, e12.trans (Same.but sp), upd_same, .nil, Nat.le_refl _, fun w m => by cases m⟩ ?_ (fun σ H' ⟨o5, o6, xs, ws, q1, q2, q3, q4, q5, q6, q7⟩ => ⟨o5, o6, xs, ws, q1, q2, q3, q4, q5, by omega, q7⟩) ?_
      · rintro bk hbk i σ H3 hi ⟨o5, o6, xs, ws, rfl, B3, e3, hp3, hx3, wl, wt⟩
        walk_at "rd"
        refine ⟨by omega, by decide, ite2 (fun _ => ?_) (fun _ => ⟨B3, e3, xs, hp3, ws, hx3, by omega, wt⟩)⟩
        refine drw B3 (by decide) (by decide) fun y H4 y9 B4 e4 => ⟨_, rfl, by decide, fun q hq => ?_⟩
        refine pick (C := a.C_Frac) (ws := [.int 1, .int 999, .int 2, .int 3, .int (1 + y)]) B4 B4 (But.refl _ _) hq (.cons (.int _) (.cons (.int _) (.cons (.int _) (.cons (.int _) (.cons (.int _) .nil))))) rfl (by decide) (by decide) fun v w' H6 B6 e6 _ vw mem => ?_
        obtain ⟨wi, rfl, hwi⟩ : ∃ wi, w' = .int wi ∧ wi.natAbs < 10 ^ 6 := by
          simp only [List.mem_cons, List.not_mem_nil, or_false] at mem
          rcases mem with rfl | rfl | rfl | rfl | rfl
          · exact ⟨_, rfl, by decide⟩
          · exact ⟨_, rfl, by decide⟩
          · exact ⟨_, rfl, by decide⟩
          · exact ⟨_, rfl, by decide⟩
          · exact ⟨_, rfl, by omega⟩
        cases vw
        have e36 := e4.trans e6
        have e06 := e3.trans e36
        have hp6 := e36 _ _ pb hp3
        have hx6 := IsNs.noD B B3 e36 hx3
        simp only [tBM, rAppend]
        walk_at "rd"
        have xl6 := hx6.len
        refine ⟨.inl ⟨rfl, _, SqL.of hp6⟩, by decide, fun q2 hq2 => shp (C := a.C_Frac) (ws := [.int wi, .int (0 + i)]) B6 B6 (But.refl _ _) hq2 (.cons (.int _) (.cons (.int _) .nil)) fun v l H7 B7 e7 _ vn => ?_⟩
        have hp7 := e7 _ _ pb hp6
        have eU : But b H (upd H7 p (.lst (xs ++ [v]))) := (e06.trans e7).updn p0
        refine ⟨xs, hp7, small1000 (by omega), B.upd B7 pb eU, eU, ws ++ [seqW l [.int wi, .int (0 + i)]], ?_, by rw [List.length_append]; show ws.length + 1 ≤ _; omega, fun w m => ?_⟩
        · rw [noD_upd]
          exact (IsNs.noD B B6 e7 hx6).app (.cons (vn.since B6 e06 hp6 hp7) .nil)
        · rcases List.mem_append.mp m with m | m
          · exact wt w m
          · rw [List.mem_singleton.mp m]
            exact (tw_seq (d := 0) (m := 400) (k := 2) (l := l) (m' := 1300) (two_of (tw_i6 hwi) (tw_i6 (by omega))) (Nat.le_refl 2) (by decide) (by decide) (by decide)).le (by decide) (by decide)
      · rintro σ H3 ⟨o5, o6, xs, ws, rfl, B3, e3, hp3, hx3, wl, wt⟩
        walk_at "rd"
        refine ⟨b, c, ns, 0, rfl, B3, by decide, by decide, fun v w' H4 B4 e4 vn vt => ⟨b, c, p, ns, xs, rfl, B4, pb, e4 _ _ pb hp3, fun q l H5 B5 e5 qb hq hn => ⟨by decide, fun p' hp' => ?_⟩⟩⟩
        have e45 := e4.trans e5
        have hx5 := (IsNs.noD B B3 e45 hx3).all
        exact put (by decide +kernel) (by decide +kernel) B5 (e3.trans e45) hp' (.cons (IsN.but B B4 e5 (vn.older B3 e3)) (.cons (seqN hq (fun h => by rw [hn h]; exact p0) hx5) .nil)) (by simp) (two_of (vt.le (by decide) (by decide)) (tw_seq (k := 9) wt (by omega) (by decide) (by decide) (by decide)))
/-! ### _law_no_row -/
theorem sc_law_no_row : FnScope ["box", "many", "shape"] ["box", "many"] (defScope s_law_no_row) := ⟨rfl, rfl, rfl, by decide +kernel, rfl, by decide +kernel, by decide +kernel⟩
theorem ok_law_no_row (T : Txt K mg a) : FnOk P w K mg base CX0 8 a.a_law_no_row a.d_law_no_row ["box", "many"] (spRow K a.C_Frac) := by
  refine T.fn_law_no_row.ok sc_law_no_row (fun vs H Q E h => ?_) (fun cdv A outer s H vs Q E hr h => ?_)
  · obtain ⟨b, c, ns, n, rfl, _⟩ := h
    rfl
  · obtain ⟨b, c, ns, n, rfl, B, n1, n8, k⟩ := h
    obtain ⟨ds2, b2v, b2b⟩ := b2 T
    refine ⟨_, (pss_cons (ps_set (i := 2) sc_law_no_row.nd rfl (Or.inl rfl) (pe_call (ok_law_draw T) (hr.mono (by decide)) (by rfl) T.mg_law_draw T.fn_law_draw.kp T.b_law_draw .nil pass0 (pa_cons (pv 0) (pa_cons pe_int pa_nil))))
      (pss_cons (ps_if (pt_cmpR op_eq (pv 2) pe_int (nomark _)) (pss_one (ps_ret (pe_ix Rd.ixH (pe_lst (pa_cons pe_non (pa_cons pe_bl (pa_cons pe_int (pa_cons pe_str (pa_cons pe_str (pa_cons (pe_make T.mk_Frac (ok_Frac_init T) (hr.mono (by decide)) (by rfl) T.mg_Frac b2b b2v pass0 (pa_cons pe_int pa_nil)) (pa_cons (pe_call (ok_law_deep T) (hr.mono (by decide)) (by rfl) T.mg_law_deep T.fn_law_deep.kp T.b_law_deep .nil pass0 (pa_cons (pv 0) pa_nil)) pa_nil)))))))) (pe_call (ok_law_draw T) (hr.mono (by decide)) (by rfl) T.mg_law_draw T.fn_law_draw.kp T.b_law_draw .nil pass0 (pa_cons (pv 0) (pa_cons pe_int pa_nil))) (fun _ _ => rfl)))) pss_nil)
      (pss_cons (ps_if (pt_cmpR op_eq (pv 2) pe_int (nomark _)) (pss_one (ps_ret (pe_call (ok_law_shape T) (hr.mono (by decide)) (by rfl) T.mg_law_shape T.fn_law_shape.kp T.b_law_shape .nil pass0 (pa_cons (pv 0) (pa_cons (pe_lst pa_nil) pa_nil))))) pss_nil)
      (pss_cons (ps_if (pt_cmpR op_eq (pv 2) pe_int (nomark _)) (pss_one (ps_ret (pe_call (ok_law_shape T) (hr.mono (by decide)) (by rfl) T.mg_law_shape T.fn_law_shape.kp T.b_law_shape .nil pass0 (pa_cons (pv 0) (pa_cons (pe_lst (pa_cons (pe_ix Rd.ixH (pe_lst (pa_cons pe_str (pa_cons pe_str (pa_cons pe_str (pa_cons pe_non (pa_cons pe_int (pa_cons pe_bl (pa_cons (pe_tup (pa_cons pe_str pa_nil)) (pa_cons (pe_lst (pa_cons pe_str pa_nil)) pa_nil))))))))) (pe_call (ok_law_draw T) (hr.mono (by decide)) (by rfl) T.mg_law_draw T.fn_law_draw.kp T.b_law_draw .nil pass0 (pa_cons (pv 0) (pa_cons pe_int pa_nil))) (fun _ _ => rfl)) (pa_cons pe_int pa_nil))) pa_nil))))) pss_nil)
      (pss_cons (ps_if (pt_cmpR op_eq (pv 2) pe_int (nomark _)) (pss_one (ps_ret (pe_call (ok_law_shape T) (hr.mono (by decide)) (by rfl) T.mg_law_shape T.fn_law_shape.kp T.b_law_shape .nil pass0 (pa_cons (pv 0) (pa_cons (pe_ix Rd.ixH (pe_lst (pa_cons (pe_lst (pa_cons pe_str pa_nil)) (pa_cons (pe_lst (pa_cons pe_str (pa_cons pe_int (pa_cons pe_int pa_nil)))) (pa_cons (pe_lst (pa_cons pe_str (pa_cons pe_int pa_nil))) (pa_cons (pe_lst (pa_cons pe_str (pa_cons pe_int pa_nil))) pa_nil))))) (pe_call (ok_law_draw T) (hr.mono (by decide)) (by rfl) T.mg_law_draw T.fn_law_draw.kp T.b_law_draw .nil pass0 (pa_cons (pv 0) (pa_cons pe_int pa_nil))) (fun _ _ => rfl)) pa_nil))))) pss_nil)
      (pss_cons (ps_if (pt_cmpR op_eq (pv 2) pe_int (nomark _)) (pss_one (ps_ret (pe_call (ok_law_shape T) (hr.mono (by decide)) (by rfl) T.mg_law_shape T.fn_law_shape.kp T.b_law_shape .nil pass0 (pa_cons (pv 0) (pa_cons (pe_lst (pa_cons pe_str (pa_cons pe_int (pa_cons (pe_lst (pa_cons (pe_tup (pa_cons pe_int (pa_cons pe_int pa_nil))) pa_nil)) (pa_cons pe_int pa_nil))))) pa_nil))))) pss_nil)
      (pss_cons (ps_if (pt_cmpR op_eq (pv 2) pe_int (nomark _)) (pss_one (ps_ret (pe_call (ok_law_shape T) (hr.mono (by decide)) (by rfl) T.mg_law_shape T.fn_law_shape.kp T.b_law_shape .nil pass0 (pa_cons (pv 0) (pa_cons (pe_lst (pa_cons pe_str (pa_cons (pe_lst (pa_cons (pe_tup (pa_cons pe_int (pa_cons pe_int pa_nil))) pa_nil)) (pa_cons pe_int pa_nil)))) pa_nil))))) pss_nil)
      (pss_cons (ps_if (pt_cmpR op_lt (pv 2) pe_int (nomark _)) (pss_one (ps_ret (pe_call (ok_law_shape T) (hr.mono (by decide)) (by rfl) T.mg_law_shape T.fn_law_shape.kp T.b_law_shape .nil pass0 (pa_cons (pv 0) (pa_cons (pe_lst (pa_cons pe_str (pa_cons (pe_call (ok_law_no_amount T) (hr.mono (by decide)) (by rfl) T.mg_law_no_amount T.fn_law_no_amount.kp T.b_law_no_amount .nil pass0 (pa_cons (pv 0) (pa_cons pe_bl pa_nil))) pa_nil))) pa_nil))))) pss_nil)
      (pss_cons (ps_if (pt_cmpR op_eq (pv 2) pe_int (nomark _)) (pss_one (ps_ret (pe_call (ok_law_shape T) (hr.mono (by decide)) (by rfl) T.mg_law_shape T.fn_law_shape.kp T.b_law_shape .nil pass0 (pa_cons (pv 0) (pa_cons (pe_lst (pa_cons pe_str (pa_cons (pe_call (ok_law_no_amount T) (hr.mono (by decide)) (by rfl) T.mg_law_no_amount T.fn_law_no_amount.kp T.b_law_no_amount .nil pass0 (pa_cons (pv 0) (pa_cons pe_bl pa_nil))) (pa_cons (pe_lst (pa_cons (pe_tup (pa_cons pe_int (pa_cons (pe_op op_sub (pv 1) pe_int) pa_nil))) pa_nil)) pa_nil)))) pa_nil))))) pss_nil)
      (pss_one (ps_ret (pe_call (ok_law_shape T) (hr.mono (by decide)) (by rfl) T.mg_law_shape T.fn_law_shape.kp T.b_law_shape .nil pass0 (pa_cons (pv 0) (pa_cons (pe_lst (pa_cons pe_str (pa_cons (pe_call (ok_law_worth T) (hr.mono (by decide)) (by rfl) T.mg_law_worth T.fn_law_worth.kp T.b_law_worth .nil pass0 (pa_cons (pv 0) (pa_cons pe_int pa_nil))) (pa_cons (pe_call (ok_law_no_goals T) (hr.mono (by decide)) (by rfl) T.mg_law_no_goals T.fn_law_no_goals.kp T.b_law_no_goals .nil pass0 (pa_cons (pv 0) (pa_cons (pv 1) pa_nil))) pa_nil)))) pa_nil)))))))))))))), ?_⟩
    show (_ : TS) _ [some (V.ref b), some (V.int n), none] H
    have rl : ∀ {l : Bool} {ws : List Wv}, ws.length ≤ 4 → (∀ w ∈ ws, Tw 7 12000 w) → Tw 8 50000 (seqW l ws) := fun {l ws} hl hw => tw_seq (k := 4) hw hl (by decide) (by decide) (by decide)
    have st : ∀ {s : Str}, s.length ≤ 10 → Tw 7 12000 (.str s) := fun h => (tw_str (d := 7) h).le (by decide) (by decide)
    have it : ∀ {i : Int}, i.natAbs < 10 ^ 6 → Tw 7 12000 (.int i) := fun h => (tw_i6 (d := 7) h).le (by decide) (by decide)
    have put : ∀ {H1 : Hp} {p : Addr} {x0 : V} {w0 : Wv} {xs : List V} {ws : List Wv}, Pl 8 w0 → Tw 7 12000 w0 → BoxAt K H1 b c ns → But b H H1 → H1 p = none → IsN a.C_Frac H H1 x0 w0 → IsNs a.C_Frac H H1 xs ws → ws.length ≤ 3 → (∀ w ∈ ws, Tw 7 12000 w) → spShape K [.ref b, .ref p] (upd H1 p (.lst (x0 :: xs))) Q E0 :=
      fun {H1 p x0 w0 xs ws} so sl B1 e1 n h0 hx hl hw => shp B B1 e1 n (.cons h0 hx) fun v l H' B' e' _ hv => k v _ H' B' e' hv (rl (by rw [List.length_cons]; omega) fun w m => by
        rcases List.mem_cons.mp m with rfl | m
        · exact sl
        · exact hw w m) (rowOk_of (fun x rest e => by cases e; exact so) fun x m => by
        rcases List.mem_cons.mp m with rfl | m
        · exact sl.1.nb
        · exact (hw x m).1.nb)
    have fresh : ∀ {H2 : Hp} {p : Addr}, BoxAt K H2 b c ns → But b H H2 → H2 p = none → H p = none := fun B2 e2 h => e2.free (B2.ne_new h) h
    refine cut (fun σ H1 => ∃ x : Nat, σ = [some (V.ref b), some (V.int n), some (V.int x)] ∧ BoxAt K H1 b c ns ∧ But b H H1) (fun R hR => ?_) (fun σ H1 h => ?_)
    · walk_at "rd"
      exact drw B (by decide) (by decide) fun x H1 x8 B1 e1 => hR _ _ ⟨x, rfl, B1, e1⟩
    obtain ⟨x, rfl, B1, e1⟩ := h
    walk_at "rd"
    have pair1 : ∀ {l : Bool} {i : Int}, i.natAbs < 10 ^ 6 → Tw 6 1300 (seqW l [.int 1, .int i]) := fun {l i} h => (tw_seq (d := 0) (m := 400) (k := 2) (l := l) (m' := 1300) (two_of (tw_i6 (by decide)) (tw_i6 h)) (Nat.le_refl 2) (by decide) (by decide) (by decide)).le (by decide) (by decide)
    have gl1 : ∀ {i : Int}, i.natAbs < 10 ^ 6 → Tw 7 12000 (seqW true [seqW false [.int 1, .int i]]) := fun {i} h => tw_seq (k := 9) (l := true) (one_of (pair1 h)) (by simp) (by decide) (by decide) (by decide)
    have noel : ∀ {w : Wv}, elems w = none → RowOk w := fun h ws e => by rw [h] at e; cases e
    refine ite2 (fun _ => ?_) (fun _ => ite2 (fun _ => ?_) (fun _ => ite2 (fun _ => ?_) (fun _ => ite2 (fun _ => ?_) (fun _ => ite2 (fun _ => ?_) (fun _ => ite2 (fun _ => ?_) (fun _ => ite2 (fun _ => ?_) (fun _ => ite2 (fun _ => ?_) (fun _ => ?_))))))))
    · intro y dx hy hdx hne
      refine fr_made (n := 3) (by decide) hy hdx hne fun H2 hfr e2 => ⟨b, c, ns, rfl, B1.same e2, fun v w' H3 B3 e3 vn vt vp vr => ⟨by decide, fun q hq => ?_⟩⟩
      have yb : y ≠ b := fun z => by
        subst z
        obtain ⟨_, _, _, hb, _⟩ := (B1.same e2).ob
        rw [hb] at hfr
        cases hfr
      have e12 := e1.trans (Same.but e2)
      refine pick (C := a.C_Frac) (ws := [.non, .bl true, .int 7, .str (Str.ofString "end"), .str (Str.ofString "void"), .fr (3 : Nat) 1, w']) B B3 (e12.trans e3) hq
        (.cons .non (.cons (.bl _) (.cons (.int _) (.cons (.str _) (.cons (.str _) (.cons (.fr (e3 _ _ yb hfr)) (.cons (vn.older (B1.same e2) e12) .nil))))))) rfl (by decide) (by decide) fun v2 w2 H6 B6 e6 _ vw mem => ?_
      simp only [List.mem_cons, List.not_mem_nil, or_false] at mem
      rcases mem with rfl | rfl | rfl | rfl | rfl | rfl | rfl
      · exact k _ _ H6 B6 e6 vw ((tw_non (d := 8)).le (by decide) (by decide)) (noel rfl)
      · exact k _ _ H6 B6 e6 vw ((tw_bl (d := 8) _).le (by decide) (by decide)) (noel rfl)
      · exact k _ _ H6 B6 e6 vw ((tw_i6 (d := 8) (by decide)).le (by decide) (by decide)) (noel rfl)
      · exact k _ _ H6 B6 e6 vw ((tw_str (d := 8) (by decide +kernel)).le (by decide) (by decide)) (noel rfl)
      · exact k _ _ H6 B6 e6 vw ((tw_str (d := 8) (by decide +kernel)).le (by decide) (by decide)) (noel rfl)
      · exact k _ _ H6 B6 e6 vw ((tw_fr (d := 8) (by decide) (by decide)).le (by decide) (by decide)) (noel rfl)
      · exact k _ _ H6 B6 e6 vw (vt.le (by decide) (by decide)) vr
    · exact ⟨by decide, fun p hp => shp B B1 e1 hp .nil fun v l H' B' e' _ hv => k v _ H' B' e' hv (rl (by simp) (fun w m => by cases m)) (rowOk_of (fun x rest e => by cases e) (fun x m => by cases m))⟩
    · refine ⟨by decide, fun p1 h1 => ⟨by decide, fun p2 h2 => ⟨by decide, fun q hq => ?_⟩⟩⟩
      obtain ⟨s1, z1⟩ := newo (.tup [V.str (Str.ofString "end")]) h1
      obtain ⟨s2, z2⟩ := newo (.lst [V.str (Str.ofString "void")]) h2
      have u0 := s1.trans s2
      have f2 := fresh (B1.same s1) (e1.trans (Same.but s1)) h2
      refine pick (C := a.C_Frac) (ws := [.str (Str.ofString "End"), .str (Str.ofString ""), .str (Str.ofString "stop"), .non, .int 0, .bl true, seqW false [.str (Str.ofString "end")], seqW true [.str (Str.ofString "void")]]) B (B1.same u0) (e1.trans (Same.but u0)) hq
        (.cons (.str _) (.cons (.str _) (.cons (.str _) (.cons .non (.cons (.int _) (.cons (.bl _) (.cons (.tup (s2 _ _ z1) (.cons (.str _) .nil)) (.cons (.lst z2 f2 (.cons (.str _) .nil)) .nil)))))))) rfl (by decide) (by decide) fun v w' H6 B6 e6 _ vw mem => ⟨by decide, fun p hp => ?_⟩
      have sm : ∀ {l : Bool} {s : Str}, s.length ≤ 10 → Tw 7 12000 (seqW l [.str s]) := fun {l s} h => (tw_seq (d := 0) (m := 400) (k := 1) (l := l) (m' := 1300) (one_of (tw_str h)) (Nat.le_refl 1) (by decide) (by decide) (by decide)).le (by decide) (by decide)
      have both : Pl 8 w' ∧ Tw 7 12000 w' := by
        simp only [List.mem_cons, List.not_mem_nil, or_false] at mem
        rcases mem with rfl | rfl | rfl | rfl | rfl | rfl | rfl | rfl
        · exact ⟨.str (by decide +kernel), st (by decide +kernel)⟩
        · exact ⟨.str (by decide +kernel), st (by decide +kernel)⟩
        · exact ⟨.str (by decide +kernel), st (by decide +kernel)⟩
        · exact ⟨.non, (tw_non (d := 7)).le (by decide) (by decide)⟩
        · exact ⟨.int _, it (by decide)⟩
        · exact ⟨.bl _, (tw_bl (d := 7) _).le (by decide) (by decide)⟩
        · exact ⟨pl_seq (one_of (.str (by decide +kernel))), sm (by decide +kernel)⟩
        · exact ⟨pl_seq (one_of (.str (by decide +kernel))), sm (by decide +kernel)⟩
      exact put both.1 both.2 B6 e6 hp vw (.cons (.int _) .nil) (by simp) (one_of (it (by decide)))
    · refine ⟨by decide, fun p1 h1 => ⟨by decide, fun p2 h2 => ⟨by decide, fun p3 h3 => ⟨by decide, fun p4 h4 => ⟨by decide, fun q hq => ?_⟩⟩⟩⟩⟩
      obtain ⟨s1, z1⟩ := newo (.lst [V.str (Str.ofString "end")]) h1
      obtain ⟨s2, z2⟩ := newo (.lst [V.str (Str.ofString "end"), V.int 1, V.int 1]) h2
      obtain ⟨s3, z3⟩ := newo (.lst [V.str (Str.ofString "void"), V.int 0]) h3
      obtain ⟨s4, z4⟩ := newo (.lst [V.str (Str.ofString "step"), V.int 1]) h4
      have u3 := s3.trans s4
      have u2 := s2.trans u3
      have u0 := s1.trans u2
      have s12 := s1.trans s2
      have s13 := s12.trans s3
      have f1 := fresh B1 e1 h1
      have f2 := fresh (B1.same s1) (e1.trans (Same.but s1)) h2
      have f3 := fresh (B1.same s12) (e1.trans (Same.but s12)) h3
      have f4 := fresh (B1.same s13) (e1.trans (Same.but s13)) h4
      refine pick (C := a.C_Frac) (ws := [.lst [.str (Str.ofString "end")], .lst [.str (Str.ofString "end"), .int 1, .int 1], .lst [.str (Str.ofString "void"), .int 0], .lst [.str (Str.ofString "step"), .int 1]]) B (B1.same u0) (e1.trans (Same.but u0)) hq
        (.cons (.lst (u2 _ _ z1) f1 (.cons (.str _) .nil)) (.cons (.lst (u3 _ _ z2) f2 (.cons (.str _) (.cons (.int _) (.cons (.int _) .nil)))) (.cons (.lst (s4 _ _ z3) f3 (.cons (.str _) (.cons (.int _) .nil))) (.cons (.lst z4 f4 (.cons (.str _) (.cons (.int _) .nil))) .nil)))) rfl (by decide) (by decide) fun v w' H6 B6 e6 _ vw mem => ?_
      obtain ⟨us, rfl, u1, u2, u3⟩ : ∃ us, w' = .lst us ∧ us.length ≤ 4 ∧ (∀ x ∈ us, Tw 7 12000 x) ∧ ∀ x rest, us = x :: rest → Pl 8 x := by
        simp only [List.mem_cons, List.not_mem_nil, or_false] at mem
        rcases mem with rfl | rfl | rfl | rfl
        · exact ⟨_, rfl, by simp, one_of (st (by decide +kernel)), fun x rest e => by cases e; exact .str (by decide +kernel)⟩
        · exact ⟨_, rfl, by simp, three_of (st (by decide +kernel)) (it (by decide)) (it (by decide)), fun x rest e => by cases e; exact .str (by decide +kernel)⟩
        · exact ⟨_, rfl, by simp, two_of (st (by decide +kernel)) (it (by decide)), fun x rest e => by cases e; exact .str (by decide +kernel)⟩
        · exact ⟨_, rfl, by simp, two_of (st (by decide +kernel)) (it (by decide)), fun x rest e => by cases e; exact .str (by decide +kernel)⟩
      cases vw with
      | lst h n0 e =>
        exact ⟨b, c, _, ns, _, rfl, B6, B.ne_new n0, h, fun q2 l H' B' e' qb hq' hn => k _ (seqW l us) H' B' (e6.trans e') (seqN hq' (fun h => by rw [hn h]; exact n0) (IsNs.but B B6 e' e)) (rl u1 u2) (rowOk_of u3 fun x m => (u2 x m).1.nb)⟩
    · refine ⟨by decide, fun p1 h1 => ⟨by decide, fun p2 h2 => ⟨by decide, fun p3 h3 => ?_⟩⟩⟩
      obtain ⟨s1, z1⟩ := newo (.tup [V.int 1, V.int 0]) h1
      obtain ⟨s2, z2⟩ := newo (.lst [V.ref p1]) h2
      have f2 := fresh (B1.same s1) (e1.trans (Same.but s1)) h2
      exact put (ws := [.int 1, seqW true [seqW false [.int 1, .int 0]], .int 0]) (.str (by decide +kernel)) (st (by decide +kernel)) (B1.same (s1.trans s2)) (e1.trans (Same.but (s1.trans s2))) h3 (.str _) (.cons (.int _) (.cons (.lst z2 f2 (.cons (.tup (s2 _ _ z1) (.cons (.int _) (.cons (.int _) .nil))) .nil)) (.cons (.int _) .nil))) (by simp) (three_of (it (by decide)) (gl1 (by decide)) (it (by decide)))
    · refine ⟨by decide, fun p1 h1 => ⟨by decide, fun p2 h2 => ⟨by decide, fun p3 h3 => ?_⟩⟩⟩
      obtain ⟨s1, z1⟩ := newo (.tup [V.int 1, V.int 0]) h1
      obtain ⟨s2, z2⟩ := newo (.lst [V.ref p1]) h2
      have f2 := fresh (B1.same s1) (e1.trans (Same.but s1)) h2
      exact put (ws := [seqW true [seqW false [.int 1, .int 0]], .int 1]) (.str (by decide +kernel)) (st (by decide +kernel)) (B1.same (s1.trans s2)) (e1.trans (Same.but (s1.trans s2))) h3 (.str _) (.cons (.lst z2 f2 (.cons (.tup (s2 _ _ z1) (.cons (.int _) (.cons (.int _) .nil))) .nil)) (.cons (.int _) .nil)) (by simp) (two_of (gl1 (by decide)) (it (by decide)))
    · exact ⟨b, c, ns, _, rfl, B1, fun v w' H2 B2 e2 vn vt => ⟨by decide, fun p hp => put (.str (by decide +kernel)) (st (by decide +kernel)) B2 (e1.trans e2) hp (.str _) (.cons (vn.older B1 e1) .nil) (by simp) (one_of (vt.le (by decide) (by decide)))⟩⟩
    · refine ⟨b, c, ns, _, rfl, B1, fun v w' H2 B2 e2 vn vt => ⟨by decide, fun p1 h1 => ⟨by decide, fun p2 h2 => ⟨by decide, fun p3 h3 => ?_⟩⟩⟩⟩
      obtain ⟨s1, z1⟩ := newo (.tup [V.int 1, V.int (n - 1)]) h1
      obtain ⟨s2, z2⟩ := newo (.lst [V.ref p1]) h2
      have e12 := e1.trans e2
      have f2 := fresh (B2.same s1) (e12.trans (Same.but s1)) h2
      exact put (ws := [w', seqW true [seqW false [.int 1, .int (n - 1)]]]) (.str (by decide +kernel)) (st (by decide +kernel)) (B2.same (s1.trans s2)) (e12.trans (Same.but (s1.trans s2))) h3 (.str _) (.cons ((vn.older B1 e1).same (s1.trans s2)) (.cons (.lst z2 f2 (.cons (.tup (s2 _ _ z1) (.cons (.int _) (.cons (.int _) .nil))) .nil)) .nil)) (by simp) (two_of (vt.le (by decide) (by decide)) (gl1 (by omega)))
    · refine ⟨b, c, ns, _, rfl, B1, by decide, by decide, fun v w' H2 B2 e2 vn vt => ⟨b, c, ns, n, rfl, B2, n1, n8, fun v2 w2 H3 B3 e3 vn2 vt2 => ⟨by decide, fun p hp => ?_⟩⟩⟩
      have e12 := e1.trans e2
      exact put (.str (by decide +kernel)) (st (by decide +kernel)) B3 (e12.trans e3) hp (.str _) (.cons (IsN.but B B2 e3 (vn.older B1 e1)) (.cons (vn2.older B2 e12) .nil)) (by simp) (two_of (vt.le (by decide) (by decide)) vt2)
end

end K05
namespace K05
open PySem PySem.Spec PyProof.Rows L2 Own OwnSeq OwnSet OwnComb OwnSort OwnHot OwnExN OwnProj
local macro_rules | `(tactic| walk_at "rd") => `(tactic| simp only [tSeq, tAsg, tOp, tUn, tVar, gName, gSub, rIxL, rIxT, rSetL, tC, rI0, rI, rU, rEq, rNe, tCons, tNil, tCB, tLst, tTup, tIfS, tAnd, tOr, tNot, tAndV, tOrV, tNotV, tTest, tB, tIf, tRet, tDrop, tNext, tBreak, tCont, tCall, tCallS, L2.WE, tMakeS, rIsS, rIsB, tChain, gSeq, gRest, gCons, gNil, tFor_seq, tFor_enumS, tLc_seq, tLc_enumS, rAny, rAll, L2.tMeth, StX.tStar, rIn, tLstRg, tRg1, tRg2, rSetI, rSortedSet, rInDT, rInD, rNotInD, rEqD, rNeD, iComb, tFld, tMake, tMkO, sFld, tOst, tNever, tBits, clv, isB,
  Rd.tFor_rng1, Rd.tFor_rng2, Rd.tFor_list, Rd.tFor_tup, Rd.tLc_list, Rd.tLc_tup, Rd.tLc_rng1, Rd.LcTurn, tYes, wipe, Rd.rLenL, Rd.rLenT, Rd.rIntI, Rd.rIxH, rIxHT,  HO.tup.injEq, Rd.at0, Rd.at1, Rd.at2, Rd.at3, Rd.ixN40, Rd.ixN41, Rd.ixN42, Rd.ixN43, Rd.scal_ii, cxOf,
  List.length_cons, List.length_nil, List.length_map, List.map_cons, List.map_nil, upd_same, decide_eq_true_eq, decide_true, decide_false, if_true, if_false, Bool.false_eq_true, Bool.not_true, Bool.not_false, HO.lst.injEq, HO.ins.injEq, List.set_cons_zero, List.set_cons_succ, List.getElem?_cons_zero, List.getElem?_cons_succ, List.append_nil, List.nil_append, List.cons_append, Option.some.injEq, V.ref.injEq, V.int.injEq, V.bl.injEq, List.cons.injEq, exists_eq_left', exists_and_left, exists_eq_left, true_and, and_true, and_self, and_assoc, implies_true, reduceCtorEq, Nat.reduceAdd])

theorem ixs {p : Addr} {l : Bool} {xs : List V} {i : Int} {z : V} {H : Hp} {Q : VK} (hp : H p = some (sq l xs)) (hi : atI xs i = some z) (q : Q z H) : rIxHS (.ref p) (.int i) H Q := ⟨p, xs, i, z, l, rfl, rfl, hp, hi, q⟩
def endB : List Wv → Bool
  | [x] => amtB (-9999) x
  | _ => false
def stepB (n : Int) : List Wv → Bool
  | [x, g] => amtB 0 x && goalsB n g
  | _ => false
theorem fit_cases {n : Int} {w : Wv} {s : Str} {wr : List Wv} (ew : elems w = some (.str s :: wr)) : fitB n w = if s = "void" then decide (wr.length = 0) else if s = "end" then endB wr else if s = "step" then stepB n wr else false := by
  have n1 : ¬ (("void" : Str) = "end") := by decide +kernel
  have n2 : ¬ (("void" : Str) = "step") := by decide +kernel
  have n3 : ¬ (("end" : Str) = "step") := by decide +kernel
  have n4 : ¬ (("end" : Str) = "void") := by decide +kernel
  unfold fitB
  rw [ew]
  match wr with
  | [] =>
    show decide (s = "void") = _
    by_cases h : s = "void"
    · rw [if_pos h, decide_eq_true h]; rfl
    · rw [if_neg h, decide_eq_false h]
      split
      · rfl
      · split <;> rfl
  | [x] =>
    show (decide (s = "end") && amtB (-9999) x) = _
    by_cases h : s = "void"
    · rw [if_pos h, decide_eq_false (by rw [h]; exact n1)]; rfl
    · rw [if_neg h]
      by_cases h2 : s = "end"
      · rw [if_pos h2, decide_eq_true h2]; rfl
      · rw [if_neg h2, decide_eq_false h2]
        split <;> rfl
  | [x, g] =>
    show (decide (s = "step") && (amtB 0 x && goalsB n g)) = _
    by_cases h : s = "void"
    · rw [if_pos h, decide_eq_false (by rw [h]; exact n2)]; rfl
    · rw [if_neg h]
      by_cases h2 : s = "end"
      · rw [if_pos h2, decide_eq_false (by rw [h2]; exact n3)]; rfl
      · rw [if_neg h2]
        by_cases h3 : s = "step"
        · rw [if_pos h3, decide_eq_true h3]; rfl
        · rw [if_neg h3, decide_eq_false h3]; rfl
  | _ :: _ :: _ :: _ =>
    show false = _
    split
    · rfl
    · split
      · rfl
      · split <;> rfl
theorem fit_nostr {n : Int} {w k : Wv} {wr : List Wv} (ew : elems w = some (k :: wr)) (h : ∀ s, k ≠ .str s) : fitB n w = false := by
  have no : ∀ t, isS t k = false := fun t => by
    cases k with
    | str s => exact absurd rfl (h s)
    | _ => rfl
  unfold fitB
  rw [ew]
  match wr with
  | [] => exact no _
  | [x] => show (_ && _) = false; rw [no]; rfl
  | [x, g] => show (_ && _) = false; rw [no]; rfl
  | _ :: _ :: _ :: _ => rfl
section
variable {P : Program} {w : World} {K : PySem.W.Frag} {mg : Str → Option Value} {base : Heap} {a : Ad}
/-! ### _law_amount -/
def spLAmt (C : Addr) : Sp := fun vs H Q _ => ∃ (v : V) (w : Wv) (lo : Int), vs = [v, .int lo] ∧ IsW C H v w ∧ Q (.bl (amtB lo w)) H
theorem sc_law_amount : FnScope ["value", "least"] ["value", "least"] (defScope s_law_amount) := ⟨rfl, rfl, rfl, by decide +kernel, rfl, by decide +kernel, by decide +kernel⟩
theorem ok_law_amount (T : Txt K mg a) : FnOk P w K mg base CX0 2 a.a_law_amount a.d_law_amount ["value", "least"] (spLAmt a.C_Frac) := by
  refine T.fn_law_amount.ok sc_law_amount (fun vs H Q E h => ?_) (fun cdv A outer s H vs Q E hr h => ?_)
  · obtain ⟨v, w, lo, rfl, _⟩ := h
    rfl
  · obtain ⟨v, w', lo, rfl, t, k⟩ := h
    refine ⟨_, (pss_cons (ps_if (pt_val (pe_callB (call_isF T) (by rfl) T.no_isinstance (by decide +kernel) (pa_cons (pv 0) (pa_cons (pe_glob (v := .ref a.C_Frac) rfl T.mg_Frac rfl) pa_nil)))) (pss_one (ps_ret (pe_and (pe_chain op_le op_le (pv 1) (pe_fldK K (pv 0)) pe_int) (pe_one (pe_cmpR op_le (pe_fldK K (pv 0)) pe_int (nomark _)))))) pss_nil)
      (pss_one (ps_ret (pe_and (pe_call (ok_law_integer T) (hr.mono (by decide)) (by rfl) T.mg_law_integer T.fn_law_integer.kp T.b_law_integer .nil pass0 (pa_cons (pv 0) pa_nil)) (pe_one (pe_chain op_le op_le (pv 1) (pv 0) pe_int)))))), ?_⟩
    show (_ : TS) _ [some v, some (V.int lo)] H
    walk_at "rd"
    refine ⟨v, kd w', rfl, t.kn, _, rfl, ?_⟩
    cases t with
    | @fr p dx n d h =>
      refine ite2 (fun _ => ⟨p, rfl, _, _, _, h, T.cl_Frac, T.na_Frac_num, _, fF_num _ _, n, rfl, ?_⟩) (fun h => absurd rfl h)
      have k : Q (.bl (decide (lo ≤ n) && (decide (n ≤ 9999) && decide (d ≤ 99)))) H := k
      refine ite2 (fun h1 => ⟨n, rfl, ite2 (fun h2 => ⟨p, rfl, _, _, _, h, T.cl_Frac, T.na_Frac_den, _, fF_den _ _, d, rfl, ?_⟩) (fun h2 => ?_)⟩) (fun h1 => ?_)
      · rw [decide_eq_true h1, decide_eq_true h2] at k; exact k
      · rw [decide_eq_false h2, Bool.false_and, Bool.and_false] at k; exact k
      · rw [decide_eq_false h1, Bool.false_and] at k; exact k
    | int i =>
      refine ite2 (fun h => nomatch h) (fun _ => ⟨_, .int, rfl, .int i, _, rfl, ?_⟩)
      rw [if_pos (by decide)]
      have k : Q (.bl (decide (lo ≤ i) && decide (i ≤ 9999))) H := k
      refine ⟨i, rfl, ite2 (fun h1 => ⟨i, rfl, ?_⟩) (fun h1 => ?_)⟩
      · rw [decide_eq_true h1] at k; exact k
      · rw [decide_eq_false h1] at k; exact k
    | lst h e => exact ite2 (fun h => nomatch h) (fun _ => ⟨_, .lst, rfl, .lst h, _, rfl, by rw [if_neg (by decide)]; exact k⟩)
    | tup h e => exact ite2 (fun h => nomatch h) (fun _ => ⟨_, .tup, rfl, .tup h, _, rfl, by rw [if_neg (by decide)]; exact k⟩)
    | non => exact ite2 (fun h => nomatch h) (fun _ => ⟨_, .non, rfl, .non, _, rfl, by rw [if_neg (by decide)]; exact k⟩)
    | bl x => exact ite2 (fun h => nomatch h) (fun _ => ⟨_, .bl, rfl, .bl x, _, rfl, by rw [if_neg (by decide)]; exact k⟩)
    | str x => exact ite2 (fun h => nomatch h) (fun _ => ⟨_, .str, rfl, .str x, _, rfl, by rw [if_neg (by decide)]; exact k⟩)
/-! ### _law_goals_fit -/
def spLGF (C : Addr) : Sp := fun vs H Q _ => ∃ (v : V) (w : Wv) (n : Int), vs = [v, .int n] ∧ IsW C H v w ∧ Q (.bl (goalsB n w)) H
theorem sc_law_goals_fit : FnScope ["goals", "many", "last", "pair"] ["goals", "many"] (defScope s_law_goals_fit) := ⟨rfl, rfl, rfl, by decide +kernel, rfl, by decide +kernel, by decide +kernel⟩
theorem ok_law_goals_fit (T : Txt K mg a) : FnOk P w K mg base CX0 2 a.a_law_goals_fit a.d_law_goals_fit ["goals", "many"] (spLGF a.C_Frac) := by
  refine T.fn_law_goals_fit.ok sc_law_goals_fit (fun vs H Q E h => ?_) (fun cdv A outer s H vs Q E hr h => ?_)
  · obtain ⟨v, w, n, rfl, _⟩ := h
    rfl
  · obtain ⟨v, w', n, rfl, t, k⟩ := h
    refine ⟨_, (pss_cons (ps_if (PW.pt (pw_or (pt_not (pt_val (pe_call (ok_law_row_of T) (hr.mono (by decide)) (by rfl) T.mg_law_row_of T.fn_law_row_of.kp T.b_law_row_of .nil pass0 (pa_cons (pv 0) pa_nil)))) (pw_or (pt_cmpR op_lt (pe_callB (lenK K) (by rfl) T.no_len PySem.boot_len (pa_cons (pv 0) pa_nil)) pe_int (nomark _)) (pw_or1 (pt_cmpR op_gt (pe_callB (lenK K) (by rfl) T.no_len PySem.boot_len (pa_cons (pv 0) pa_nil)) pe_int (nomark _)))))) (pss_one (ps_ret pe_bl)) pss_nil)
      (pss_cons (ps_set (i := 2) sc_law_goals_fit.nd rfl (Or.inl rfl) (pe_un un_neg pe_int))
      (pss_cons (ps_for PassesOwn.never rfl (pi_told K (pv 0)) (pg_name (i := 3) sc_law_goals_fit.nd rfl (Or.inl rfl))
        (pss_cons (ps_if (PW.pt (pw_or (pt_not (pt_val (pe_call (ok_law_row_of T) (hr.mono (by decide)) (by rfl) T.mg_law_row_of T.fn_law_row_of.kp T.b_law_row_of .nil pass0 (pa_cons (pv 3) pa_nil)))) (pw_or (pt_cmpR op_ne (pe_callB (lenK K) (by rfl) T.no_len PySem.boot_len (pa_cons (pv 3) pa_nil)) pe_int (nomark _)) (pw_or (pt_not (pt_val (pe_call (ok_law_integer T) (hr.mono (by decide)) (by rfl) T.mg_law_integer T.fn_law_integer.kp T.b_law_integer .nil pass0 (pa_cons (pe_ix ixHS (pv 3) pe_int (fun _ _ => rfl)) pa_nil)))) (pw_or1 (pt_not (pt_val (pe_call (ok_law_integer T) (hr.mono (by decide)) (by rfl) T.mg_law_integer T.fn_law_integer.kp T.b_law_integer .nil pass0 (pa_cons (pe_ix ixHS (pv 3) pe_int (fun _ _ => rfl)) pa_nil))))))))) (pss_one (ps_ret pe_bl)) pss_nil)
        (pss_cons (ps_if (PW.pt (pw_or (pt_cmpR op_lt (pe_ix ixHS (pv 3) pe_int (fun _ _ => rfl)) pe_int (nomark _)) (pw_or (pt_cmpR op_gt (pe_ix ixHS (pv 3) pe_int (fun _ _ => rfl)) pe_int (nomark _)) (pw_or (pt_cmpR op_le (pe_ix ixHS (pv 3) pe_int (fun _ _ => rfl)) (pv 2) (nomark _)) (pw_or1 (pt_cmpR op_ge (pe_ix ixHS (pv 3) pe_int (fun _ _ => rfl)) (pv 1) (nomark _))))))) (pss_one (ps_ret pe_bl)) pss_nil)
        (pss_one (ps_set (i := 2) sc_law_goals_fit.nd rfl (Or.inl rfl) (pe_ix ixHS (pv 3) pe_int (fun _ _ => rfl)))))))
      (pss_one (ps_ret pe_bl))))), ?_⟩
    show (_ : TS) _ [some v, some (V.int n), none, none] H
    walk_at "rd"
    refine ⟨v, w', rfl, t, _, rfl, ?_⟩
    unfold goalsB at k
    cases e : elems w' with
    | none =>
      rw [e] at k
      exact ite2 (fun _ => k) (fun h => absurd rfl h)
    | some ws =>
      rw [e] at k
      refine ite2 (fun h => nomatch h) (fun _ => ?_)
      have k : Q (.bl (decide ((1 : Int) ≤ (ws.length : Int)) && decide ((ws.length : Int) ≤ 8) && risB n 0 ws)) H := k
      obtain ⟨p, l, xs, rfl, hp, iw⟩ := isw_elems t e
      have len := iw.len
      refine ⟨p, rfl, xs, seqOr hp, ite2 (fun h1 => ?_) (fun h1 => ⟨p, rfl, xs, seqOr hp, ite2 (fun h8 => ?_) (fun h8 => ?_)⟩)⟩
      · rw [decide_eq_false (show ¬ (1 : Int) ≤ (ws.length : Int) by omega), Bool.false_and, Bool.false_and] at k
        exact k
      · rw [decide_eq_false (show ¬ (ws.length : Int) ≤ 8 by omega), Bool.and_false, Bool.false_and] at k
        exact k
      rw [decide_eq_true (show (1 : Int) ≤ (ws.length : Int) by omega), decide_eq_true (show (ws.length : Int) ≤ 8 by omega), Bool.true_and, Bool.true_and] at k
      refine ⟨p, rfl, l, xs, hp, loop_goes goes_seq (fun σ H' => ∃ o2 o3, σ = [some (V.ref p), some (V.int n), o2, o3] ∧ H' = H ∧ risB n 0 ws = true)
        (fun i σ H' => ∃ (last : Int) (o3 : Option V), σ = [some (V.ref p), some (V.int n), some (V.int last), o3] ∧ H' = H ∧ risB n 0 ws = risB n (last + 1) (ws.drop i)) ⟨-1, none, rfl, rfl, rfl⟩
        (fun i σ H' _ ⟨_, _, _, e, _⟩ => e ▸ hp) ?_ (fun σ H' ⟨last, o3, e1, e2, e4⟩ => ⟨_, _, e1, e2, by rw [e4, List.drop_of_length_le (by omega)]; rfl⟩) ?_⟩
      · rintro bk hbk i x σ H3 H3' hi ⟨last, o3, rfl, rfl, e4⟩ ⟨rfl, hx⟩
        obtain ⟨g, hg, gw⟩ := iw.at hx
        have dr : ws.drop i = g :: ws.drop (i + 1) := by rw [List.drop_eq_getElem_cons (by omega), (List.getElem?_eq_some_iff.mp hg).2]
        rw [dr] at e4
        have e4 : risB n 0 ws = (pairB n (last + 1) g && risB n ((pairD g).2 + 1) (ws.drop (i + 1))) := e4
        have no : pairB n (last + 1) g = false → Q (.bl false) H3' := fun h => by
          rw [e4, h] at k
          exact k
        walk_at "rd"
        refine ⟨x, g, rfl, gw, _, rfl, ?_⟩
        cases eg : elems g with
        | none => exact ite2 (fun _ => no (by unfold pairB; rw [eg])) (fun h => absurd rfl h)
        | some gs =>
          refine ite2 (fun h => nomatch h) (fun _ => ?_)
          obtain ⟨q, l', ys, rfl, hq, gi⟩ := isw_elems gw eg
          have gl := gi.len
          refine ⟨q, rfl, ys, seqOr hq, ?_⟩
          match gs, eg, gi with
          | [], eg, gi => cases gi; exact ite2 (fun _ => no (by unfold pairB; rw [eg])) (fun h => absurd (by simp) h)
          | [_], eg, gi =>
            obtain ⟨u, rfl, _⟩ := iw1 gi
            exact ite2 (fun _ => no (by unfold pairB; rw [eg])) (fun h => absurd (by simp) h)
          | g1 :: g2 :: g3 :: gr, eg, gi =>
            refine ite2 (fun _ => no (by unfold pairB; rw [eg])) (fun h => absurd ?_ h)
            rw [gl, decide_eq_false (by simp only [List.length_cons]; omega)]
            rfl
          | [wx, wy], eg, gi =>
            obtain ⟨ux, uy, rfl, hux, huy⟩ := iw2 gi
            have pb : pairB n (last + 1) g = (inW 1 999 wx && inW (last + 1) (n - 1) wy) := by unfold pairB; rw [eg]
            have pd : (pairD g).2 = intW wy := by unfold pairD; rw [eg]
            refine ite2 (fun h => absurd h (by simp)) (fun _ => ixs hq Rd.at0 ⟨ux, kd wx, rfl, hux.kn, _, rfl, ?_⟩)
            by_cases kx : kd wx = .int
            · rw [decide_eq_true kx, if_neg (by decide)]
              refine ixs hq Rd.at1 ⟨uy, kd wy, rfl, huy.kn, _, rfl, ?_⟩
              by_cases ky : kd wy = .int
              · rw [decide_eq_true ky, if_neg (by decide)]
                obtain ⟨ix, rfl⟩ : ∃ i, wx = .int i := by cases wx <;> first | exact ⟨_, rfl⟩ | cases kx
                obtain ⟨iy, rfl⟩ : ∃ i, wy = .int i := by cases wy <;> first | exact ⟨_, rfl⟩ | cases ky
                cases hux
                cases huy
                have pb : pairB n (last + 1) g = ((decide (1 ≤ ix) && decide (ix ≤ 999)) && (decide (last + 1 ≤ iy) && decide (iy ≤ n - 1))) := pb
                refine ixs hq Rd.at0 ⟨ix, rfl, ite2 (fun h1 => no ?_) (fun h1 => ixs hq Rd.at0 ⟨ix, rfl, ite2 (fun h2 => no ?_) (fun h2 => ixs hq Rd.at1 ⟨iy, rfl, ite2 (fun h3 => no ?_) (fun h3 => ixs hq Rd.at1 ⟨iy, rfl, ite2 (fun h4 => no ?_) (fun h4 => ixs hq Rd.at1 ⟨iy, rfl, rfl, ?_⟩)⟩)⟩)⟩)⟩
                · rw [pb, decide_eq_false (show ¬ 1 ≤ ix by omega)]; rfl
                · rw [pb, decide_eq_false (show ¬ ix ≤ 999 by omega), Bool.and_false]; rfl
                · rw [pb, decide_eq_false (show ¬ last + 1 ≤ iy by omega), Bool.false_and, Bool.and_false]
                · rw [pb, decide_eq_false (show ¬ iy ≤ n - 1 by omega), Bool.and_false, Bool.and_false]
                · rw [e4, pb, decide_eq_true (show 1 ≤ ix by omega), decide_eq_true (show ix ≤ 999 by omega), decide_eq_true (show last + 1 ≤ iy by omega), decide_eq_true (show iy ≤ n - 1 by omega), pd]
                  rfl
              · rw [decide_eq_false ky, if_pos (by decide)]
                refine no ?_
                rw [pb]
                cases wy <;> first | exact absurd rfl ky | exact Bool.and_false _
            · rw [decide_eq_false kx, if_pos (by decide)]
              refine no ?_
              rw [pb]
              cases wx <;> first | exact absurd rfl kx | rfl
      · rintro σ H3 ⟨o2, o3, rfl, rfl, e⟩
        walk_at "rd"
        rw [e] at k
        exact k
/-! ### _law_fits -/
def spFits (C : Addr) : Sp := fun vs H Q _ => ∃ (v : V) (w : Wv) (n : Int), vs = [v, .int n] ∧ IsW C H v w ∧ Q (.bl (fitB n w)) H
theorem sc_law_fits : FnScope ["row", "many"] ["row", "many"] (defScope s_law_fits) := ⟨rfl, rfl, rfl, by decide +kernel, rfl, by decide +kernel, by decide +kernel⟩
theorem ok_law_fits (T : Txt K mg a) : FnOk P w K mg base CX0 3 a.a_law_fits a.d_law_fits ["row", "many"] (spFits a.C_Frac) := by
  refine T.fn_law_fits.ok sc_law_fits (fun vs H Q E h => ?_) (fun cdv A outer s H vs Q E hr h => ?_)
  · obtain ⟨v, w, n, rfl, _⟩ := h
    rfl
  · obtain ⟨v, w', n, rfl, t, k⟩ := h
    refine ⟨_, (pss_cons (ps_if (PW.pt (pw_or (pt_not (pt_val (pe_call (ok_law_row_of T) (hr.mono (by decide)) (by rfl) T.mg_law_row_of T.fn_law_row_of.kp T.b_law_row_of .nil pass0 (pa_cons (pv 0) pa_nil)))) (pw_or (pt_cmpR op_eq (pe_callB (lenK K) (by rfl) T.no_len PySem.boot_len (pa_cons (pv 0) pa_nil)) pe_int (nomark _)) (pw_or1 (pt_not (pt_val (pe_callB (call_isK T .str) (by rfl) T.no_isinstance (by decide +kernel) (pa_cons (pe_ix ixHS (pv 0) pe_int (fun _ _ => rfl)) (pa_cons (pe_bltn (v := .ty "str") (u := .type "str") (by rfl) T.no_str (by decide +kernel) rfl) pa_nil))))))))) (pss_one (ps_ret pe_bl)) pss_nil)
      (pss_cons (ps_if (pt_cmpR op_eq (pe_ix ixHS (pv 0) pe_int (fun _ _ => rfl)) pe_str (nomark _)) (pss_one (ps_ret (pe_cmpR op_eq (pe_callB (lenK K) (by rfl) T.no_len PySem.boot_len (pa_cons (pv 0) pa_nil)) pe_int (nomark _)))) pss_nil)
      (pss_cons (ps_if (pt_cmpR op_eq (pe_ix ixHS (pv 0) pe_int (fun _ _ => rfl)) pe_str (nomark _)) (pss_one (ps_ret (pe_and (pe_cmpR op_eq (pe_callB (lenK K) (by rfl) T.no_len PySem.boot_len (pa_cons (pv 0) pa_nil)) pe_int (nomark _)) (pe_one (pe_call (ok_law_amount T) (hr.mono (by decide)) (by rfl) T.mg_law_amount T.fn_law_amount.kp T.b_law_amount .nil pass0 (pa_cons (pe_ix ixHS (pv 0) pe_int (fun _ _ => rfl)) (pa_cons (pe_un un_neg pe_int) pa_nil))))))) pss_nil)
      (pss_one (ps_ret (pe_and (pe_cmpR op_eq (pe_ix ixHS (pv 0) pe_int (fun _ _ => rfl)) pe_str (nomark _)) (pe_and (pe_cmpR op_eq (pe_callB (lenK K) (by rfl) T.no_len PySem.boot_len (pa_cons (pv 0) pa_nil)) pe_int (nomark _)) (pe_and (pe_call (ok_law_amount T) (hr.mono (by decide)) (by rfl) T.mg_law_amount T.fn_law_amount.kp T.b_law_amount .nil pass0 (pa_cons (pe_ix ixHS (pv 0) pe_int (fun _ _ => rfl)) (pa_cons pe_int pa_nil))) (pe_one (pe_call (ok_law_goals_fit T) (hr.mono (by decide)) (by rfl) T.mg_law_goals_fit T.fn_law_goals_fit.kp T.b_law_goals_fit .nil pass0 (pa_cons (pe_ix ixHS (pv 0) pe_int (fun _ _ => rfl)) (pa_cons (pv 1) pa_nil)))))))))))), ?_⟩
    show (_ : TS) _ [some v, some (V.int n)] H
    walk_at "rd"
    refine ⟨v, w', rfl, t, _, rfl, ?_⟩
    cases e : elems w' with
    | none =>
      have k : Q (.bl false) H := by unfold fitB at k; rw [e] at k; exact k
      exact ite2 (fun _ => k) (fun h => absurd rfl h)
    | some ws =>
      refine ite2 (fun h => nomatch h) (fun _ => ?_)
      obtain ⟨p, l, xs, rfl, hp, iw⟩ := isw_elems t e
      refine ⟨p, rfl, xs, seqOr hp, ?_⟩
      cases iw with
      | nil =>
        refine ite2 (fun _ => ?_) (fun h => absurd rfl h)
        have k : Q (.bl false) H := by unfold fitB at k; rw [e] at k; exact k
        exact k
      | @cons u k0 us wr hu hus =>
        have ul := hus.len
        refine ite2 (fun h => absurd h (by simp only [List.length_cons]; omega)) (fun _ => ixs hp Rd.at0 ⟨u, kd k0, rfl, hu.kn, fun _ => by decide, _, rfl, ?_⟩)
        by_cases hs : ∃ s, k0 = .str s
        · obtain ⟨s, rfl⟩ := hs
          cases hu
          refine ite2 (fun h => nomatch h) (fun _ => ixs hp Rd.at0 ⟨rfl, ?_⟩)
          rw [fit_cases e] at k
          refine ite2 (fun h => ?_) (fun h => ixs hp Rd.at0 ⟨rfl, ite2 (fun h2 => ?_) (fun h2 => ixs hp Rd.at0 ⟨rfl, ite2 (fun h3 => ?_) (fun h3 => ?_)⟩)⟩)
          · have h : s = "void" := V.str.inj h
            rw [if_pos h] at k
            refine ⟨p, rfl, _, seqOr hp, ?_⟩
            rw [show decide ((((V.str s :: us).length : Nat) : Int) = 1) = decide (wr.length = 0) from decide_eq_decide.mpr (by simp only [List.length_cons]; omega)]
            exact k
          · rw [if_neg (fun z => h (by rw [z])), if_pos (V.str.inj h2)] at k
            have k : Q (.bl (endB wr)) H := k
            refine ⟨p, rfl, _, seqOr hp, ?_⟩
            match wr, hus, k with
            | [x], hus, k =>
              obtain ⟨ux, rfl, hux⟩ := iw1 hus
              refine ite2 (fun _ => ixs hp Rd.at1 ⟨ux, x, _, rfl, hux, k⟩) (fun h => absurd rfl h)
            | [], hus, k => cases hus; exact ite2 (fun h => absurd h (by simp)) (fun _ => k)
            | _ :: _ :: _, hus, k => exact ite2 (fun h => absurd h (by have := hus.len; simp only [List.length_cons] at *; omega)) (fun _ => k)
          · rw [if_neg (fun z => h (by rw [z])), if_neg (fun z => h2 (by rw [z])), if_pos (V.str.inj h3)] at k
            have k : Q (.bl (stepB n wr)) H := k
            refine ⟨p, rfl, _, seqOr hp, ?_⟩
            match wr, hus, k with
            | [x, g], hus, k =>
              obtain ⟨ux, ug, rfl, hux, hug⟩ := iw2 hus
              refine ite2 (fun _ => ixs hp Rd.at1 ⟨ux, x, _, rfl, hux, _, rfl, ?_⟩) (fun h => absurd rfl h)
              have k : Q (.bl (amtB 0 x && goalsB n g)) H := k
              cases za : amtB 0 x with
              | false => rw [za] at k; rw [if_neg (by decide)]; exact k
              | true => rw [za] at k; rw [if_pos rfl]; exact ixs hp Rd.at2 ⟨ug, g, n, rfl, hug, k⟩
            | [], hus, k => cases hus; exact ite2 (fun h => absurd h (by simp)) (fun _ => k)
            | [_], hus, k => exact ite2 (fun h => absurd h (by have := hus.len; simp only [List.length_cons, List.length_nil] at *; omega)) (fun _ => k)
            | _ :: _ :: _ :: _, hus, k => exact ite2 (fun h => absurd h (by have := hus.len; simp only [List.length_cons] at *; omega)) (fun _ => k)
          · rw [if_neg (fun z => h (by rw [z])), if_neg (fun z => h2 (by rw [z])), if_neg (fun z => h3 (by rw [z]))] at k
            exact k
        · have nk : kd k0 ≠ .str := fun z => by
            cases k0 with
            | str s => exact hs ⟨s, rfl⟩
            | _ => cases z
          have z : isK (kd k0) .str = false := decide_eq_false nk
          rw [z, if_pos (by decide)]
          rw [fit_nostr e fun s z => hs ⟨s, z⟩] at k
          exact k
end

end K05
namespace K05
open PySem PySem.Spec PyProof.Rows L2 Own OwnSeq OwnSet OwnComb OwnSort OwnHot OwnExN OwnProj
local macro_rules | `(tactic| walk_at "rd") => `(tactic| simp only [tSeq, tAsg, tOp, tUn, tVar, gName, gSub, rIxL, rIxT, rSetL, tC, rI0, rI, rU, rEq, rNe, tCons, tNil, tCB, tLst, tTup, tIfS, tAnd, tOr, tNot, tAndV, tOrV, tNotV, tTest, tB, tIf, tRet, tDrop, tNext, tBreak, tCont, tCall, tCallS, L2.WE, tMakeS, rIsS, rIsB, tChain, gSeq, gRest, gCons, gNil, tFor_seq, tFor_enumS, tLc_seq, tLc_enumS, rAny, rAll, L2.tMeth, StX.tStar, rIn, tLstRg, tRg1, tRg2, rSetI, rSortedSet, rInDT, rInD, rNotInD, rEqD, rNeD, iComb, tFld, tMake, tMkO, sFld, tOst, tNever, tBits, clv, isB,
  Rd.tFor_rng1, Rd.tFor_rng2, Rd.tFor_list, Rd.tFor_tup, Rd.tLc_list, Rd.tLc_tup, Rd.tLc_rng1, Rd.LcTurn, tYes, wipe, Rd.rLenL, Rd.rLenT, Rd.rIntI, Rd.rIxH, rIxHT,  HO.tup.injEq, Rd.at0, Rd.at1, Rd.at2, Rd.at3, Rd.ixN40, Rd.ixN41, Rd.ixN42, Rd.ixN43, Rd.scal_ii, cxOf,
  List.length_cons, List.length_nil, List.length_map, List.map_cons, List.map_nil, upd_same, decide_eq_true_eq, decide_true, decide_false, if_true, if_false, Bool.false_eq_true, Bool.not_true, Bool.not_false, HO.lst.injEq, HO.ins.injEq, List.set_cons_zero, List.set_cons_succ, List.getElem?_cons_zero, List.getElem?_cons_succ, List.append_nil, List.nil_append, List.cons_append, Option.some.injEq, V.ref.injEq, V.int.injEq, V.bl.injEq, List.cons.injEq, exists_eq_left', exists_and_left, exists_eq_left, true_and, and_true, and_self, and_assoc, implies_true, reduceCtorEq, Nat.reduceAdd])

theorem fit_head {n : Int} {w : Wv} (f : fitB n w = true) : ∃ s wr, elems w = some (.str s :: wr) ∧ (!decide (V.str s = V.str "step")) = ends (rowD w) ∧ s = kindOf (rowD w) := by
  unfold fitB at f
  unfold rowD
  cases e : elems w with
  | none => rw [e] at f; cases f
  | some us =>
    rw [e] at f
    match us, f with
    | [], f => cases f
    | _ :: _ :: _ :: _ :: _, f => cases f
    | [k], f =>
      cases k with
      | str s =>
        have f : s = "void" := of_decide_eq_true f
        subst f
        exact ⟨_, _, rfl, (by decide +kernel : (!decide (V.str "void" = V.str "step")) = true), rfl⟩
      | _ => cases f
    | [k, x], f =>
      have f := (Bool.and_eq_true_iff.mp (show (isS "end" k && amtB (-9999) x) = true from f)).1
      cases k with
      | str s =>
        have f : s = "end" := of_decide_eq_true f
        subst f
        exact ⟨_, _, rfl, (by decide +kernel : (!decide (V.str "end" = V.str "step")) = true), rfl⟩
      | _ => cases f
    | [k, x, g], f =>
      have f := (Bool.and_eq_true_iff.mp (show (isS "step" k && (amtB 0 x && goalsB n g)) = true from f)).1
      cases k with
      | str s =>
        have f : s = "step" := of_decide_eq_true f
        subst f
        exact ⟨_, _, rfl, (by decide +kernel : (!decide (V.str "step" = V.str "step")) = false), rfl⟩
      | _ => cases f
theorem fit_step {n : Int} {w : Wv} (f : fitB n w = true) (h : ends (rowD w) = false) : ∃ x g gs, elems w = some [.str "step", x, g] ∧ elems g = some gs ∧ gs.length ≤ 8 ∧ risB n 0 gs = true ∧ rowD w = .step (numP x).1 (numP x).2 (gs.map pairD) := by
  unfold fitB at f
  unfold rowD at h ⊢
  cases e : elems w with
  | none => rw [e] at f; cases f
  | some us =>
    rw [e] at f h
    match us, f, h with
    | [], f, _ => cases f
    | _ :: _ :: _ :: _ :: _, f, _ => cases f
    | [k], _, h => cases h
    | [k, x], _, h => cases h
    | [k, x, g], f, _ =>
      have f := Bool.and_eq_true_iff.mp (show (isS "step" k && (amtB 0 x && goalsB n g)) = true from f)
      obtain ⟨gs, eg, _, g8, rs⟩ := goals_of (Bool.and_eq_true_iff.mp f.2).2
      cases k with
      | str s =>
        have f : s = "step" := of_decide_eq_true f.1
        subst f
        exact ⟨x, g, gs, rfl, eg, g8, rs, by show RowD.step _ _ (((elems g).getD []).map pairD) = _; rw [eg]; rfl⟩
      | _ => cases f.1
section
variable {P : Program} {w : World} {K : PySem.W.Frag} {mg : Str → Option Value} {base : Heap} {a : Ad}
/-! ### _law_endless -/
def spLEnd (C : Addr) : Sp := fun vs H Q _ => ∃ (p : Addr) (l : Bool) (xs : List V) (ws : List Wv), vs = [.ref p] ∧ H p = some (sq l xs) ∧ IsWs C H xs ws ∧ ws.length ≤ 8 ∧ (∀ w ∈ ws, fitB ws.length w = true) ∧ ∀ H', Same H H' → Q (.bl (firstOpen (after (ws.map rowD) ws.length)).isSome) H'
theorem sc_law_endless : FnScope ["rows", "ready", "k", "state", "pair", "row"] ["rows"] (defScope s_law_endless) := ⟨rfl, rfl, rfl, by decide +kernel, rfl, by decide +kernel, by decide +kernel⟩
theorem ok_law_endless (T : Txt K mg a) : FnOk P w K mg base CX0 1 a.a_law_endless a.d_law_endless ["rows"] (spLEnd a.C_Frac) := by
  refine T.fn_law_endless.ok sc_law_endless (fun vs H Q E h => ?_) (fun cdv A outer s H vs Q E hr h => ?_)
  · obtain ⟨p, l, xs, ws, rfl, _⟩ := h
    rfl
  · obtain ⟨p, l, xs, ws, rfl, hp, iw, r8, fit, k⟩ := h
    refine ⟨_, (pss_cons (ps_setLc (i := 1) (own := [("row", 5)]) (by rfl) sc_law_endless.nd rfl rfl (sw_true rfl rfl rfl (by decide +kernel)) (pi_told K (pv 0)) (blkOk_by (own := [("row", 5)]) (N := ["rows", "ready", "k", "state", "pair", "row"]) (sc := defScope s_law_endless) (by decide +kernel)) (fun _ _ _ _ _ => pg_name (i := 5) sc_law_endless.nd rfl (Or.inl rfl)) (fun _ _ _ _ _ => pts_nil) (fun _ _ _ _ _ => (pe_cmpR op_ne (pe_ix ixHS (pv 5) pe_int (fun _ _ => rfl)) pe_str (nomark _))))
      (pss_cons (ps_for PassesOwn.never rfl (pi_range1 (by rfl) T.no_range (pa_cons (pe_callB (lenK K) (by rfl) T.no_len PySem.boot_len (pa_cons (pv 0) pa_nil)) pa_nil)) (pg_name (i := 2) sc_law_endless.nd rfl (Or.inl rfl))
        (pss_one (ps_for PassesOwn.never rfl (pi_range1 (by rfl) T.no_range (pa_cons (pe_callB (lenK K) (by rfl) T.no_len PySem.boot_len (pa_cons (pv 0) pa_nil)) pa_nil)) (pg_name (i := 3) sc_law_endless.nd rfl (Or.inl rfl))
          (pss_one (ps_if (pt_not (pt_val (pe_ix Rd.ixH (pv 1) (pv 3) (fun _ _ => rfl)))) (pss_one (ps_for PassesOwn.never rfl (pi_told K (pe_ix ixHS (pe_ix ixHS (pv 0) (pv 3) (fun _ _ => rfl)) pe_int (fun _ _ => rfl))) (pg_name (i := 4) sc_law_endless.nd rfl (Or.inl rfl))
              (pss_one (ps_if (pt_val (pe_ix Rd.ixH (pv 1) (pe_ix ixHS (pv 4) pe_int (fun _ _ => rfl)) (fun _ _ => rfl))) (pss_one (ps_asg pe_bl (pg_sub (pv 1) (pv 3) set_list))) pss_nil)))) pss_nil)))))
      (pss_one (ps_ret (pe_cmpR (op_inK K) pe_bl (pv 1) (by with_unfolding_all rfl)))))), ?_⟩
    show (_ : TS) _ [some (V.ref p), none, none, none, none, none] H
    have xlen := iw.len
    obtain ⟨rs, hrs⟩ : ∃ rs, rs = ws.map rowD := ⟨_, rfl⟩
    have rlen : rs.length = ws.length := by rw [hrs, List.length_map]
    have len : xs.length = rs.length := by omega
    have rat : ∀ {i : Nat} {w : Wv}, ws[i]? = some w → rs[i]? = some (rowD w) := fun h => by rw [hrs, List.getElem?_map, h]; rfl
    rw [← hrs, ← rlen] at k
    refine cut (fun σ H' => ∃ c, σ = [some (V.ref p), some (V.ref c), none, none, none, none] ∧ H c = none ∧ Same H H' ∧ H' c = some (.lst ((after rs 0).map V.bl))) (fun R hR => ?_) (fun σ H' h => ?_)
    · walk_at "rd"
      refine ⟨l, xs, hp, lcl_goes goes_seq (fun D i H5 => H D = none ∧ Same H H5 ∧ H5 D = some (.lst (((rs.take i).map ends).map V.bl))) (fun D hD => ⟨hD, same_upd hD, upd_same⟩)
        (fun D i H5 _ h => h.2.1 _ _ hp) (fun D i x H5 H5' hi ⟨n5, e5, a5⟩ ⟨eq5, hx⟩ => ?_) (fun D H5 nD ⟨n5, e5, a5⟩ => hR _ _ ⟨D, rfl, nD, e5, by rw [len, List.take_length] at a5; exact a5⟩)⟩
      subst eq5
      obtain ⟨w', hw, xw⟩ := (iw.same e5).at hx
      obtain ⟨s, wr, ew, hws, _⟩ := fit_head (fit w' (List.mem_of_getElem? hw))
      obtain ⟨q, l', ys, rfl, hq, yw⟩ := isw_elems xw ew
      cases yw with
      | @cons u _ us _ hu hus =>
        cases hu
        walk_at "rd"
        refine ixs hq Rd.at0 ⟨rfl, ?_⟩
        rw [hws]
        refine ⟨_, a5, small1000 (by rw [List.length_map, List.length_map, List.length_take]; omega), n5, fun b o hb => (upd_ne (ne_of_none hb n5)).trans (e5 _ _ hb), ?_⟩
        rw [List.take_add_one, rat hw, List.map_append, List.map_append]
        rfl
    obtain ⟨c, rfl, c0, e1, a1⟩ := h
    refine cut (fun σ H' => ∃ o2 o3 o4 o5, σ = [some (V.ref p), some (V.ref c), o2, o3, o4, o5] ∧ Same H H' ∧ H' c = some (.lst ((after rs rs.length).map V.bl))) (fun R hR => ?_) (fun σ H' h => ?_)
    · walk_at "rd"
      refine ⟨xs, seqOr (e1 _ _ hp), by omega, by omega, ?_⟩
      rw [Int.toNat_natCast, len]
      refine Rd.loop_rngC (fun σ H' => ∃ o2 o3 o4 o5 bs, σ = [some (V.ref p), some (V.ref c), o2, o3, o4, o5] ∧ Same H H' ∧ H' c = some (.lst (bs.map V.bl)) ∧ Mk rs rs.length bs)
        (fun i σ H' => ∃ o2 o3 o4 o5 bs, σ = [some (V.ref p), some (V.ref c), o2, o3, o4, o5] ∧ Same H H' ∧ H' c = some (.lst (bs.map V.bl)) ∧ Mk rs i bs)
        ⟨none, none, none, none, _, rfl, e1, a1, ⟨after_len 0, fun _ h => h, after_sound 0⟩⟩ ?_ (fun _ _ z => z) ?_
      · rintro bk hbk i σ H2 hi ⟨o2, o3, o4, o5, bs, rfl, e2, a2, mk⟩
        walk_at "rd"
        refine ⟨xs, seqOr (e2 _ _ hp), by omega, by omega, ?_⟩
        rw [Int.toNat_natCast, len]
        refine Rd.loop_rngC (fun σ H' => ∃ o2 o3 o4 o5 bs, σ = [some (V.ref p), some (V.ref c), o2, o3, o4, o5] ∧ Same H H' ∧ H' c = some (.lst (bs.map V.bl)) ∧ Mk rs (i + 1) bs)
          (fun t σ H' => ∃ o2 o3 o4 o5 bs, σ = [some (V.ref p), some (V.ref c), o2, o3, o4, o5] ∧ Same H H' ∧ H' c = some (.lst (bs.map V.bl)) ∧ Mk2 rs i t bs)
          ⟨_, _, _, _, bs, rfl, e2, a2, mk, fun j h => absurd h (Nat.not_lt_zero j)⟩ ?_ (fun σ H' ⟨o2, o3, o4, o5, bs, q, e, a, m⟩ => ⟨o2, o3, o4, o5, bs, q, e, a, m.turn⟩) ?_
        · rintro bk2 hbk2 t σ H3 ht ⟨o2, o3, o4, o5, bs, rfl, e3, a3, m2⟩
          have ix := bool_at (bs := bs) (j := t) (by rw [m2.base.len]; exact ht)
          walk_at "rd"
          rw [Int.zero_add]
          refine ⟨_, a3, _, ix, _, rfl, ?_⟩
          cases hb : bs.getD t false with
          | true =>
            refine ite2 (fun h => nomatch h) (fun _ => ?_)
            exact ⟨e3, bs, a3, m2.base, fun j hj h => by
              rcases Nat.lt_or_ge j t with a | a
              · exact m2.upto j a h
              · rw [show j = t by omega]; exact hb⟩
          | false =>
            refine ite2 (fun _ => ?_) (fun h => absurd rfl h)
            obtain ⟨v, hv⟩ : ∃ v, xs[t]? = some v := ⟨_, List.getElem?_eq_getElem (by omega)⟩
            obtain ⟨w', hw, xw⟩ := iw.at hv
            have hr1 := rat hw
            have ne : ends (rowD w') = false := by
              cases z : ends (rowD w') with
              | false => rfl
              | true => rw [m2.base.le t (after_ends hr1 z i)] at hb; cases hb
            obtain ⟨x, g, gs, ew, eg, g8, rsg, erd⟩ := fit_step (fit w' (List.mem_of_getElem? hw)) ne
            rw [erd] at hr1
            obtain ⟨q, l', ys, rfl, hq, yw⟩ := isw_elems xw ew
            obtain ⟨u1, u2, u3, rfl, _, _, hu3⟩ := iw3 yw
            obtain ⟨gq, gl, gx, rfl, hgq, giw⟩ := isw_elems hu3 eg
            have gat := ris_at rsg
            refine ixs (e3 _ _ hp) (atI_nat hv) (ixs (e3 _ _ hq) Rd.at2 ⟨gq, rfl, gl, gx, e3 _ _ hgq, loop_goes goes_seq
              (fun σ H' => ∃ o2 o4 o5 bs, σ = [some (V.ref p), some (V.ref c), o2, some (V.int (t : Nat)), o4, o5] ∧ Same H H' ∧ H' c = some (.lst (bs.map V.bl)) ∧ Mk2 rs i (t + 1) bs)
              (fun u σ H' => ∃ o2 o4 o5 bs, σ = [some (V.ref p), some (V.ref c), o2, some (V.int (t : Nat)), o4, o5] ∧ Same H H' ∧ H' c = some (.lst (bs.map V.bl)) ∧ Mk2 rs i t bs ∧ ∀ g ∈ (gs.map pairD).take u, (after rs i).getD g.2.toNat false = true → bs.getD t false = true)
              ⟨_, _, _, bs, rfl, e3, a3, m2, fun g hg => by rw [List.take_zero] at hg; cases hg⟩ (fun u σ H' _ ⟨_, _, _, _, _, e, _⟩ => e _ _ hgq) ?_ ?_ ?_⟩)
            · rintro bk3 hbk3 u y σ H4 H4' hu ⟨o2, o4, o5, bs, rfl, e4, a4, m4, al⟩ ⟨rfl, hy⟩
              obtain ⟨g', hg', gw'⟩ := giw.at hy
              obtain ⟨ia, ib, eg', pd, ib0, ibn⟩ := gat g' (List.mem_of_getElem? hg')
              obtain ⟨q', l2, zs, rfl, hq', ziw⟩ := isw_elems gw' eg'
              obtain ⟨y1, y2, rfl, hy1, hy2⟩ := iw2 ziw
              cases hy1
              cases hy2
              have hq4 := e4 _ _ hq'
              have hgg : (gs.map pairD)[u]? = some (ia, ib) := by rw [List.getElem?_map, hg', ← pd]; rfl
              have ix4 : atI (bs.map V.bl) ib = some (V.bl (bs.getD ib.toNat false)) := by
                have z := bool_at (bs := bs) (j := ib.toNat) (by rw [m4.base.len]; omega)
                rwa [show ((ib.toNat : Nat) : Int) = ib by omega] at z
              walk_at "rd"
              refine ixs hq4 Rd.at1 ⟨_, ib, rfl, a4, _, ix4, _, rfl, ?_⟩
              have grow : ∀ {bs' : List Bool}, (∀ g ∈ (gs.map pairD).take u, (after rs i).getD g.2.toNat false = true → bs'.getD t false = true) → ((after rs i).getD ib.toNat false = true → bs'.getD t false = true) → ∀ g ∈ (gs.map pairD).take (u + 1), (after rs i).getD g.2.toNat false = true → bs'.getD t false = true := fun a b g hg h => by
                rw [List.take_add_one, hgg] at hg
                rcases List.mem_append.mp hg with z | z
                · exact a g z h
                · rw [List.mem_singleton.mp z] at h
                  exact b h
              cases hb4 : bs.getD ib.toNat false with
              | true =>
                refine ite2 (fun _ => ?_) (fun h => absurd rfl h)
                have tl : t < bs.length := by rw [m4.base.len]; exact ht
                have st : (bs.set t true).getD t false = true := set_at tl
                refine ⟨_, a4, t, ixN_of (by rw [List.length_map]; exact tl), fun b o hq => (upd_ne (ne_of_none hq c0)).trans (e4 _ _ hq), bs.set t true, by rw [List.map_set], m4.set tl (.step hr1 (show (ia, ib) ∈ gs.map pairD from List.mem_of_getElem? hgg) (m4.base.sound _ hb4)), grow (fun _ _ _ => st) (fun _ => st)⟩
              | false =>
                refine ite2 (fun h => nomatch h) (fun _ => ?_)
                exact ⟨e4, bs, a4, m4, grow al (fun h => by rw [m4.base.le _ h] at hb4; cases hb4)⟩
            · rintro σ H4 ⟨o2, o4, o5, bs, q1, q2, q3, m4, al⟩
              refine ⟨o2, o4, o5, bs, q1, q2, q3, m4.base, fun j hj h => ?_⟩
              rcases Nat.lt_or_ge j t with a | a
              · exact m4.upto j a h
              · obtain rfl : j = t := by omega
                rw [List.getD_eq_getElem?_getD, turn_at hr1] at h
                have h : ((after rs i).getD j false || hit (after rs i) (gs.map pairD)) = true := h
                rcases Bool.or_eq_true_iff.mp h with z | z
                · exact m4.base.le j z
                · obtain ⟨gg, hgg, hz⟩ := List.any_eq_true.mp z
                  exact al gg (by rw [giw.len, List.take_of_length_le (by rw [List.length_map]; exact Nat.le_refl _)]; exact hgg) hz
            · rintro σ H4 ⟨o2, o4, o5, bs, rfl, e4, a4, m4⟩
              exact ⟨_, _, _, _, rfl, e4, bs, a4, m4⟩
        · rintro σ H3 ⟨o2, o3, o4, o5, bs, rfl, e3, a3, m⟩
          exact ⟨_, _, _, _, rfl, e3, bs, a3, m⟩
      · rintro σ H2 ⟨o2, o3, o4, o5, bs, rfl, e2, a2, mk⟩
        rw [mk.done] at a2
        exact hR _ _ ⟨o2, o3, o4, o5, rfl, e2, a2⟩
    obtain ⟨o2, o3, o4, o5, rfl, e2, a2⟩ := h
    walk_at "rd"
    refine ⟨_, .inl (SqL.of a2), rfl, List.all_eq_true.mpr fun x hx => ?_, ?_⟩
    · obtain ⟨b, _, rfl⟩ := List.mem_map.mp hx
      rfl
    · have z := k _ e2
      have : inV (.bl false) ((after rs rs.length).map V.bl) = (firstOpen (after rs rs.length)).isSome := by
        unfold inV firstOpen
        rw [List.any_map, List.findIdx?_isSome]
        congr 1
        funext b
        cases b <;> rfl
      rw [this]
      exact z
end

end K05
namespace K05
open PySem PySem.Spec PyProof.Rows L2 Own OwnSeq OwnSet OwnComb OwnSort OwnHot OwnExN OwnProj
local macro_rules | `(tactic| walk_at "rd") => `(tactic| simp only [tSeq, tAsg, tOp, tUn, tVar, gName, gSub, rIxL, rIxT, rSetL, tC, rI0, rI, rU, rEq, rNe, tCons, tNil, tCB, tLst, tTup, tIfS, tAnd, tOr, tNot, tAndV, tOrV, tNotV, tTest, tB, tIf, tRet, tDrop, tNext, tBreak, tCont, tCall, tCallS, L2.WE, tMakeS, rIsS, rIsB, tChain, gSeq, gRest, gCons, gNil, tFor_seq, tFor_enumS, tLc_seq, tLc_enumS, rAny, rAll, L2.tMeth, StX.tStar, rIn, tLstRg, tRg1, tRg2, rSetI, rSortedSet, rInDT, rInD, rNotInD, rEqD, rNeD, iComb, tFld, tMake, tMkO, sFld, tOst, tNever, tBits, clv, isB,
  Rd.tFor_rng1, Rd.tFor_rng2, Rd.tFor_list, Rd.tFor_tup, Rd.tLc_list, Rd.tLc_tup, Rd.tLc_rng1, Rd.LcTurn, tYes, wipe, Rd.rLenL, Rd.rLenT, Rd.rIntI, Rd.rIxH, rIxHT,  HO.tup.injEq, Rd.at0, Rd.at1, Rd.at2, Rd.at3, Rd.ixN40, Rd.ixN41, Rd.ixN42, Rd.ixN43, Rd.scal_ii, cxOf,
  List.length_cons, List.length_nil, List.length_map, List.map_cons, List.map_nil, upd_same, decide_eq_true_eq, decide_true, decide_false, if_true, if_false, Bool.false_eq_true, Bool.not_true, Bool.not_false, HO.lst.injEq, HO.ins.injEq, List.set_cons_zero, List.set_cons_succ, List.getElem?_cons_zero, List.getElem?_cons_succ, List.append_nil, List.nil_append, List.cons_append, Option.some.injEq, V.ref.injEq, V.int.injEq, V.bl.injEq, List.cons.injEq, exists_eq_left', exists_and_left, exists_eq_left, true_and, and_true, and_self, and_assoc, implies_true, reduceCtorEq, Nat.reduceAdd])

theorem TupV.upi {PC : Addr} {H : Hp} {x dx : Addr} {o : HO} (h : H x = some (.ins PC dx [])) : ∀ {vs : List V} {gs : List (Int × Int)}, TupV H vs gs → TupV (L2.upd H x o) vs gs
  | [], [], _ => trivial
  | _ :: _, _ :: _, ⟨⟨q, a, b⟩, r⟩ => ⟨⟨q, a, by rw [upd_ne (fun z => by rw [z, h] at b; cases b)]; exact b⟩, TupV.upi h r⟩
  | [], _ :: _, h => h.elim
  | _ :: _, [], h => h.elim
theorem CleanV.upi {C PC : Addr} {H : Hp} {x dx : Addr} {o : HO} (h : H x = some (.ins PC dx [])) {v : V} {r : RowD} (c : CleanV C H v r) : CleanV C (L2.upd H x o) v r := by
  have ne : ∀ {q : Addr} {u : HO}, H q = some u → u ≠ .ins PC dx [] → (L2.upd H x o) q = some u := fun {q u} hq n => by
    rw [upd_ne (fun z => n (by rw [z, h] at hq; exact (Option.some.inj hq).symm))]
    exact hq
  have nf : ∀ {d' : Addr} {n d : Int}, HO.ins C d' (fF n d) ≠ .ins PC dx [] := fun {d' n d} e => by
    have z := (HO.ins.inj e).2.2
    have y := fF_den n d
    rw [z] at y
    cases y
  obtain ⟨p, rfl, c⟩ := c
  cases r with
  | void => exact ⟨p, rfl, ne c (fun z => nomatch z)⟩
  | fin n d => exact let ⟨q, dx, a, b⟩ := c; ⟨p, rfl, q, dx, ne a (fun z => nomatch z), ne b nf⟩
  | step n d gs => exact let ⟨q, dx, t, ys, a, b, e, z⟩ := c; ⟨p, rfl, q, dx, t, ys, ne a (fun z => nomatch z), ne b nf, ne e (fun z => nomatch z), z.upi h⟩
theorem CleansV.upi {C PC : Addr} {H : Hp} {x dx : Addr} {o : HO} (h : H x = some (.ins PC dx [])) : ∀ {vs : List V} {rs : List RowD}, CleansV C H vs rs → CleansV C (L2.upd H x o) vs rs
  | [], [], _ => trivial
  | _ :: _, _ :: _, ⟨a, r⟩ => ⟨a.upi h, CleansV.upi h r⟩
  | [], _ :: _, h => h.elim
  | _ :: _, [], h => h.elim
def kds (rs : List RowD) : List PyData := rs.map fun r => .str (kindOf r)
theorem kds_dp {K : PySem.W.Frag} {H : Hp} : ∀ rs : List RowD, DpAll K H (rs.map fun r => V.str (kindOf r)) (kds rs)
  | [] => .nil
  | _ :: rs => .cons (.str _) (kds_dp rs)
theorem kds_canLay : ∀ rs : List RowD, PyData.canLayAll0 (kds rs) = true
  | [] => by simp [kds, PyData.canLayAll0]
  | r :: rs => by
    have := kds_canLay rs
    simp [kds, PyData.canLayAll0, PyData.canLay0] at this ⊢
    exact ⟨match r with | .void => (by decide +kernel : PyData.strOk "void" = true) | .fin _ _ => (by decide +kernel : PyData.strOk "end" = true) | .step _ _ _ => (by decide +kernel : PyData.strOk "step" = true), this⟩
theorem kds_depth : ∀ rs : List RowD, PyData.depthAll (kds rs) ≤ 1
  | [] => by simp [kds, PyData.depthAll]
  | r :: rs => by
    have := kds_depth rs
    simp [kds, PyData.depthAll, PyData.depth] at this ⊢
    exact this
theorem kds_shaped (rs : List RowD) : SeqAt.shaped (.list (kds rs)) = true := by
  have := kds_depth rs
  unfold SeqAt.shaped
  rw [show (PyData.list (kds rs)).canLay0 = PyData.canLayAll0 (kds rs) by simp [PyData.canLay0], kds_canLay]
  simp [PyData.depth]
  omega
theorem pf_kind (t : Addr) : (pf t).lookup ("kind" : Str) = none := by
  unfold pf
  rw [lookup_putF, if_neg (by decide +kernel)]
  rfl
def DueOk (w : Wv) (due : Str) (plc : V) : Prop := (rowB 1 8 w = false → due = "refused" ∧ plc = .non) ∧ ∀ ws, elems w = some ws → 1 ≤ ws.length → ws.length ≤ 8 →
  (∀ (i : Nat) x, ws[i]? = some x → fitB ws.length x = false → (∀ u ∈ ws.take i, fitB ws.length u = true) → due = "refused" ∧ plc = .int (i : Nat)) ∧
  ((∀ x ∈ ws, fitB ws.length x = true) → (firstOpen (after (ws.map rowD) ws.length) = none → due = "made") ∧ ∀ k, firstOpen (after (ws.map rowD) ws.length) = some k → due = "endless")
section
variable {P : Program} {w : World} {K : PySem.W.Frag} {mg : Str → Option Value} {base : Heap} {a : Ad}
/-! ### _law_made -/
def spMade (C : Addr) : Sp := fun vs H Q _ => ∃ (v : V) (w : Wv) (due : Str) (plc : V), vs = [v, .str due, plc] ∧ IsW C H v w ∧ RowsOk w ∧ DueOk w due plc ∧ ∀ H', Same H H' → Q (.bl true) H'
theorem sc_law_made : FnScope ["value", "due", "place", "project", "e", "state", "row"] ["value", "due", "place"] (defScope s_law_made) := ⟨rfl, rfl, rfl, by decide +kernel, rfl, by decide +kernel, by decide +kernel⟩
theorem ok_law_made (T : Txt K mg a) : FnOk P w K mg base CX0 14 a.a_law_made a.d_law_made ["value", "due", "place"] (spMade a.C_Frac) := by
  refine T.fn_law_made.ok sc_law_made (fun vs H Q E h => ?_) (fun cdv A outer s H vs Q E hr h => ?_)
  · obtain ⟨v, w, due, plc, rfl, _⟩ := h
    rfl
  · obtain ⟨v, w', due, plc, rfl, hv, ro, dk, k⟩ := h
    refine ⟨_, (pss_cons (OwnProj.ps_try_hds rfl rfl takesN0
        (fun W pn xe tk _ => (pss_one (ps_set (i := 3) sc_law_made.nd rfl (Or.inr rfl) (pe_makeS T.mk_Project (ok_Project_init T) (hr.mono (by decide)) (by rfl) T.mg_Project T.b_Project_init .nil (fun σ => L2N.passAt tk σ) (pa_cons (pv 0) pa_nil)))))
        (OwnProj.Hds.named (i := 4) sc_law_made.nd rfl rfl ⟨rfl, by decide, .inl T.mg_InvalidProject⟩ (fun ea oe cls d pn hz hf => (pss_cons (ps_if (PW.pt (pw_or (pt_val (pe_callB (OwnIsE.call_isED T.xf_InvalidProject T.cg_InvalidProject T.cget T.ctk T.mr_InvalidProject hz.zc hf) (by rfl) T.no_isinstance (by decide +kernel) (pa_cons (pv 4) (pa_cons (pe_glob (v := .ref a.C_Endless) rfl T.mg_Endless rfl) pa_nil)))) (pw_or1 (pt_cmpR op_ne (pv 1) pe_str (nomark _))))) (pss_one (ps_ret pe_bl)) pss_nil)
          (pss_cons (ps_if (pt_cmpR op_isN (pv 2) pe_non (nomark _)) (pss_one (ps_ret (pe_cmpR op_isN (pe_xf T.xf_InvalidProject T.na_InvalidProject_state hz.zc hf (pv 4)) pe_non (nomark _)))) pss_nil)
          (pss_one (ps_ret (pe_and (L2H.pe_callH (okH_law_integer T) ((roomM hr).mono (by decide)) ⟨(ea, oe), hotN hz hf, List.mem_cons_self⟩ (by rfl) T.mg_law_integer T.fn_law_integer.kp T.b_law_integer (fun _ => passAt0) (pa_cons (pe_xf T.xf_InvalidProject T.na_InvalidProject_state hz.zc hf (pv 4)) pa_nil)) (pe_one (pe_cmpR op_eq (pe_xf T.xf_InvalidProject T.na_InvalidProject_state hz.zc hf (pv 4)) (pv 2) (nomark _)))))))))
        (OwnProj.Hds.bare ⟨rfl, by decide, .inl T.mg_Endless⟩ (fun ea oe cls d pn hz hf => (pss_one (ps_ret (pe_cmpR op_eq (pv 1) pe_str (nomark _)))))
        .nil)))
      (pss_cons (ps_if (PW.pt (pw_or (pt_cmpR op_ne (pv 1) pe_str (nomark _)) (pw_or (pt_not (pt_val (pe_call (ok_law_integer T) (hr.mono (by decide)) (by rfl) T.mg_law_integer T.fn_law_integer.kp T.b_law_integer .nil pass0 (pa_cons (pe_callB (OwnProj.call_lenO (ok_Project_len T) (hr.mono (by decide)) T.mt_Project_len T.b_Project_len pass0) (by rfl) T.no_len PySem.boot_len (pa_cons (pv 3) pa_nil)) pa_nil)))) (pw_or1 (pt_cmpR op_ne (pe_callB (OwnProj.call_lenO (ok_Project_len T) (hr.mono (by decide)) T.mt_Project_len T.b_Project_len pass0) (by rfl) T.no_len PySem.boot_len (pa_cons (pv 3) pa_nil)) (pe_callB (lenK K) (by rfl) T.no_len PySem.boot_len (pa_cons (pv 0) pa_nil)) (nomark _)))))) (pss_one (ps_ret pe_bl)) pss_nil)
      (pss_one (ps_ret (pe_cmpR (eqD_at K hr.units) (pe_lc (own := [("state", 5)]) (by rfl) sc_law_made.nd (pi_range1 (by rfl) T.no_range (pa_cons (pe_callB (lenK K) (by rfl) T.no_len PySem.boot_len (pa_cons (pv 0) pa_nil)) pa_nil)) (blkOk_by (own := [("state", 5)]) (N := ["value", "due", "place", "project", "e", "state", "row"]) (sc := defScope s_law_made) (by decide +kernel)) (fun _ _ _ _ _ => pg_name (i := 5) sc_law_made.nd rfl (Or.inl rfl)) (fun _ _ _ _ _ => pts_nil) (fun _ _ _ _ _ => (pe_meth (pv 3) T.cl_Project T.mt_Project_kind (ok_Project_kind T) (hr.mono (by decide)) T.b_Project_kind .nil pass0 (pa_cons (pv 5) pa_nil)))) (pe_lc (own := [("row", 6)]) (by rfl) sc_law_made.nd (pi_told K (pv 0)) (blkOk_by (own := [("row", 6)]) (N := ["value", "due", "place", "project", "e", "state", "row"]) (sc := defScope s_law_made) (by decide +kernel)) (fun _ _ _ _ _ => pg_name (i := 6) sc_law_made.nd rfl (Or.inl rfl)) (fun _ _ _ _ _ => pts_nil) (fun _ _ _ _ _ => (pe_ix ixHS (pv 6) pe_int (fun _ _ => rfl)))) (nomark _)))))), ?_⟩
    show (_ : TS) _ [some v, some (V.str due), some plc, none, none, none, none] H
    refine cut (fun σ H' => ∃ (f dx t : Addr) (ys : List V) (ws : List Wv), elems w' = some ws ∧ ws.length ≤ 8 ∧ (∀ x ∈ ws, fitB ws.length x = true) ∧ due = "made" ∧ σ = [some v, some (V.str due), some plc, some (V.ref f), none, none, none] ∧ Same H H' ∧ H' f = some (.ins a.C_Project dx (pf t)) ∧ H' t = some (.tup ys) ∧ CleansV a.C_Frac H' ys (ws.map rowD)) (fun R hR => ?_) (fun σ H' h => ?_)
    · walk_at "rd"
      intro x dx hx0 hdx ne
      have s1 : Same H (upd H dx (.own x)) := same_upd hdx
      have s2 : Same (upd H dx (.own x)) (upd (upd H dx (.own x)) x (.ins a.C_Project dx [])) := same_upd ((upd_ne ne.symm).trans hx0)
      have s12 := s1.trans s2
      refine ⟨x, dx, v, w', rfl, upd_same, hv.same s12, ro, ⟨fun ws ew r1 r8 fa fo t ys H3 e3 ht cl => ⟨rfl, ?_⟩, fun hw d H' hd0 hd1 e => ?_, fun ws i y ew r1 r8 hy hno hok d H' hd0 hd1 e => ?_, fun ws n ew r1 r8 fa fo d H' hd0 hd1 e => ?_⟩⟩
      · have x3 := e3 _ _ upd_same
        refine hR _ _ ⟨x, dx, t, ys, ws, ew, r8, fa, ((dk.2 ws ew r1 r8).2 fa).1 fo, rfl, fun b o hb => (upd_ne (ne_of_none hb hx0)).trans (e3 _ _ (s12 _ _ hb)), upd_same, (upd_ne fun z => by rw [z, x3] at ht; cases ht).trans ht, CleansV.upi x3 cl⟩
      · refine ⟨true, T.xm_InvalidProject, fun _ ea hea => ?_, fun z => absurd z.symm Bool.false_ne_true⟩
        have xs1 : List.lookup ("state" : Str) [(("state" : Str), V.non)] = some V.non := by rw [lookup_put, if_pos rfl]
        obtain ⟨rfl, rfl⟩ := dk.1 hw
        simp only [OwnProj.slotAt, OwnProj.endsAt, tXf]
        walk_at "rd"
        refine ⟨a.C_Endless, false, d, _, rfl, rfl, rfl, hd1, T.kit_IP_E, _, rfl, ?_⟩
        rw [if_neg (by decide)]
        refine ⟨rfl, _, rfl, rfl, rfl, d, _, _, rfl, hd1, xs1, ?_⟩
        show Q (V.bl (decide (V.non = V.non))) _
        rw [decide_eq_true rfl]
        exact k _ (s12.trans e)
      · refine ⟨true, T.xm_InvalidProject, fun _ ea hea => ?_, fun z => absurd z.symm Bool.false_ne_true⟩
        have xs1 : List.lookup ("state" : Str) [(("state" : Str), V.int (i : Nat))] = some (V.int (i : Nat)) := by rw [lookup_put, if_pos rfl]
        obtain ⟨rfl, rfl⟩ := (dk.2 ws ew r1 r8).1 i y hy hno hok
        simp only [OwnProj.slotAt, OwnProj.endsAt, tXf]
        walk_at "rd"
        refine ⟨a.C_Endless, false, d, _, rfl, rfl, rfl, hd1, T.kit_IP_E, _, rfl, ?_⟩
        rw [if_neg (by decide)]
        refine ⟨rfl, _, rfl, rfl, rfl, d, _, _, rfl, hd1, xs1, _, .int, rfl, .int _, _, rfl, ?_⟩
        rw [if_pos (by decide)]
        refine ⟨_, rfl, rfl, rfl, d, _, _, rfl, hd1, xs1, rfl, ?_⟩
        rw [decide_eq_true rfl]
        exact k _ (s12.trans e)
      · refine ⟨false, T.xm_Endless_InvalidProject, (fun z => absurd z Bool.false_ne_true), fun _ => ⟨true, T.xm_Endless, fun _ ea hea => ?_, (fun z => absurd z.symm Bool.false_ne_true)⟩⟩
        obtain rfl := ((dk.2 ws ew r1 r8).2 fa).2 n fo
        simp only [OwnProj.slotAt, OwnProj.endsAt, tXf]
        walk_at "rd"
        exact ⟨rfl, k _ (s12.trans e)⟩
    obtain ⟨f, dx, t, ys, ws, ew, r8, fa, rfl, rfl, e1, hf, ht, cl⟩ := h
    obtain ⟨p, l, xs, rfl, hp, iw⟩ := isw_elems hv ew
    have len := iw.len
    have clen := cl.len
    rw [List.length_map] at clen
    walk_at "rd"
    have hp1 := e1 _ _ hp
    have lenr : (ws.map rowD).length = ws.length := List.length_map _
    have ap : ∀ {Q : VK} {H1 : Hp}, Same H' H1 → Q (.int ws.length) H1 → rLenO a.C_Project (spLen a.C_Project) E0 [V.ref f] H1 Q := fun {Q H1} e q => ⟨f, dx, _, rfl, e _ _ hf, f, dx, t, ys, rfl, e _ _ hf, e _ _ ht, ws.length, by rw [clen], by omega, by rw [clen]; exact q⟩
    refine ⟨rfl, ap (Same.refl _) ⟨_, .int, rfl, .int _, _, rfl, ?_⟩⟩
    rw [if_neg (by decide)]
    refine ap (Same.refl _) ⟨xs, seqOr hp1, rfl, ?_⟩
    rw [len, if_neg (by simp)]
    refine ⟨xs, seqOr hp1, by omega, by omega, ?_⟩
    rw [Int.toNat_natCast, len]
    refine Rd.lcl_rng (fun D i H6 => H' D = none ∧ Same H' H6 ∧ H6 D = some (.lst (((ws.map rowD).take i).map fun r => V.str (kindOf r)))) (fun D hD => ⟨hD, same_upd hD, upd_same⟩) (fun D i H6 hi ⟨n6, e6, a6⟩ => ?_) (fun D H6 _ ⟨n6, e6, a6⟩ => ?_)
    · obtain ⟨r, hr1⟩ : ∃ r, (ws.map rowD)[i]? = some r := ⟨_, List.getElem?_eq_getElem (by rw [lenr]; exact hi)⟩
      walk_at "rd"
      refine ⟨dx, pf t, e6 _ _ hf, pf_kind t, f, dx, t, ys, _, i, r, by rw [Int.zero_add], e6 _ _ hf, e6 _ _ ht, CleansV.same e6 cl, hr1, _, a6, small (by rw [List.length_map, List.length_take]; omega), n6, fun q o hq => (upd_ne (ne_of_none hq n6)).trans (e6 _ _ hq), ?_⟩
      rw [List.take_add_one, hr1, List.map_append]
      rfl
    · rw [← lenr, List.take_length] at a6
      refine ⟨l, xs, e6 _ _ hp1, lcl_goes goes_seq (fun D' i H7 => H6 D' = none ∧ Same H6 H7 ∧ H7 D' = some (.lst (((ws.map rowD).take i).map fun r => V.str (kindOf r)))) (fun D hD => ⟨hD, same_upd hD, upd_same⟩) (fun D' i H7 _ h => h.2.1 _ _ (e6 _ _ hp1)) (fun D' i y H7 H7' hi ⟨n7, e7, a7⟩ ⟨eq7, hy⟩ => ?_) (fun D' H7 _ ⟨n7, e7, a7⟩ => ?_)⟩
      · subst eq7
        obtain ⟨x, hx, xw⟩ := (iw.same ((e1.trans e6).trans e7)).at hy
        obtain ⟨sx, wr, ex, _, hk⟩ := fit_head (fa x (List.mem_of_getElem? hx))
        obtain ⟨q, l', zs, rfl, hq, zw⟩ := isw_elems xw ex
        cases zw with
        | @cons u _ us _ hu hus =>
          cases hu
          walk_at "rd"
          refine ixs hq Rd.at0 ⟨_, a7, small (by rw [List.length_map, List.length_take, lenr]; omega), n7, fun q o hq => (upd_ne (ne_of_none hq n7)).trans (e7 _ _ hq), ?_⟩
          rw [List.take_add_one, List.getElem?_map, hx, List.map_append, hk]
          rfl
      · rw [len, ← lenr, List.take_length] at a7
        have dp1 : Dp K H7 (.ref D) (.list (kds (ws.map rowD))) := .lst (SqL.of (e7 _ _ a6)) (kds_dp _)
        have dp2 : Dp K H7 (.ref D') (.list (kds (ws.map rowD))) := .lst (SqL.of a7) (kds_dp _)
        exact ⟨_, dp1, _, dp2, kds_shaped _, kds_shaped _, by rw [SeqAt.eqv_refl _ (SeqAt.canLay_of_shaped (kds_shaped _))]; exact k H7 ((e1.trans e6).trans e7)⟩
end

end K05
namespace K05
open PySem PySem.Spec PyProof.Rows L2 Own OwnSeq OwnSet OwnComb OwnSort OwnHot OwnExN OwnProj
local macro_rules | `(tactic| walk_at "rd") => `(tactic| simp only [tSeq, tAsg, tOp, tUn, tVar, gName, gSub, rIxL, rIxT, rSetL, tC, rI0, rI, rU, rEq, rNe, tCons, tNil, tCB, tLst, tTup, tIfS, tAnd, tOr, tNot, tAndV, tOrV, tNotV, tTest, tB, tIf, tRet, tDrop, tNext, tBreak, tCont, tCall, tCallS, L2.WE, tMakeS, rIsS, rIsB, tChain, gSeq, gRest, gCons, gNil, tFor_seq, tFor_enumS, tLc_seq, tLc_enumS, rAny, rAll, L2.tMeth, StX.tStar, rIn, tLstRg, tRg1, tRg2, rSetI, rSortedSet, rInDT, rInD, rNotInD, rEqD, rNeD, iComb, tFld, tMake, tMkO, sFld, tOst, tNever, tBits, clv, isB,
  Rd.tFor_rng1, Rd.tFor_rng2, Rd.tFor_list, Rd.tFor_tup, Rd.tLc_list, Rd.tLc_tup, Rd.tLc_rng1, Rd.LcTurn, tYes, wipe, Rd.rLenL, Rd.rLenT, Rd.rIntI, Rd.rIxH, rIxHT,  HO.tup.injEq, Rd.at0, Rd.at1, Rd.at2, Rd.at3, Rd.ixN40, Rd.ixN41, Rd.ixN42, Rd.ixN43, Rd.scal_ii, cxOf,
  List.length_cons, List.length_nil, List.length_map, List.map_cons, List.map_nil, upd_same, decide_eq_true_eq, decide_true, decide_false, if_true, if_false, Bool.false_eq_true, Bool.not_true, Bool.not_false, HO.lst.injEq, HO.ins.injEq, List.set_cons_zero, List.set_cons_succ, List.getElem?_cons_zero, List.getElem?_cons_succ, List.append_nil, List.nil_append, List.cons_append, Option.some.injEq, V.ref.injEq, V.int.injEq, V.bl.injEq, List.cons.injEq, exists_eq_left', exists_and_left, exists_eq_left, true_and, and_true, and_self, and_assoc, implies_true, reduceCtorEq, Nat.reduceAdd])

theorem IsNs.set {C : Addr} {H0 H : Hp} {v : V} {w : Wv} (hv : IsN C H0 H v w) : ∀ {vs : List V} {ws : List Wv} (j : Nat), IsNs C H0 H vs ws → IsNs C H0 H (vs.set j v) (ws.set j w)
  | _, _, _, .nil => .nil
  | _, _, 0, .cons _ a => .cons hv a
  | _, _, j + 1, .cons h a => .cons h (IsNs.set hv j a)
/-- what a row that is drawn keeps -/
def RowW (w : Wv) : Prop := Tw 8 50000 w ∧ RowOk w
theorem rowsOk_of {l : Bool} {ws : List Wv} (h : ∀ w ∈ ws, RowW w) : RowsOk (seqW l ws) := fun us e x hx => by
  rw [el_seq] at e
  cases e
  exact (h x hx).2
theorem tw_rows {l : Bool} {ws : List Wv} (h : ∀ w ∈ ws, RowW w) (hl : ws.length ≤ 9) : Tw 9 500000 (seqW l ws) := tw_seq (k := 9) (fun w m => (h w m).1) hl (by decide) (by decide) (by decide)
theorem noel {w : Wv} (h : elems w = none) : RowsOk w := fun us e => by rw [h] at e; cases e
section
variable {P : Program} {w : World} {K : PySem.W.Frag} {mg : Str → Option Value} {base : Heap} {a : Ad}
theorem ok_law_text (T : Txt K mg a) : FnOk P w K mg base CX0 10 a.a_law_text a.d_law_text ["value"] (spText a.C_Frac 10) := ok_law_textN T 10 (by decide)
/-! ### _law_all -/
def spAllL (K : PySem.W.Frag) : Sp := fun vs H Q _ => ∃ (a : Addr) (ns : List Int), vs = [.ref a] ∧ SqL K H a (ns.map V.int) ∧ ns.length ≤ 63 ∧ ∀ H', Q (.bl true) H'
theorem sc_law_all : FnScope ["script", "box", "many", "k", "rows", "value", "outer", "due", "place", "state", "kept", "more"] ["script"] (defScope s_law_all) := ⟨rfl, rfl, rfl, by decide +kernel, rfl, by decide +kernel, by decide +kernel⟩
theorem ok_law_all (T : Txt K mg a) : FnOk P w K mg base CX0 16 a.a_law_all a.d_law_all ["script"] (spAllL K) := by
  refine T.fn_law_all.ok sc_law_all (fun vs H Q E h => ?_) (fun cdv A outer s H vs Q E hr h => ?_)
  · obtain ⟨p, ns, rfl, _⟩ := h
    rfl
  · obtain ⟨p0, ns, rfl, hs, hl, k⟩ := h
    obtain ⟨ds2, b2v, b2b⟩ := b2 T
    refine ⟨_, (pss_cons (ps_set (i := 1) sc_law_all.nd rfl (Or.inr rfl) (pe_call (ok_law_box T) (hr.mono (by decide)) (by rfl) T.mg_law_box T.fn_law_box.kp T.b_law_box .nil pass0 (pa_cons (pv 0) pa_nil)))
      (pss_cons (ps_set (i := 2) sc_law_all.nd rfl (Or.inr rfl) (pe_op op_add pe_int (pe_call (ok_law_draw T) (hr.mono (by decide)) (by rfl) T.mg_law_draw T.fn_law_draw.kp T.b_law_draw .nil pass0 (pa_cons (pv 1) (pa_cons pe_int pa_nil)))))
      (pss_cons (ps_setLc (i := 4) (own := [("k", 3)]) (by rfl) sc_law_all.nd rfl rfl (sw_true rfl rfl rfl (by decide +kernel)) (pi_range1 (by rfl) T.no_range (pa_cons (pv 2) pa_nil)) (blkOk_by (own := [("k", 3)]) (N := ["script", "box", "many", "k", "rows", "value", "outer", "due", "place", "state", "kept", "more"]) (sc := defScope s_law_all) (by decide +kernel)) (fun _ _ _ _ _ => pg_name (i := 3) sc_law_all.nd rfl (Or.inl rfl)) (fun _ _ _ _ _ => pts_nil) (fun _ _ _ _ _ => (pe_call (ok_law_right_row T) (hr.mono (by decide)) (by rfl) T.mg_law_right_row T.fn_law_right_row.kp T.b_law_right_row .nil pass0 (pa_cons (pv 1) (pa_cons (pv 2) pa_nil)))))
      (pss_cons (ps_for PassesOwn.never rfl (pi_range1 (by rfl) T.no_range (pa_cons (pe_call (ok_law_draw T) (hr.mono (by decide)) (by rfl) T.mg_law_draw T.fn_law_draw.kp T.b_law_draw .nil pass0 (pa_cons (pv 1) (pa_cons pe_int pa_nil))) pa_nil)) (pg_name (i := 3) sc_law_all.nd rfl (Or.inl rfl))
        (pss_one (ps_asg (pe_call (ok_law_no_row T) (hr.mono (by decide)) (by rfl) T.mg_law_no_row T.fn_law_no_row.kp T.b_law_no_row .nil pass0 (pa_cons (pv 1) (pa_cons (pv 2) pa_nil))) (pg_sub (pv 4) (pe_call (ok_law_draw T) (hr.mono (by decide)) (by rfl) T.mg_law_draw T.fn_law_draw.kp T.b_law_draw .nil pass0 (pa_cons (pv 1) (pa_cons (pv 2) pa_nil))) set_list))))
      (pss_cons (ps_set (i := 5) sc_law_all.nd rfl (Or.inl rfl) (pe_call (ok_law_shape T) (hr.mono (by decide)) (by rfl) T.mg_law_shape T.fn_law_shape.kp T.b_law_shape .nil pass0 (pa_cons (pv 1) (pa_cons (pv 4) pa_nil))))
      (pss_cons (ps_set (i := 6) sc_law_all.nd rfl (Or.inl rfl) (pe_call (ok_law_draw T) (hr.mono (by decide)) (by rfl) T.mg_law_draw T.fn_law_draw.kp T.b_law_draw .nil pass0 (pa_cons (pv 1) (pa_cons pe_int pa_nil))))
      (pss_cons (ps_if (pt_cmpR op_lt (pv 6) pe_int (nomark _)) (pss_one (ps_set (i := 5) sc_law_all.nd rfl (Or.inl rfl) (pe_ix Rd.ixH (pe_lst (pa_cons pe_non (pa_cons pe_bl (pa_cons pe_int (pa_cons pe_str (pa_cons (pe_make T.mk_Frac (ok_Frac_init T) (hr.mono (by decide)) (by rfl) T.mg_Frac b2b b2v pass0 (pa_cons pe_int pa_nil)) (pa_cons pe_str pa_nil))))))) (pe_call (ok_law_draw T) (hr.mono (by decide)) (by rfl) T.mg_law_draw T.fn_law_draw.kp T.b_law_draw .nil pass0 (pa_cons (pv 1) (pa_cons pe_int pa_nil))) (fun _ _ => rfl)))) pss_nil)
      (pss_cons (ps_if (pt_cmpR op_eq (pv 6) pe_int (nomark _)) (pss_one (ps_set (i := 5) sc_law_all.nd rfl (Or.inl rfl) (pe_call (ok_law_shape T) (hr.mono (by decide)) (by rfl) T.mg_law_shape T.fn_law_shape.kp T.b_law_shape .nil pass0 (pa_cons (pv 1) (pa_cons (pe_lst pa_nil) pa_nil))))) pss_nil)
      (pss_cons (ps_set (i := 7) sc_law_all.nd rfl (Or.inl rfl) pe_str)
      (pss_cons (ps_set (i := 8) sc_law_all.nd rfl (Or.inl rfl) pe_non)
      (pss_cons (ps_if (PW.pt (pw_or (pt_not (pt_val (pe_call (ok_law_row_of T) (hr.mono (by decide)) (by rfl) T.mg_law_row_of T.fn_law_row_of.kp T.b_law_row_of .nil pass0 (pa_cons (pv 5) pa_nil)))) (pw_or1 (pt_cmpR op_eq (pe_callB (lenK K) (by rfl) T.no_len PySem.boot_len (pa_cons (pv 5) pa_nil)) pe_int (nomark _))))) (pss_one (ps_set (i := 7) sc_law_all.nd rfl (Or.inl rfl) pe_str)) (pss_cons (ps_for PassesOwn.never rfl (pi_range1 (by rfl) T.no_range (pa_cons (pe_callB (lenK K) (by rfl) T.no_len PySem.boot_len (pa_cons (pv 5) pa_nil)) pa_nil)) (pg_name (i := 9) sc_law_all.nd rfl (Or.inl rfl))
          (pss_one (ps_if (PW.pt (pw_and (pt_cmpR op_eq (pv 7) pe_str (nomark _)) (pw_and1 (pt_not (pt_val (pe_call (ok_law_fits T) (hr.mono (by decide)) (by rfl) T.mg_law_fits T.fn_law_fits.kp T.b_law_fits .nil pass0 (pa_cons (pe_ix ixHS (pv 5) (pv 9) (fun _ _ => rfl)) (pa_cons (pe_callB (lenK K) (by rfl) T.no_len PySem.boot_len (pa_cons (pv 5) pa_nil)) pa_nil)))))))) (pss_cons (ps_set (i := 7) sc_law_all.nd rfl (Or.inl rfl) pe_str)
            (pss_one (ps_set (i := 8) sc_law_all.nd rfl (Or.inl rfl) (pv 9)))) pss_nil)))
        (pss_one (ps_if (PW.pt (pw_and (pt_cmpR op_eq (pv 7) pe_str (nomark _)) (pw_and1 (pt_val (pe_call (ok_law_endless T) (hr.mono (by decide)) (by rfl) T.mg_law_endless T.fn_law_endless.kp T.b_law_endless .nil pass0 (pa_cons (pv 5) pa_nil)))))) (pss_one (ps_set (i := 7) sc_law_all.nd rfl (Or.inl rfl) pe_str)) pss_nil))))
      (pss_cons (ps_set (i := 10) sc_law_all.nd rfl (Or.inl rfl) (pe_call (ok_law_text T) (hr.mono (by decide)) (by rfl) T.mg_law_text T.fn_law_text.kp T.b_law_text .nil pass0 (pa_cons (pv 5) pa_nil)))
      (pss_cons (ps_if (PW.pt (pw_or (pt_not (pt_val (pe_call (ok_law_made T) (hr.mono (by decide)) (by rfl) T.mg_law_made T.fn_law_made.kp T.b_law_made .nil pass0 (pa_cons (pv 5) (pa_cons (pv 7) (pa_cons (pv 8) pa_nil)))))) (pw_or1 (pt_cmpR op_ne (pe_call (ok_law_text T) (hr.mono (by decide)) (by rfl) T.mg_law_text T.fn_law_text.kp T.b_law_text .nil pass0 (pa_cons (pv 5) pa_nil)) (pv 10) (nomark _))))) (pss_one (ps_ret pe_bl)) pss_nil)
      (pss_cons (ps_if (PW.pt (pw_or (pt_not (pt_val (pe_call (ok_law_made T) (hr.mono (by decide)) (by rfl) T.mg_law_made T.fn_law_made.kp T.b_law_made .nil pass0 (pa_cons (pv 5) (pa_cons (pv 7) (pa_cons (pv 8) pa_nil)))))) (pw_or1 (pt_cmpR op_ne (pe_call (ok_law_text T) (hr.mono (by decide)) (by rfl) T.mg_law_text T.fn_law_text.kp T.b_law_text .nil pass0 (pa_cons (pv 5) pa_nil)) (pv 10) (nomark _))))) (pss_one (ps_ret pe_bl)) pss_nil)
      (pss_cons (ps_set (i := 11) sc_law_all.nd rfl (Or.inl rfl) (pe_callTy call_list_of (by rfl) T.no_list (by decide +kernel) (pa_cons (pv 4) pa_nil)))
      (pss_cons (ps_for PassesOwn.never rfl (pi_range1 (by rfl) T.no_range (pa_cons (pe_op op_sub pe_int (pv 2)) pa_nil)) (pg_name (i := 3) sc_law_all.nd rfl (Or.inl rfl))
        (pss_one (ps_expr (pe_bm PySem.F.plainAttrs_list PySem.F.slot_list_append PySem.F.type_list_append mt_append (pv 11) (pa_cons (pe_call (ok_law_right_row T) (hr.mono (by decide)) (by rfl) T.mg_law_right_row T.fn_law_right_row.kp T.b_law_right_row .nil pass0 (pa_cons (pv 1) (pa_cons (pv 2) pa_nil))) pa_nil)))))
      (pss_one (ps_ret (pe_call (ok_law_made T) (hr.mono (by decide)) (by rfl) T.mg_law_made T.fn_law_made.kp T.b_law_made .nil pass0 (pa_cons (pe_call (ok_law_shape T) (hr.mono (by decide)) (by rfl) T.mg_law_shape T.fn_law_shape.kp T.b_law_shape .nil pass0 (pa_cons (pv 1) (pa_cons (pv 11) pa_nil))) (pa_cons pe_str (pa_cons pe_non pa_nil)))))))))))))))))))))), ?_⟩
    show (_ : TS) _ [some (V.ref p0), none, none, none, none, none, none, none, none, none, none, none] H
    refine cut (fun σ H1 => ∃ b c, σ = [some (V.ref p0), some (V.ref b), none, none, none, none, none, none, none, none, none, none] ∧ BoxAt K H1 b c ns) (fun R hR => ?_) (fun σ H1 h => ?_)
    · walk_at "rd"
      exact ⟨p0, ns, rfl, hs, hl, fun b c H1 B e b0 => hR _ _ ⟨b, c, rfl, B⟩⟩
    obtain ⟨b, c, rfl, B1⟩ := h
    refine cut (fun σ H2 => ∃ n : Nat, σ = [some (V.ref p0), some (V.ref b), some (V.int n), none, none, none, none, none, none, none, none, none] ∧ BoxAt K H2 b c ns ∧ 1 ≤ n ∧ n ≤ 8) (fun R hR => ?_) (fun σ H2 h => ?_)
    · walk_at "rd"
      exact drw B1 (by decide) (by decide) fun x H2 x6 B2 e2 => ⟨_, rfl, hR _ _ ⟨1 + x, by rw [show (1 : Int) + (x : Int) = ((1 + x : Nat) : Int) by omega], B2, by omega, by omega⟩⟩
    obtain ⟨n, rfl, B, n1, n8⟩ := h
    refine cut (fun σ H3 => ∃ D xs ws, σ = [some (V.ref p0), some (V.ref b), some (V.int n), none, some (V.ref D), none, none, none, none, none, none, none] ∧ BoxAt K H3 b c ns ∧ But b H2 H3 ∧ H2 D = none ∧ H3 D = some (.lst xs) ∧ IsNs a.C_Frac H2 (noD D H3) xs ws ∧ ws.length = n ∧ ∀ w ∈ ws, RowW w) (fun R hR => ?_) (fun σ H3 h => ?_)
    · walk_at "rd"
      refine ⟨by omega, by omega, ?_⟩
      rw [Int.toNat_natCast]
      refine Rd.lcl_rng (fun D i H5 => H2 D = none ∧ BoxAt K H5 b c ns ∧ But b H2 H5 ∧ ∃ xs ws, H5 D = some (.lst xs) ∧ IsNs a.C_Frac H2 (noD D H5) xs ws ∧ ws.length = i ∧ ∀ w ∈ ws, RowW w) (fun D hD => ⟨hD, B.same (same_upd hD), Same.but (same_upd hD), [], [], upd_same, .nil, rfl, fun w m => by cases m⟩)
        (fun D i H5 hi ⟨n5, B5, e5, xs, ws, a5, hx, wl, wr⟩ => ?_) (fun D H5 _ ⟨n5, B5, e5, xs, ws, a5, hx, wl, wr⟩ => hR _ _ ⟨D, xs, ws, rfl, B5, e5, n5, a5, hx, wl, wr⟩)
      walk_at "rd"
      have Db := B.ne_new n5
      have xl := hx.len
      refine ⟨b, c, ns, n, rfl, B5, n1, n8, fun v w' H6 B6 e6 vn vt vr => ?_⟩
      have hD6 := e6 _ _ Db a5
      have eU : But b H2 (upd H6 D (.lst (xs ++ [v]))) := (e5.trans e6).updn n5
      refine ⟨xs, hD6, small1000 (by omega), n5, B.upd B6 Db eU, eU, ws ++ [w'], ?_, by rw [List.length_append, wl]; rfl, fun w m => ?_⟩
      · rw [noD_upd]
        exact (IsNs.noD B B5 e6 hx).app (.cons (vn.since B5 e5 a5 hD6) .nil)
      · rcases List.mem_append.mp m with m | m
        · exact wr w m
        · rw [List.mem_singleton.mp m]; exact ⟨vt, vr⟩
    obtain ⟨D, xs, ws, rfl, B3, e3, D0, hD3, hx3, wl3, wr3⟩ := h
    have Db := B.ne_new D0
    refine cut (fun σ H4 => ∃ o3 xs ws, σ = [some (V.ref p0), some (V.ref b), some (V.int n), o3, some (V.ref D), none, none, none, none, none, none, none] ∧ BoxAt K H4 b c ns ∧ But b H2 H4 ∧ H4 D = some (.lst xs) ∧ IsNs a.C_Frac H2 (noD D H4) xs ws ∧ ws.length = n ∧ ∀ w ∈ ws, RowW w) (fun R hR => ?_) (fun σ H4 h => ?_)
    · walk_at "rd"
      refine drw B3 (by decide) (by decide) fun x H4 x4 B4 e4 => ⟨_, rfl, by omega, by omega, ?_⟩
      refine Rd.loop_rngC (fun σ H4 => ∃ o3 xs ws, σ = [some (V.ref p0), some (V.ref b), some (V.int n), o3, some (V.ref D), none, none, none, none, none, none, none] ∧ BoxAt K H4 b c ns ∧ But b H2 H4 ∧ H4 D = some (.lst xs) ∧ IsNs a.C_Frac H2 (noD D H4) xs ws ∧ ws.length = n ∧ ∀ w ∈ ws, RowW w) (fun _ σ H4 => ∃ o3 xs ws, σ = [some (V.ref p0), some (V.ref b), some (V.int n), o3, some (V.ref D), none, none, none, none, none, none, none] ∧ BoxAt K H4 b c ns ∧ But b H2 H4 ∧ H4 D = some (.lst xs) ∧ IsNs a.C_Frac H2 (noD D H4) xs ws ∧ ws.length = n ∧ ∀ w ∈ ws, RowW w) ⟨none, xs, ws, rfl, B4, e3.trans e4, e4 _ _ Db hD3, IsNs.noD B B3 e4 hx3, wl3, wr3⟩ ?_ (fun _ _ z => z) (fun σ H4 z => hR _ _ z)
      rintro bk hbk i σ H5 hi ⟨o3, xs, ws, rfl, B5, e5, hD5, hx5, wl5, wr5⟩
      walk_at "rd"
      have xl5 := hx5.len
      refine ⟨b, c, ns, n, rfl, B5, n1, n8, fun v w' H6 B6 e6 vn vt vr => drw B6 (by omega) (by omega) fun y H7 y7 B7 e7 => ?_⟩
      have hD6 := e6 _ _ Db hD5
      have hD7 := e7 _ _ Db hD6
      have e57 := e6.trans e7
      have eU : But b H2 (upd H7 D (.lst (xs.set y v))) := (e5.trans e57).updn D0
      have vs := vn.since B5 e5 hD5 hD6
      refine ⟨xs, y, rfl, hD7, y, ixN_of (by omega), B.upd B7 Db eU, eU, ws.set y w', ?_, by rw [List.length_set, wl5], fun w m => ?_⟩
      · rw [noD_upd]
        exact IsNs.set (vs.go (fun q o nn z => by
          obtain ⟨qd, z⟩ := noD_get z
          refine noD_of qd (e7 q o (fun eq => ?_) z)
          subst eq
          obtain ⟨_, _, _, hb, _⟩ := B.ob
          obtain ⟨_, _, _, hb6, _⟩ := B6.ob
          rw [hb6] at z
          rw [nn _ (Option.some.inj z).symm] at hb
          cases hb) fun _ z => z) y (IsNs.noD B B5 e57 hx5)
      · rcases List.mem_or_eq_of_mem_set m with m | rfl
        · exact wr5 w m
        · exact ⟨vt, vr⟩
    obtain ⟨o3, xs4, ws4, rfl, B4, e4, hD4, hx4, wl4, wr4⟩ := h
    have xl4 := hx4.len
    refine cut (fun σ H5 => ∃ v w', σ = [some (V.ref p0), some (V.ref b), some (V.int n), o3, some (V.ref D), some v, none, none, none, none, none, none] ∧ BoxAt K H5 b c ns ∧ But b H4 H5 ∧ IsN a.C_Frac H2 H5 v w' ∧ Tw 9 500000 w' ∧ RowsOk w' ∧ ∀ us, elems w' = some us → us.length ≤ 8) (fun R hR => ?_) (fun σ H5 h => ?_)
    · walk_at "rd"
      exact ⟨b, c, D, ns, xs4, rfl, B4, Db, hD4, fun q l H5 B5 e5 qb hq hn => hR _ _ ⟨.ref q, seqW l ws4, rfl, B5, e5, seqN hq (fun h => by rw [hn h]; exact D0) (IsNs.noD B B4 e5 hx4).all, tw_rows wr4 (by omega), rowsOk_of wr4, fun us e => by rw [el_seq] at e; cases e; omega⟩⟩
    obtain ⟨v5, w5, rfl, B5, e5, vn5, vt5, vr5, vl5⟩ := h
    refine cut (fun σ H6 => ∃ x : Nat, σ = [some (V.ref p0), some (V.ref b), some (V.int n), o3, some (V.ref D), some v5, some (V.int x), none, none, none, none, none] ∧ BoxAt K H6 b c ns ∧ But b H5 H6) (fun R hR => ?_) (fun σ H6 h => ?_)
    · walk_at "rd"
      exact drw B5 (by decide) (by decide) fun x H6 x6 B6 e6 => hR _ _ ⟨x, rfl, B6, e6⟩
    obtain ⟨x, rfl, B6, e6⟩ := h
    have e46 := e5.trans e6
    have vn6 := IsN.but B B5 e6 vn5
    refine cut (fun σ H7 => ∃ v w', σ = [some (V.ref p0), some (V.ref b), some (V.int n), o3, some (V.ref D), some v, some (V.int x), none, none, none, none, none] ∧ BoxAt K H7 b c ns ∧ But b H6 H7 ∧ IsN a.C_Frac H2 H7 v w' ∧ Tw 9 500000 w' ∧ RowsOk w' ∧ ∀ us, elems w' = some us → us.length ≤ 8) (fun R hR => ?_) (fun σ H7 h => ?_)
    · walk_at "rd"
      refine ite2 (fun _ => ?_) (fun _ => hR _ _ ⟨v5, w5, rfl, B6, But.refl _ _, vn6, vt5, vr5, vl5⟩)
      intro y dx hy hdx hne
      refine fr_made (n := 1) (by decide) hy hdx hne fun H7 hfr e7 => ⟨by decide, fun q hq => ?_⟩
      have e26 := e4.trans e46
      refine pick (C := a.C_Frac) (ws := [.non, .bl true, .int 3, .str (Str.ofString "end"), .fr (1 : Nat) 1, .str (Str.ofString "void")]) B (B6.same e7) (e26.trans (Same.but e7)) hq
        (.cons .non (.cons (.bl _) (.cons (.int _) (.cons (.str _) (.cons (.fr hfr) (.cons (.str _) .nil)))))) rfl (by decide) (by decide) fun v2 w2 H8 B8 e8 e78 vw mem => ?_
      have fin : elems w2 = none → Tw 9 500000 w2 → R [some (V.ref p0), some (V.ref b), some (V.int n), o3, some (V.ref D), some v2, some (V.int x), none, none, none, none, none] H8 := fun h1 h2 => hR _ _ ⟨v2, w2, rfl, B8, (Same.but e7).trans e78, vw, h2, noel h1, fun us e => by rw [h1] at e; cases e⟩
      simp only [List.mem_cons, List.not_mem_nil, or_false] at mem
      rcases mem with rfl | rfl | rfl | rfl | rfl | rfl
      · exact fin rfl ((tw_non (d := 9)).le (by decide) (by decide))
      · exact fin rfl ((tw_bl (d := 9) _).le (by decide) (by decide))
      · exact fin rfl ((tw_i6 (d := 9) (by decide)).le (by decide) (by decide))
      · exact fin rfl ((tw_str (d := 9) (by decide +kernel)).le (by decide) (by decide))
      · exact fin rfl ((tw_fr (d := 9) (by decide) (by decide)).le (by decide) (by decide))
      · exact fin rfl ((tw_str (d := 9) (by decide +kernel)).le (by decide) (by decide))
    obtain ⟨v7, w7, rfl, B7, e7, vn7, vt7, vr7, vl7⟩ := h
    refine cut (fun σ H8 => ∃ v w', σ = [some (V.ref p0), some (V.ref b), some (V.int n), o3, some (V.ref D), some v, some (V.int x), none, none, none, none, none] ∧ BoxAt K H8 b c ns ∧ But b H7 H8 ∧ IsN a.C_Frac H2 H8 v w' ∧ Tw 9 500000 w' ∧ RowsOk w' ∧ ∀ us, elems w' = some us → us.length ≤ 8) (fun R hR => ?_) (fun σ H8 h => ?_)
    · walk_at "rd"
      have e27 := (e4.trans e46).trans e7
      refine ite2 (fun _ => ⟨by decide, fun p hp => shp (C := a.C_Frac) (ws := []) B B7 e27 hp .nil fun v l H' B' e' e7' hv => hR _ _ ⟨v, seqW l [], rfl, B', e7', hv, tw_rows (fun w m => by cases m) (by decide), rowsOk_of (fun w m => by cases m), fun us e => by rw [el_seq] at e; cases e; decide⟩⟩) (fun _ => hR _ _ ⟨v7, w7, rfl, B7, But.refl _ _, vn7, vt7, vr7, vl7⟩)
    obtain ⟨v8, w8, rfl, B8, e8, vn8, vt8, vr8, vl8⟩ := h
    have iv8 := vn8.is
    refine cut (fun σ H9 => σ = [some (V.ref p0), some (V.ref b), some (V.int n), o3, some (V.ref D), some v8, some (V.int x), some (V.str (Str.ofString "made")), none, none, none, none] ∧ H8 = H9) (fun R hR => ?_) (fun σ H9 h => ?_)
    · walk_at "rd"
      exact hR _ _ ⟨rfl, rfl⟩
    obtain ⟨rfl, rfl⟩ := h
    refine cut (fun σ H9 => σ = [some (V.ref p0), some (V.ref b), some (V.int n), o3, some (V.ref D), some v8, some (V.int x), some (V.str (Str.ofString "made")), some V.non, none, none, none] ∧ H8 = H9) (fun R hR => ?_) (fun σ H9 h => ?_)
    · walk_at "rd"
      exact hR _ _ ⟨rfl, rfl⟩
    obtain ⟨rfl, rfl⟩ := h
    refine cut (fun σ H9 => ∃ due plc o9, σ = [some (V.ref p0), some (V.ref b), some (V.int n), o3, some (V.ref D), some v8, some (V.int x), some (V.str due), some plc, o9, none, none] ∧ Same H8 H9 ∧ DueOk w8 due plc) (fun R hR => ?_) (fun σ H9 h => ?_)
    · walk_at "rd"
      refine ⟨v8, w8, rfl, iv8, _, rfl, ?_⟩
      cases ew : elems w8 with
      | none =>
        refine ite2 (fun _ => hR _ _ ⟨_, _, _, rfl, Same.refl _, fun _ => ⟨rfl, rfl⟩, fun ws e => by rw [ew] at e; cases e⟩) (fun h => absurd rfl h)
      | some us =>
        refine ite2 (fun h => nomatch h) (fun _ => ?_)
        obtain ⟨p, l, xs, rfl, hp, iw⟩ := isw_elems iv8 ew
        have len := iw.len
        have u8 := vl8 us ew
        refine ⟨p, rfl, xs, seqOr hp, ite2 (fun h0 => ?_) (fun h0 => ⟨p, rfl, xs, seqOr hp, by omega, by omega, ?_⟩)⟩
        · refine hR _ _ ⟨_, _, _, rfl, Same.refl _, fun _ => ⟨rfl, rfl⟩, fun ws e r1 => ?_⟩
          rw [ew] at e
          cases e
          omega
        have r1 : 1 ≤ us.length := by omega
        have rb : rowB 1 8 w8 = true := by
          unfold rowB
          rw [ew]
          show (decide ((1 : Int) ≤ (us.length : Int)) && decide ((us.length : Int) ≤ 8)) = true
          rw [decide_eq_true (by omega), decide_eq_true (by omega)]
          rfl
        rw [Int.toNat_natCast, len]
        refine Rd.loop_rngC (fun σ H9 => ∃ due plc o9, σ = [some (V.ref p0), some (V.ref b), some (V.int n), o3, some (V.ref D), some (V.ref p), some (V.int x), some (V.str due), some plc, o9, none, none] ∧ H9 = H8 ∧ ((due = "made" ∧ plc = .non ∧ ∀ w ∈ us, fitB us.length w = true) ∨ ∃ (j : Nat) (w : Wv), due = "refused" ∧ plc = .int j ∧ us[j]? = some w ∧ fitB us.length w = false ∧ ∀ u ∈ us.take j, fitB us.length u = true))
          (fun i σ H9 => ∃ due plc o9, σ = [some (V.ref p0), some (V.ref b), some (V.int n), o3, some (V.ref D), some (V.ref p), some (V.int x), some (V.str due), some plc, o9, none, none] ∧ H9 = H8 ∧ ((due = "made" ∧ plc = .non ∧ ∀ w ∈ us.take i, fitB us.length w = true) ∨ ∃ (j : Nat) (w : Wv), due = "refused" ∧ plc = .int j ∧ us[j]? = some w ∧ fitB us.length w = false ∧ ∀ u ∈ us.take j, fitB us.length u = true))
          ⟨_, _, none, rfl, rfl, .inl ⟨rfl, rfl, fun w m => by rw [List.take_zero] at m; cases m⟩⟩ ?_ (fun σ H9 ⟨due, plc, o9, q1, q2, q3⟩ => ⟨due, plc, o9, q1, q2, q3.imp (fun z => by rw [List.take_length] at z; exact z) id⟩) ?_
        · rintro bk hbk i σ H9 hi ⟨due, plc, o9, rfl, rfl, st⟩
          walk_at "rd"
          obtain ⟨y, hy⟩ : ∃ y, xs[i]? = some y := ⟨_, List.getElem?_eq_getElem (by omega)⟩
          obtain ⟨w', hw, yw⟩ := iw.at hy
          have mm : ¬ (("refused" : Str) = "made") := by decide +kernel
          refine ⟨rfl, ?_⟩
          rcases st with ⟨rfl, rfl, al⟩ | ⟨j, wj, rfl, rfl, h1, h2, h3⟩
          · refine ite2 (fun _ => ixs hp (by rw [Int.zero_add]; exact atI_nat hy) ⟨xs, seqOr hp, y, w', _, rfl, yw, _, rfl, ?_⟩) (fun h => absurd rfl h)
            rw [len]
            cases z : fitB us.length w' with
            | true =>
              refine ite2 (fun h => nomatch h) (fun _ => ⟨_, rfl, rfl, .inl ⟨rfl, rfl, fun w m => ?_⟩⟩)
              rw [List.take_add_one, hw] at m
              rcases List.mem_append.mp m with m | m
              · exact al w m
              · rw [List.mem_singleton.mp m]; exact z
            | false => exact ite2 (fun _ => ⟨_, rfl, rfl, .inr ⟨rfl, i, by omega, w', hw, z, al⟩⟩) (fun h => absurd rfl h)
          · exact ite2 (fun h => absurd (V.str.inj h) mm) (fun _ => ⟨_, rfl, .inr ⟨rfl, j, rfl, wj, h1, h2, h3⟩⟩)
        · rintro σ H9 ⟨due, plc, o9, rfl, rfl, st⟩
          walk_at "rd"
          have mm : ¬ (("refused" : Str) = "made") := by decide +kernel
          refine ⟨rfl, ?_⟩
          have no : rowB 1 8 w8 = false → False := fun z => by rw [rb] at z; cases z
          rcases st with ⟨rfl, rfl, al⟩ | ⟨j, wj, rfl, rfl, h1, h2, h3⟩
          · refine ite2 (fun _ => ⟨p, l, xs, us, rfl, hp, iw, u8, al, fun H10 e10 => ⟨_, rfl, ?_⟩⟩) (fun h => absurd rfl h)
            have bad : ∀ {i : Nat} {w : Wv}, us[i]? = some w → fitB us.length w = false → False := fun h1 h2 => by
              rw [al _ (List.mem_of_getElem? h1)] at h2
              cases h2
            cases fo : firstOpen (after (us.map rowD) us.length) with
            | none =>
              refine ite2 (fun h => nomatch h) (fun _ => hR _ _ ⟨_, _, _, rfl, e10, fun z => (no z).elim, fun ws e _ _ => ?_⟩)
              rw [ew] at e
              cases e
              exact ⟨fun i w a b _ => (bad a b).elim, fun _ => ⟨fun _ => rfl, fun k h => (by rw [fo] at h; cases h)⟩⟩
            | some m =>
              refine ite2 (fun _ => hR _ _ ⟨_, _, _, rfl, e10, fun z => (no z).elim, fun ws e _ _ => ?_⟩) (fun h => absurd rfl h)
              rw [ew] at e
              cases e
              exact ⟨fun i w a b _ => (bad a b).elim, fun _ => ⟨fun h => (by rw [fo] at h; cases h), fun k _ => rfl⟩⟩
          · refine ite2 (fun h => absurd (V.str.inj h) mm) (fun _ => hR _ _ ⟨_, _, _, rfl, Same.refl _, fun z => (no z).elim, fun ws e _ _ => ?_⟩)
            rw [ew] at e
            cases e
            refine ⟨fun i w a1 a2 a3 => ⟨rfl, ?_⟩, fun al => by rw [al _ (List.mem_of_getElem? h1)] at h2; cases h2⟩
            have : ¬ i < j := fun lt => by
              rw [h3 w (List.mem_of_getElem? (by rw [List.getElem?_take_of_lt lt]; exact a1))] at a2
              cases a2
            have : ¬ j < i := fun lt => by
              rw [a3 wj (List.mem_of_getElem? (by rw [List.getElem?_take_of_lt lt]; exact h1))] at h2
              cases h2
            rw [show i = j by omega]
    obtain ⟨due, plc, o9, rfl, e9, dk⟩ := h
    have txt : ∀ {H' : Hp} {QQ : VK}, Same H8 H' → (∀ H2, Same H' H2 → QQ (.str (tx w8)) H2) → spText a.C_Frac 10 [v8] H' QQ E0 := fun {H' QQ} e kk => ⟨v8, w8, rfl, iv8.same e, vt8.1, kk⟩
    have made : ∀ {H' : Hp} {QQ : VK}, Same H8 H' → (∀ H2, Same H' H2 → QQ (.bl true) H2) → spMade a.C_Frac [v8, .str due, plc] H' QQ E0 := fun {H' QQ} e kk => ⟨v8, w8, due, plc, rfl, iv8.same e, vr8, dk, kk⟩
    refine cut (fun σ H10 => σ = [some (V.ref p0), some (V.ref b), some (V.int n), o3, some (V.ref D), some v8, some (V.int x), some (V.str due), some plc, o9, some (V.str (tx w8)), none] ∧ Same H8 H10) (fun R hR => ?_) (fun σ H10 h => ?_)
    · walk_at "rd"
      exact txt e9 fun H2 e2 => hR _ _ ⟨rfl, e9.trans e2⟩
    obtain ⟨rfl, e10⟩ := h
    refine cut (fun σ H11 => σ = [some (V.ref p0), some (V.ref b), some (V.int n), o3, some (V.ref D), some v8, some (V.int x), some (V.str due), some plc, o9, some (V.str (tx w8)), none] ∧ Same H8 H11) (fun R hR => ?_) (fun σ H11 h => ?_)
    · walk_at "rd"
      refine made e10 fun H2 e2 => ⟨_, rfl, ?_⟩
      rw [if_neg (by decide)]
      refine txt (e10.trans e2) fun H3 e3 => ⟨rfl, ?_⟩
      rw [if_neg (by simp)]
      exact hR _ _ ⟨rfl, (e10.trans e2).trans e3⟩
    obtain ⟨rfl, e11⟩ := h
    refine cut (fun σ H12 => σ = [some (V.ref p0), some (V.ref b), some (V.int n), o3, some (V.ref D), some v8, some (V.int x), some (V.str due), some plc, o9, some (V.str (tx w8)), none] ∧ Same H8 H12) (fun R hR => ?_) (fun σ H12 h => ?_)
    · walk_at "rd"
      refine made e11 fun H2 e2 => ⟨_, rfl, ?_⟩
      rw [if_neg (by decide)]
      refine txt (e11.trans e2) fun H3 e3 => ⟨rfl, ?_⟩
      rw [if_neg (by simp)]
      exact hR _ _ ⟨rfl, (e11.trans e2).trans e3⟩
    obtain ⟨rfl, e12⟩ := h
    have B12 := B8.same e12
    have e412 : But b H4 H12 := ((e46.trans e7).trans e8).trans (Same.but e12)
    have e212 := e4.trans e412
    have hD12 := e412 _ _ Db hD4
    have hx12 := IsNs.noD B B4 e412 hx4
    refine cut (fun σ H13 => ∃ M, σ = [some (V.ref p0), some (V.ref b), some (V.int n), o3, some (V.ref D), some v8, some (V.int x), some (V.str due), some plc, o9, some (V.str (tx w8)), some (V.ref M)] ∧ Same H12 H13 ∧ H12 M = none ∧ H13 M = some (.lst xs4)) (fun R hR => ?_) (fun σ H13 h => ?_)
    · walk_at "rd"
      exact ⟨xs4, .inl (SqL.of hD12), fun M hM => hR _ _ ⟨M, rfl, same_upd hM, hM, upd_same⟩⟩
    obtain ⟨M, rfl, e13, M0, hM13⟩ := h
    have Mb := B12.ne_new M0
    have MD : M ≠ D := fun z => by rw [z, hD12] at M0; cases M0
    have M02 : H2 M = none := e212.free Mb M0
    have e213 := e212.trans (Same.but e13)
    refine cut (fun σ H14 => ∃ o3 xs ws, σ = [some (V.ref p0), some (V.ref b), some (V.int n), o3, some (V.ref D), some v8, some (V.int x), some (V.str due), some plc, o9, some (V.str (tx w8)), some (V.ref M)] ∧ BoxAt K H14 b c ns ∧ But b H2 H14 ∧ H14 M = some (.lst xs) ∧ IsNs a.C_Frac H2 (noD M H14) xs ws ∧ ws.length = 9 ∧ ∀ w ∈ ws, RowW w) (fun R hR => ?_) (fun σ H14 h => ?_)
    · walk_at "rd"
      rw [show ((9 : Int) - (n : Int)).toNat = 9 - n by omega]
      have xs13 : IsNs a.C_Frac H2 (noD M H13) xs4 ws4 := hx12.all.go (fun q o _ z => noD_of (fun e => by rw [e, M0] at z; cases z) (e13 _ _ z)) fun _ z => z
      refine ⟨by omega, by omega, Rd.loop_rngC (fun σ H14 => ∃ o3 xs ws, σ = [some (V.ref p0), some (V.ref b), some (V.int n), o3, some (V.ref D), some v8, some (V.int x), some (V.str due), some plc, o9, some (V.str (tx w8)), some (V.ref M)] ∧ BoxAt K H14 b c ns ∧ But b H2 H14 ∧ H14 M = some (.lst xs) ∧ IsNs a.C_Frac H2 (noD M H14) xs ws ∧ ws.length = 9 ∧ ∀ w ∈ ws, RowW w)
        (fun i σ H14 => ∃ o3 xs ws, σ = [some (V.ref p0), some (V.ref b), some (V.int n), o3, some (V.ref D), some v8, some (V.int x), some (V.str due), some plc, o9, some (V.str (tx w8)), some (V.ref M)] ∧ BoxAt K H14 b c ns ∧ But b H2 H14 ∧ H14 M = some (.lst xs) ∧ IsNs a.C_Frac H2 (noD M H14) xs ws ∧ ws.length = n + i ∧ ∀ w ∈ ws, RowW w)
        ⟨o3, xs4, ws4, rfl, B12.same e13, e213, hM13, xs13, by omega, wr4⟩ ?_ (fun σ H14 ⟨o3, xs, ws, q1, q2, q3, q4, q5, q6, q7⟩ => ⟨o3, xs, ws, q1, q2, q3, q4, q5, by omega, q7⟩) (fun σ H14 z => hR _ _ z)⟩
      rintro bk hbk i σ H5 hi ⟨o3, xs, ws, rfl, B5, e5, hM5, hx5, wl5, wr5⟩
      walk_at "rd"
      simp only [tBM, rAppend]
      walk_at "rd"
      have xl5 := hx5.len
      refine ⟨.inl ⟨rfl, _, SqL.of hM5⟩, b, c, ns, n, rfl, B5, n1, n8, fun v w' H6 B6 e6 vn vt vr => ?_⟩
      have hM6 := e6 _ _ Mb hM5
      have eU : But b H2 (upd H6 M (.lst (xs ++ [v]))) := (e5.trans e6).updn M02
      refine ⟨xs, hM6, small1000 (by omega), B.upd B6 Mb eU, eU, ws ++ [w'], ?_, by rw [List.length_append, wl5]; rfl, fun w m => ?_⟩
      · rw [noD_upd]
        exact (IsNs.noD B B5 e6 hx5).app (.cons (vn.since B5 e5 hM5 hM6) .nil)
      · rcases List.mem_append.mp m with m | m
        · exact wr5 w m
        · rw [List.mem_singleton.mp m]; exact ⟨vt, vr⟩
    obtain ⟨o3', xs14, ws14, rfl, B14, e14, hM14, hx14, wl14, wr14⟩ := h
    walk_at "rd"
    refine ⟨b, c, M, ns, xs14, rfl, B14, Mb, hM14, fun q l H15 B15 e15 qb hq hn => ?_⟩
    have vn := seqN (C := a.C_Frac) (H := H2) hq (fun h => by rw [hn h]; exact M02) (IsNs.noD B B14 e15 hx14).all
    refine ⟨_, seqW l ws14, _, _, rfl, vn.is, rowsOk_of wr14, ⟨fun _ => ⟨rfl, rfl⟩, fun us e r1 r8 => ?_⟩, fun H16 _ => k H16⟩
    rw [el_seq] at e
    cases e
    omega
/-! ### law -/
def spLaw (K : PySem.W.Frag) : Sp := fun vs H Q _ => ∃ (a : Addr) (ns : List Int), vs = [.ref a] ∧ SqL K H a (ns.map V.int) ∧ ns.length ≤ 63 ∧ ∀ H', Q (.bl true) H'
theorem sc_law : FnScope ["script"] ["script"] (defScope s_law) := ⟨rfl, rfl, rfl, by decide +kernel, rfl, by decide +kernel, by decide +kernel⟩
theorem ok_law (T : Txt K mg a) : FnOk P w K mg base CX0 17 a.a_law a.d_law ["script"] (spLaw K) := by
  refine T.fn_law.ok sc_law (fun vs H Q E h => ?_) (fun cdv A outer s H vs Q E hr h => ?_)
  · obtain ⟨p, ns, rfl, _⟩ := h
    rfl
  · obtain ⟨p0, ns, rfl, hs, hl, k⟩ := h
    refine ⟨_, (pss_one (ps_try_thru0 (pss_one (ps_ret (pe_call (ok_law_all T) (hr.mono (by decide)) (by rfl) T.mg_law_all T.fn_law_all.kp T.b_law_all .nil pass0 (pa_cons (pv 0) pa_nil)))))), ?_⟩
    show (_ : TS) _ [some (V.ref p0)] H
    walk_at "rd"
    exact ⟨p0, ns, rfl, hs, hl, k⟩
end

end K05
namespace K05
open PySem PySem.Spec PyProof.Rows L2
theorem kit_self {K : PySem.W.Frag} {C : Addr} : PySem.W.kitOne K (.ref C) (.ref C) = some true := by
  unfold PySem.W.kitOne
  rw [if_pos (beq_self_eq_true _)]
theorem kit_own {K : PySem.W.Frag} {C : Addr} {t : String} {b : Bool} (h1 : PySem.W.isClsIn K C = true) (h2 : PySem.W.typeIn K (.ref C) = some (.type "type")) (h3 : PySem.W.subIn K (.type t) (.ref C) = some b) : PySem.W.kitOne K (.type t) (.ref C) = some b := by
  have e : (PySem.W.clsIn K C).isSome = true := h1
  unfold PySem.W.kitOne PySem.W.kitCls
  rw [if_neg (fun q => by cases beq_iff_eq.mp q)]
  simp only [e, h2, h3]
  rfl
theorem kit_rr {K : PySem.W.Frag} {A C : Addr} {b : Bool} (hne : A ≠ C) (h1 : PySem.W.isClsIn K C = true) (h2 : PySem.W.typeIn K (.ref C) = some (.type "type")) (h3 : PySem.W.subIn K (.ref A) (.ref C) = some b) : PySem.W.kitOne K (.ref A) (.ref C) = some b := by
  have e : (PySem.W.clsIn K C).isSome = true := h1
  unfold PySem.W.kitOne PySem.W.kitCls
  rw [if_neg (fun q => hne (Value.ref.inj (beq_iff_eq.mp q)))]
  simp only [e, h2, h3]
  rfl
theorem kit_bi {K : PySem.W.Frag} {C : Addr} {t : String} {b : Bool} (h : PySem.W.subIn K (.ref C) (.type t) = some b) (h1 : PySem.W.kitMeta t = true) : PySem.W.kitOne K (.ref C) (.type t) = some b := by
  unfold PySem.W.kitOne PySem.W.kitCls
  rw [if_neg (fun q => by cases beq_iff_eq.mp q)]
  simp only [h1, if_true, h]
theorem exm_of {K : PySem.W.Frag} {E S : Addr} {b : Bool} (h1 : PySem.W.subIn K (.ref S) (.type "BaseException") = some true) (h2 : PySem.W.isClsIn K S = true) (h3 : PySem.W.typeIn K (.ref S) = some (.type "type")) (h4 : PySem.W.subIn K (.ref E) (.ref S) = some b) :
    PySem.W.exmOne K (.ref E) (.ref S) = some b := by
  have e : (PySem.W.clsIn K S).isSome = true := h2
  unfold PySem.W.exmOne PySem.W.kitCls
  simp only [h1, e, h3, h4]
  rfl
theorem exm_self {K : PySem.W.Frag} {S : Addr} (h1 : PySem.W.subIn K (.ref S) (.type "BaseException") = some true) (h2 : PySem.W.isClsIn K S = true) (h3 : PySem.W.typeIn K (.ref S) = some (.type "type")) (h4 : PySem.W.subIn K (.ref S) (.ref S) = some true) :
    PySem.W.exmOne K (.ref S) (.ref S) = some true := by
  have e : (PySem.W.clsIn K S).isSome = true := h2
  unfold PySem.W.exmOne PySem.W.kitCls
  simp only [h1, e, h3, h4]
  rfl
theorem txt_mk {K : PySem.W.Frag} {h : Heap} {mg : Str → Option Value} {C_Frac C_Project C_InvalidProject C_Endless C_NextError a_InvalidProject_init a_Endless_init a_is_whole a_is_within a_is_row_of a_Frac_init a_as_frac a_is_amount a_is_cost a_are_goals a_clean_row a_first_endless a_is_step_into a_clean_rows a_Project_init a_Project_len a_Project_kind a_law_box a_law_draw a_law_integer a_law_row_of a_law_shape a_law_worth a_law_right_row a_law_deep a_law_no_amount a_law_no_number a_law_no_goals a_law_no_row a_law_amount a_law_goals_fit a_law_fits a_law_endless a_law_text a_law_made a_law_all a_law : Addr} (X : K.In h) (G : h.Ns mainGlobals mg)
    {od_InvalidProject_init an_InvalidProject_init od_Endless_init an_Endless_init od_is_whole an_is_whole od_is_within an_is_within od_is_row_of an_is_row_of od_Frac_init an_Frac_init od_as_frac an_as_frac od_is_amount an_is_amount od_is_cost an_is_cost od_are_goals an_are_goals od_clean_row an_clean_row od_first_endless an_first_endless od_is_step_into an_is_step_into od_clean_rows an_clean_rows od_Project_init an_Project_init od_Project_len an_Project_len od_Project_kind an_Project_kind od_law_box an_law_box od_law_draw an_law_draw od_law_integer an_law_integer od_law_row_of an_law_row_of od_law_shape an_law_shape od_law_worth an_law_worth od_law_right_row an_law_right_row od_law_deep an_law_deep od_law_no_amount an_law_no_amount od_law_no_number an_law_no_number od_law_no_goals an_law_no_goals od_law_no_row an_law_no_row od_law_amount an_law_amount od_law_goals_fit an_law_goals_fit od_law_fits an_law_fits od_law_endless an_law_endless od_law_text an_law_text od_law_made an_law_made od_law_all an_law_all od_law an_law : Option Addr} {sl_InvalidProject_init sl_Endless_init sl_is_whole sl_is_within sl_is_row_of sl_Frac_init sl_as_frac sl_is_amount sl_is_cost sl_are_goals sl_clean_row sl_first_endless sl_is_step_into sl_clean_rows sl_Project_init sl_Project_len sl_Project_kind sl_law_box sl_law_draw sl_law_integer sl_law_row_of sl_law_shape sl_law_worth sl_law_right_row sl_law_deep sl_law_no_amount sl_law_no_number sl_law_no_goals sl_law_no_row sl_law_amount sl_law_goals_fit sl_law_fits sl_law_endless sl_law_text sl_law_made sl_law_all sl_law : Array (Option Value)} {oc_InvalidProject_init kV_InvalidProject_init dc_InvalidProject_init pm_InvalidProject_init cd_InvalidProject_init ct_InvalidProject_init oc_Endless_init kV_Endless_init dc_Endless_init pm_Endless_init cd_Endless_init ct_Endless_init oc_is_whole kV_is_whole dc_is_whole pm_is_whole cd_is_whole ct_is_whole oc_is_within kV_is_within dc_is_within pm_is_within cd_is_within ct_is_within oc_is_row_of kV_is_row_of dc_is_row_of pm_is_row_of cd_is_row_of ct_is_row_of oc_Frac_init kV_Frac_init dc_Frac_init pm_Frac_init cd_Frac_init ct_Frac_init oc_as_frac kV_as_frac dc_as_frac pm_as_frac cd_as_frac ct_as_frac oc_is_amount kV_is_amount dc_is_amount pm_is_amount cd_is_amount ct_is_amount oc_is_cost kV_is_cost dc_is_cost pm_is_cost cd_is_cost ct_is_cost oc_are_goals kV_are_goals dc_are_goals pm_are_goals cd_are_goals ct_are_goals oc_clean_row kV_clean_row dc_clean_row pm_clean_row cd_clean_row ct_clean_row oc_first_endless kV_first_endless dc_first_endless pm_first_endless cd_first_endless ct_first_endless oc_is_step_into kV_is_step_into dc_is_step_into pm_is_step_into cd_is_step_into ct_is_step_into oc_clean_rows kV_clean_rows dc_clean_rows pm_clean_rows cd_clean_rows ct_clean_rows oc_Project_init kV_Project_init dc_Project_init pm_Project_init cd_Project_init ct_Project_init oc_Project_len kV_Project_len dc_Project_len pm_Project_len cd_Project_len ct_Project_len oc_Project_kind kV_Project_kind dc_Project_kind pm_Project_kind cd_Project_kind ct_Project_kind oc_law_box kV_law_box dc_law_box pm_law_box cd_law_box ct_law_box oc_law_draw kV_law_draw dc_law_draw pm_law_draw cd_law_draw ct_law_draw oc_law_integer kV_law_integer dc_law_integer pm_law_integer cd_law_integer ct_law_integer oc_law_row_of kV_law_row_of dc_law_row_of pm_law_row_of cd_law_row_of ct_law_row_of oc_law_shape kV_law_shape dc_law_shape pm_law_shape cd_law_shape ct_law_shape oc_law_worth kV_law_worth dc_law_worth pm_law_worth cd_law_worth ct_law_worth oc_law_right_row kV_law_right_row dc_law_right_row pm_law_right_row cd_law_right_row ct_law_right_row oc_law_deep kV_law_deep dc_law_deep pm_law_deep cd_law_deep ct_law_deep oc_law_no_amount kV_law_no_amount dc_law_no_amount pm_law_no_amount cd_law_no_amount ct_law_no_amount oc_law_no_number kV_law_no_number dc_law_no_number pm_law_no_number cd_law_no_number ct_law_no_number oc_law_no_goals kV_law_no_goals dc_law_no_goals pm_law_no_goals cd_law_no_goals ct_law_no_goals oc_law_no_row kV_law_no_row dc_law_no_row pm_law_no_row cd_law_no_row ct_law_no_row oc_law_amount kV_law_amount dc_law_amount pm_law_amount cd_law_amount ct_law_amount oc_law_goals_fit kV_law_goals_fit dc_law_goals_fit pm_law_goals_fit cd_law_goals_fit ct_law_goals_fit oc_law_fits kV_law_fits dc_law_fits pm_law_fits cd_law_fits ct_law_fits oc_law_endless kV_law_endless dc_law_endless pm_law_endless cd_law_endless ct_law_endless oc_law_text kV_law_text dc_law_text pm_law_text cd_law_text ct_law_text oc_law_made kV_law_made dc_law_made pm_law_made cd_law_made ct_law_made oc_law_all kV_law_all dc_law_all pm_law_all cd_law_all ct_law_all oc_law kV_law dc_law pm_law cd_law ct_law : Value}
    {nm_InvalidProject qq_InvalidProject : Str} {N_InvalidProject : Addr} {bs_InvalidProject : List Value} {sn_InvalidProject : List Str} {sub_InvalidProject : List Value} {ab_InvalidProject : Bool} {col_InvalidProject : Option Bool} {dd_InvalidProject : Option Addr} {m0_InvalidProject m1_InvalidProject m2_InvalidProject m3_InvalidProject m5_InvalidProject : Option Value}
    {nm_Endless qq_Endless : Str} {N_Endless : Addr} {bs_Endless : List Value} {sn_Endless : List Str} {sub_Endless : List Value} {ab_Endless : Bool} {col_Endless : Option Bool} {dd_Endless : Option Addr} {m0_Endless m1_Endless m2_Endless m3_Endless m5_Endless : Option Value}
    {T_Frac_init : Addr} {o_Frac_init : Obj} {m_Frac_init : Nat} {tk0_Frac_init : Tok}
    {t_MOST_STATES : Tok}
    {t_MOST_GOALS : Tok}
    {t_MOST_WEIGHT : Tok}
    {t_MOST_NUM : Tok}
    {t_MOST_DEN : Tok}
    (hC_Frac : PySem.W.nsIn K mainGlobals "Frac" = some (some (.ref C_Frac)))
    (hC_Project : PySem.W.nsIn K mainGlobals "Project" = some (some (.ref C_Project)))
    (hC_InvalidProject : PySem.W.nsIn K mainGlobals "InvalidProject" = some (some (.ref C_InvalidProject)))
    (hC_Endless : PySem.W.nsIn K mainGlobals "Endless" = some (some (.ref C_Endless)))
    (hC_NextError : PySem.W.nsIn K mainGlobals "NextError" = some (some (.ref C_NextError)))
    (pg_Frac : PySem.W.plainGet K C_Frac Str.empty = true)
    (hd_Frac : PySem.W.hasDictIn K C_Frac = true)
    (po_Frac : PySem.W.plainOver K C_Frac = true)
    (sa_Frac : PySem.W.findIn K (.ref C_Frac) "__setattr__" = some (some (.builtin "object.__setattr__")))
    (mk_Frac : PySem.W.makesIn K C_Frac = true)
    (kc_Frac : PySem.W.keepIn K (.ref C_Frac) = true)
    (na_Frac_num : PySem.W.findIn K (.ref C_Frac) "num" = some none)
    (na_Frac_den : PySem.W.findIn K (.ref C_Frac) "den" = some none)
    (cg_Frac : PySem.W.findIn K (.ref C_Frac) "__class__" = some (some (.builtin "object.__class__")))
    (mr_Frac : PySem.W.mroIn K C_Frac (.type "object") = some true)
    (pg_Project : PySem.W.plainGet K C_Project Str.empty = true)
    (hd_Project : PySem.W.hasDictIn K C_Project = true)
    (po_Project : PySem.W.plainOver K C_Project = true)
    (sa_Project : PySem.W.findIn K (.ref C_Project) "__setattr__" = some (some (.builtin "object.__setattr__")))
    (mk_Project : PySem.W.makesIn K C_Project = true)
    (kc_Project : PySem.W.keepIn K (.ref C_Project) = true)
    (na_Project_rows : PySem.W.findIn K (.ref C_Project) "rows" = some none)
    (cg_Project : PySem.W.findIn K (.ref C_Project) "__class__" = some (some (.builtin "object.__class__")))
    (mr_Project : PySem.W.mroIn K C_Project (.type "object") = some true)
    (cget : PySem.W.specialIn K (.builtin "object.__class__") "__get__" = some (some (.builtin "getset_descriptor.__get__")))
    (ctk : PySem.W.takesIn K (.builtin "object.__class__") = some true)
    (f_InvalidProject_init : PySem.W.findIn K (.ref C_InvalidProject) "__init__" = some (some (.ref a_InvalidProject_init)))
    (l_InvalidProject_init : K.lookup a_InvalidProject_init = some ⟨oc_InvalidProject_init, od_InvalidProject_init, .func (PySem.W.fnOf "__init__" "InvalidProject.__init__" (defArgs s_InvalidProject_init) (defBody s_InvalidProject_init) (defScope s_InvalidProject_init) .none kV_InvalidProject_init dc_InvalidProject_init pm_InvalidProject_init an_InvalidProject_init cd_InvalidProject_init ct_InvalidProject_init), sl_InvalidProject_init⟩)
    (c_InvalidProject_init : PySem.W.codeIn K cd_InvalidProject_init "InvalidProject.__init__" = true)
    (k_InvalidProject_init : PySem.W.keepIn K (.ref a_InvalidProject_init) = true)
    (f_Endless_init : PySem.W.findIn K (.ref C_Endless) "__init__" = some (some (.ref a_Endless_init)))
    (l_Endless_init : K.lookup a_Endless_init = some ⟨oc_Endless_init, od_Endless_init, .func (PySem.W.fnOf "__init__" "Endless.__init__" (defArgs s_Endless_init) (defBody s_Endless_init) (defScope s_Endless_init) .none kV_Endless_init dc_Endless_init pm_Endless_init an_Endless_init cd_Endless_init ct_Endless_init), sl_Endless_init⟩)
    (c_Endless_init : PySem.W.codeIn K cd_Endless_init "Endless.__init__" = true)
    (k_Endless_init : PySem.W.keepIn K (.ref a_Endless_init) = true)
    (n_is_whole : PySem.W.nsIn K mainGlobals "is_whole" = some (some (.ref a_is_whole)))
    (l_is_whole : K.lookup a_is_whole = some ⟨oc_is_whole, od_is_whole, .func (PySem.W.fnOf "is_whole" "is_whole" (defArgs s_is_whole) (defBody s_is_whole) (defScope s_is_whole) .none kV_is_whole dc_is_whole pm_is_whole an_is_whole cd_is_whole ct_is_whole), sl_is_whole⟩)
    (c_is_whole : PySem.W.codeIn K cd_is_whole "is_whole" = true)
    (k_is_whole : PySem.W.keepIn K (.ref a_is_whole) = true)
    (n_is_within : PySem.W.nsIn K mainGlobals "is_within" = some (some (.ref a_is_within)))
    (l_is_within : K.lookup a_is_within = some ⟨oc_is_within, od_is_within, .func (PySem.W.fnOf "is_within" "is_within" (defArgs s_is_within) (defBody s_is_within) (defScope s_is_within) .none kV_is_within dc_is_within pm_is_within an_is_within cd_is_within ct_is_within), sl_is_within⟩)
    (c_is_within : PySem.W.codeIn K cd_is_within "is_within" = true)
    (k_is_within : PySem.W.keepIn K (.ref a_is_within) = true)
    (n_is_row_of : PySem.W.nsIn K mainGlobals "is_row_of" = some (some (.ref a_is_row_of)))
    (l_is_row_of : K.lookup a_is_row_of = some ⟨oc_is_row_of, od_is_row_of, .func (PySem.W.fnOf "is_row_of" "is_row_of" (defArgs s_is_row_of) (defBody s_is_row_of) (defScope s_is_row_of) .none kV_is_row_of dc_is_row_of pm_is_row_of an_is_row_of cd_is_row_of ct_is_row_of), sl_is_row_of⟩)
    (c_is_row_of : PySem.W.codeIn K cd_is_row_of "is_row_of" = true)
    (k_is_row_of : PySem.W.keepIn K (.ref a_is_row_of) = true)
    (f_Frac_init : PySem.W.findIn K (.ref C_Frac) "__init__" = some (some (.ref a_Frac_init)))
    (i_Frac_init : PySem.W.isFn K (.ref a_Frac_init) = true)
    (l_Frac_init : K.lookup a_Frac_init = some ⟨oc_Frac_init, od_Frac_init, .func (PySem.W.fnOf "__init__" "Frac.__init__" (defArgs s_Frac_init) (defBody s_Frac_init) (defScope s_Frac_init) (.ref T_Frac_init) kV_Frac_init dc_Frac_init pm_Frac_init an_Frac_init cd_Frac_init ct_Frac_init), sl_Frac_init⟩)
    (c_Frac_init : PySem.W.codeIn K cd_Frac_init "Frac.__init__" = true)
    (k_Frac_init : PySem.W.keepIn K (.ref a_Frac_init) = true)
    (t_Frac_init : K.lookup T_Frac_init = some o_Frac_init)
    (u_Frac_init : o_Frac_init.data = .seq [Value.int 1 tk0_Frac_init].toArray m_Frac_init)
    (n_as_frac : PySem.W.nsIn K mainGlobals "as_frac" = some (some (.ref a_as_frac)))
    (l_as_frac : K.lookup a_as_frac = some ⟨oc_as_frac, od_as_frac, .func (PySem.W.fnOf "as_frac" "as_frac" (defArgs s_as_frac) (defBody s_as_frac) (defScope s_as_frac) .none kV_as_frac dc_as_frac pm_as_frac an_as_frac cd_as_frac ct_as_frac), sl_as_frac⟩)
    (c_as_frac : PySem.W.codeIn K cd_as_frac "as_frac" = true)
    (k_as_frac : PySem.W.keepIn K (.ref a_as_frac) = true)
    (n_is_amount : PySem.W.nsIn K mainGlobals "is_amount" = some (some (.ref a_is_amount)))
    (l_is_amount : K.lookup a_is_amount = some ⟨oc_is_amount, od_is_amount, .func (PySem.W.fnOf "is_amount" "is_amount" (defArgs s_is_amount) (defBody s_is_amount) (defScope s_is_amount) .none kV_is_amount dc_is_amount pm_is_amount an_is_amount cd_is_amount ct_is_amount), sl_is_amount⟩)
    (c_is_amount : PySem.W.codeIn K cd_is_amount "is_amount" = true)
    (k_is_amount : PySem.W.keepIn K (.ref a_is_amount) = true)
    (n_is_cost : PySem.W.nsIn K mainGlobals "is_cost" = some (some (.ref a_is_cost)))
    (l_is_cost : K.lookup a_is_cost = some ⟨oc_is_cost, od_is_cost, .func (PySem.W.fnOf "is_cost" "is_cost" (defArgs s_is_cost) (defBody s_is_cost) (defScope s_is_cost) .none kV_is_cost dc_is_cost pm_is_cost an_is_cost cd_is_cost ct_is_cost), sl_is_cost⟩)
    (c_is_cost : PySem.W.codeIn K cd_is_cost "is_cost" = true)
    (k_is_cost : PySem.W.keepIn K (.ref a_is_cost) = true)
    (n_are_goals : PySem.W.nsIn K mainGlobals "are_goals" = some (some (.ref a_are_goals)))
    (l_are_goals : K.lookup a_are_goals = some ⟨oc_are_goals, od_are_goals, .func (PySem.W.fnOf "are_goals" "are_goals" (defArgs s_are_goals) (defBody s_are_goals) (defScope s_are_goals) .none kV_are_goals dc_are_goals pm_are_goals an_are_goals cd_are_goals ct_are_goals), sl_are_goals⟩)
    (c_are_goals : PySem.W.codeIn K cd_are_goals "are_goals" = true)
    (k_are_goals : PySem.W.keepIn K (.ref a_are_goals) = true)
    (n_clean_row : PySem.W.nsIn K mainGlobals "clean_row" = some (some (.ref a_clean_row)))
    (l_clean_row : K.lookup a_clean_row = some ⟨oc_clean_row, od_clean_row, .func (PySem.W.fnOf "clean_row" "clean_row" (defArgs s_clean_row) (defBody s_clean_row) (defScope s_clean_row) .none kV_clean_row dc_clean_row pm_clean_row an_clean_row cd_clean_row ct_clean_row), sl_clean_row⟩)
    (c_clean_row : PySem.W.codeIn K cd_clean_row "clean_row" = true)
    (k_clean_row : PySem.W.keepIn K (.ref a_clean_row) = true)
    (n_first_endless : PySem.W.nsIn K mainGlobals "first_endless" = some (some (.ref a_first_endless)))
    (l_first_endless : K.lookup a_first_endless = some ⟨oc_first_endless, od_first_endless, .func (PySem.W.fnOf "first_endless" "first_endless" (defArgs s_first_endless) (defBody s_first_endless) (defScope s_first_endless) .none kV_first_endless dc_first_endless pm_first_endless an_first_endless cd_first_endless ct_first_endless), sl_first_endless⟩)
    (c_first_endless : PySem.W.codeIn K cd_first_endless "first_endless" = true)
    (k_first_endless : PySem.W.keepIn K (.ref a_first_endless) = true)
    (n_is_step_into : PySem.W.nsIn K mainGlobals "is_step_into" = some (some (.ref a_is_step_into)))
    (l_is_step_into : K.lookup a_is_step_into = some ⟨oc_is_step_into, od_is_step_into, .func (PySem.W.fnOf "is_step_into" "is_step_into" (defArgs s_is_step_into) (defBody s_is_step_into) (defScope s_is_step_into) .none kV_is_step_into dc_is_step_into pm_is_step_into an_is_step_into cd_is_step_into ct_is_step_into), sl_is_step_into⟩)
    (c_is_step_into : PySem.W.codeIn K cd_is_step_into "is_step_into" = true)
    (k_is_step_into : PySem.W.keepIn K (.ref a_is_step_into) = true)
    (n_clean_rows : PySem.W.nsIn K mainGlobals "clean_rows" = some (some (.ref a_clean_rows)))
    (l_clean_rows : K.lookup a_clean_rows = some ⟨oc_clean_rows, od_clean_rows, .func (PySem.W.fnOf "clean_rows" "clean_rows" (defArgs s_clean_rows) (defBody s_clean_rows) (defScope s_clean_rows) .none kV_clean_rows dc_clean_rows pm_clean_rows an_clean_rows cd_clean_rows ct_clean_rows), sl_clean_rows⟩)
    (c_clean_rows : PySem.W.codeIn K cd_clean_rows "clean_rows" = true)
    (k_clean_rows : PySem.W.keepIn K (.ref a_clean_rows) = true)
    (f_Project_init : PySem.W.findIn K (.ref C_Project) "__init__" = some (some (.ref a_Project_init)))
    (i_Project_init : PySem.W.isFn K (.ref a_Project_init) = true)
    (l_Project_init : K.lookup a_Project_init = some ⟨oc_Project_init, od_Project_init, .func (PySem.W.fnOf "__init__" "Project.__init__" (defArgs s_Project_init) (defBody s_Project_init) (defScope s_Project_init) .none kV_Project_init dc_Project_init pm_Project_init an_Project_init cd_Project_init ct_Project_init), sl_Project_init⟩)
    (c_Project_init : PySem.W.codeIn K cd_Project_init "Project.__init__" = true)
    (k_Project_init : PySem.W.keepIn K (.ref a_Project_init) = true)
    (f_Project_len : PySem.W.findIn K (.ref C_Project) "__len__" = some (some (.ref a_Project_len)))
    (i_Project_len : PySem.W.isFn K (.ref a_Project_len) = true)
    (l_Project_len : K.lookup a_Project_len = some ⟨oc_Project_len, od_Project_len, .func (PySem.W.fnOf "__len__" "Project.__len__" (defArgs s_Project_len) (defBody s_Project_len) (defScope s_Project_len) .none kV_Project_len dc_Project_len pm_Project_len an_Project_len cd_Project_len ct_Project_len), sl_Project_len⟩)
    (c_Project_len : PySem.W.codeIn K cd_Project_len "Project.__len__" = true)
    (k_Project_len : PySem.W.keepIn K (.ref a_Project_len) = true)
    (f_Project_kind : PySem.W.findIn K (.ref C_Project) "kind" = some (some (.ref a_Project_kind)))
    (i_Project_kind : PySem.W.isFn K (.ref a_Project_kind) = true)
    (l_Project_kind : K.lookup a_Project_kind = some ⟨oc_Project_kind, od_Project_kind, .func (PySem.W.fnOf "kind" "Project.kind" (defArgs s_Project_kind) (defBody s_Project_kind) (defScope s_Project_kind) .none kV_Project_kind dc_Project_kind pm_Project_kind an_Project_kind cd_Project_kind ct_Project_kind), sl_Project_kind⟩)
    (c_Project_kind : PySem.W.codeIn K cd_Project_kind "Project.kind" = true)
    (k_Project_kind : PySem.W.keepIn K (.ref a_Project_kind) = true)
    (n_law_box : PySem.W.nsIn K mainGlobals "_law_box" = some (some (.ref a_law_box)))
    (l_law_box : K.lookup a_law_box = some ⟨oc_law_box, od_law_box, .func (PySem.W.fnOf "_law_box" "_law_box" (defArgs s_law_box) (defBody s_law_box) (defScope s_law_box) .none kV_law_box dc_law_box pm_law_box an_law_box cd_law_box ct_law_box), sl_law_box⟩)
    (c_law_box : PySem.W.codeIn K cd_law_box "_law_box" = true)
    (k_law_box : PySem.W.keepIn K (.ref a_law_box) = true)
    (n_law_draw : PySem.W.nsIn K mainGlobals "_law_draw" = some (some (.ref a_law_draw)))
    (l_law_draw : K.lookup a_law_draw = some ⟨oc_law_draw, od_law_draw, .func (PySem.W.fnOf "_law_draw" "_law_draw" (defArgs s_law_draw) (defBody s_law_draw) (defScope s_law_draw) .none kV_law_draw dc_law_draw pm_law_draw an_law_draw cd_law_draw ct_law_draw), sl_law_draw⟩)
    (c_law_draw : PySem.W.codeIn K cd_law_draw "_law_draw" = true)
    (k_law_draw : PySem.W.keepIn K (.ref a_law_draw) = true)
    (n_law_integer : PySem.W.nsIn K mainGlobals "_law_integer" = some (some (.ref a_law_integer)))
    (l_law_integer : K.lookup a_law_integer = some ⟨oc_law_integer, od_law_integer, .func (PySem.W.fnOf "_law_integer" "_law_integer" (defArgs s_law_integer) (defBody s_law_integer) (defScope s_law_integer) .none kV_law_integer dc_law_integer pm_law_integer an_law_integer cd_law_integer ct_law_integer), sl_law_integer⟩)
    (c_law_integer : PySem.W.codeIn K cd_law_integer "_law_integer" = true)
    (k_law_integer : PySem.W.keepIn K (.ref a_law_integer) = true)
    (n_law_row_of : PySem.W.nsIn K mainGlobals "_law_row_of" = some (some (.ref a_law_row_of)))
    (l_law_row_of : K.lookup a_law_row_of = some ⟨oc_law_row_of, od_law_row_of, .func (PySem.W.fnOf "_law_row_of" "_law_row_of" (defArgs s_law_row_of) (defBody s_law_row_of) (defScope s_law_row_of) .none kV_law_row_of dc_law_row_of pm_law_row_of an_law_row_of cd_law_row_of ct_law_row_of), sl_law_row_of⟩)
    (c_law_row_of : PySem.W.codeIn K cd_law_row_of "_law_row_of" = true)
    (k_law_row_of : PySem.W.keepIn K (.ref a_law_row_of) = true)
    (n_law_shape : PySem.W.nsIn K mainGlobals "_law_shape" = some (some (.ref a_law_shape)))
    (l_law_shape : K.lookup a_law_shape = some ⟨oc_law_shape, od_law_shape, .func (PySem.W.fnOf "_law_shape" "_law_shape" (defArgs s_law_shape) (defBody s_law_shape) (defScope s_law_shape) .none kV_law_shape dc_law_shape pm_law_shape an_law_shape cd_law_shape ct_law_shape), sl_law_shape⟩)
    (c_law_shape : PySem.W.codeIn K cd_law_shape "_law_shape" = true)
    (k_law_shape : PySem.W.keepIn K (.ref a_law_shape) = true)
    (n_law_worth : PySem.W.nsIn K mainGlobals "_law_worth" = some (some (.ref a_law_worth)))
    (l_law_worth : K.lookup a_law_worth = some ⟨oc_law_worth, od_law_worth, .func (PySem.W.fnOf "_law_worth" "_law_worth" (defArgs s_law_worth) (defBody s_law_worth) (defScope s_law_worth) .none kV_law_worth dc_law_worth pm_law_worth an_law_worth cd_law_worth ct_law_worth), sl_law_worth⟩)
    (c_law_worth : PySem.W.codeIn K cd_law_worth "_law_worth" = true)
    (k_law_worth : PySem.W.keepIn K (.ref a_law_worth) = true)
    (n_law_right_row : PySem.W.nsIn K mainGlobals "_law_right_row" = some (some (.ref a_law_right_row)))
    (l_law_right_row : K.lookup a_law_right_row = some ⟨oc_law_right_row, od_law_right_row, .func (PySem.W.fnOf "_law_right_row" "_law_right_row" (defArgs s_law_right_row) (defBody s_law_right_row) (defScope s_law_right_row) .none kV_law_right_row dc_law_right_row pm_law_right_row an_law_right_row cd_law_right_row ct_law_right_row), sl_law_right_row⟩)
    (c_law_right_row : PySem.W.codeIn K cd_law_right_row "_law_right_row" = true)
    (k_law_right_row : PySem.W.keepIn K (.ref a_law_right_row) = true)
    (n_law_deep : PySem.W.nsIn K mainGlobals "_law_deep" = some (some (.ref a_law_deep)))
    (l_law_deep : K.lookup a_law_deep = some ⟨oc_law_deep, od_law_deep, .func (PySem.W.fnOf "_law_deep" "_law_deep" (defArgs s_law_deep) (defBody s_law_deep) (defScope s_law_deep) .none kV_law_deep dc_law_deep pm_law_deep an_law_deep cd_law_deep ct_law_deep), sl_law_deep⟩)
    (c_law_deep : PySem.W.codeIn K cd_law_deep "_law_deep" = true)
    (k_law_deep : PySem.W.keepIn K (.ref a_law_deep) = true)
    (n_law_no_amount : PySem.W.nsIn K mainGlobals "_law_no_amount" = some (some (.ref a_law_no_amount)))
    (l_law_no_amount : K.lookup a_law_no_amount = some ⟨oc_law_no_amount, od_law_no_amount, .func (PySem.W.fnOf "_law_no_amount" "_law_no_amount" (defArgs s_law_no_amount) (defBody s_law_no_amount) (defScope s_law_no_amount) .none kV_law_no_amount dc_law_no_amount pm_law_no_amount an_law_no_amount cd_law_no_amount ct_law_no_amount), sl_law_no_amount⟩)
    (c_law_no_amount : PySem.W.codeIn K cd_law_no_amount "_law_no_amount" = true)
    (k_law_no_amount : PySem.W.keepIn K (.ref a_law_no_amount) = true)
    (n_law_no_number : PySem.W.nsIn K mainGlobals "_law_no_number" = some (some (.ref a_law_no_number)))
    (l_law_no_number : K.lookup a_law_no_number = some ⟨oc_law_no_number, od_law_no_number, .func (PySem.W.fnOf "_law_no_number" "_law_no_number" (defArgs s_law_no_number) (defBody s_law_no_number) (defScope s_law_no_number) .none kV_law_no_number dc_law_no_number pm_law_no_number an_law_no_number cd_law_no_number ct_law_no_number), sl_law_no_number⟩)
    (c_law_no_number : PySem.W.codeIn K cd_law_no_number "_law_no_number" = true)
    (k_law_no_number : PySem.W.keepIn K (.ref a_law_no_number) = true)
    (n_law_no_goals : PySem.W.nsIn K mainGlobals "_law_no_goals" = some (some (.ref a_law_no_goals)))
    (l_law_no_goals : K.lookup a_law_no_goals = some ⟨oc_law_no_goals, od_law_no_goals, .func (PySem.W.fnOf "_law_no_goals" "_law_no_goals" (defArgs s_law_no_goals) (defBody s_law_no_goals) (defScope s_law_no_goals) .none kV_law_no_goals dc_law_no_goals pm_law_no_goals an_law_no_goals cd_law_no_goals ct_law_no_goals), sl_law_no_goals⟩)
    (c_law_no_goals : PySem.W.codeIn K cd_law_no_goals "_law_no_goals" = true)
    (k_law_no_goals : PySem.W.keepIn K (.ref a_law_no_goals) = true)
    (n_law_no_row : PySem.W.nsIn K mainGlobals "_law_no_row" = some (some (.ref a_law_no_row)))
    (l_law_no_row : K.lookup a_law_no_row = some ⟨oc_law_no_row, od_law_no_row, .func (PySem.W.fnOf "_law_no_row" "_law_no_row" (defArgs s_law_no_row) (defBody s_law_no_row) (defScope s_law_no_row) .none kV_law_no_row dc_law_no_row pm_law_no_row an_law_no_row cd_law_no_row ct_law_no_row), sl_law_no_row⟩)
    (c_law_no_row : PySem.W.codeIn K cd_law_no_row "_law_no_row" = true)
    (k_law_no_row : PySem.W.keepIn K (.ref a_law_no_row) = true)
    (n_law_amount : PySem.W.nsIn K mainGlobals "_law_amount" = some (some (.ref a_law_amount)))
    (l_law_amount : K.lookup a_law_amount = some ⟨oc_law_amount, od_law_amount, .func (PySem.W.fnOf "_law_amount" "_law_amount" (defArgs s_law_amount) (defBody s_law_amount) (defScope s_law_amount) .none kV_law_amount dc_law_amount pm_law_amount an_law_amount cd_law_amount ct_law_amount), sl_law_amount⟩)
    (c_law_amount : PySem.W.codeIn K cd_law_amount "_law_amount" = true)
    (k_law_amount : PySem.W.keepIn K (.ref a_law_amount) = true)
    (n_law_goals_fit : PySem.W.nsIn K mainGlobals "_law_goals_fit" = some (some (.ref a_law_goals_fit)))
    (l_law_goals_fit : K.lookup a_law_goals_fit = some ⟨oc_law_goals_fit, od_law_goals_fit, .func (PySem.W.fnOf "_law_goals_fit" "_law_goals_fit" (defArgs s_law_goals_fit) (defBody s_law_goals_fit) (defScope s_law_goals_fit) .none kV_law_goals_fit dc_law_goals_fit pm_law_goals_fit an_law_goals_fit cd_law_goals_fit ct_law_goals_fit), sl_law_goals_fit⟩)
    (c_law_goals_fit : PySem.W.codeIn K cd_law_goals_fit "_law_goals_fit" = true)
    (k_law_goals_fit : PySem.W.keepIn K (.ref a_law_goals_fit) = true)
    (n_law_fits : PySem.W.nsIn K mainGlobals "_law_fits" = some (some (.ref a_law_fits)))
    (l_law_fits : K.lookup a_law_fits = some ⟨oc_law_fits, od_law_fits, .func (PySem.W.fnOf "_law_fits" "_law_fits" (defArgs s_law_fits) (defBody s_law_fits) (defScope s_law_fits) .none kV_law_fits dc_law_fits pm_law_fits an_law_fits cd_law_fits ct_law_fits), sl_law_fits⟩)
    (c_law_fits : PySem.W.codeIn K cd_law_fits "_law_fits" = true)
    (k_law_fits : PySem.W.keepIn K (.ref a_law_fits) = true)
    (n_law_endless : PySem.W.nsIn K mainGlobals "_law_endless" = some (some (.ref a_law_endless)))
    (l_law_endless : K.lookup a_law_endless = some ⟨oc_law_endless, od_law_endless, .func (PySem.W.fnOf "_law_endless" "_law_endless" (defArgs s_law_endless) (defBody s_law_endless) (defScope s_law_endless) .none kV_law_endless dc_law_endless pm_law_endless an_law_endless cd_law_endless ct_law_endless), sl_law_endless⟩)
    (c_law_endless : PySem.W.codeIn K cd_law_endless "_law_endless" = true)
    (k_law_endless : PySem.W.keepIn K (.ref a_law_endless) = true)
    (n_law_text : PySem.W.nsIn K mainGlobals "_law_text" = some (some (.ref a_law_text)))
    (l_law_text : K.lookup a_law_text = some ⟨oc_law_text, od_law_text, .func (PySem.W.fnOf "_law_text" "_law_text" (defArgs s_law_text) (defBody s_law_text) (defScope s_law_text) .none kV_law_text dc_law_text pm_law_text an_law_text cd_law_text ct_law_text), sl_law_text⟩)
    (c_law_text : PySem.W.codeIn K cd_law_text "_law_text" = true)
    (k_law_text : PySem.W.keepIn K (.ref a_law_text) = true)
    (n_law_made : PySem.W.nsIn K mainGlobals "_law_made" = some (some (.ref a_law_made)))
    (l_law_made : K.lookup a_law_made = some ⟨oc_law_made, od_law_made, .func (PySem.W.fnOf "_law_made" "_law_made" (defArgs s_law_made) (defBody s_law_made) (defScope s_law_made) .none kV_law_made dc_law_made pm_law_made an_law_made cd_law_made ct_law_made), sl_law_made⟩)
    (c_law_made : PySem.W.codeIn K cd_law_made "_law_made" = true)
    (k_law_made : PySem.W.keepIn K (.ref a_law_made) = true)
    (n_law_all : PySem.W.nsIn K mainGlobals "_law_all" = some (some (.ref a_law_all)))
    (l_law_all : K.lookup a_law_all = some ⟨oc_law_all, od_law_all, .func (PySem.W.fnOf "_law_all" "_law_all" (defArgs s_law_all) (defBody s_law_all) (defScope s_law_all) .none kV_law_all dc_law_all pm_law_all an_law_all cd_law_all ct_law_all), sl_law_all⟩)
    (c_law_all : PySem.W.codeIn K cd_law_all "_law_all" = true)
    (k_law_all : PySem.W.keepIn K (.ref a_law_all) = true)
    (n_law : PySem.W.nsIn K mainGlobals "law" = some (some (.ref a_law)))
    (l_law : K.lookup a_law = some ⟨oc_law, od_law, .func (PySem.W.fnOf "law" "law" (defArgs s_law) (defBody s_law) (defScope s_law) .none kV_law dc_law pm_law an_law cd_law ct_law), sl_law⟩)
    (c_law : PySem.W.codeIn K cd_law "law" = true)
    (k_law : PySem.W.keepIn K (.ref a_law) = true)
    (x_InvalidProject : K.lookup C_InvalidProject = some (excClassObj nm_InvalidProject qq_InvalidProject C_InvalidProject N_InvalidProject bs_InvalidProject (.ref C_NextError :: [.type "ValueError", .type "Exception", .type "BaseException", .type "object"]) true sn_InvalidProject sub_InvalidProject ab_InvalidProject col_InvalidProject dd_InvalidProject m0_InvalidProject m1_InvalidProject m2_InvalidProject m3_InvalidProject m5_InvalidProject "ValueError.__new__"))
    (sa_InvalidProject : PySem.W.findIn K (.ref C_InvalidProject) "__setattr__" = some (some (.builtin "object.__setattr__")))
    (ex_InvalidProject : PySem.W.subIn K (.ref C_InvalidProject) (.type "BaseException") = some true)
    (ty_InvalidProject : PySem.W.typeIn K (.ref C_InvalidProject) = some (.type "type"))
    (kc_InvalidProject : PySem.W.keepIn K (.ref C_InvalidProject) = true)
    (ga_InvalidProject : PySem.W.findIn K (.ref C_InvalidProject) "__getattribute__" = some (some (.builtin "BaseException.__getattribute__")))
    (gg_InvalidProject : PySem.W.findIn K (.ref C_InvalidProject) "__getattr__" = some none)
    (hd_InvalidProject : PySem.W.hasDictIn K C_InvalidProject = true)
    (is_InvalidProject : PySem.W.isClsIn K C_InvalidProject = true)
    (ss_InvalidProject : PySem.W.subIn K (.ref C_InvalidProject) (.ref C_InvalidProject) = some true)
    (na_InvalidProject_state : PySem.W.findIn K (.ref C_InvalidProject) "state" = some none)
    (ti_InvalidProject : PySem.W.typeIn K (.ref a_InvalidProject_init) = some (.type "function"))
    (cg_InvalidProject : PySem.W.findIn K (.ref C_InvalidProject) "__class__" = some (some (.builtin "object.__class__")))
    (mr_InvalidProject : PySem.W.mroIn K C_InvalidProject (.type "object") = some true)
    (x_Endless : K.lookup C_Endless = some (excClassObj nm_Endless qq_Endless C_Endless N_Endless bs_Endless (.ref C_NextError :: [.type "ValueError", .type "Exception", .type "BaseException", .type "object"]) true sn_Endless sub_Endless ab_Endless col_Endless dd_Endless m0_Endless m1_Endless m2_Endless m3_Endless m5_Endless "ValueError.__new__"))
    (sa_Endless : PySem.W.findIn K (.ref C_Endless) "__setattr__" = some (some (.builtin "object.__setattr__")))
    (ex_Endless : PySem.W.subIn K (.ref C_Endless) (.type "BaseException") = some true)
    (ty_Endless : PySem.W.typeIn K (.ref C_Endless) = some (.type "type"))
    (kc_Endless : PySem.W.keepIn K (.ref C_Endless) = true)
    (ga_Endless : PySem.W.findIn K (.ref C_Endless) "__getattribute__" = some (some (.builtin "BaseException.__getattribute__")))
    (gg_Endless : PySem.W.findIn K (.ref C_Endless) "__getattr__" = some none)
    (hd_Endless : PySem.W.hasDictIn K C_Endless = true)
    (is_Endless : PySem.W.isClsIn K C_Endless = true)
    (ss_Endless : PySem.W.subIn K (.ref C_Endless) (.ref C_Endless) = some true)
    (na_Endless_state : PySem.W.findIn K (.ref C_Endless) "state" = some none)
    (ti_Endless : PySem.W.typeIn K (.ref a_Endless_init) = some (.type "function"))
    (sx_Endless_InvalidProject : PySem.W.subIn K (.ref C_Endless) (.ref C_InvalidProject) = some false)
    (z_isinstance : PySem.W.nsIn K mainGlobals "isinstance" = some none)
    (z_int : PySem.W.nsIn K mainGlobals "int" = some none)
    (z_bool : PySem.W.nsIn K mainGlobals "bool" = some none)
    (z_range : PySem.W.nsIn K mainGlobals "range" = some none)
    (z_len : PySem.W.nsIn K mainGlobals "len" = some none)
    (z_abs : PySem.W.nsIn K mainGlobals "abs" = some none)
    (z_max : PySem.W.nsIn K mainGlobals "max" = some none)
    (z_str : PySem.W.nsIn K mainGlobals "str" = some none)
    (z_list : PySem.W.nsIn K mainGlobals "list" = some none)
    (z_tuple : PySem.W.nsIn K mainGlobals "tuple" = some none)
    (z_enumerate : PySem.W.nsIn K mainGlobals "enumerate" = some none)
    (z_any : PySem.W.nsIn K mainGlobals "any" = some none)
    (v_MOST_STATES : PySem.W.nsIn K mainGlobals "MOST_STATES" = some (some (.int 8 t_MOST_STATES)))
    (v_MOST_GOALS : PySem.W.nsIn K mainGlobals "MOST_GOALS" = some (some (.int 8 t_MOST_GOALS)))
    (v_MOST_WEIGHT : PySem.W.nsIn K mainGlobals "MOST_WEIGHT" = some (some (.int 999 t_MOST_WEIGHT)))
    (v_MOST_NUM : PySem.W.nsIn K mainGlobals "MOST_NUM" = some (some (.int 9999 t_MOST_NUM)))
    (v_MOST_DEN : PySem.W.nsIn K mainGlobals "MOST_DEN" = some (some (.int 99 t_MOST_DEN)))
    (v_gcd : PySem.W.nsIn K mainGlobals "gcd" = some (some (.builtin "math.gcd")))
    (is_Frac : PySem.W.isClsIn K C_Frac = true)
    (ty_Frac : PySem.W.typeIn K (.ref C_Frac) = some (.type "type"))
    (is_Project : PySem.W.isClsIn K C_Project = true)
    (ty_Project : PySem.W.typeIn K (.ref C_Project) = some (.type "type"))
    (sb_IP_E : PySem.W.subIn K (.ref C_InvalidProject) (.ref C_Endless) = some false)
    (ne_IP_E : C_InvalidProject ≠ C_Endless)
    (sb_F_int : PySem.W.subIn K (.ref C_Frac) (.type "int") = some false)
    (sb_F_list : PySem.W.subIn K (.ref C_Frac) (.type "list") = some false)
    (sb_F_tuple : PySem.W.subIn K (.ref C_Frac) (.type "tuple") = some false)
    (sb_F_str : PySem.W.subIn K (.ref C_Frac) (.type "str") = some false)
    (sb_none_F : PySem.W.subIn K (.type "NoneType") (.ref C_Frac) = some false)
    (sb_bool_F : PySem.W.subIn K (.type "bool") (.ref C_Frac) = some false)
    (sb_int_F : PySem.W.subIn K (.type "int") (.ref C_Frac) = some false)
    (sb_str_F : PySem.W.subIn K (.type "str") (.ref C_Frac) = some false)
    (sb_list_F : PySem.W.subIn K (.type "list") (.ref C_Frac) = some false)
    (sb_tuple_F : PySem.W.subIn K (.type "tuple") (.ref C_Frac) = some false)
    : Txt K mg ⟨C_Frac, C_Project, C_InvalidProject, C_Endless, C_NextError, a_InvalidProject_init, a_Endless_init, a_is_whole, a_is_within, a_is_row_of, a_Frac_init, a_as_frac, a_is_amount, a_is_cost, a_are_goals, a_clean_row, a_first_endless, a_is_step_into, a_clean_rows, a_Project_init, a_Project_len, a_Project_kind, a_law_box, a_law_draw, a_law_integer, a_law_row_of, a_law_shape, a_law_worth, a_law_right_row, a_law_deep, a_law_no_amount, a_law_no_number, a_law_no_goals, a_law_no_row, a_law_amount, a_law_goals_fit, a_law_fits, a_law_endless, a_law_text, a_law_made, a_law_all, a_law, PySem.W.fnOf "__init__" "InvalidProject.__init__" (defArgs s_InvalidProject_init) (defBody s_InvalidProject_init) (defScope s_InvalidProject_init) .none kV_InvalidProject_init dc_InvalidProject_init pm_InvalidProject_init an_InvalidProject_init cd_InvalidProject_init ct_InvalidProject_init, PySem.W.fnOf "__init__" "Endless.__init__" (defArgs s_Endless_init) (defBody s_Endless_init) (defScope s_Endless_init) .none kV_Endless_init dc_Endless_init pm_Endless_init an_Endless_init cd_Endless_init ct_Endless_init, PySem.W.fnOf "is_whole" "is_whole" (defArgs s_is_whole) (defBody s_is_whole) (defScope s_is_whole) .none kV_is_whole dc_is_whole pm_is_whole an_is_whole cd_is_whole ct_is_whole, PySem.W.fnOf "is_within" "is_within" (defArgs s_is_within) (defBody s_is_within) (defScope s_is_within) .none kV_is_within dc_is_within pm_is_within an_is_within cd_is_within ct_is_within, PySem.W.fnOf "is_row_of" "is_row_of" (defArgs s_is_row_of) (defBody s_is_row_of) (defScope s_is_row_of) .none kV_is_row_of dc_is_row_of pm_is_row_of an_is_row_of cd_is_row_of ct_is_row_of, PySem.W.fnOf "__init__" "Frac.__init__" (defArgs s_Frac_init) (defBody s_Frac_init) (defScope s_Frac_init) (.ref T_Frac_init) kV_Frac_init dc_Frac_init pm_Frac_init an_Frac_init cd_Frac_init ct_Frac_init, PySem.W.fnOf "as_frac" "as_frac" (defArgs s_as_frac) (defBody s_as_frac) (defScope s_as_frac) .none kV_as_frac dc_as_frac pm_as_frac an_as_frac cd_as_frac ct_as_frac, PySem.W.fnOf "is_amount" "is_amount" (defArgs s_is_amount) (defBody s_is_amount) (defScope s_is_amount) .none kV_is_amount dc_is_amount pm_is_amount an_is_amount cd_is_amount ct_is_amount, PySem.W.fnOf "is_cost" "is_cost" (defArgs s_is_cost) (defBody s_is_cost) (defScope s_is_cost) .none kV_is_cost dc_is_cost pm_is_cost an_is_cost cd_is_cost ct_is_cost, PySem.W.fnOf "are_goals" "are_goals" (defArgs s_are_goals) (defBody s_are_goals) (defScope s_are_goals) .none kV_are_goals dc_are_goals pm_are_goals an_are_goals cd_are_goals ct_are_goals, PySem.W.fnOf "clean_row" "clean_row" (defArgs s_clean_row) (defBody s_clean_row) (defScope s_clean_row) .none kV_clean_row dc_clean_row pm_clean_row an_clean_row cd_clean_row ct_clean_row, PySem.W.fnOf "first_endless" "first_endless" (defArgs s_first_endless) (defBody s_first_endless) (defScope s_first_endless) .none kV_first_endless dc_first_endless pm_first_endless an_first_endless cd_first_endless ct_first_endless, PySem.W.fnOf "is_step_into" "is_step_into" (defArgs s_is_step_into) (defBody s_is_step_into) (defScope s_is_step_into) .none kV_is_step_into dc_is_step_into pm_is_step_into an_is_step_into cd_is_step_into ct_is_step_into, PySem.W.fnOf "clean_rows" "clean_rows" (defArgs s_clean_rows) (defBody s_clean_rows) (defScope s_clean_rows) .none kV_clean_rows dc_clean_rows pm_clean_rows an_clean_rows cd_clean_rows ct_clean_rows, PySem.W.fnOf "__init__" "Project.__init__" (defArgs s_Project_init) (defBody s_Project_init) (defScope s_Project_init) .none kV_Project_init dc_Project_init pm_Project_init an_Project_init cd_Project_init ct_Project_init, PySem.W.fnOf "__len__" "Project.__len__" (defArgs s_Project_len) (defBody s_Project_len) (defScope s_Project_len) .none kV_Project_len dc_Project_len pm_Project_len an_Project_len cd_Project_len ct_Project_len, PySem.W.fnOf "kind" "Project.kind" (defArgs s_Project_kind) (defBody s_Project_kind) (defScope s_Project_kind) .none kV_Project_kind dc_Project_kind pm_Project_kind an_Project_kind cd_Project_kind ct_Project_kind, PySem.W.fnOf "_law_box" "_law_box" (defArgs s_law_box) (defBody s_law_box) (defScope s_law_box) .none kV_law_box dc_law_box pm_law_box an_law_box cd_law_box ct_law_box, PySem.W.fnOf "_law_draw" "_law_draw" (defArgs s_law_draw) (defBody s_law_draw) (defScope s_law_draw) .none kV_law_draw dc_law_draw pm_law_draw an_law_draw cd_law_draw ct_law_draw, PySem.W.fnOf "_law_integer" "_law_integer" (defArgs s_law_integer) (defBody s_law_integer) (defScope s_law_integer) .none kV_law_integer dc_law_integer pm_law_integer an_law_integer cd_law_integer ct_law_integer, PySem.W.fnOf "_law_row_of" "_law_row_of" (defArgs s_law_row_of) (defBody s_law_row_of) (defScope s_law_row_of) .none kV_law_row_of dc_law_row_of pm_law_row_of an_law_row_of cd_law_row_of ct_law_row_of, PySem.W.fnOf "_law_shape" "_law_shape" (defArgs s_law_shape) (defBody s_law_shape) (defScope s_law_shape) .none kV_law_shape dc_law_shape pm_law_shape an_law_shape cd_law_shape ct_law_shape, PySem.W.fnOf "_law_worth" "_law_worth" (defArgs s_law_worth) (defBody s_law_worth) (defScope s_law_worth) .none kV_law_worth dc_law_worth pm_law_worth an_law_worth cd_law_worth ct_law_worth, PySem.W.fnOf "_law_right_row" "_law_right_row" (defArgs s_law_right_row) (defBody s_law_right_row) (defScope s_law_right_row) .none kV_law_right_row dc_law_right_row pm_law_right_row an_law_right_row cd_law_right_row ct_law_right_row, PySem.W.fnOf "_law_deep" "_law_deep" (defArgs s_law_deep) (defBody s_law_deep) (defScope s_law_deep) .none kV_law_deep dc_law_deep pm_law_deep an_law_deep cd_law_deep ct_law_deep, PySem.W.fnOf "_law_no_amount" "_law_no_amount" (defArgs s_law_no_amount) (defBody s_law_no_amount) (defScope s_law_no_amount) .none kV_law_no_amount dc_law_no_amount pm_law_no_amount an_law_no_amount cd_law_no_amount ct_law_no_amount, PySem.W.fnOf "_law_no_number" "_law_no_number" (defArgs s_law_no_number) (defBody s_law_no_number) (defScope s_law_no_number) .none kV_law_no_number dc_law_no_number pm_law_no_number an_law_no_number cd_law_no_number ct_law_no_number, PySem.W.fnOf "_law_no_goals" "_law_no_goals" (defArgs s_law_no_goals) (defBody s_law_no_goals) (defScope s_law_no_goals) .none kV_law_no_goals dc_law_no_goals pm_law_no_goals an_law_no_goals cd_law_no_goals ct_law_no_goals, PySem.W.fnOf "_law_no_row" "_law_no_row" (defArgs s_law_no_row) (defBody s_law_no_row) (defScope s_law_no_row) .none kV_law_no_row dc_law_no_row pm_law_no_row an_law_no_row cd_law_no_row ct_law_no_row, PySem.W.fnOf "_law_amount" "_law_amount" (defArgs s_law_amount) (defBody s_law_amount) (defScope s_law_amount) .none kV_law_amount dc_law_amount pm_law_amount an_law_amount cd_law_amount ct_law_amount, PySem.W.fnOf "_law_goals_fit" "_law_goals_fit" (defArgs s_law_goals_fit) (defBody s_law_goals_fit) (defScope s_law_goals_fit) .none kV_law_goals_fit dc_law_goals_fit pm_law_goals_fit an_law_goals_fit cd_law_goals_fit ct_law_goals_fit, PySem.W.fnOf "_law_fits" "_law_fits" (defArgs s_law_fits) (defBody s_law_fits) (defScope s_law_fits) .none kV_law_fits dc_law_fits pm_law_fits an_law_fits cd_law_fits ct_law_fits, PySem.W.fnOf "_law_endless" "_law_endless" (defArgs s_law_endless) (defBody s_law_endless) (defScope s_law_endless) .none kV_law_endless dc_law_endless pm_law_endless an_law_endless cd_law_endless ct_law_endless, PySem.W.fnOf "_law_text" "_law_text" (defArgs s_law_text) (defBody s_law_text) (defScope s_law_text) .none kV_law_text dc_law_text pm_law_text an_law_text cd_law_text ct_law_text, PySem.W.fnOf "_law_made" "_law_made" (defArgs s_law_made) (defBody s_law_made) (defScope s_law_made) .none kV_law_made dc_law_made pm_law_made an_law_made cd_law_made ct_law_made, PySem.W.fnOf "_law_all" "_law_all" (defArgs s_law_all) (defBody s_law_all) (defScope s_law_all) .none kV_law_all dc_law_all pm_law_all an_law_all cd_law_all ct_law_all, PySem.W.fnOf "law" "law" (defArgs s_law) (defBody s_law) (defScope s_law) .none kV_law dc_law pm_law an_law cd_law ct_law⟩ :=
  { mg_Frac := PySem.W.mg_of X G hC_Frac
    mg_Project := PySem.W.mg_of X G hC_Project
    mg_InvalidProject := PySem.W.mg_of X G hC_InvalidProject
    mg_Endless := PySem.W.mg_of X G hC_Endless
    mg_NextError := PySem.W.mg_of X G hC_NextError
    cl_Frac := ⟨pg_Frac, hd_Frac, po_Frac, sa_Frac⟩
    na_Frac_num := na_Frac_num
    na_Frac_den := na_Frac_den
    cg_Frac := cg_Frac
    mr_Frac := mr_Frac
    cl_Project := ⟨pg_Project, hd_Project, po_Project, sa_Project⟩
    na_Project_rows := na_Project_rows
    cg_Project := cg_Project
    mr_Project := mr_Project
    cget := cget
    ctk := ctk
    fn_InvalidProject_init := fun_mk (st := s_InvalidProject_init) l_InvalidProject_init c_InvalidProject_init k_InvalidProject_init
    b_InvalidProject_init := (fun_mk (st := s_InvalidProject_init) l_InvalidProject_init c_InvalidProject_init k_InvalidProject_init).binds (ps := ["self", "state"]) fun _ _ _ _ _ _ us hl => match us, hl with | [_, _], _ => rfl
    fn_Endless_init := fun_mk (st := s_Endless_init) l_Endless_init c_Endless_init k_Endless_init
    b_Endless_init := (fun_mk (st := s_Endless_init) l_Endless_init c_Endless_init k_Endless_init).binds (ps := ["self", "state"]) fun _ _ _ _ _ _ us hl => match us, hl with | [_, _], _ => rfl
    mg_is_whole := PySem.W.mg_of X G n_is_whole
    fn_is_whole := fun_mk (st := s_is_whole) l_is_whole c_is_whole k_is_whole
    b_is_whole := (fun_mk (st := s_is_whole) l_is_whole c_is_whole k_is_whole).binds (ps := ["value"]) fun _ _ _ _ _ _ us hl => match us, hl with | [_], _ => rfl
    mg_is_within := PySem.W.mg_of X G n_is_within
    fn_is_within := fun_mk (st := s_is_within) l_is_within c_is_within k_is_within
    b_is_within := (fun_mk (st := s_is_within) l_is_within c_is_within k_is_within).binds (ps := ["value", "least", "most"]) fun _ _ _ _ _ _ us hl => match us, hl with | [_, _, _], _ => rfl
    mg_is_row_of := PySem.W.mg_of X G n_is_row_of
    fn_is_row_of := fun_mk (st := s_is_row_of) l_is_row_of c_is_row_of k_is_row_of
    b_is_row_of := (fun_mk (st := s_is_row_of) l_is_row_of c_is_row_of k_is_row_of).binds (ps := ["value", "least", "most"]) fun _ _ _ _ _ _ us hl => match us, hl with | [_, _, _], _ => rfl
    fn_Frac_init := ⟨⟨_, _, _, _, _, _, _, _, _, _, rfl, l_Frac_init, c_Frac_init, .inr ⟨by simp, T_Frac_init, _, _, _, rfl, t_Frac_init, u_Frac_init, .cons ⟨_, rfl⟩ (.nil)⟩, .inl rfl⟩, k_Frac_init⟩
    mt_Frac_init := ⟨f_Frac_init, i_Frac_init, k_Frac_init⟩
    mg_as_frac := PySem.W.mg_of X G n_as_frac
    fn_as_frac := fun_mk (st := s_as_frac) l_as_frac c_as_frac k_as_frac
    b_as_frac := (fun_mk (st := s_as_frac) l_as_frac c_as_frac k_as_frac).binds (ps := ["value"]) fun _ _ _ _ _ _ us hl => match us, hl with | [_], _ => rfl
    mg_is_amount := PySem.W.mg_of X G n_is_amount
    fn_is_amount := fun_mk (st := s_is_amount) l_is_amount c_is_amount k_is_amount
    b_is_amount := (fun_mk (st := s_is_amount) l_is_amount c_is_amount k_is_amount).binds (ps := ["value"]) fun _ _ _ _ _ _ us hl => match us, hl with | [_], _ => rfl
    mg_is_cost := PySem.W.mg_of X G n_is_cost
    fn_is_cost := fun_mk (st := s_is_cost) l_is_cost c_is_cost k_is_cost
    b_is_cost := (fun_mk (st := s_is_cost) l_is_cost c_is_cost k_is_cost).binds (ps := ["value"]) fun _ _ _ _ _ _ us hl => match us, hl with | [_], _ => rfl
    mg_are_goals := PySem.W.mg_of X G n_are_goals
    fn_are_goals := fun_mk (st := s_are_goals) l_are_goals c_are_goals k_are_goals
    b_are_goals := (fun_mk (st := s_are_goals) l_are_goals c_are_goals k_are_goals).binds (ps := ["goals", "states"]) fun _ _ _ _ _ _ us hl => match us, hl with | [_, _], _ => rfl
    mg_clean_row := PySem.W.mg_of X G n_clean_row
    fn_clean_row := fun_mk (st := s_clean_row) l_clean_row c_clean_row k_clean_row
    b_clean_row := (fun_mk (st := s_clean_row) l_clean_row c_clean_row k_clean_row).binds (ps := ["row", "states"]) fun _ _ _ _ _ _ us hl => match us, hl with | [_, _], _ => rfl
    mg_first_endless := PySem.W.mg_of X G n_first_endless
    fn_first_endless := fun_mk (st := s_first_endless) l_first_endless c_first_endless k_first_endless
    b_first_endless := (fun_mk (st := s_first_endless) l_first_endless c_first_endless k_first_endless).binds (ps := ["rows"]) fun _ _ _ _ _ _ us hl => match us, hl with | [_], _ => rfl
    mg_is_step_into := PySem.W.mg_of X G n_is_step_into
    fn_is_step_into := fun_mk (st := s_is_step_into) l_is_step_into c_is_step_into k_is_step_into
    b_is_step_into := (fun_mk (st := s_is_step_into) l_is_step_into c_is_step_into k_is_step_into).binds (ps := ["row", "marks"]) fun _ _ _ _ _ _ us hl => match us, hl with | [_, _], _ => rfl
    mg_clean_rows := PySem.W.mg_of X G n_clean_rows
    fn_clean_rows := fun_mk (st := s_clean_rows) l_clean_rows c_clean_rows k_clean_rows
    b_clean_rows := (fun_mk (st := s_clean_rows) l_clean_rows c_clean_rows k_clean_rows).binds (ps := ["rows"]) fun _ _ _ _ _ _ us hl => match us, hl with | [_], _ => rfl
    fn_Project_init := fun_mk (st := s_Project_init) l_Project_init c_Project_init k_Project_init
    b_Project_init := (fun_mk (st := s_Project_init) l_Project_init c_Project_init k_Project_init).binds (ps := ["self", "rows"]) fun _ _ _ _ _ _ us hl => match us, hl with | [_, _], _ => rfl
    mt_Project_init := ⟨f_Project_init, i_Project_init, k_Project_init⟩
    fn_Project_len := fun_mk (st := s_Project_len) l_Project_len c_Project_len k_Project_len
    b_Project_len := (fun_mk (st := s_Project_len) l_Project_len c_Project_len k_Project_len).binds (ps := ["self"]) fun _ _ _ _ _ _ us hl => match us, hl with | [_], _ => rfl
    mt_Project_len := ⟨f_Project_len, i_Project_len, k_Project_len⟩
    fn_Project_kind := fun_mk (st := s_Project_kind) l_Project_kind c_Project_kind k_Project_kind
    b_Project_kind := (fun_mk (st := s_Project_kind) l_Project_kind c_Project_kind k_Project_kind).binds (ps := ["self", "state"]) fun _ _ _ _ _ _ us hl => match us, hl with | [_, _], _ => rfl
    mt_Project_kind := ⟨f_Project_kind, i_Project_kind, k_Project_kind⟩
    mg_law_box := PySem.W.mg_of X G n_law_box
    fn_law_box := fun_mk (st := s_law_box) l_law_box c_law_box k_law_box
    b_law_box := (fun_mk (st := s_law_box) l_law_box c_law_box k_law_box).binds (ps := ["script"]) fun _ _ _ _ _ _ us hl => match us, hl with | [_], _ => rfl
    mg_law_draw := PySem.W.mg_of X G n_law_draw
    fn_law_draw := fun_mk (st := s_law_draw) l_law_draw c_law_draw k_law_draw
    b_law_draw := (fun_mk (st := s_law_draw) l_law_draw c_law_draw k_law_draw).binds (ps := ["box", "limit"]) fun _ _ _ _ _ _ us hl => match us, hl with | [_, _], _ => rfl
    mg_law_integer := PySem.W.mg_of X G n_law_integer
    fn_law_integer := fun_mk (st := s_law_integer) l_law_integer c_law_integer k_law_integer
    b_law_integer := (fun_mk (st := s_law_integer) l_law_integer c_law_integer k_law_integer).binds (ps := ["value"]) fun _ _ _ _ _ _ us hl => match us, hl with | [_], _ => rfl
    mg_law_row_of := PySem.W.mg_of X G n_law_row_of
    fn_law_row_of := fun_mk (st := s_law_row_of) l_law_row_of c_law_row_of k_law_row_of
    b_law_row_of := (fun_mk (st := s_law_row_of) l_law_row_of c_law_row_of k_law_row_of).binds (ps := ["value"]) fun _ _ _ _ _ _ us hl => match us, hl with | [_], _ => rfl
    mg_law_shape := PySem.W.mg_of X G n_law_shape
    fn_law_shape := fun_mk (st := s_law_shape) l_law_shape c_law_shape k_law_shape
    b_law_shape := (fun_mk (st := s_law_shape) l_law_shape c_law_shape k_law_shape).binds (ps := ["box", "parts"]) fun _ _ _ _ _ _ us hl => match us, hl with | [_, _], _ => rfl
    mg_law_worth := PySem.W.mg_of X G n_law_worth
    fn_law_worth := fun_mk (st := s_law_worth) l_law_worth c_law_worth k_law_worth
    b_law_worth := (fun_mk (st := s_law_worth) l_law_worth c_law_worth k_law_worth).binds (ps := ["box", "least"]) fun _ _ _ _ _ _ us hl => match us, hl with | [_, _], _ => rfl
    mg_law_right_row := PySem.W.mg_of X G n_law_right_row
    fn_law_right_row := fun_mk (st := s_law_right_row) l_law_right_row c_law_right_row k_law_right_row
    b_law_right_row := (fun_mk (st := s_law_right_row) l_law_right_row c_law_right_row k_law_right_row).binds (ps := ["box", "many"]) fun _ _ _ _ _ _ us hl => match us, hl with | [_, _], _ => rfl
    mg_law_deep := PySem.W.mg_of X G n_law_deep
    fn_law_deep := fun_mk (st := s_law_deep) l_law_deep c_law_deep k_law_deep
    b_law_deep := (fun_mk (st := s_law_deep) l_law_deep c_law_deep k_law_deep).binds (ps := ["box"]) fun _ _ _ _ _ _ us hl => match us, hl with | [_], _ => rfl
    mg_law_no_amount := PySem.W.mg_of X G n_law_no_amount
    fn_law_no_amount := fun_mk (st := s_law_no_amount) l_law_no_amount c_law_no_amount k_law_no_amount
    b_law_no_amount := (fun_mk (st := s_law_no_amount) l_law_no_amount c_law_no_amount k_law_no_amount).binds (ps := ["box", "cost"]) fun _ _ _ _ _ _ us hl => match us, hl with | [_, _], _ => rfl
    mg_law_no_number := PySem.W.mg_of X G n_law_no_number
    fn_law_no_number := fun_mk (st := s_law_no_number) l_law_no_number c_law_no_number k_law_no_number
    b_law_no_number := (fun_mk (st := s_law_no_number) l_law_no_number c_law_no_number k_law_no_number).binds (ps := ["box", "edge"]) fun _ _ _ _ _ _ us hl => match us, hl with | [_, _], _ => rfl
    mg_law_no_goals := PySem.W.mg_of X G n_law_no_goals
    fn_law_no_goals := fun_mk (st := s_law_no_goals) l_law_no_goals c_law_no_goals k_law_no_goals
    b_law_no_goals := (fun_mk (st := s_law_no_goals) l_law_no_goals c_law_no_goals k_law_no_goals).binds (ps := ["box", "many"]) fun _ _ _ _ _ _ us hl => match us, hl with | [_, _], _ => rfl
    mg_law_no_row := PySem.W.mg_of X G n_law_no_row
    fn_law_no_row := fun_mk (st := s_law_no_row) l_law_no_row c_law_no_row k_law_no_row
    b_law_no_row := (fun_mk (st := s_law_no_row) l_law_no_row c_law_no_row k_law_no_row).binds (ps := ["box", "many"]) fun _ _ _ _ _ _ us hl => match us, hl with | [_, _], _ => rfl
    mg_law_amount := PySem.W.mg_of X G n_law_amount
    fn_law_amount := fun_mk (st := s_law_amount) l_law_amount c_law_amount k_law_amount
    b_law_amount := (fun_mk (st := s_law_amount) l_law_amount c_law_amount k_law_amount).binds (ps := ["value", "least"]) fun _ _ _ _ _ _ us hl => match us, hl with | [_, _], _ => rfl
    mg_law_goals_fit := PySem.W.mg_of X G n_law_goals_fit
    fn_law_goals_fit := fun_mk (st := s_law_goals_fit) l_law_goals_fit c_law_goals_fit k_law_goals_fit
    b_law_goals_fit := (fun_mk (st := s_law_goals_fit) l_law_goals_fit c_law_goals_fit k_law_goals_fit).binds (ps := ["goals", "many"]) fun _ _ _ _ _ _ us hl => match us, hl with | [_, _], _ => rfl
    mg_law_fits := PySem.W.mg_of X G n_law_fits
    fn_law_fits := fun_mk (st := s_law_fits) l_law_fits c_law_fits k_law_fits
    b_law_fits := (fun_mk (st := s_law_fits) l_law_fits c_law_fits k_law_fits).binds (ps := ["row", "many"]) fun _ _ _ _ _ _ us hl => match us, hl with | [_, _], _ => rfl
    mg_law_endless := PySem.W.mg_of X G n_law_endless
    fn_law_endless := fun_mk (st := s_law_endless) l_law_endless c_law_endless k_law_endless
    b_law_endless := (fun_mk (st := s_law_endless) l_law_endless c_law_endless k_law_endless).binds (ps := ["rows"]) fun _ _ _ _ _ _ us hl => match us, hl with | [_], _ => rfl
    mg_law_text := PySem.W.mg_of X G n_law_text
    fn_law_text := fun_mk (st := s_law_text) l_law_text c_law_text k_law_text
    b_law_text := (fun_mk (st := s_law_text) l_law_text c_law_text k_law_text).binds (ps := ["value"]) fun _ _ _ _ _ _ us hl => match us, hl with | [_], _ => rfl
    mg_law_made := PySem.W.mg_of X G n_law_made
    fn_law_made := fun_mk (st := s_law_made) l_law_made c_law_made k_law_made
    b_law_made := (fun_mk (st := s_law_made) l_law_made c_law_made k_law_made).binds (ps := ["value", "due", "place"]) fun _ _ _ _ _ _ us hl => match us, hl with | [_, _, _], _ => rfl
    mg_law_all := PySem.W.mg_of X G n_law_all
    fn_law_all := fun_mk (st := s_law_all) l_law_all c_law_all k_law_all
    b_law_all := (fun_mk (st := s_law_all) l_law_all c_law_all k_law_all).binds (ps := ["script"]) fun _ _ _ _ _ _ us hl => match us, hl with | [_], _ => rfl
    mg_law := PySem.W.mg_of X G n_law
    fn_law := fun_mk (st := s_law) l_law c_law k_law
    b_law := (fun_mk (st := s_law) l_law c_law k_law).binds (ps := ["script"]) fun _ _ _ _ _ _ us hl => match us, hl with | [_], _ => rfl
    mk_Frac := ⟨mk_Frac, f_Frac_init, i_Frac_init, kc_Frac⟩
    mk_Project := ⟨mk_Project, f_Project_init, i_Project_init, kc_Project⟩
    ex_InvalidProject := ⟨⟨_, _, _, _, _, _, _, _, _, _, _, _, _, _, _, x_InvalidProject, rfl⟩, sa_InvalidProject, ex_InvalidProject, ty_InvalidProject, kc_InvalidProject⟩
    xf_InvalidProject := ⟨ga_InvalidProject, gg_InvalidProject, ex_InvalidProject, hd_InvalidProject⟩
    xm_InvalidProject := exm_self ex_InvalidProject is_InvalidProject ty_InvalidProject ss_InvalidProject
    na_InvalidProject_state := na_InvalidProject_state
    cg_InvalidProject := cg_InvalidProject
    mr_InvalidProject := mr_InvalidProject
    xi_InvalidProject := f_InvalidProject_init
    ti_InvalidProject := ti_InvalidProject
    ex_Endless := ⟨⟨_, _, _, _, _, _, _, _, _, _, _, _, _, _, _, x_Endless, rfl⟩, sa_Endless, ex_Endless, ty_Endless, kc_Endless⟩
    xf_Endless := ⟨ga_Endless, gg_Endless, ex_Endless, hd_Endless⟩
    xm_Endless := exm_self ex_Endless is_Endless ty_Endless ss_Endless
    na_Endless_state := na_Endless_state
    xi_Endless := f_Endless_init
    ti_Endless := ti_Endless
    xm_Endless_InvalidProject := exm_of ex_InvalidProject is_InvalidProject ty_InvalidProject sx_Endless_InvalidProject
    no_isinstance := PySem.W.mg_none_of X G z_isinstance
    no_int := PySem.W.mg_none_of X G z_int
    no_bool := PySem.W.mg_none_of X G z_bool
    no_range := PySem.W.mg_none_of X G z_range
    no_len := PySem.W.mg_none_of X G z_len
    no_abs := PySem.W.mg_none_of X G z_abs
    no_max := PySem.W.mg_none_of X G z_max
    no_str := PySem.W.mg_none_of X G z_str
    no_list := PySem.W.mg_none_of X G z_list
    no_tuple := PySem.W.mg_none_of X G z_tuple
    no_enumerate := PySem.W.mg_none_of X G z_enumerate
    no_any := PySem.W.mg_none_of X G z_any
    mg_MOST_STATES := ⟨_, PySem.W.mg_of X G v_MOST_STATES⟩
    mg_MOST_GOALS := ⟨_, PySem.W.mg_of X G v_MOST_GOALS⟩
    mg_MOST_WEIGHT := ⟨_, PySem.W.mg_of X G v_MOST_WEIGHT⟩
    mg_MOST_NUM := ⟨_, PySem.W.mg_of X G v_MOST_NUM⟩
    mg_MOST_DEN := ⟨_, PySem.W.mg_of X G v_MOST_DEN⟩
    mg_gcd := PySem.W.mg_of X G v_gcd
    kit_F_F := kit_self
    kit_IP_E := kit_rr ne_IP_E is_Endless ty_Endless sb_IP_E
    kit_F_int := kit_bi sb_F_int (by decide +kernel)
    kit_F_list := kit_bi sb_F_list (by decide +kernel)
    kit_F_tuple := kit_bi sb_F_tuple (by decide +kernel)
    kit_F_str := kit_bi sb_F_str (by decide +kernel)
    kit_none_F := kit_own is_Frac ty_Frac sb_none_F
    kit_bool_F := kit_own is_Frac ty_Frac sb_bool_F
    kit_int_F := kit_own is_Frac ty_Frac sb_int_F
    kit_str_F := kit_own is_Frac ty_Frac sb_str_F
    kit_list_F := kit_own is_Frac ty_Frac sb_list_F
    kit_tuple_F := kit_own is_Frac ty_Frac sb_tuple_F }
end K05
namespace K05
open PySem PySem.Spec PyProof.Rows L2
theorem all_mk {l : PySem.W.OpenLaw} {w : World} {K : PySem.W.Frag} {mg : Str → Option Value} {fa : Addr} {a : Ad} (T : Txt K mg a) (hfa : mg "law" = some (.ref fa)) (hd : ∀ (s : Shared) (v : Value), BindsTo s a.d_law ⟨[v], []⟩ [("script", v)]) :
    ∃ fd : FuncData, (∀ (s : Shared) (v : Value), BindsTo s fd ⟨[v], []⟩ [("script", v)]) ∧ ∀ base : Heap, K.In base → base.Ns mainGlobals mg → FnOk l.prog w K mg base CX0 17 fa fd ["script"] (spLaw K) := by
  have e := hfa.symm.trans T.mg_law
  cases e
  exact ⟨a.d_law, hd, fun base _ _ => ok_law T⟩
theorem walk {l : PySem.W.OpenLaw} {q : Program} {loose : List Str} {XP : (Str → Option Value) → Heap → Prop} {YP : World → Heap → Prop} {d : DefRec} {K : Params → PySem.W.Frag} (hn : l.most = some 63) (hdf : d.params.defaults = [])
    (hY : ∀ (w : World) (h : Heap), YP w h → (K w.params).In h)
    (F : ∀ (w : World) (mg : Str → Option Value) (fa : Addr) (h : Heap), (K w.params).In h → h.Ns mainGlobals mg → mg d.name = some (.ref fa) →
      ∃ fd : FuncData, (∀ (s : Shared) (u : Value), BindsTo s fd ⟨[u], []⟩ [("script", u)]) ∧ ∀ base : Heap, (K w.params).In base → base.Ns mainGlobals mg → FnOk l.prog w (K w.params) mg base CX0 17 fa fd ["script"] (spLaw (K w.params))) :
    PySem.W.WalkO q loose XP YP l.row.toRowW d [] (fun f vs => PySem.call f vs) :=
  L2.walk_of (n := 63) (k := 17) (x := "script") (CX := fun _ => CX0) (sp := fun w => spLaw (K w.params)) hn (by decide) hdf ⟨rfl, by decide, by decide⟩ hY F (fun _ _ a ns hl _ hS => ⟨a, ns, rfl, hS, hl, fun _ => rfl⟩) fun _ _ _ _ _ z => z
end K05
open PySem PySem.W PyProof.Rows
set_option maxRecDepth 100000 in
set_option maxHeartbeats 0 in
theorem PySem.Challenge.cw_greatestnext_k05_first_wrong_state_holds : PySem.Challenge.rw_greatestnext_k05_first_wrong_state.Holds := by
  w_on; o_law; k_head; (case hw => w_witness2)
  k_fill
  refine K05.walk (l := PySem.Challenge.rw_greatestnext_k05_first_wrong_state) rfl rfl (fun w h Y => PySem.W.kIn_of Y) ?F
  case F =>
    intro w mg fa h KX G hmg
    refine' K05.all_mk (K05.txt_mk KX G ?hC_Frac ?hC_Project ?hC_InvalidProject ?hC_Endless ?hC_NextError ?pg_Frac ?hd_Frac ?po_Frac ?sa_Frac ?mk_Frac ?kc_Frac ?na_Frac_num ?na_Frac_den ?cg_Frac ?mr_Frac ?pg_Project ?hd_Project ?po_Project ?sa_Project ?mk_Project ?kc_Project ?na_Project_rows ?cg_Project ?mr_Project ?cget ?ctk ?f_InvalidProject_init ?l_InvalidProject_init ?c_InvalidProject_init ?k_InvalidProject_init ?f_Endless_init ?l_Endless_init ?c_Endless_init ?k_Endless_init ?n_is_whole ?l_is_whole ?c_is_whole ?k_is_whole ?n_is_within ?l_is_within ?c_is_within ?k_is_within ?n_is_row_of ?l_is_row_of ?c_is_row_of ?k_is_row_of ?f_Frac_init ?i_Frac_init ?l_Frac_init ?c_Frac_init ?k_Frac_init ?t_Frac_init ?u_Frac_init ?n_as_frac ?l_as_frac ?c_as_frac ?k_as_frac ?n_is_amount ?l_is_amount ?c_is_amount ?k_is_amount ?n_is_cost ?l_is_cost ?c_is_cost ?k_is_cost ?n_are_goals ?l_are_goals ?c_are_goals ?k_are_goals ?n_clean_row ?l_clean_row ?c_clean_row ?k_clean_row ?n_first_endless ?l_first_endless ?c_first_endless ?k_first_endless ?n_is_step_into ?l_is_step_into ?c_is_step_into ?k_is_step_into ?n_clean_rows ?l_clean_rows ?c_clean_rows ?k_clean_rows ?f_Project_init ?i_Project_init ?l_Project_init ?c_Project_init ?k_Project_init ?f_Project_len ?i_Project_len ?l_Project_len ?c_Project_len ?k_Project_len ?f_Project_kind ?i_Project_kind ?l_Project_kind ?c_Project_kind ?k_Project_kind ?n_law_box ?l_law_box ?c_law_box ?k_law_box ?n_law_draw ?l_law_draw ?c_law_draw ?k_law_draw ?n_law_integer ?l_law_integer ?c_law_integer ?k_law_integer ?n_law_row_of ?l_law_row_of ?c_law_row_of ?k_law_row_of ?n_law_shape ?l_law_shape ?c_law_shape ?k_law_shape ?n_law_worth ?l_law_worth ?c_law_worth ?k_law_worth ?n_law_right_row ?l_law_right_row ?c_law_right_row ?k_law_right_row ?n_law_deep ?l_law_deep ?c_law_deep ?k_law_deep ?n_law_no_amount ?l_law_no_amount ?c_law_no_amount ?k_law_no_amount ?n_law_no_number ?l_law_no_number ?c_law_no_number ?k_law_no_number ?n_law_no_goals ?l_law_no_goals ?c_law_no_goals ?k_law_no_goals ?n_law_no_row ?l_law_no_row ?c_law_no_row ?k_law_no_row ?n_law_amount ?l_law_amount ?c_law_amount ?k_law_amount ?n_law_goals_fit ?l_law_goals_fit ?c_law_goals_fit ?k_law_goals_fit ?n_law_fits ?l_law_fits ?c_law_fits ?k_law_fits ?n_law_endless ?l_law_endless ?c_law_endless ?k_law_endless ?n_law_text ?l_law_text ?c_law_text ?k_law_text ?n_law_made ?l_law_made ?c_law_made ?k_law_made ?n_law_all ?l_law_all ?c_law_all ?k_law_all ?n_law ?l_law ?c_law ?k_law ?x_InvalidProject ?sa_InvalidProject ?ex_InvalidProject ?ty_InvalidProject ?kc_InvalidProject ?ga_InvalidProject ?gg_InvalidProject ?hd_InvalidProject ?is_InvalidProject ?ss_InvalidProject ?na_InvalidProject_state ?ti_InvalidProject ?cg_InvalidProject ?mr_InvalidProject ?x_Endless ?sa_Endless ?ex_Endless ?ty_Endless ?kc_Endless ?ga_Endless ?gg_Endless ?hd_Endless ?is_Endless ?ss_Endless ?na_Endless_state ?ti_Endless ?sx_Endless_InvalidProject ?z_isinstance ?z_int ?z_bool ?z_range ?z_len ?z_abs ?z_max ?z_str ?z_list ?z_tuple ?z_enumerate ?z_any ?v_MOST_STATES ?v_MOST_GOALS ?v_MOST_WEIGHT ?v_MOST_NUM ?v_MOST_DEN ?v_gcd ?is_Frac ?ty_Frac ?is_Project ?ty_Project ?sb_IP_E ?ne_IP_E ?sb_F_int ?sb_F_list ?sb_F_tuple ?sb_F_str ?sb_none_F ?sb_bool_F ?sb_int_F ?sb_str_F ?sb_list_F ?sb_tuple_F) hmg (fun s v => .of_eq rfl)
    (case hC_Frac => k_is)
    (case hC_Project => k_is)
    (case hC_InvalidProject => k_is)
    (case hC_Endless => k_is)
    (case hC_NextError => k_is)
    (case pg_Frac => k_is)
    (case hd_Frac => k_is)
    (case po_Frac => k_is)
    (case sa_Frac => k_is)
    (case mk_Frac => k_is)
    (case kc_Frac => k_is)
    (case na_Frac_num => k_is)
    (case na_Frac_den => k_is)
    (case cg_Frac => k_is)
    (case mr_Frac => k_is)
    (case pg_Project => k_is)
    (case hd_Project => k_is)
    (case po_Project => k_is)
    (case sa_Project => k_is)
    (case mk_Project => k_is)
    (case kc_Project => k_is)
    (case na_Project_rows => k_is)
    (case cg_Project => k_is)
    (case mr_Project => k_is)
    (case cget => k_is)
    (case ctk => k_is)
    (case f_InvalidProject_init => k_is)
    (case l_InvalidProject_init => k_is)
    (case c_InvalidProject_init => k_is)
    (case k_InvalidProject_init => k_is)
    (case f_Endless_init => k_is)
    (case l_Endless_init => k_is)
    (case c_Endless_init => k_is)
    (case k_Endless_init => k_is)
    (case n_is_whole => k_is)
    (case l_is_whole => k_is)
    (case c_is_whole => k_is)
    (case k_is_whole => k_is)
    (case n_is_within => k_is)
    (case l_is_within => k_is)
    (case c_is_within => k_is)
    (case k_is_within => k_is)
    (case n_is_row_of => k_is)
    (case l_is_row_of => k_is)
    (case c_is_row_of => k_is)
    (case k_is_row_of => k_is)
    (case f_Frac_init => k_is)
    (case i_Frac_init => k_is)
    (case l_Frac_init => k_is)
    (case c_Frac_init => k_is)
    (case k_Frac_init => k_is)
    (case t_Frac_init => k_is)
    (case u_Frac_init => first | rfl | k_is)
    (case n_as_frac => k_is)
    (case l_as_frac => k_is)
    (case c_as_frac => k_is)
    (case k_as_frac => k_is)
    (case n_is_amount => k_is)
    (case l_is_amount => k_is)
    (case c_is_amount => k_is)
    (case k_is_amount => k_is)
    (case n_is_cost => k_is)
    (case l_is_cost => k_is)
    (case c_is_cost => k_is)
    (case k_is_cost => k_is)
    (case n_are_goals => k_is)
    (case l_are_goals => k_is)
    (case c_are_goals => k_is)
    (case k_are_goals => k_is)
    (case n_clean_row => k_is)
    (case l_clean_row => k_is)
    (case c_clean_row => k_is)
    (case k_clean_row => k_is)
    (case n_first_endless => k_is)
    (case l_first_endless => k_is)
    (case c_first_endless => k_is)
    (case k_first_endless => k_is)
    (case n_is_step_into => k_is)
    (case l_is_step_into => k_is)
    (case c_is_step_into => k_is)
    (case k_is_step_into => k_is)
    (case n_clean_rows => k_is)
    (case l_clean_rows => k_is)
    (case c_clean_rows => k_is)
    (case k_clean_rows => k_is)
    (case f_Project_init => k_is)
    (case i_Project_init => k_is)
    (case l_Project_init => k_is)
    (case c_Project_init => k_is)
    (case k_Project_init => k_is)
    (case f_Project_len => k_is)
    (case i_Project_len => k_is)
    (case l_Project_len => k_is)
    (case c_Project_len => k_is)
    (case k_Project_len => k_is)
    (case f_Project_kind => k_is)
    (case i_Project_kind => k_is)
    (case l_Project_kind => k_is)
    (case c_Project_kind => k_is)
    (case k_Project_kind => k_is)
    (case n_law_box => k_is)
    (case l_law_box => k_is)
    (case c_law_box => k_is)
    (case k_law_box => k_is)
    (case n_law_draw => k_is)
    (case l_law_draw => k_is)
    (case c_law_draw => k_is)
    (case k_law_draw => k_is)
    (case n_law_integer => k_is)
    (case l_law_integer => k_is)
    (case c_law_integer => k_is)
    (case k_law_integer => k_is)
    (case n_law_row_of => k_is)
    (case l_law_row_of => k_is)
    (case c_law_row_of => k_is)
    (case k_law_row_of => k_is)
    (case n_law_shape => k_is)
    (case l_law_shape => k_is)
    (case c_law_shape => k_is)
    (case k_law_shape => k_is)
    (case n_law_worth => k_is)
    (case l_law_worth => k_is)
    (case c_law_worth => k_is)
    (case k_law_worth => k_is)
    (case n_law_right_row => k_is)
    (case l_law_right_row => k_is)
    (case c_law_right_row => k_is)
    (case k_law_right_row => k_is)
    (case n_law_deep => k_is)
    (case l_law_deep => k_is)
    (case c_law_deep => k_is)
    (case k_law_deep => k_is)
    (case n_law_no_amount => k_is)
    (case l_law_no_amount => k_is)
    (case c_law_no_amount => k_is)
    (case k_law_no_amount => k_is)
    (case n_law_no_number => k_is)
    (case l_law_no_number => k_is)
    (case c_law_no_number => k_is)
    (case k_law_no_number => k_is)
    (case n_law_no_goals => k_is)
    (case l_law_no_goals => k_is)
    (case c_law_no_goals => k_is)
    (case k_law_no_goals => k_is)
    (case n_law_no_row => k_is)
    (case l_law_no_row => k_is)
    (case c_law_no_row => k_is)
    (case k_law_no_row => k_is)
    (case n_law_amount => k_is)
    (case l_law_amount => k_is)
    (case c_law_amount => k_is)
    (case k_law_amount => k_is)
    (case n_law_goals_fit => k_is)
    (case l_law_goals_fit => k_is)
    (case c_law_goals_fit => k_is)
    (case k_law_goals_fit => k_is)
    (case n_law_fits => k_is)
    (case l_law_fits => k_is)
    (case c_law_fits => k_is)
    (case k_law_fits => k_is)
    (case n_law_endless => k_is)
    (case l_law_endless => k_is)
    (case c_law_endless => k_is)
    (case k_law_endless => k_is)
    (case n_law_text => k_is)
    (case l_law_text => k_is)
    (case c_law_text => k_is)
    (case k_law_text => k_is)
    (case n_law_made => k_is)
    (case l_law_made => k_is)
    (case c_law_made => k_is)
    (case k_law_made => k_is)
    (case n_law_all => k_is)
    (case l_law_all => k_is)
    (case c_law_all => k_is)
    (case k_law_all => k_is)
    (case n_law => k_is)
    (case l_law => k_is)
    (case c_law => k_is)
    (case k_law => k_is)
    (case x_InvalidProject => k_is)
    (case sa_InvalidProject => k_is)
    (case ex_InvalidProject => k_is)
    (case ty_InvalidProject => k_is)
    (case kc_InvalidProject => k_is)
    (case ga_InvalidProject => k_is)
    (case gg_InvalidProject => k_is)
    (case hd_InvalidProject => k_is)
    (case is_InvalidProject => k_is)
    (case ss_InvalidProject => first | rfl | k_is)
    (case na_InvalidProject_state => k_is)
    (case ti_InvalidProject => k_is)
    (case cg_InvalidProject => k_is)
    (case mr_InvalidProject => k_is)
    (case x_Endless => k_is)
    (case sa_Endless => k_is)
    (case ex_Endless => k_is)
    (case ty_Endless => k_is)
    (case kc_Endless => k_is)
    (case ga_Endless => k_is)
    (case gg_Endless => k_is)
    (case hd_Endless => k_is)
    (case is_Endless => k_is)
    (case ss_Endless => first | rfl | k_is)
    (case na_Endless_state => k_is)
    (case ti_Endless => k_is)
    (case sx_Endless_InvalidProject => first | rfl | k_is)
    (case z_isinstance => k_is)
    (case z_int => k_is)
    (case z_bool => k_is)
    (case z_range => k_is)
    (case z_len => k_is)
    (case z_abs => k_is)
    (case z_max => k_is)
    (case z_str => k_is)
    (case z_list => k_is)
    (case z_tuple => k_is)
    (case z_enumerate => k_is)
    (case z_any => k_is)
    (case v_MOST_STATES => k_is)
    (case v_MOST_GOALS => k_is)
    (case v_MOST_WEIGHT => k_is)
    (case v_MOST_NUM => k_is)
    (case v_MOST_DEN => k_is)
    (case v_gcd => k_is)
    (case is_Frac => k_is)
    (case ty_Frac => k_is)
    (case is_Project => k_is)
    (case ty_Project => k_is)
    (case sb_IP_E => k_is)
    (case ne_IP_E => first | decide | exact (by decide))
    (case sb_F_int => k_is)
    (case sb_F_list => k_is)
    (case sb_F_tuple => k_is)
    (case sb_F_str => k_is)
    (case sb_none_F => k_is)
    (case sb_bool_F => k_is)
    (case sb_int_F => k_is)
    (case sb_str_F => k_is)
    (case sb_list_F => k_is)
    (case sb_tuple_F => k_is)
