import PyProof.Rows.All
import Wide.All
import OpenK.AllK
import Wide.FinOn
import HandS.ForMost
import HandS.IsInst
import HandS.SortRule
import KE.SortData
import HandS.RepeatKit
import HandS.Iter
import PyProof.Rows.SortShell
import HandS.SetFor
import HandS.Strs
import HandS.Exc
import HandS.TryOnly
import HandS.ExcOwn
import HandS.WordsExc
import HandS.CallSlots
import HandS.Defaults
import HandS.MakeKw
import HandS.MakeKwOnly
import HandS.Wide
import HandS.WideBits
import HandS.Gcd
import HandS.HotCalls
import HandS.ExcInit
import HandS.ExcField
import HandS.OwnEq
import HandS.TupAny
import HandS.Style
import HandS.NoneIn
import PyProof.EnumMake
import KE.GoesMore
import KE.KUnpackStar
import HandS.Hot
import HandS.ExcCtx
import KE.KLam
import HandS.Base
import HandS.Call
import HandS.Lambda
import HandS.AnyAll
import HandS.Deep
import HandS.Star
import HandS.Conv
import HandS.More
import HandS.TupSets
import HandS.EndTab
import HandS.EndOwn
import KE.KNestM
import PySem.Challenge.RW_greatestnext_k23_independent_rows
set_option Elab.async false
set_option linter.all false
set_option maxRecDepth 100000
set_option maxHeartbeats 4000000
set_option maxHeartbeats 2000000
set_option exponentiation.threshold 5000
/-! Readings brought to a plain form: loops folded, calls by kinds. -/
namespace Rd
open PySem PySem.Spec PyProof.Rows L2
/-- a loop whose iterator has come -/
def Loop (J : It) (g : TG) (tb : TS) (D : Ends) (σ : L2.St) (H : Hp) : Prop := tFor (fun _ H1 R => R J H1) g tb D σ H
theorem tFor_rng1 {ta : TA} {g : TG} {tb : TS} {D : Ends} {σ : L2.St} {H : Hp} : tFor (iRng1 ta) g tb D σ H = ta σ H (fun vs H1 => ∃ j : Int, vs = [.int j] ∧ -(2 ^ 62) ≤ j ∧ j < 2 ^ 62 ∧ Loop (Itr 0 j.toNat) g tb D σ H1) := rfl
theorem tFor_rng2 {ta : TA} {g : TG} {tb : TS} {D : Ends} {σ : L2.St} {H : Hp} : tFor (iRng2 ta) g tb D σ H = ta σ H (fun vs H1 => ∃ i j : Int, vs = [.int i, .int j] ∧ (-(2 ^ 62) ≤ i ∧ i < 2 ^ 62 ∧ -(2 ^ 62) ≤ j ∧ j < 2 ^ 62) ∧ Loop (Itr i (j - i).toNat) g tb D σ H1) := rfl
theorem tFor_list {K : PySem.W.Frag} {tl : TE} {g : TG} {tb : TS} {D : Ends} {σ : L2.St} {H : Hp} : tFor (iList K tl) g tb D σ H = tl σ H (fun x H1 => ∃ a, x = .ref a ∧ (∃ xs, SqL K H1 a xs) ∧ Loop (Itl K a) g tb D σ H1) := rfl
theorem tFor_tup {K : PySem.W.Frag} {tl : TE} {g : TG} {tb : TS} {D : Ends} {σ : L2.St} {H : Hp} : tFor (iTup K tl) g tb D σ H = tl σ H (fun x H1 => ∃ a, x = .ref a ∧ (∃ xs, SqT K H1 a xs) ∧ Loop (Itt K a) g tb D σ H1) := rfl
theorem loop_rng {lo : Int} {n : Nat} {g : TG} {tb : TS} {D : Ends} {σ : L2.St} {H : Hp} (Pv : Nat → L2.St → Hp → Prop) (h0 : Pv 0 σ H)
    (hs : ∀ i σ H, i < n → Pv i σ H → g (.int (lo + i)) σ H fun σ2 H2 => tb { D with nx := Pv (i + 1), ct := Pv (i + 1), bk := D.nx } σ2 H2) (hd : ∀ σ H, Pv n σ H → D.nx σ H) : Loop (Itr lo n) g tb D σ H := for_range Pv h0 hs hd
theorem loop_list {K : PySem.W.Frag} {a : Addr} {xs : List V} {g : TG} {tb : TS} {D : Ends} {σ : L2.St} {H : Hp} (Pv : Nat → L2.St → Hp → Prop) (h0 : Pv 0 σ H) (hl : ∀ i σ H, i ≤ xs.length → Pv i σ H → SqL K H a xs)
    (hs : ∀ i x σ H, xs[i]? = some x → Pv i σ H → g x σ H fun σ2 H2 => tb { D with nx := Pv (i + 1), ct := Pv (i + 1), bk := D.nx } σ2 H2) (hd : ∀ σ H, Pv xs.length σ H → D.nx σ H) : Loop (Itl K a) g tb D σ H := for_list Pv h0 hl hs hd
/-- a comprehension whose iterator has come -/
def LcL (J : It) (g : TG) (tt : TT) (te : TE) (vs : List Nat) (σ : L2.St) (H : Hp) (Q : VK) : Prop := tLc (fun _ H1 R => R J H1) g tt te vs σ H Q
theorem tLc_list {K : PySem.W.Frag} {tl : TE} {g : TG} {tt : TT} {te : TE} {vs : List Nat} {σ : L2.St} {H : Hp} {Q : VK} : tLc (iList K tl) g tt te vs σ H Q = tl σ H (fun x H1 => ∃ a, x = .ref a ∧ (∃ xs, SqL K H1 a xs) ∧ LcL (Itl K a) g tt te vs σ H1 Q) := rfl
theorem tLc_tup {K : PySem.W.Frag} {tl : TE} {g : TG} {tt : TT} {te : TE} {vs : List Nat} {σ : L2.St} {H : Hp} {Q : VK} : tLc (iTup K tl) g tt te vs σ H Q = tl σ H (fun x H1 => ∃ a, x = .ref a ∧ (∃ xs, SqT K H1 a xs) ∧ LcL (Itt K a) g tt te vs σ H1 Q) := rfl
theorem tLc_rng1 {ta : TA} {g : TG} {tt : TT} {te : TE} {vs : List Nat} {σ : L2.St} {H : Hp} {Q : VK} : tLc (iRng1 ta) g tt te vs σ H Q = ta σ H (fun ws H1 => ∃ j : Int, ws = [.int j] ∧ -(2 ^ 62) ≤ j ∧ j < 2 ^ 62 ∧ LcL (Itr 0 j.toNat) g tt te vs σ H1 Q) := rfl
/-- a turn of a comprehension: the element's value is appended at D -/
def LcTurn (te : TE) (tt : TT) (D : Addr) (σw σ2 : L2.St) (vs : List Nat) (H2 : Hp) (R : Hp → Prop) : Prop := wipe σ2 vs = σw ∧ tt σ2 H2 fun b H3 =>
  if b = true then te σ2 H3 fun y H4 => ∃ acc, H4 D = some (.lst acc) ∧ acc.length < sizeLine ∧ R (upd H4 D (.lst (acc ++ [y]))) else R H3
theorem lcl_list {K : PySem.W.Frag} {a : Addr} {xs : List V} {g : TG} {tt : TT} {te : TE} {vs : List Nat} {σ : L2.St} {H : Hp} {Q : VK} (Pv : Addr → Nat → Hp → Prop) (h0 : ∀ D, H D = none → Pv D 0 (upd H D (.lst []))) (hl : ∀ D i H1, i ≤ xs.length → Pv D i H1 → SqL K H1 a xs)
    (hs : ∀ D i x H1, xs[i]? = some x → Pv D i H1 → g x (wipe σ vs) H1 fun σ2 H2 => LcTurn te tt D (wipe σ vs) σ2 vs H2 (Pv D (i + 1))) (hd : ∀ D H1, H D = none → Pv D xs.length H1 → Q (.ref D) H1) : LcL (Itl K a) g tt te vs σ H Q :=
  fun D hD => lc_list (Pv D) (h0 D hD) (hl D) (hs D) fun H1 p => hd D H1 hD p
theorem lcl_rng {lo : Int} {n : Nat} {g : TG} {tt : TT} {te : TE} {vs : List Nat} {σ : L2.St} {H : Hp} {Q : VK} (Pv : Addr → Nat → Hp → Prop) (h0 : ∀ D, H D = none → Pv D 0 (upd H D (.lst [])))
    (hs : ∀ D i H1, i < n → Pv D i H1 → g (.int (lo + i)) (wipe σ vs) H1 fun σ2 H2 => LcTurn te tt D (wipe σ vs) σ2 vs H2 (Pv D (i + 1))) (hd : ∀ D H1, H D = none → Pv D n H1 → Q (.ref D) H1) : LcL (Itr lo n) g tt te vs σ H Q :=
  fun D hD => lc_range (Pv D) (h0 D hD) (hs D) fun H1 p => hd D H1 hD p
section
variable {X : Cx}
theorem CallR.imp {f : Value} {r r' : List V → Hp → VK → Prop} (h : CallR X f r) (i : ∀ xs H Q, r' xs H Q → r xs H Q) : CallR X f r' := fun pins s σ H xs us Q I v q => h pins s σ H xs us Q I v (i _ _ _ q)
def rLenL (K : PySem.W.Frag) : List V → Hp → VK → Prop := fun xs H Q => ∃ p ys, xs = [.ref p] ∧ SqL K H p ys ∧ Q (.int ys.length) H
def rLenT (K : PySem.W.Frag) : List V → Hp → VK → Prop := fun xs H Q => ∃ p ys, xs = [.ref p] ∧ SqT K H p ys ∧ Q (.int ys.length) H
def rIntI : List V → Hp → VK → Prop := fun xs H Q => ∃ i, xs = [.int i] ∧ Q (.int i) H
theorem call_lenL : CallR X (.builtin "len") (rLenL X.K) := CallR.imp call_len_seq fun xs H Q ⟨p, ys, e, h, q⟩ => ⟨p, ys, e, .inl h, q⟩
theorem call_lenT : CallR X (.builtin "len") (rLenT X.K) := CallR.imp call_len_seq fun xs H Q ⟨p, ys, e, h, q⟩ => ⟨p, ys, e, .inr h, q⟩
theorem call_intI : CallR X (.type "int") rIntI := CallR.imp call_int1 fun xs H Q ⟨i, e, q⟩ => .inl ⟨i, e, q⟩
end
/-- an item of a list that stands in H by itself -/
def rIxH : R2 := fun x y H Q => ∃ p xs i v, x = .ref p ∧ y = .int i ∧ H p = some (.lst xs) ∧ atI xs i = some v ∧ Q v H
theorem ixH {X : Cx} : IxR X rIxH := fun value slice pins s σ H x y v u Q I rx ry ⟨p, xs, i, z, e1, e2, h, e3, q⟩ hs => ix_list value slice pins s σ H x y v u Q I rx ry ⟨p, xs, i, z, e1, e2, SqL.of h, e3, q⟩ hs
theorem at0 {α : Type} {x : α} {xs : List α} : atI (x :: xs) 0 = some x := atI_nat (j := 0) rfl
theorem at1 {α : Type} {x y : α} {xs : List α} : atI (x :: y :: xs) 1 = some y := atI_nat (j := 1) rfl
theorem at2 {α : Type} {x y z : α} {xs : List α} : atI (x :: y :: z :: xs) 2 = some z := atI_nat (j := 2) rfl
theorem at3 {α : Type} {x y z u : α} {xs : List α} : atI (x :: y :: z :: u :: xs) 3 = some u := atI_nat (j := 3) rfl
theorem ixN40 : ixN 4 0 = some 0 := rfl
theorem ixN41 : ixN 4 1 = some 1 := rfl
theorem ixN42 : ixN 4 2 = some 2 := rfl
theorem ixN43 : ixN 4 3 = some 3 := rfl
theorem scal_ii (a b : Int) : scal (V.int a) (V.int b) = true := rfl
/-- a loop over a range whose break and end meet in Pe -/
theorem loop_rngC {lo : Int} {n : Nat} {g : TG} {tb : TS} {D : Ends} {σ : L2.St} {H : Hp} (Pe : L2.St → Hp → Prop) (Pv : Nat → L2.St → Hp → Prop) (h0 : Pv 0 σ H)
    (hs : ∀ (bk : L2.St → Hp → Prop), (∀ σ H, Pe σ H → bk σ H) → ∀ i σ H, i < n → Pv i σ H → g (.int (lo + i)) σ H fun σ2 H2 => tb { D with nx := Pv (i + 1), ct := Pv (i + 1), bk := bk } σ2 H2)
    (hd : ∀ σ H, Pv n σ H → Pe σ H) (he : ∀ σ H, Pe σ H → D.nx σ H) : Loop (Itr lo n) g tb D σ H := loop_rng Pv h0 (hs D.nx he) fun σ H p => he σ H (hd σ H p)
theorem loop_listC {K : PySem.W.Frag} {a : Addr} {xs : List V} {g : TG} {tb : TS} {D : Ends} {σ : L2.St} {H : Hp} (Pe : L2.St → Hp → Prop) (Pv : Nat → L2.St → Hp → Prop) (h0 : Pv 0 σ H) (hl : ∀ i σ H, i ≤ xs.length → Pv i σ H → SqL K H a xs)
    (hs : ∀ (bk : L2.St → Hp → Prop), (∀ σ H, Pe σ H → bk σ H) → ∀ i x σ H, xs[i]? = some x → Pv i σ H → g x σ H fun σ2 H2 => tb { D with nx := Pv (i + 1), ct := Pv (i + 1), bk := bk } σ2 H2)
    (hd : ∀ σ H, Pv xs.length σ H → Pe σ H) (he : ∀ σ H, Pe σ H → D.nx σ H) : Loop (Itl K a) g tb D σ H := loop_list Pv h0 hl (hs D.nx he) fun σ H p => he σ H (hd σ H p)
theorem ite_true_of {c : Bool} {A B : Prop} (hc : c = true) (h : A) : if c = true then A else B := by
  rw [if_pos hc]; exact h
theorem ite_false_of {c : Bool} {A B : Prop} (hc : c = false) (h : B) : if c = true then A else B := by
  rw [hc, if_neg Bool.false_ne_true]; exact h
end Rd
/-! A rule of our own: sorted(xs) of a list of tuples that read as alike data, of any length. -/
namespace OwnSort
open PySem PySem.Spec PyProof.Rows L2
abbrev Rw := Addr × PyData
def rSortedD (K : PySem.W.Frag) : List V → Hp → VK → Prop := fun vs H Q => ∃ (a : Addr) (bs : List Rw), vs = [.ref a] ∧ SqL K H a (bs.map fun b => V.ref b.1) ∧ (∀ b ∈ bs, Dp K H (.ref b.1) b.2) ∧ PySem.W.AllAlike (bs.map (·.2)) ∧ PySem.W.Sortable (bs.map (·.2)) ∧ (∀ b ∈ bs, b.2.depth ≤ 60) ∧ bs.length ≤ sizeLine ∧
  ∀ p, H p = none → Q (.ref p) (upd H p (.lst ((bs.mergeSort (PySem.W.dataLe false (·.2))).map fun b => V.ref b.1)))
theorem each_of {bs : List Rw} {us : List Value} (h : Vals (bs.map fun b => V.ref b.1) us) : PySem.W.EachIs (fun v (b : Rw) => v = Value.ref b.1) us bs := by
  induction bs generalizing us with
  | nil => cases h; exact .nil
  | cons b bs ih =>
    cases h with
    | cons r rs => exact .cons r (ih rs)
theorem vals_of {bs : List Rw} {us : List Value} (h : PySem.W.EachIs (fun v (b : Rw) => v = Value.ref b.1) us bs) : Vals (bs.map fun b => V.ref b.1) us := by
  induction h with
  | nil => exact .nil
  | cons r _ ih => exact .cons r ih
theorem each_reads {X : Cx} {pins : List (Addr × Obj)} {σ : L2.St} {H : Hp} {s : Shared} (I : Inv X pins σ H s) : ∀ {bs : List Rw} {us : List Value}, PySem.W.EachIs (fun v (b : Rw) => v = Value.ref b.1) us bs → (∀ b ∈ bs, Dp X.K H (.ref b.1) b.2) → PySem.W.EachIs (fun v (b : Rw) => ∃ as, Reads s.heap v b.2 as) us bs
  | _, _, .nil, _ => .nil
  | _, _, .cons (b := b) r rs, h => .cons (Dp.reads I b.2 (.ref b.1) _ (h b List.mem_cons_self) r) (each_reads I rs fun b hb => h b (List.mem_cons_of_mem _ hb))
theorem cr_sortedD {X : Cx} (hu : X.A.units + 64 < cLine) : CallR X (.builtin "sorted") (rSortedD X.K) := by
  intro pins s σ H vs us Q I r h
  obtain ⟨a, bs, rfl, hs, hd, hal, hk, hdep, hlen, q⟩ := h
  obtain ⟨its, rv, hl, hz⟩ := I.list hs
  obtain ⟨u, rfl, ru⟩ := vals1 r
  obtain rfl : u = Value.ref a := ru
  have e := each_of rv
  refine PySem.W.sorted_data (enc := fun b : Rw => b.2) hl.isList e (each_reads I e hd) hal hk hlen (fun b hb => ?_) fun out ho eo => ?_
  · have := hdep b hb
    omega
  · obtain ⟨c, hc⟩ := sortedAll_at s.heap its out.toArray
    refine ⟨.ref (s.heap.objs.size + 1), upd H (s.heap.objs.size + 1) (.lst ((bs.mergeSort (PySem.W.dataLe false (·.2))).map fun b => V.ref b.1)), I.laid (t' := s.toks) (fun _ _ => sortedAll_old) (Nat.le_succ _) ⟨?_, out, c, vals_of eo, hc⟩, rfl, q _ (I.hok.fresh (Nat.le_succ _))⟩
    rw [List.length_map, List.length_mergeSort]
    exact hlen
end OwnSort
/-! Rules of our own: itertools.combinations of a list. -/
namespace OwnComb
open PySem PySem.Spec PyProof.Rows L2
open Sem (wp)
abbrev T : String := "itertools.combinations"
theorem c_mro : mroOf (.type T) = pure [.type T, .type "object"] := by rw [mroOf_type]; kernel_rfl
theorem c_new : typeLookup (.type T) "__new__" = pure (some (.builtin "itertools.combinations.__new__")) := by rw [typeLookup_type, builtinLookup_eq_fast]; kernel_rfl
theorem c_init : Slot T "__init__" "object.__init__" :=
  .of (owner := "object") (n := "__init__") (by rw [typeLookup_type, builtinLookup_eq_fast]; kernel_rfl) (by decide +kernel) (by decide +kernel) (by decide +kernel)
    (by first | exact .inl (by decide +kernel) | exact .inr (by decide +kernel)) (by rw [isSubtype_type]; kernel_rfl)
theorem c_sub : isSubtype (.type T) (.type T) = pure true := by rw [isSubtype_type]; kernel_rfl
theorem c_called : TypeCalled T "itertools.combinations.__new__" "object.__init__" :=
  ⟨by decide +kernel, by decide +kernel, ⟨_, _, c_mro⟩, madeBy_type c_mro c_new (by decide +kernel), by decide +kernel, c_sub, c_init⟩
theorem c_tcall (a b : Value) : checkTypeCall T ⟨[a, b], []⟩ = pure () := by kernel_rfl
theorem c_ncall (a b : Value) : checkBuiltinCall "itertools.combinations.__new__" ⟨[.type T, a, b], []⟩ = pure () := by kernel_rfl
theorem c_enew : entryFor table "itertools.combinations.__new__" = some Builtin.«itertools.combinations.__new__» := entryFor_of_tree (by kernel_rfl)
theorem c_siter : Slot T "__iter__" "itertools.combinations.__iter__" :=
  .of (owner := T) (n := "__iter__") (by rw [typeLookup_type, builtinLookup_eq_fast]; kernel_rfl) (by decide +kernel) (by decide +kernel) (by decide +kernel)
    (by first | exact .inl (by decide +kernel) | exact .inr (by decide +kernel)) c_sub
theorem c_snext : Slot T "__next__" "itertools.combinations.__next__" :=
  .of (owner := T) (n := "__next__") (by rw [typeLookup_type, builtinLookup_eq_fast]; kernel_rfl) (by decide +kernel) (by decide +kernel) (by decide +kernel)
    (by first | exact .inl (by decide +kernel) | exact .inr (by decide +kernel)) c_sub
theorem c_eiter : entryFor table "itertools.combinations.__iter__" = some Builtin.«dict_keyiterator.__iter__» :=
  entryFor_alias (id' := "dict_keyiterator.__iter__") (by kernel_rfl) (by first | rfl | decide +kernel | (unfold String.splitOn; simp +decide [String.splitOnAux])) (by decide +kernel) (by kernel_rfl)
theorem c_enext : entryFor table "itertools.combinations.__next__" = some Builtin.«itertools.combinations.__next__» := entryFor_of_tree (by kernel_rfl)
theorem c_owner : Manifest.owners.lookup (String.ofList ['s', 'n', 'o', 'i', 't', 'a', 'n', 'i', 'b', 'm', 'o', 'c', '.', 's', 'l', 'o', 'o', 't', 'r', 'e', 't', 'i'].reverse) = some Manifest.sig_itertools_combinations := by kernel_rfl
theorem c_noDict : typeHasDict (.type T) = false := by decide +kernel
theorem c_aiter (a : Value) : argsOk "itertools.combinations.__iter__" ⟨[a], []⟩ := by
  unfold argsOk; rw [signature?_of (id := "itertools.combinations.__iter__") (n := ['_', '_', 'r', 'e', 't', 'i', '_', '_']) (o := ['s', 'n', 'o', 'i', 't', 'a', 'n', 'i', 'b', 'm', 'o', 'c', '.', 's', 'l', 'o', 'o', 't', 'r', 'e', 't', 'i']) (by kernel_rfl) c_owner]; kernel_rfl
theorem c_anext (a : Value) : argsOk "itertools.combinations.__next__" ⟨[a], []⟩ := by
  unfold argsOk; rw [signature?_of (id := "itertools.combinations.__next__") (n := ['_', '_', 't', 'x', 'e', 'n', '_', '_']) (o := ['s', 'n', 'o', 'i', 't', 'a', 'n', 'i', 'b', 'm', 'o', 'c', '.', 's', 'l', 'o', 'o', 't', 'r', 'e', 't', 'i']) (by kernel_rfl) c_owner]; kernel_rfl
end OwnComb
/-! Rules of our own: itertools.combinations of a list. -/
namespace OwnComb
open PySem PySem.Spec PyProof.Rows L2
open Sem (wp)
/-- a combinations object: its pool, how far it is, what it gave last, its places -/
def IsComb (h : Heap) (it pool : Addr) (st : Int) (last : Value) (idx : List Nat) : Prop := h.get? it = some { cls := .type T, dict := none, data := .fields ([.ref pool, rawInt st, last] ++ idx.map fun (i : Nat) => rawInt i).toArray, slots := #[] }
section
variable {prog : Program} {w : World} {A : Around} {E : Value → Shared → Prop} {s : Shared}
theorem k_class {a b : Value} {Q : Value × List Value → Shared → Prop} (h : Q (.type T, [a, b]) s) : wpAny (model prog w) A (Builtin.Itertools.itClassAndRest "combinations" ⟨[.type T, a, b], []⟩) Q E s := by
  have hsub := c_sub
  have e : ("itertools." ++ "combinations" : String) = T := by decide +kernel
  unfold Builtin.Itertools.itClassAndRest
  rw [e]
  repeat (first | wp_step | exact h)
theorem k_named {a b : Value} {Q : List (Option Value) → Shared → Prop} (h : Q [some a, some b] s) : wpAny (model prog w) A (Builtin.Itertools.itBindNamed "combinations" ["iterable", "r"] 2 2 [a, b] []) Q E s := by
  unfold Builtin.Itertools.itBindNamed
  repeat (first | wp_step | exact h | simp only [List.head?_cons, Option.some_or, List.getElem?_cons_succ, List.getElem?_cons_zero, List.length_cons, List.length_nil, List.forIn_nil])
theorem k_ssize {r : Nat} {t : Tok} {Q : Int → Shared → Prop} (hr : r < 1000) (h : Q r s) : wpAny (model prog w) A (Builtin.Itertools.itSsizeArg (.int r t)) Q E s := by
  have hn : ¬ ((!(decide (-(2 ^ 63 : Int) ≤ (r : Int)) && decide ((r : Int) < (2 ^ 63 : Int)))) = true) := by
    have a : decide (-(2 ^ 63 : Int) ≤ (r : Int)) = true := decide_eq_true (by omega)
    have b : decide ((r : Int) < (2 ^ 63 : Int)) = true := decide_eq_true (by omega)
    rw [a, b]
    decide
  have a1 : (decide ((r : Int) < -2 ^ 63) || decide ((r : Int) ≥ 2 ^ 63)) = false := by
    rw [decide_eq_false (by omega), decide_eq_false (by omega)]
    rfl
  unfold Builtin.Itertools.itSsizeArg
  refine wpAny_bind ?_
  repeat wp_step
  rw [a1]
  exact wpAny_ite_false (by decide) (wpAny_pure h)
end
theorem comb_new (l : Addr) (vs : List Value) (r : Nat) (t : Tok) (hr : r < 1000) (hv : vs.length < 1000) :
    Meets (Builtin.«itertools.combinations.__new__» ⟨[.type T, .ref l, .int r t], []⟩)
      (fun _ R s => s.heap.IsList l vs.toArray ∧ ∀ h' it pool, (∀ b o, s.heap.get? b = some o → h'.get? b = some o) → s.heap.objs.size ≤ it → s.heap.objs.size ≤ pool → pool ≠ it → h'.IsTuple pool vs.toArray → IsComb h' it pool (if r > vs.length then 2 else 0) .none (List.range r) → R (.ok (.ret (.ref it))) { s with heap := h' }) :=
  .of_wp fun prog w A R s ⟨hL, h⟩ => by
    obtain ⟨hp, g, dd, tk, os⟩ := s
    have hsub := c_sub
    have hd := c_noDict
    unfold Builtin.«itertools.combinations.__new__»
    refine wpAny_bind ?_
    show wpAny _ _ (_ >>= _) _ _ _
    refine wpAny_bind (k_class ?_)
    show wpAny _ _ (_ >>= _) _ _ _
    refine wpAny_bind (k_named ?_)
    show wpAny _ _ (_ >>= _) _ _ _
    refine wpAny_bind (k_ssize hr ?_)
    refine wpAny_bind (collect_list (s := ⟨hp, g, dd, tk, os⟩) hL ?_ (Nat.le_trans (Nat.le_of_lt hv) (by decide)))
    dsimp only
    refine wpAny_ite_false (by simp) ?_
    refine wpAny_ite_false ?_ ?_
    · unfold Builtin.Itertools.itTooMany
      simp
      omega
    refine wpAny_bind (wpAny_newTuple ?_ (Nat.le_trans (Nat.le_of_lt hv) (by decide)))
    refine wpAny_pure ?_
    have sz : ((hp.push (seqObj "list" #[] 0)).update hp.objs.size (Obj.mapSeq fun x => x ++ vs.toArray)).objs.size = hp.objs.size + 1 := by
      rw [Heap.size_update, size_push']
    have k0 : ∀ b o, hp.get? b = some o → ((hp.push (seqObj "list" #[] 0)).update hp.objs.size (Obj.mapSeq fun x => x ++ vs.toArray)).get? b = some o := fun b o e => by
      rw [Heap.get?_update_ne _ _ _ _ (Nat.ne_of_lt (Heap.lt_size e))]
      exact Heap.get?_push_of_some _ e
    dsimp only
    generalize (hp.push (seqObj "list" #[] 0)).update hp.objs.size (Obj.mapSeq fun x => x ++ vs.toArray) = h1 at sz k0
    refine wpAny_bind ?_
    unfold Builtin.Itertools.itNewRecord
    rw [hd]
    refine wpAny_ite_true rfl ?_
    refine wpAny_newObj_type ?_ ?_
    · refine wpAny_pure ⟨_, rfl, ?_⟩
      have e1 : ((r : Nat) : Int).toNat = r := Int.toNat_natCast r
      rw [e1]
      have szt : (h1.push { cls := Value.type "tuple", data := Data.seq vs.toArray }).objs.size = hp.objs.size + 2 := by
        rw [Heap.size_push, sz]
      have pt : (h1.push { cls := Value.type "tuple", data := Data.seq vs.toArray }).get? h1.objs.size = some { cls := Value.type "tuple", data := Data.seq vs.toArray } := Heap.get?_push_size _ rfl
      refine h _ _ h1.objs.size (fun b o e => Heap.get?_push_of_some _ (Heap.get?_push_of_some _ (k0 b o e))) ?_ ?_ ?_ ?_ ?_
      · show hp.objs.size ≤ (h1.push _).objs.size
        rw [szt]
        exact Nat.le_add_right _ _
      · show hp.objs.size ≤ h1.objs.size
        rw [sz]
        exact Nat.le_succ _
      · show h1.objs.size ≠ (h1.push _).objs.size
        rw [szt, sz]
        exact Nat.ne_of_lt (Nat.lt_succ_self _)
      · exact ⟨_, Heap.get?_push_of_some _ pt, rfl, _, rfl⟩
      · exact Heap.get?_push_size _ rfl
    · show _ ≤ _
      rw [List.size_toArray, List.length_append, List.length_map, List.length_range, Int.toNat_natCast]
      exact Nat.le_trans (show 3 + r ≤ 1003 by omega) (by decide)
section
variable {prog : Program} {w : World} {A : Around} {E : Value → Shared → Prop} {s : Shared}
theorem call_comb {l : Addr} {vs : List Value} {r : Nat} {t : Tok} {Q : Value → Shared → Prop} (hL : s.heap.IsList l vs.toArray) (hr : r < 1000) (hv : vs.length < 1000)
    (h : ∀ h' it pool, (∀ b o, s.heap.get? b = some o → h'.get? b = some o) → s.heap.objs.size ≤ it → s.heap.objs.size ≤ pool → pool ≠ it → h'.IsTuple pool vs.toArray → IsComb h' it pool (if r > vs.length then 2 else 0) .none (List.range r) → Q (.ref it) { s with heap := h' }) :
    wpAny (model prog w) A (call (.type T) [.ref l, .int r t]) Q E s := by
  refine callType_new c_called (by decide +kernel) (c_tcall _ _) (c_ncall _ _) (fun obj => F.args_object_init_3 obj _ _) c_enew (comb_new l vs r t hr hv) ?_
  refine ⟨hL, fun h' it pool k a b c d e => ?_⟩
  show _ ∧ _
  exact ⟨⟨_, e, rfl⟩, h h' it pool k a b c d e⟩
theorem iter_comb {it pool : Addr} {st : Int} {last : Value} {idx : List Nat} {Q : Value → Shared → Prop} (hit : IsComb s.heap it pool st last idx) (h : Q (.ref it) s) : wpAny (model prog w) A (pyIter (.ref it)) Q E s := by
  have hT : s.TypeIs (.ref it) T := ⟨_, hit, rfl⟩
  refine wpAny_pyIter_slot hT c_siter (wpAny_call_entry c_siter hT c_eiter ?_ (c_aiter _))
  show wpAny _ _ (ret (.ref it)) _ _ s
  exact wpAny_pure ⟨_, rfl, T, _, hT, c_snext.lookup, h⟩
/-- the next places -/
def nxt (n : Nat) (js : List Nat) : Option (List Nat) :=
  match (List.range js.length).reverse.find? fun k => js.getD k 0 != k + n - js.length with
  | none => none
  | some k => some (js.take k ++ (List.range (js.length - k)).map (js.getD k 0 + 1 + ·))
theorem size3 (a b c : Value) (idx : List Nat) : ([a, b, c] ++ idx.map fun (i : Nat) => rawInt i).toArray.size = 3 + idx.length := by
  rw [List.size_toArray, List.length_append, List.length_map]
  rfl
theorem IsComb.set1 {h : Heap} {it pool : Addr} {st x : Int} {last : Value} {idx : List Nat} (hit : IsComb h it pool st last idx) : IsComb (h.update it (Obj.mapFields fun v => v.setIfInBounds 1 (rawInt x))) it pool x last idx := by
  refine (Heap.get?_update_self _ hit rfl).trans ?_
  simp [Obj.mapFields]
theorem IsComb.set2 {h : Heap} {it pool : Addr} {st : Int} {last x : Value} {idx : List Nat} (hit : IsComb h it pool st last idx) : IsComb (h.update it (Obj.mapFields fun v => v.setIfInBounds 2 x)) it pool st x idx := by
  refine (Heap.get?_update_self _ hit rfl).trans ?_
  simp [Obj.mapFields]
theorem IsComb.setN {h : Heap} {it pool : Addr} {st : Int} {last : Value} {idx js : List Nat} (hit : IsComb h it pool st last idx) : IsComb (h.update it (Obj.mapFields fun v => v.extract 0 3 ++ (js.map fun (n : Nat) => rawInt n).toArray)) it pool st last js := by
  refine (Heap.get?_update_self _ hit rfl).trans ?_
  simp [Obj.mapFields]
theorem k_nums {it pool : Addr} {st : Int} {last : Value} {idx : List Nat} {Q : List Nat → Shared → Prop} (hit : IsComb s.heap it pool st last idx) (h : Q idx s) : wpAny (model prog w) A (Builtin.Itertools.itNumbersFrom (.ref it) 3) Q E s := by
  unfold Builtin.Itertools.itNumbersFrom
  refine wpAny_bind (wpAny_load hit ?_)
  refine wpAny_pure ?_
  have e : ∀ l : List Nat, (l.map fun (i : Nat) => rawInt i).map (fun v => match v with | .int n _ => n.toNat | _ => 0) = l := fun l => by
    rw [List.map_map]
    exact (List.map_congr_left (g := id) fun x _ => Int.toNat_natCast x).trans (List.map_id l)
  have e2 := e idx
  show Q (((([Value.ref pool, rawInt st, last] ++ idx.map fun (i : Nat) => rawInt i).toArray.toList.drop 3).map _)) s
  rw [show (([Value.ref pool, rawInt st, last] ++ idx.map fun (i : Nat) => rawInt i).toArray.toList.drop 3) = idx.map fun (i : Nat) => rawInt i from rfl]
  exact e2.symm ▸ h
theorem k_int {it pool : Addr} {st : Int} {last : Value} {idx : List Nat} {Q : Int → Shared → Prop} (hit : IsComb s.heap it pool st last idx) (h : Q st s) : wpAny (model prog w) A (Builtin.Itertools.itIntField (.ref it) 1) Q E s := by
  unfold Builtin.Itertools.itIntField
  exact wpAny_bind (wpAny_field hit rfl (x := rawInt st) rfl (wpAny_pure h))
theorem k_pool {pool : Addr} {items : Array Value} {Q : Array Value → Shared → Prop} (hp : s.heap.IsTuple pool items) (h : Q items s) : wpAny (model prog w) A (Builtin.Itertools.itPoolItems (.ref pool)) Q E s := by
  obtain ⟨op, hop, _, np, hdp⟩ := hp
  unfold Builtin.Itertools.itPoolItems
  exact wpAny_bind (wpAny_seqItems hop hdp (wpAny_pure h))
theorem k_out {it pool : Addr} {st : Int} {last : Value} {idx : List Nat} {items : List Value} {Q : PySem.Fin → Shared → Prop} (hit : IsComb s.heap it pool st last idx) (hl : items.length < 1000)
    (hQ : ∀ h', IsComb h' it pool st (.ref s.heap.objs.size) idx → (∀ b o, b ≠ it → s.heap.get? b = some o → h'.get? b = some o) → h'.IsTuple s.heap.objs.size items.toArray → Q (.done (.ret (.ref s.heap.objs.size))) { s with heap := h' }) :
    wpAny (model prog w) A (newTuple items) (fun x s' => wpAny (model prog w) A (do
      let b ← field (.ref it) 2
      setField (.ref it) 2 x
      letGo [b] [x]
      ret x) Q E s') E s := by
  refine wpAny_newTuple ?_ (Nat.le_trans (Nat.le_of_lt hl) (by decide))
  have hit1 : IsComb (s.heap.push { cls := .type "tuple", data := .seq items.toArray }) it pool st last idx := Heap.get?_push_of_some _ hit
  have ne : s.heap.objs.size ≠ it := Ne.symm (Nat.ne_of_lt (Heap.lt_size hit))
  have pt : (s.heap.push { cls := .type "tuple", data := .seq items.toArray }).get? s.heap.objs.size = some { cls := .type "tuple", data := .seq items.toArray } := Heap.get?_push_size _ rfl
  have k1 : ∀ b o, s.heap.get? b = some o → (s.heap.push { cls := .type "tuple", data := .seq items.toArray }).get? b = some o := fun b o e => Heap.get?_push_of_some _ e
  generalize s.heap.push { cls := .type "tuple", data := .seq items.toArray } = h1 at hit1 pt k1
  refine wpAny_bind (wpAny_field hit1 rfl (x := last) rfl ?_)
  refine wpAny_bind (wpAny_setField hit1 rfl (by rw [size3]; omega) ?_)
  refine wpAny_bind (wpAny_letGo ?_)
  exact wpAny_pure (hQ _ hit1.set2 (fun b o hb e => (Heap.get?_update_ne _ _ _ _ hb).trans (k1 b o e)) ⟨_, (Heap.get?_update_ne _ _ _ _ ne).trans pt, rfl, _, rfl⟩)
theorem comb_first {it pool : Addr} {vs : List Value} {last : Value} {idx : List Nat} {Q : Option Value → Shared → Prop} (hit : IsComb s.heap it pool 0 last idx) (hp : s.heap.IsTuple pool vs.toArray) (hne : pool ≠ it) (hl : idx.length < 1000)
    (hQ : ∀ h', IsComb h' it pool 1 (.ref s.heap.objs.size) idx → (∀ b o, b ≠ it → s.heap.get? b = some o → h'.get? b = some o) → h'.IsTuple s.heap.objs.size (idx.map fun i => vs.toArray.getD i .none).toArray → Q (some (.ref s.heap.objs.size)) { s with heap := h' }) :
    wpAny (model prog w) A (pyNext (.ref it)) Q E s := by
  have hT : s.TypeIs (.ref it) T := ⟨_, hit, rfl⟩
  unfold pyNext
  refine wpAny_bind (wpAny_attempt (wpAny_callSpecial?_slot (name := Str.ofString "__next__") hT c_snext (wpAny_call_entry c_snext hT c_enext ?_ (c_anext _))))
  show wpAny _ _ (field (.ref it) 0 >>= _) _ _ s
  refine wpAny_bind (wpAny_field hit rfl (x := .ref pool) rfl ?_)
  show wpAny _ _ (Builtin.Itertools.itNumbersFrom (.ref it) 3 >>= _) _ _ s
  refine wpAny_bind (k_nums hit ?_)
  show wpAny _ _ (Builtin.Itertools.itIntField (.ref it) 1 >>= _) _ _ s
  refine wpAny_bind (k_int hit ?_)
  show wpAny _ _ (setField (.ref it) 1 (rawInt 1) >>= _) _ _ s
  refine wpAny_bind (wpAny_setField hit rfl (by rw [size3]; omega) ?_)
  have hit1 := hit.set1 (x := 1)
  have k1 : ∀ b o, b ≠ it → s.heap.get? b = some o → (s.heap.update it (Obj.mapFields fun v => v.setIfInBounds 1 (rawInt 1))).get? b = some o := fun b o hb e => (Heap.get?_update_ne _ _ _ _ hb).trans e
  have sz1 : (s.heap.update it (Obj.mapFields fun v => v.setIfInBounds 1 (rawInt 1))).objs.size = s.heap.objs.size := Heap.size_update ..
  generalize s.heap.update it (Obj.mapFields fun v => v.setIfInBounds 1 (rawInt 1)) = h1 at hit1 k1 sz1
  show wpAny _ _ (_ >>= _) _ _ _
  refine wpAny_bind ?_
  show wpAny _ _ (Builtin.Itertools.itPoolItems (.ref pool) >>= _) _ _ _
  refine wpAny_bind (k_pool (items := vs.toArray) ?_ ?_)
  · obtain ⟨op, hop, c, d⟩ := hp
    exact ⟨op, k1 _ _ hne hop, c, d⟩
  refine k_out (s := { s with heap := h1 }) hit1 (by rw [List.length_map]; exact hl) fun h' a b c => ⟨_, rfl, wpAny_pure ?_⟩
  have e : ({ s with heap := h1 } : Shared).heap.objs.size = s.heap.objs.size := sz1
  rw [e] at a c ⊢
  exact hQ h' a (fun b' o hb e => b b' o hb (k1 b' o hb e)) c
theorem comb_more {it pool : Addr} {vs : List Value} {last : Value} {idx js : List Nat} {Q : Option Value → Shared → Prop} (hit : IsComb s.heap it pool 1 last idx) (hp : s.heap.IsTuple pool vs.toArray) (hne : pool ≠ it) (hn : nxt vs.length idx = some js) (hl : js.length < 1000)
    (hQ : ∀ h', IsComb h' it pool 1 (.ref s.heap.objs.size) js → (∀ b o, b ≠ it → s.heap.get? b = some o → h'.get? b = some o) → h'.IsTuple s.heap.objs.size (js.map fun i => vs.toArray.getD i .none).toArray → Q (some (.ref s.heap.objs.size)) { s with heap := h' }) :
    wpAny (model prog w) A (pyNext (.ref it)) Q E s := by
  have hT : s.TypeIs (.ref it) T := ⟨_, hit, rfl⟩
  unfold pyNext
  refine wpAny_bind (wpAny_attempt (wpAny_callSpecial?_slot (name := Str.ofString "__next__") hT c_snext (wpAny_call_entry c_snext hT c_enext ?_ (c_anext _))))
  show wpAny _ _ (field (.ref it) 0 >>= _) _ _ s
  refine wpAny_bind (wpAny_field hit rfl (x := .ref pool) rfl ?_)
  show wpAny _ _ (Builtin.Itertools.itNumbersFrom (.ref it) 3 >>= _) _ _ s
  refine wpAny_bind (k_nums hit ?_)
  show wpAny _ _ (Builtin.Itertools.itIntField (.ref it) 1 >>= _) _ _ s
  refine wpAny_bind (k_int hit ?_)
  show wpAny _ _ (Builtin.Itertools.itPoolItems (.ref pool) >>= _) _ _ s
  refine wpAny_bind (k_pool hp ?_)
  have hn' : nxt vs.toArray.size idx = some js := by rw [List.size_toArray]; exact hn
  split
  case h_2 heq =>
    have z : nxt vs.toArray.size idx = none := heq
    rw [hn'] at z
    cases z
  rename_i next heq
  have z : nxt vs.toArray.size idx = some next := heq
  rw [hn'] at z
  cases z
  show wpAny _ _ (Builtin.Itertools.itSetNumbersFrom (.ref it) 3 js >>= _) _ _ s
  refine wpAny_bind ?_
  unfold Builtin.Itertools.itSetNumbersFrom
  refine wpAny_updateFields hit rfl ?_ ?_
  · have hit1 := hit.setN (js := js)
    have k1 : ∀ b o, b ≠ it → s.heap.get? b = some o → (s.heap.update it (Obj.mapFields fun v => v.extract 0 3 ++ (js.map fun (n : Nat) => rawInt n).toArray)).get? b = some o := fun b o hb e => (Heap.get?_update_ne _ _ _ _ hb).trans e
    have sz1 : (s.heap.update it (Obj.mapFields fun v => v.extract 0 3 ++ (js.map fun (n : Nat) => rawInt n).toArray)).objs.size = s.heap.objs.size := Heap.size_update ..
    generalize s.heap.update it (Obj.mapFields fun v => v.extract 0 3 ++ (js.map fun (n : Nat) => rawInt n).toArray) = h1 at hit1 k1 sz1
    show wpAny _ _ (_ >>= _) _ _ _
    refine wpAny_bind ?_
    show wpAny _ _ (Builtin.Itertools.itPoolItems (.ref pool) >>= _) _ _ _
    refine wpAny_bind (k_pool (items := vs.toArray) ?_ ?_)
    · obtain ⟨op, hop, c, d⟩ := hp
      exact ⟨op, k1 _ _ hne hop, c, d⟩
    refine k_out (s := { s with heap := h1 }) hit1 (by rw [List.length_map]; exact hl) fun h' a b c => ⟨_, rfl, wpAny_pure ?_⟩
    have e : ({ s with heap := h1 } : Shared).heap.objs.size = s.heap.objs.size := sz1
    rw [e] at a c ⊢
    exact hQ h' a (fun b' o hb e => b b' o hb (k1 b' o hb e)) c
  · have e1 : (js.map fun (n : Nat) => rawInt n).toArray.size = js.length := by rw [List.size_toArray, List.length_map]
    have e2 : (([Value.ref pool, rawInt 1, last] ++ idx.map fun (i : Nat) => rawInt i).toArray.extract 0 3).size ≤ 3 := by rw [Array.size_extract]; omega
    rw [Array.size_append, e1]
    exact Nat.le_trans (show _ + js.length ≤ 1003 by omega) (by decide)
/-- the end's exception within pyNext -/
theorem k_stop {it : Addr} {F : PySem.Fin → Shared → Prop} {G : Value → Shared → Prop} (hh : A.handled = none)
    (hQ : ∀ e h', CpRep.StopE e h' → Heap.ExtBut it s.heap h' → G e { s with heap := h' }) : wpAny (model prog w) A (Builtin.Itertools.itStop : Sem PySem.Fin) F G s := by
  unfold Builtin.Itertools.itStop
  refine wpAny_bind ?_
  simp only [newExc, newTuple]
  refine wpAny_bind (wpAny_newObj_type ?_ (by size_fits))
  refine wpAny_bind (m := firstArgMember _ _) (wpAny_of_eq (a := Value.none) (by first | rfl | (simp only [firstArgMember]; rfl)) ?_)
  refine wpAny_newObj_type ?_ (by size_fits)
  simp only [raiseNew]
  refine wpAny_bind (wpAny_handled ?_)
  rw [hh]
  refine wpAny_bind (wpAny_pure (wpAny_throw ?_))
  exact hQ _ _ ⟨_, _, _, rfl, Heap.get?_push_size _ rfl, rfl, rfl, rfl⟩ (((Heap.ExtBut.refl it s.heap).push _).push _)
theorem stop_is {e : Value} (h : CpRep.StopE e s.heap) {Q : Option Value → Shared → Prop} (hQ : Q none s) : wpAny (model prog w) A (do if ← isInstance e (.type "StopIteration") then pure none else throw e : Sem (Option Value)) Q E s := by
  obtain ⟨a, o, vs, rfl, ho, hc, _⟩ := h
  refine wpAny_bind (wpAny_isInstance (T := "StopIteration") (b := true) ⟨_, ho, hc⟩ isSubtype_stop ?_)
  exact wpAny_pure hQ
theorem comb_done {it pool : Addr} {vs : List Value} {last : Value} {idx : List Nat} {Q : Option Value → Shared → Prop} (hh : A.handled = none) (hit : IsComb s.heap it pool 1 last idx) (hp : s.heap.IsTuple pool vs.toArray) (hn : nxt vs.length idx = none)
    (hQ : ∀ h', Heap.ExtBut it s.heap h' → Q none { s with heap := h' }) : wpAny (model prog w) A (pyNext (.ref it)) Q E s := by
  have hT : s.TypeIs (.ref it) T := ⟨_, hit, rfl⟩
  unfold pyNext
  refine wpAny_bind (wpAny_attempt (wpAny_callSpecial?_slot (name := Str.ofString "__next__") hT c_snext (wpAny_call_entry c_snext hT c_enext ?_ (c_anext _))))
  show wpAny _ _ (field (.ref it) 0 >>= _) _ _ s
  refine wpAny_bind (wpAny_field hit rfl (x := .ref pool) rfl ?_)
  show wpAny _ _ (Builtin.Itertools.itNumbersFrom (.ref it) 3 >>= _) _ _ s
  refine wpAny_bind (k_nums hit ?_)
  show wpAny _ _ (Builtin.Itertools.itIntField (.ref it) 1 >>= _) _ _ s
  refine wpAny_bind (k_int hit ?_)
  show wpAny _ _ (Builtin.Itertools.itPoolItems (.ref pool) >>= _) _ _ s
  refine wpAny_bind (k_pool hp ?_)
  have hn' : nxt vs.toArray.size idx = none := by rw [List.size_toArray]; exact hn
  split
  case h_1 heq =>
    have z : nxt vs.toArray.size idx = some _ := heq
    rw [hn'] at z
    cases z
  show wpAny _ _ (setField (.ref it) 1 (rawInt 2) >>= _) _ _ s
  refine wpAny_bind (wpAny_setField hit rfl (by rw [size3]; omega) ?_)
  refine k_stop (it := it) hh fun e h' st eb => ?_
  exact stop_is (s := { s with heap := h' }) st (hQ h' ((Heap.SameBut.extBut (Heap.SameBut.update ..)).trans eb))
theorem comb_none {it pool : Addr} {last : Value} {idx : List Nat} {Q : Option Value → Shared → Prop} (hh : A.handled = none) (hit : IsComb s.heap it pool 2 last idx)
    (hQ : ∀ h', Heap.ExtBut it s.heap h' → Q none { s with heap := h' }) : wpAny (model prog w) A (pyNext (.ref it)) Q E s := by
  have hT : s.TypeIs (.ref it) T := ⟨_, hit, rfl⟩
  unfold pyNext
  refine wpAny_bind (wpAny_attempt (wpAny_callSpecial?_slot (name := Str.ofString "__next__") hT c_snext (wpAny_call_entry c_snext hT c_enext ?_ (c_anext _))))
  show wpAny _ _ (field (.ref it) 0 >>= _) _ _ s
  refine wpAny_bind (wpAny_field hit rfl (x := .ref pool) rfl ?_)
  show wpAny _ _ (Builtin.Itertools.itNumbersFrom (.ref it) 3 >>= _) _ _ s
  refine wpAny_bind (k_nums hit ?_)
  show wpAny _ _ (Builtin.Itertools.itIntField (.ref it) 1 >>= _) _ _ s
  refine wpAny_bind (k_int hit ?_)
  refine wpAny_bind (wpAny_rule ?_)
  refine k_stop (it := it) hh fun e h' st eb => ?_
  exact stop_is (s := { s with heap := h' }) st (hQ h' eb)
end
end OwnComb
namespace OwnComb
open PySem PySem.Spec PyProof.Rows L2
/-- the places in their order: begin, go on, end -/
structure Chain (n r : Nat) (L : List (List Nat)) : Prop where
  some : ¬ r > n → L[0]? = some (List.range r)
  none : r > n → L = []
  step : ∀ i js, L[i]? = Option.some js → nxt n js = L[i + 1]?
  small : ∀ js ∈ L, js.length < 1000
  inn : ∀ js ∈ L, ∀ j ∈ js, j < n
/-- the parts of what stood in the pool, each a new tuple -/
def IteC (xs : List V) (L : List (List Nat)) : It :=
  ⟨fun i _ => i < L.length, fun i H v H' => ∃ T js, L[i]? = some js ∧ v = .ref T ∧ H T = none ∧ H' = upd H T (.tup (js.map fun j => xs.getD j .non)), fun i _ => i = L.length⟩
theorem vals_getD {xs : List V} {us : List Value} (h : Vals xs us) {j : Nat} (hj : j < xs.length) : RelV (xs.getD j .non) (us.toArray.getD j .none) := by
  have e := h.length
  obtain ⟨u, hu, ru⟩ := h.get (List.getElem?_eq_getElem hj)
  rw [List.getD_eq_getElem?_getD, List.getElem?_eq_getElem hj]
  have z : us.toArray.getD j .none = u := by
    rw [Array.getD_eq_getD_getElem?, List.getElem?_toArray, hu]
    rfl
  rw [z]
  exact ru
theorem vals_pick {xs : List V} {us : List Value} (h : Vals xs us) : ∀ {js : List Nat}, (∀ j ∈ js, j < xs.length) → Vals (js.map fun j => xs.getD j .non) (js.map fun j => us.toArray.getD j .none)
  | [], _ => .nil
  | j :: js, hj => .cons (vals_getD h (hj j List.mem_cons_self)) (vals_pick h fun k hk => hj k (List.mem_cons_of_mem _ hk))
def CSt (it pool : Addr) (us : List Value) (L : List (List Nat)) (i : Nat) (h : Heap) : Prop :=
  h.IsTuple pool us.toArray ∧ pool ≠ it ∧ ∃ st last idx, IsComb h it pool st last idx ∧ ((i = 0 ∧ ((st = 0 ∧ L[0]? = some idx) ∨ (st = 2 ∧ L = []))) ∨ (0 < i ∧ st = 1 ∧ L[i - 1]? = some idx))
theorem turn_comb {P : Program} {w : World} {K : PySem.W.Frag} {tg : Expr} {r : Nat} {xs : List V} {us : List Value} {L : List (List Nat)} (it pool : Addr) (hv : Vals xs us) (C : Chain xs.length r L) : Turn P w K tg (IteC xs L) [it, pool] it (CSt it pool us L) where
  mem := List.mem_cons_self
  obj := fun i h ⟨⟨o, ho, hc, n, hd⟩, _, st, last, idx, hi, _⟩ b hb => by
    rcases List.mem_cons.mp hb with rfl | hb
    · exact ⟨_, hi, fun v q => nomatch q⟩
    · rw [List.mem_singleton.mp hb]
      exact ⟨o, ho, fun v q => by rw [hd] at q; cases q⟩
  keep := fun i h h' ⟨⟨o, ho, hc⟩, ne, st, last, idx, hi, z⟩ k => ⟨⟨o, k pool (by simp) _ ho, hc⟩, ne, st, last, idx, k it (by simp) _ hi, z⟩
  item := by
    intro X hP hw hK hc i pins s σ H E I hf st hg
    subst hP hw hK
    obtain ⟨hp, hne, st, last, idx, hit, hcase⟩ := st
    have hl : i < L.length := hg
    have lens : xs.length = us.length := hv.length
    have old1 : it < s.heap.objs.size := Heap.lt_size hit
    have old2 : pool < s.heap.objs.size := let ⟨_, q, _⟩ := hp; Heap.lt_size q
    -- what a turn leaves
    have fin : ∀ (js : List Nat) (h' : Heap) (lst : Value), L[i]? = some js → IsComb h' it pool 1 lst js → (∀ b o, b ≠ it → s.heap.get? b = some o → h'.get? b = some o) → h'.IsTuple s.heap.objs.size (js.map fun i => us.toArray.getD i .none).toArray →
        ∃ u, some (Value.ref s.heap.objs.size) = some u ∧ wpAny (model X.prog X.w) X.A (letOwnedTupleGo tg (.ref it) u) (fun _ s2 => ∃ x H', Inv X pins σ H' s2 ∧ RelV x u ∧ (IteC xs L).yld i H x H' ∧ CSt it pool us L (i + 1) s2.heap ∧ ∀ b ∈ [it, pool], H' b = none) E { s with heap := h' } := fun js h' lst hj hi' kk ht => by
      have mem := List.mem_of_getElem? hj
      obtain ⟨ot, hot, hct, nt, hdt⟩ := ht
      have new : ObjOk X.prog X.w (upd H s.heap.objs.size (.tup (js.map fun j => xs.getD j .non))) h' s.heap.objs.size (.tup (js.map fun j => xs.getD j .non)) :=
        ⟨by rw [List.length_map]; exact Nat.le_trans (Nat.le_of_lt (C.small js mem)) (by decide), _, vals_pick hv (C.inn js mem), ⟨ot, hot, hct, nt, hdt⟩⟩
      have I1 : Inv X pins σ (upd H s.heap.objs.size (.tup (js.map fun j => xs.getD j .non))) { s with heap := h' } :=
        I.turnedNew (t' := s.toks) (ch := [it, pool]) (fun b ob hb q => kk b ob (fun z => hb (by simp [z])) q) hf (Nat.le_refl _) new
      obtain ⟨op, hop, cp⟩ := hp
      refine ⟨_, rfl, go_of (s := { s with heap := h' }) hi' rfl rfl (by decide) ⟨.ref s.heap.objs.size, _, I1, rfl, ⟨_, js, hj, rfl, I.hok.fresh (Nat.le_refl _), rfl⟩, ⟨⟨op, kk _ _ hne hop, cp⟩, hne, 1, lst, js, hi', .inr ⟨Nat.succ_pos _, rfl, hj⟩⟩, fun b hb => ?_⟩⟩
      have hb' : b < s.heap.objs.size := by
        rcases List.mem_cons.mp hb with rfl | hb
        · exact old1
        · rw [List.mem_singleton.mp hb]; exact old2
      rw [upd_ne (Nat.ne_of_lt hb')]
      exact (hf b hb).1
    rcases hcase with ⟨rfl, ⟨rfl, h0⟩ | ⟨rfl, h0⟩⟩ | ⟨i0, rfl, h0⟩
    · exact comb_first hit hp hne (C.small _ (List.mem_of_getElem? h0)) fun h' a b c => fin idx h' _ h0 a b c
    · rw [h0] at hl; cases hl
    · have e := C.step _ _ h0
      rw [show i - 1 + 1 = i by omega, List.getElem?_eq_getElem hl] at e
      exact comb_more hit hp hne (by rw [← lens]; exact e) (C.small _ (List.getElem_mem hl)) fun h' a b c => fin _ h' _ (List.getElem?_eq_getElem hl) a b c
  done := by
    intro X hP hw hK hc i pins s σ H E I hf st hg
    subst hP hw hK
    obtain ⟨hp, hne, st, last, idx, hit, hcase⟩ := st
    have hl : i = L.length := hg
    have lens : xs.length = us.length := hv.length
    obtain ⟨f0, f1, f2, f3, f4, f5⟩ := hf it (by simp)
    rcases hcase with ⟨rfl, ⟨rfl, h0⟩ | ⟨rfl, h0⟩⟩ | ⟨i0, rfl, h0⟩
    · have := (List.getElem?_eq_some_iff.mp h0).1
      omega
    · exact comb_none (I.ok.hd hc) hit fun h' eb => ⟨rfl, I.turned (t' := s.toks) (fun b o hb e => eb b o hb e) f0 f1 f3 f4 f5⟩
    · have e := C.step _ _ h0
      rw [show i - 1 + 1 = i by omega, hl, List.getElem?_eq_none (Nat.le_refl _)] at e
      exact comb_done (I.ok.hd hc) hit hp (by rw [← lens]; exact e) fun h' eb => ⟨rfl, I.turned (t' := s.toks) (fun b o hb e => eb b o hb e) f0 f1 f3 f4 f5⟩
  self := fun A i s Q E ⟨_, _, st, last, idx, hit, _⟩ h => iter_comb hit h
def iComb (K : PySem.W.Frag) (ta : TA) : TI := fun σ H R => ta σ H fun vs H1 => ∃ (a : Addr) (r : Nat) (xs : List V) (L : List (List Nat)), vs = [.ref a, .int r] ∧ SqL K H1 a xs ∧ r < 1000 ∧ xs.length < 1000 ∧ Chain xs.length r L ∧ R (IteC xs L) H1
theorem pi_comb {X : Cx} {tg e e2 : Expr} {ta : TA} {x : Str} {p pos : Pos} (hg : Gl X x) (hm : X.mg x = some (.type T)) (ha : PA X [e, e2] ta) (hdb : (x == ("__debug__" : Str)) = false := by decide)
    (hs : starEach [e, e2] X.env = (false, eval e X.env) :: starEach [e2] X.env := by rfl) (hpl : (backTo pos (starEach [e2] X.env)).any (·.1) = false := by rfl) :
    PI X tg (.Call (.Name x p) [e, e2] [] pos) (iComb X.K ta) := by
  refine ⟨fun pins s σ H R I h => ?_⟩
  refine Call_ (ld_glob I hg hm (PyProof.Rows.callWith_type1 (thn (ha.run pos pins s σ H _ I h) fun us s1 ⟨vs, H1, I1, r1, q1⟩ => ?_) hs hpl) hdb)
  obtain ⟨a, r, xs, L, ex, hq, hr, hx, C, q⟩ := q1
  subst ex
  cases r1 with
  | cons ra rr =>
    cases rr with
    | cons rb rr =>
      cases rr
      cases ra
      obtain ⟨t, rfl⟩ := rb
      obtain ⟨its, rv, p1, _⟩ := I1.list hq
      have lens : xs.length = its.length := rv.length
      refine call_comb p1.isList hr (by rw [← lens]; exact hx) fun h' it pool k o1 o2 ne tp hi => iter_comb hi ?_
      refine ⟨it, [it, pool], _, _, H1, rfl, I1.kept (t' := s1.toks) k, turn_comb it pool rv C, ⟨tp, ne, _, _, _, hi, .inl ⟨rfl, ?_⟩⟩, fun b hb => ?_, q⟩
      · rw [← lens]
        by_cases z : r > xs.length
        · rw [if_pos z]
          exact .inr ⟨rfl, C.none z⟩
        · rw [if_neg z]
          exact .inl ⟨rfl, C.some z⟩
      · have le : s1.heap.objs.size ≤ b := by
          rcases List.mem_cons.mp hb with rfl | hb
          · exact o1
          · rw [List.mem_singleton.mp hb]; exact o2
        exact I1.fpOk le (I1.hok.fresh le)
/-! ### the chains, by reckoning -/
def runC (n : Nat) : Nat → List Nat → List (List Nat)
  | 0, js => [js]
  | f + 1, js => js :: match nxt n js with
    | none => []
    | some ks => runC n f ks
def combs (n r : Nat) : List (List Nat) := if r > n then [] else runC n 64 (List.range r)
def okC (n r : Nat) : Bool := (decide (r > n) && decide (combs n r = [])) || (!decide (r > n) && decide ((combs n r)[0]? = some (List.range r)) &&
  (List.range (combs n r).length).all fun i => decide (nxt n ((combs n r).getD i []) = (combs n r)[i + 1]?) && decide (((combs n r).getD i []).length < 1000) && ((combs n r).getD i []).all fun j => decide (j < n))
theorem chain_of {n r : Nat} (h : okC n r = true) : Chain n r (combs n r) := by
  unfold okC at h
  rcases Bool.or_eq_true_iff.mp h with h | h
  · obtain ⟨a, b⟩ := Bool.and_eq_true_iff.mp h
    have b : combs n r = [] := of_decide_eq_true b
    have a := of_decide_eq_true a
    rw [b]
    exact ⟨(fun z => absurd a z), (fun _ => rfl), (fun i js e => nomatch e), (fun js m => nomatch m), (fun js m => nomatch m)⟩
  · obtain ⟨ab, c⟩ := Bool.and_eq_true_iff.mp h
    obtain ⟨a, b⟩ := Bool.and_eq_true_iff.mp ab
    have b := of_decide_eq_true b
    have a : ¬ r > n := by simpa using a
    have all : ∀ i js, (combs n r)[i]? = some js → nxt n js = (combs n r)[i + 1]? ∧ js.length < 1000 ∧ ∀ j ∈ js, j < n := fun i js e => by
      have il := (List.getElem?_eq_some_iff.mp e).1
      have z := List.all_eq_true.mp c i (List.mem_range.mpr il)
      rw [List.getD_eq_getElem?_getD, e] at z
      obtain ⟨z1, z2⟩ := Bool.and_eq_true_iff.mp z
      obtain ⟨z0, z1⟩ := Bool.and_eq_true_iff.mp z1
      exact ⟨of_decide_eq_true z0, of_decide_eq_true z1, fun j hj => of_decide_eq_true (List.all_eq_true.mp z2 j hj)⟩
    exact ⟨(fun _ => b), (fun z => absurd z a), (fun i js e => (all i js e).1), (fun js m => let ⟨i, e⟩ := List.mem_iff_getElem?.mp m; (all i js e).2.1), (fun js m => let ⟨i, e⟩ := List.mem_iff_getElem?.mp m; (all i js e).2.2)⟩
theorem ok7 : ((List.range 7).all fun n => (List.range 8).all fun r => okC n r) = true := by decide +kernel
theorem chain6 {n r : Nat} (hn : n ≤ 6) (hr : r ≤ 7) : Chain n r (combs n r) :=
  chain_of (List.all_eq_true.mp (List.all_eq_true.mp ok7 n (List.mem_range.mpr (by omega))) r (List.mem_range.mpr (by omega)))
end OwnComb
/-! A rule of our own: set(xs) of a list of ints, so that it can be walked and sorted. -/
namespace OwnSet
open PySem PySem.Spec PyProof.Rows L2
section
variable {P : Program} {w : World} {A : Around} {E : Value → Shared → Prop} {s : Shared}
/-- a built-in class is called: its making and its beginning, each by itself -/
theorem made_then {T newId initId : String} {args : List Value} {Q Q1 : Value → Shared → Prop} (ft : TypeCalled T newId initId) (hct : checkTypeCall T ⟨args, []⟩ = pure ())
    (hnew : codeAny (model P w) A.in1 (.call (.builtin newId) ⟨.type T :: args, []⟩) (wants Q1 E) s)
    (hinit : ∀ obj s1, Q1 obj s1 → s1.TypeIs obj T ∧ codeAny (model P w) A.in1 (.call (.builtin initId) ⟨obj :: args, []⟩) (wants (fun r s2 => r = .none ∧ Q obj s2) E) s1) :
    wpAny (model P w) A (call (.type T) args) Q E s := by
  obtain ⟨c, tl, mro⟩ := ft.mro
  have u1 := ft.made; have u2 := ft.sub; have u3 := ft.notType; have u4 := ft.canCreate
  refine wpAny_call (codeAny_of_tree (show wpAny _ _ (callAny (.type T) _) _ _ _ from wpAny_pure ⟨Code.quiet_builtin _ (by decide +kernel), codeAny_builtin F.entry_type_call ?_⟩))
  rw [Around.under_plain (weight_type_call_type T args []) rfl]
  repeat any_goals first | assumption | wp_step
  refine codeAny_mono hnew fun r s1 hr => ?_
  match r, hr with
  | .ok (.ret obj), hr =>
    obtain ⟨hT, hi⟩ := hinit _ _ hr
    have v1 := ft.init.lookup; have v2 := ft.init.bind obj
    repeat any_goals first | assumption | wp_step
    refine codeAny_mono hi fun r2 s2 h2 => ?_
    match r2, h2 with
    | .ok (.ret r3), h2 =>
      obtain ⟨rfl, hq⟩ := h2
      repeat any_goals first | assumption | wp_step
    | .error e, h2 => exact h2
  | .error e, hr => exact hr
/-- a fresh set and a list of ints: the set's beginning -/
theorem set_begins {S l : Addr} {items : Array Value} {ns : List Int} {Q : Value → Shared → Prop} (hh : A.handled = none) (hl : s.heap.IsList l items) (hit : IntsAre items.toList ns) (hb : ns.length + 1 < scanBound) (ne : l ≠ S)
    (hS : s.heap.get? S = some { cls := .type "set", dict := none, data := .set #[] 0 (.fresh 0 0 (!w.params.followText "set-order")) })
    (h : ∀ (h' : Heap) (tk c : Nat), SetR w h' S (fun j => decide (j ∈ ns)) c → c ≤ ns.length → (∀ b o, b ≠ S → s.heap.get? b = some o → h'.get? b = some o) → Q .none { s with heap := h', toks := tk }) :
    codeAny (model P w) A (.call (.builtin "set.__init__") ⟨[.ref S, .ref l], []⟩) (wants Q E) s := by
  have hT : s.TypeIs (.ref S) "set" := ⟨_, hS, rfl⟩
  have hsz : items.size = ns.length := (Array.length_toList (xs := items)).symm.trans hit.length
  refine codeAny_call_builtin F.called_set.init.plain F.entry_set_init (check_set_init_1 hT ?_)
  obtain ⟨ol, hol, hcl, nl, hdl⟩ := id hl
  obtain ⟨ocls, odict, odata, oslots⟩ := ol
  obtain rfl : ocls = _ := hcl
  obtain rfl : odata = _ := hdl
  have c1 := F.sub_list_set; have c2 := F.sub_list_frozenset
  have c3 : (Value.type "list" == Value.type "dict") = false := by decide
  unfold Builtin.«set.__init__» noKeywords Builtin.Frozenset.updateFrom
  generalize hPI : pyIter = PI
  wp_walk
  subst hPI
  have lS : S < s.heap.objs.size := Heap.lt_size hS
  have ll : l < s.heap.objs.size := Heap.lt_size hol
  refine wpAny_pyIter_list (s := ⟨s.heap, s.gens, s.drawn, s.toks, s.os⟩) hl (wpAny_bind (wpAny_runValue ?_))
  have h3 : A.in1.in1.handled = none := hh
  have val : ∀ (i : Nat) (v : Value), items[i]? = some v → ∃ k t, ns[i]? = some k ∧ v = .int k t := fun i v hv => by
    have il : i < ns.length := by rw [← hsz]; exact (Array.getElem?_eq_some_iff.mp hv).1
    obtain ⟨t, e⟩ := IntsAre.int_at hit i v (by rw [Array.getElem?_toList]; exact hv)
    exact ⟨ns[i], t, List.getElem?_eq_getElem il, by rw [e, List.getD_eq_getElem?_getD, List.getElem?_eq_getElem il]; rfl⟩
  refine set_update_ints ((Walks.list h3 s.heap.objs.size l (Nat.ne_of_lt ll) items).toS) S ?_ ns hsz hb val (items.size - 0) 0 _ (by omega) (Nat.zero_le _) ⟨⟨_, Heap.get?_push_size _ rfl, rfl, rfl⟩, hl.push _⟩ ⟨0, Nat.le_refl 0, setR_new_at (Heap.get?_push_of_some _ hS)⟩ fun s2 c hm hc hR => ?_
  · intro z
    rcases List.mem_cons.mp z with z | z
    · exact Nat.ne_of_lt lS z
    · exact ne (List.mem_singleton.mp z).symm
  · obtain ⟨h2, g2, d2, t2, o2⟩ := s2
    obtain rfl : g2 = s.gens := hm.gens
    obtain rfl : d2 = s.drawn := hm.drawn
    obtain rfl : o2 = s.os := hm.os
    rw [hsz] at hc
    have fin : Q .none { s with heap := h2, toks := t2 } := h h2 t2 c hR hc fun b o hb e => hm.heap b o (by
      intro z
      rcases List.mem_cons.mp z with z | z
      · exact hb z
      · exact Nat.ne_of_lt (Heap.lt_size e) (List.mem_singleton.mp z)) (Heap.get?_push_of_some _ e)
    exact wpAny_pure (wpAny_pure fin)
theorem call_set_listI {l : Addr} {items : Array Value} {ns : List Int} {Q : Value → Shared → Prop} (hh : A.handled = none) (hl : s.heap.IsList l items) (hit : IntsAre items.toList ns) (hb : ns.length + 1 < scanBound)
    (h : ∀ (h' : Heap) (tk c : Nat), SetR w h' s.heap.objs.size (fun j => decide (j ∈ ns)) c → c ≤ ns.length → (∀ b o, s.heap.get? b = some o → h'.get? b = some o) → Q (.ref s.heap.objs.size) { s with heap := h', toks := tk }) :
    wpAny (model P w) A (call (.type "set") [.ref l]) Q E s := by
  have ll : l < s.heap.objs.size := let ⟨o, e, _⟩ := hl; Heap.lt_size e
  refine made_then (Q1 := fun obj s1 => obj = .ref s.heap.objs.size ∧ s1 = { s with heap := s.heap.push { cls := .type "set", dict := none, data := .set #[] 0 (.fresh 0 0 (!w.params.followText "set-order")) } }) F.called_set (F.typeCall_set_1 (.ref l)) (code_set_led1 (.ref l) ⟨rfl, rfl⟩) ?_
  rintro obj s1 ⟨rfl, rfl⟩
  have hS := Heap.get?_push_size s.heap (o := { cls := .type "set", dict := none, data := .set #[] 0 (.fresh 0 0 (!w.params.followText "set-order")) }) rfl
  refine ⟨⟨_, hS, rfl⟩, set_begins (ns := ns) (Q := fun r s2 => r = .none ∧ Q (.ref s.heap.objs.size) s2) hh (hl.push _) hit hb (Nat.ne_of_lt ll) hS fun h' tk c R hc k => ⟨rfl, h h' tk c R hc fun b o e => k b o (Nat.ne_of_lt (Heap.lt_size e)) (Heap.get?_push_of_some _ e)⟩⟩
end
def rSetI (K : PySem.W.Frag) (w : World) : List V → Hp → VK → Prop := fun vs H Q => ∃ (l : Addr) (ns : List Int), vs = [.ref l] ∧ SqL K H l (ns.map V.int) ∧ ns.length ≤ 1000 ∧ ∀ p n, H p = none → n ≤ ns.length → Q (.ref p) (upd H p (SetO w p (fun j => decide (j ∈ ns)) n))
theorem cr_setI {X : Cx} (hc : X.calm = true) : CallR X (.type "set") (rSetI X.K X.w) := by
  intro pins s σ H vs us Q I r h
  obtain ⟨l, ns, rfl, hl, hn, q⟩ := h
  obtain ⟨u, rfl, ru⟩ := vals1 r
  obtain rfl : u = Value.ref l := ru
  obtain ⟨its, rv, pl, hz⟩ := I.list hl
  refine call_set_listI (I.ok.hd hc) pl.isList (ns := ns) (by simpa using rv.ints) (by unfold scanBound; omega) fun h' tk c R hc k => ?_
  exact ⟨.ref s.heap.objs.size, upd H s.heap.objs.size (SetO X.w s.heap.objs.size (fun j => decide (j ∈ ns)) c), I.laid (t' := tk) k (Nat.le_refl _) (setO_new R), rfl, q _ c (I.hok.fresh (Nat.le_refl _)) hc⟩
/-! ### x in a tuple, deep -/
def rInDT (K : PySem.W.Frag) : R2 := fun x y H Q => ∃ d ds, Dp K H x d ∧ Dp K H y (.tuple ds) ∧ SeqAt.shaped d = true ∧ SeqAt.shaped (.tuple ds) = true ∧ Q (.bl (ds.any fun z => PyData.eqv z d)) H
theorem op_inDT {X : Cx} (hu : X.A.units + 65 < cLine) : OpR X (compareOp .In) (rInDT X.K) := by
  intro pins s σ H x y v u Q I rx ry h
  obtain ⟨d, ds, hd, he, sd, se, q⟩ := h
  obtain ⟨as, r1⟩ := Dp.reads I d x v hd rx
  obtain ⟨bs, r2⟩ := Dp.reads I (.tuple ds) y u he ry
  exact SeqAt.in_tuple_reads r2 r1 (SeqAt.canLay_of_shaped se) (SeqAt.canLay_of_shaped sd) (room_in_shaped sd hu) ⟨.bl _, H, I, rfl, q⟩
end OwnSet
/-! Rules of our own over the hand layer: an own operator, an own ==, // by any divisor, classes made within a try, a method called by keywords. -/
namespace Own
open PySem PySem.Spec PyProof.Rows L2
abbrev St := L2.St
section
variable {X : Cx} {CX : CXT} {k n : Nat} {f C : Addr} {fd : FuncData} {ps : List Str} {sp : Sp}
/-- // by a divisor of any sign below 2 ^ 9000 in size -/
def CDivM (_ j : Int) : Prop := j ≠ 0 ∧ j.natAbs.log2 < 9000
theorem op_fdivWN : OpR X (binaryOp .FloorDiv) (rI CDivM fun i j => .int (i.fdiv j)) := opI fun i j _ _ _ _ _ hc q =>
  floordiv_int hc.1 q (.inl (PyProof.noPylong_of_log2 hc.2))
/-- x op y by the class's own method: x and y are instances of the class at C -/
def rOwn (C : Addr) (sp : Sp) (E : XK) : R2 := fun x y H Q => ∃ a b dx dy fs gs, x = .ref a ∧ y = .ref b ∧ H a = some (.ins C dx fs) ∧ H b = some (.ins C dy gs) ∧ sp [.ref a, .ref b] H Q E
theorem op_own {op : Operator} {E : XK} (F : FnOk X.prog X.w X.K X.mg X.base CX n f fd ps sp) (hr : Room n X.A) (hsf : PySem.W.selfFirst X.K C = true) (hs : PySem.W.findIn X.K (.ref C) (PySem.dunder op.info.2) = some (some (.ref f)))
    (hf : PySem.W.isFn X.K (.ref f) = true) (hb : Binds X.K fd ps []) (hx : Passes CX X E) : OpR X (binaryOp op) (rOwn C sp E) := by
  intro pins s σ H x y u v Q I rx ry h
  obtain ⟨a, b, dx, dy, fs, gs, rfl, rfl, ha, hb', hq⟩ := h
  cases rx
  cases ry
  obtain ⟨mA, J, _⟩ := ins_get I.hok ha
  obtain ⟨mB, J', _⟩ := ins_get I.hok hb'
  obtain ⟨od, J, _⟩ := J.look
  obtain ⟨od', J', _⟩ := J'.look
  obtain ⟨m, hF⟩ := I.fr
  refine PySem.W.binop_K hF I.ok.mod.kin J J'.type hsf hs hf ?_
  refine wpAny_mono (run_fn (us := [.ref a, .ref b]) (vs := [.ref a, .ref b]) F hr hb .nil hx I (.cons rfl (.cons rfl .nil)) (by rw [List.append_nil]; exact hq)) (fun u s' z => ?_) fun _ _ e => e
  obtain ⟨v', H', I', rv, q⟩ := id z
  cases u <;> first
    | exact z
    | (exfalso; cases v' <;> first | (cases rv; done) | (obtain ⟨_, rv⟩ := rv; cases rv))
/-- x == y by the class's own method: x is an instance of the class at C, y of any type that is not below it -/
def rOwnEq (K : PySem.W.Frag) (C : Addr) (sp : Sp) (E : XK) : R2 := fun x y H Q => ∃ a dx fs t, x = .ref a ∧ H a = some (.ins C dx fs) ∧ TyX K H y t ∧ PySem.W.notFirst K C t = true ∧ sp [.ref a, y] H Q E
theorem op_eqOwn {E : XK} (F : FnOk X.prog X.w X.K X.mg X.base CX n f fd ps sp) (hr : Room n X.A) (hs : PySem.W.findIn X.K (.ref C) "__eq__" = some (some (.ref f)))
    (hf : PySem.W.isFn X.K (.ref f) = true) (hb : Binds X.K fd ps []) (hx : Passes CX X E) : OpR X (compareOp .Eq) (rOwnEq X.K C sp E) := by
  intro pins s σ H x y u v Q I rx ry h
  obtain ⟨a, dx, fs, t, rfl, ha, ty, hn, hq⟩ := h
  cases rx
  obtain ⟨mA, J, _⟩ := ins_get I.hok ha
  obtain ⟨od, J, _⟩ := J.look
  obtain ⟨m, hF⟩ := I.fr
  obtain ⟨P, Z, p, hne⟩ := kit_of I ry ty
  refine PySem.W.cmp_K (op := .Eq) hr.units0 hF I.ok.mod.kin J (Z.ty _ _ I.kIn p) hn hs hf ?_
  refine wpAny_mono (run_fn (us := [.ref a, v]) (vs := [.ref a, y]) F hr hb .nil hx I (.cons rfl (.cons ry .nil)) (by rw [List.append_nil]; exact hq)) (fun u s' z => ?_) fun _ _ e => e
  obtain ⟨v', H', I', rv, q⟩ := id z
  cases u <;> first
    | exact z
    | (exfalso; cases v' <;> first | (cases rv; done) | (obtain ⟨_, rv⟩ := rv; cases rv))
end

/-! ### within a try: what is raised is wished for at the slots -/
/-- a new instance of C, its __init__ a def of one promise (ws: its values behind self, as they are bound) -/
theorem made_at {X : Cx} {CX : CXT} {k : Nat} {f C : Addr} {fd : FuncData} {ps : List Str} {sp : Sp} {E : XK} {pins : List (Addr × Obj)} {σ : St} {H : Hp} {s : Shared} {Q : VK} {us rest : List Value} {kw : List (Str × Value)} {zs : List V} (M : Mk X.K C f) (F : FnOk X.prog X.w X.K X.mg X.base CX k f fd ps sp) (hr : Room (k + 1) X.A)
    (hx : PassesAt CX X σ E) (I : Inv X pins σ H s) (r : Vals zs rest) (bd : ∀ (s' : Shared) (y : Value), X.K.In s'.heap → (y :: rest).length = ps.length → BindsTo s' fd ⟨y :: us, kw⟩ (ps.zip (y :: rest)))
    (h : ∀ x dx, H x = none → H dx = none → dx ≠ x → sp (.ref x :: zs) (upd (upd H dx (.own x)) x (.ins C dx [])) (fun v H2 => v = .non ∧ Q (.ref x) H2) E) :
    wpAny (model X.prog X.w) X.A (call (.ref C) us kw) (EP X pins σ Q) X.xe s := by
  have at1 := I.hok.fresh (Nat.le_succ s.heap.objs.size)
  have q := h (s.heap.objs.size + 1) s.heap.objs.size at1 (I.hok.fresh (Nat.le_refl _)) (Nat.ne_of_lt (Nat.lt_succ_self _))
  have J := Inv.made (C := C) I
  have args : Vals (V.ref (s.heap.objs.size + 1) :: zs) (Value.ref (s.heap.objs.size + 1) :: rest) := .cons rfl r
  have b := bd _ (Value.ref (s.heap.objs.size + 1)) J.kIn (args.length.symm.trans (F.len _ _ _ _ q))
  refine wpAny_call (make_map (f := f) I.kIn M.makes M.init (beq_iff_eq.mp M.fn) (codeAny_mono (F.run _ X.stack _ _ ⟨Value.ref (s.heap.objs.size + 1) :: us, kw⟩ _ _ _ E (hr.make C us kw) (J.env0.make C us kw) b args q) ?_))
  rintro (e | fl) s' z
  · exact hx pins _ _ e s' J z
  · cases fl with
    | ret u =>
      obtain ⟨v, H', I3, rv, ev, q3⟩ := J.after z
      subst ev
      exact ⟨rv, V.ref (s.heap.objs.size + 1), H', I3, rfl, q3⟩
    | next => exact z.elim
    | brk => exact z.elim
    | cont => exact z.elim
section
variable {X : Cx} {CX : CXT} {k : Nat} {f C : Addr} {fd : FuncData} {ps ks : List Str} {sp : Sp} {E : St → XK} {dvs : List V} {ds : List Value} {x m : Str} {p pos apos : Pos} {e o : Expr} {es : List Expr} {kws : List Keyword} {ta : TE} {t tk : TA}
/-- C(e, ..) -/
def tMakeS (C : Addr) (sp : Sp) (dvs : List V) (E : St → XK) (t : TA) : TE := fun σ H Q => t σ H fun vs H1 => ∀ x dx, H1 x = none → H1 dx = none → dx ≠ x →
  sp (.ref x :: (vs ++ dvs)) (upd (upd H1 dx (.own x)) x (.ins C dx [])) (fun v H2 => v = .non ∧ Q (.ref x) H2) (E σ)
theorem pe_makeS (M : Mk X.K C f) (F : FnOk X.prog X.w X.K X.mg X.base CX k f fd ps sp) (hr : Room (k + 1) X.A) (hg : Gl X x) (hm : X.mg x = some (.ref C)) (hb : Binds X.K fd ps ds) (hd : Vals dvs ds) (hx : ∀ σ, PassesAt CX X σ (E σ))
    (ha : PA X (e :: es) t) (hdb : (x == ("__debug__" : Str)) = false := by decide) (he : starEach (e :: es) X.env = (false, eval e X.env) :: starEach es X.env := by rfl) (hpl : (backTo pos (starEach es X.env)).any (·.1) = false := by rfl) :
    PE X (.Call (.Name x p) (e :: es) [] pos) (tMakeS C sp dvs E t) :=
  ⟨fun pins s σ H Q I h => wpAny_Call_Name_kw (ld_glob I hg hm (PySem.W.callWith_K (h₀ := X.base) I.ok.mod.kin M.kp (thn (ha.run pos pins s σ H _ I h) fun us s1 ⟨vs, H1, I1, r, q⟩ =>
    ⟨I1.kIn, made_at M F hr (hx σ) I1 (r.append hd) (fun s' y X' l => hb s' (y :: us) X' l) q⟩) he hpl) hdb)⟩
/-- C(k = v, ..) -/
def tMakeKS (C : Addr) (m : Nat) (sp : Sp) (gV : List V → List V → List V) (E : St → XK) (tk : TA) : TE := fun σ H Q => tk σ H fun zs H2 => zs.length = m ∧ ∀ x dx, H2 x = none → H2 dx = none → dx ≠ x →
  sp (gV [.ref x] zs) (upd (upd H2 dx (.own x)) x (.ins C dx [])) (fun v H3 => v = .non ∧ Q (.ref x) H3) (E σ)
/-- the keywords' order is told by g: self stands first -/
theorem pe_makeKS {g : List Value → List Value → List Value} {gV : List V → List V → List V} {g' : List Value → List Value} {gV' : List V → List V} (M : Mk X.K C f) (F : FnOk X.prog X.w X.K X.mg X.base CX k f fd ps sp) (hr : Room (k + 1) X.A) (hg : Gl X x) (hm : X.mg x = some (.ref C)) (hb : KBn X.K fd ps 1 ks g gV)
    (hg1 : ∀ y ws, g [y] ws = y :: g' ws) (hg2 : ∀ y zs, gV [y] zs = y :: gV' zs) (hx : ∀ σ, PassesAt CX X σ (E σ)) (hkw : PK X kws tk)
    (hall : (backToKw pos (keywordEach kws X.env)).all (·.1.isSome) = true := by rfl) (hks : (backToKw pos (keywordEach kws X.env)).filterMap (·.1) = ks := by rfl) (hdb : (x == ("__debug__" : Str)) = false := by decide)
    (hpl : ((backTo pos (starEach [] X.env)).any (·.1) || (backToKw pos (keywordEach kws X.env)).any (·.1.isNone)) = false := by rfl) :
    PE X (.Call (.Name x p) [] kws pos) (tMakeKS C ks.length sp gV E tk) := by
  refine ⟨fun pins s σ H Q I h => wpAny_Call_Name_kw (ld_glob I hg hm (PySem.W.callWith_KW0 (h₀ := X.base) I.ok.mod.kin M.kp hall (thn (hkw.run pos pins s σ H _ I h) ?_) hpl) hdb)⟩
  rintro ws s2 ⟨zs, H2, I2, rz, lz, q⟩
  rw [hks]
  have rr := hb.rel (vs := [V.non]) (us := [Value.none]) (.cons rfl .nil) rz
  rw [hg1, hg2] at rr
  cases rr with
  | cons _ rest =>
    refine ⟨I2.kIn, made_at (us := []) M F hr (hx σ) I2 rest (fun s' y X' _ => ?_) fun x dx a b c => ?_⟩
    · have z := hb.to s' [y] ws X' rfl (rz.length.symm.trans lz)
      rwa [hg1] at z
    · have z := q x dx a b c
      rwa [hg2] at z
/-- o.m(e, ..) -/
def tMethS (C : Addr) (m : Str) (sp : Sp) (E : St → XK) (ta : TE) (t : TA) : TE := fun σ H Q => ta σ H fun x H1 => ∃ a dx fs, x = .ref a ∧ H1 a = some (.ins C dx fs) ∧ fs.lookup m = none ∧ t σ H1 fun vs H2 => sp (x :: vs) H2 Q (E σ)
theorem pe_methS {pl : Sem Bool} (he : PE X o ta) (c : Cls X.K C) (hm : Meth X.K C m f) (F : FnOk X.prog X.w X.K X.mg X.base CX k f fd ps sp) (hr : Room k X.A) (hb : Binds X.K fd ps []) (hx : ∀ σ, PassesAt CX X σ (E σ)) (ha : PA X (e :: es) t)
    (hst : starEach (e :: es) X.env = (false, eval e X.env) :: starEach es X.env := by rfl) (hpl : (backTo pos (starEach es X.env)).any (·.1) = false := by rfl)
    (ht : eval (.Call (.Attribute o m apos) (e :: es) [] pos) X.env = (do
      let ov ← eval o X.env
      standAt apos.atName
      let (f, first) ← holding [ov] (getMethod ov m pl)
      callWith pos f first (backTo pos (starEach (e :: es) X.env)) (backToKw pos (keywordEach [] X.env))) := by rfl) :
    PE X (.Call (.Attribute o m apos) (e :: es) [] pos) (tMethS C m sp E ta t) := by
  refine ⟨fun pins s σ H Q I h => PySem.W.methodCall_KW (pl := pl) (thn (he.run pins s σ H _ I h) ?_) ht⟩
  rintro u s1 ⟨x, H1, I1, rx, a, dx, fs, rfl, ea, l, q⟩
  obtain rfl : u = Value.ref a := rx
  refine getmeth_ok I1 ea c hm l (PySem.W.callWith_K (first := [.ref a]) (h₀ := X.base) I.ok.mod.kin hm.kp (thn (ha.run pos pins s1 σ H1 _ I1 q) ?_) hst hpl)
  rintro us s2 ⟨vs, H2, I2, r, q2⟩
  exact ⟨I2.kIn, run_fnS (us := .ref a :: us) (vs := .ref a :: vs) F hr hb (hx σ) I2 (.cons rfl r) q2⟩
end
end Own
/-! Rules of our own for what may be a list or a tuple: walked, taken apart, enumerated. -/
namespace OwnSeq
open PySem PySem.Spec PyProof.Rows L2
/-! ### enumerate of a tuple -/
theorem enum_made (t : Addr) (items : Array Value) :
    Meets (Builtin.«enumerate.__new__» ⟨[.type "enumerate", .ref t], []⟩) (fun _ R s => s.heap.IsTuple t items ∧
      R (.ok (.ret (.ref (s.heap.push { cls := .type "tuple_iterator", data := .fields #[.ref t, .int 0 0] }).objs.size)))
        { s with heap := (s.heap.push { cls := .type "tuple_iterator", data := .fields #[.ref t, .int 0 0] }).push { cls := .type "enumerate", data := .fields #[.none, .bool false, .ref s.heap.objs.size, rawInt 0, .none, .none] } }) :=
  .of_wp fun prog w A R s ⟨hL, h⟩ => by
    cases s with | mk hp g d tk os =>
    have below := sub_enumerate
    wp_walk
    refine wpAny_stack_any fun st => wpAny_pure ?_
    split
    · rename_i c _ _ _ _ _
      cases (c == Value.type "enumerate") <;> (wp_walk using wpAny_pyIter_tuple hL; exact ⟨_, rfl, h⟩)
    · wp_walk using wpAny_pyIter_tuple hL
      exact ⟨_, rfl, h⟩
theorem enum_tuple {prog : Program} {w : World} {A : Around} {E : Value → Shared → Prop} {s : Shared} {t : Addr} {items : Array Value} {Q : Value → Shared → Prop} (hL : s.heap.IsTuple t items)
    (h : ∀ h', IsEnum h' (s.heap.objs.size + 1) s.heap.objs.size 0 .none → h'.IsTupleIter s.heap.objs.size t 0 → (∀ b o, s.heap.get? b = some o → h'.get? b = some o) → Q (.ref (s.heap.objs.size + 1)) { s with heap := h' }) :
    wpAny (model prog w) A (call (.type "enumerate") [.ref t]) Q E s := by
  refine callType_new F.called_enumerate (by decide) (F.typeCall_enumerate_1 _) (F.newCall_enumerate_1 _) (fun obj => F.args_object_init_2 obj _) F.entry_enumerate_new (enum_made t items) ⟨hL, ?_⟩
  have grown : (s.heap.push { cls := .type "tuple_iterator", data := .fields #[.ref t, .int 0 0] }).objs.size = s.heap.objs.size + 1 := Heap.size_push ..
  have at2 := Heap.get?_push_size (s.heap.push { cls := .type "tuple_iterator", data := .fields #[.ref t, .int 0 0] }) (o := { cls := .type "enumerate", data := .fields #[.none, .bool false, .ref s.heap.objs.size, rawInt 0, .none, .none] }) rfl
  rw [grown] at at2
  show _ ∧ _
  rw [grown]
  exact ⟨⟨_, at2, rfl⟩, h _ at2 ⟨_, Heap.get?_push_of_some _ (Heap.get?_push_size _ rfl), rfl, rfl⟩ fun b o x => Heap.get?_push_of_some _ (Heap.get?_push_of_some _ x)⟩
/-- the tuple at a as it stands at each turn, each item in a new pair -/
def IteT (K : PySem.W.Frag) (a : Addr) : It :=
  ⟨fun i H => ∃ (xs : List V) (x : V), SqT K H a xs ∧ xs[i]? = some x, fun i H v H' => ∃ T x, v = .ref T ∧ H T = none ∧ H' = upd H T (.tup [.int (i : Nat), x]) ∧ ∀ xs, SqT K H a xs → xs[i]? = some x, fun i H => ∃ xs : List V, SqT K H a xs ∧ xs.length = i⟩
theorem turn_enumT {P : Program} {w : World} {K : PySem.W.Frag} {elts : List Expr} {kk : Nat} {tpos : Pos} (a e it : Addr) :
    Turn P w K (.Tuple elts kk tpos) (IteT K a) [e, it] e (fun i h => (∃ old, IsEnum h e it ((i : Nat) : Int) old) ∧ h.IsTupleIter it a i ∧ e ≠ it) where
  mem := List.mem_cons_self
  obj := fun i h ⟨⟨old, he⟩, ⟨o, ho, hc, hd⟩, _⟩ b hb => by
    rcases List.mem_cons.mp hb with rfl | hb
    · exact ⟨_, he, fun v q => nomatch q⟩
    · rw [List.mem_singleton.mp hb]
      exact ⟨o, ho, fun v q => by rw [hd] at q; cases q⟩
  keep := fun i h h' ⟨⟨old, he⟩, hi, hne⟩ k => ⟨⟨old, k e (by simp) _ he⟩, hi.at fun o q => k it (by simp) o q, hne⟩
  item := fun X hP hw hK hc i pins s σ H E I hf ⟨⟨old, he⟩, hit, hne⟩ ⟨xs, x, hq, hx⟩ => by
    subst hP hw hK
    obtain ⟨its, rv, p, hz⟩ := I.tuple hq
    obtain ⟨u, hu, ru⟩ := rv.get hx
    have p : s.heap.IsTuple a its.toArray := p
    have old1 : e < s.heap.objs.size := Heap.lt_size he
    have old2 : it < s.heap.objs.size := let ⟨_, q, _⟩ := hit; Heap.lt_size q
    have ai : a ≠ it := fun z => by
      obtain ⟨o1, g1, c1, _⟩ := hit
      obtain ⟨o2, g2, c2, _⟩ := p
      rw [z, g1] at g2
      cases g2
      exact absurd (Value.type.inj (c1.symm.trans c2)) (by decide)
    have ae : e ≠ a := fun z => by
      obtain ⟨o2, g2, c2, _⟩ := p
      have he : s.heap.get? e = some _ := he
      rw [← z, he] at g2
      cases g2
      exact absurd (Value.type.inj c2) (by decide)
    have li : i < its.toArray.size := by
      have z := (List.getElem?_eq_some_iff.mp hu).1
      simpa using z
    refine wpAny_pyNext_enum_itemD (Draws.tuple (show X.A.in1.handled = none from I.ok.hd hc) it a ai its.toArray) he ⟨hit, p⟩ li hne (by simp [hne, ae]) fun y h' tk hy ho st' hT hsz hk => ?_
    obtain rfl : y = u := by
      have z : its.toArray[i]? = some u := by simpa using hu
      rw [z] at hy
      exact (Option.some.inj hy).symm
    refine ⟨_, rfl, wpAny_letOwnedTupleGo_enum (s := { s with heap := h', toks := tk + 1 }) ho fun h'' he' sb => ?_⟩
    have hT2 : h''.get? s.heap.objs.size = some { cls := .type "tuple", data := .seq #[.int i tk, y] } := (sb.2 _ (Nat.ne_of_gt old1)).trans hT
    have new : ObjOk X.prog X.w (upd H s.heap.objs.size (.tup [.int (i : Nat), x])) h'' s.heap.objs.size (.tup [.int (i : Nat), x]) :=
      ⟨by show 2 ≤ sizeLine; decide, [.int i tk, y], .cons ⟨_, rfl⟩ (.cons ru .nil), ⟨_, hT2, rfl, _, rfl⟩⟩
    have I1 : Inv X pins σ (upd H s.heap.objs.size (.tup [.int (i : Nat), x])) { s with heap := h'', toks := tk + 1 } :=
      I.turnedNew (ch := [e, it]) (fun b ob hb q => (sb.2 b (fun z => hb (by simp [z]))).trans (hk b ob (fun z => hb (by simp [z])) (fun z => hb (by simp [z])) q)) hf (Nat.le_refl _) new
    refine ⟨.ref s.heap.objs.size, _, I1, rfl, ⟨_, x, rfl, I.hok.fresh (Nat.le_refl _), rfl, fun ys hy => by rw [I.tuple_inj hy hq]; exact hx⟩, ⟨⟨y, ?_⟩, st'.1.at fun o q => (sb.2 it (Ne.symm hne)).trans q, hne⟩, fun b hb => ?_⟩
    · rw [show ((i + 1 : Nat) : Int) = (i : Int) + 1 by omega]
      exact he'
    · have hb' : b < s.heap.objs.size := by
        rcases List.mem_cons.mp hb with rfl | hb
        · exact old1
        · rw [List.mem_singleton.mp hb]; exact old2
      rw [upd_ne (Nat.ne_of_lt hb')]
      exact (hf b hb).1
  done := fun X hP hw hK hc i pins s σ H E I hf ⟨⟨old, he⟩, hit, hne⟩ ⟨xs, hq, hx⟩ => by
    subst hP hw hK
    obtain ⟨its, rv, p, hz⟩ := I.tuple hq
    have p : s.heap.IsTuple a its.toArray := p
    obtain ⟨f0, f1, f2, f3, f4, f5⟩ := hf it (by simp)
    have hl := rv.length
    have ai : a ≠ it := fun z => by
      obtain ⟨o1, g1, c1, _⟩ := hit
      obtain ⟨o2, g2, c2, _⟩ := p
      rw [z, g1] at g2
      cases g2
      exact absurd (Value.type.inj (c1.symm.trans c2)) (by decide)
    have e' : i = its.toArray.size := by rw [List.size_toArray, ← hl, hx]
    exact wpAny_pyNext_enum_endD (Draws.tuple (show X.A.in1.handled = none from I.ok.hd hc) it a ai its.toArray) he ⟨by rw [← e']; exact hit, p⟩ fun h' eb => ⟨rfl, I.turned (t' := s.toks) (fun b o hb q => eb b o hb q) f0 f1 f3 f4 f5⟩
  self := fun A i s Q E ⟨⟨_, he⟩, _⟩ h => wpAny_pyIter_enum he h
def iEnumT (K : PySem.W.Frag) (ta : TA) : TI := fun σ H R => ta σ H fun vs H1 => ∃ a xs, vs = [.ref a] ∧ SqT K H1 a xs ∧ R (IteT K a) H1
section
variable {X : Cx} {e tg : Expr} {te : TE} {ta : TA} {p pos tpos : Pos} {elts : List Expr} {kk : Nat}
theorem pi_enumT (hg : Gl X "enumerate") (hm : X.mg "enumerate" = none) (ha : PA X [e] ta) (hs : starEach [e] X.env = [(false, eval e X.env)] := by rfl) : PI X (.Tuple elts kk tpos) (.Call (.Name "enumerate" p) [e] [] pos) (iEnumT X.K ta) :=
  ⟨fun pins s σ H R I h => Call_ (ld_blt I hg hm boot_enumerate (PyProof.Rows.callWith_type1 (thn (ha.run pos pins s σ H _ I h) fun us s1 ⟨vs, H1, I1, r1, a, xs, ex, hq, q⟩ => by
    subst ex
    cases r1 with
    | cons r rr =>
      cases rr
      cases r
      obtain ⟨its, rv, p', hz⟩ := I1.tuple hq
      refine enum_tuple (show s1.heap.IsTuple a its.toArray from p') fun h' he hit hk => wpAny_pyIter_enum he ?_
      refine ⟨s1.heap.objs.size + 1, [s1.heap.objs.size + 1, s1.heap.objs.size], _, _, H1, rfl, I1.kept (t' := s1.toks) hk, turn_enumT a (s1.heap.objs.size + 1) s1.heap.objs.size, ⟨⟨.none, he⟩, hit, Nat.succ_ne_self _⟩, fun b hb => ?_, q⟩
      have le : s1.heap.objs.size ≤ b := by
        rcases List.mem_cons.mp hb with rfl | hb
        · exact Nat.le_succ _
        · exact Nat.le_of_eq (List.mem_singleton.mp hb).symm
      exact I1.fpOk le (I1.hok.fresh le)) hs rfl))⟩
/-! ### a list or a tuple -/
theorem PI.or {w1 w2 : TI} {it : Expr} (a : PI X tg it w1) (b : PI X tg it w2) : PI X tg it (fun σ H R => w1 σ H R ∨ w2 σ H R) := ⟨fun pins s σ H R I h => h.elim (a.run pins s σ H R I) (b.run pins s σ H R I)⟩
theorem PG.or {g1 g2 : TG} (a : PG X tg g1) (b : PG X tg g2) : PG X tg (fun v σ H Q => g1 v σ H Q ∨ g2 v σ H Q) := ⟨fun pins s σ H v u Q I r h => h.elim (a.run pins s σ H v u Q I r) (b.run pins s σ H v u Q I r)⟩
/-- l: a list; else a tuple -/
def sq (l : Bool) (xs : List V) : HO := if l = true then .lst xs else .tup xs
theorem sq_l {K : PySem.W.Frag} {H : Hp} {a : Addr} {xs : List V} (h : H a = some (sq true xs)) : SqL K H a xs := SqL.of h
theorem sq_t {K : PySem.W.Frag} {H : Hp} {a : Addr} {xs : List V} (h : H a = some (sq false xs)) : SqT K H a xs := SqT.of h
def iSeq (K : PySem.W.Frag) (te : TE) : TI := fun σ H R => te σ H fun x H1 => ∃ a l xs, x = .ref a ∧ H1 a = some (sq l xs) ∧ R (if l = true then Itl K a else Itt K a) H1
theorem pi_seq (he : PE X e te) : PI X tg e (iSeq X.K te) := ⟨fun pins s σ H R I h => thn (he.run pins s σ H _ I h) fun v s1 ⟨x, H1, I1, rx, a, l, xs, ex, hx, q⟩ => by
  subst ex
  cases rx
  cases l with
  | true =>
    obtain ⟨its, rv, p, _⟩ := I1.list (SqL.of hx)
    exact wpAny_pyIter_list p.isList ⟨s1.heap.objs.size, [s1.heap.objs.size], _, _, H1, rfl, I1.kept (t' := s1.toks) fun b o e => Heap.get?_push_of_some _ e, turn_list a _, ⟨_, Heap.get?_push_size _ rfl, rfl, rfl⟩, fun b hb => by
      rw [List.mem_singleton.mp hb]
      exact I1.fpOk (Nat.le_refl _) (I1.hok.fresh (Nat.le_refl _)), q⟩
  | false =>
    obtain ⟨its, rv, p, _⟩ := I1.tuple (SqT.of hx)
    exact wpAny_pyIter_tuple (show s1.heap.IsTuple a its.toArray from p) ⟨s1.heap.objs.size, [s1.heap.objs.size], _, _, H1, rfl, I1.kept (t' := s1.toks) fun b o e => Heap.get?_push_of_some _ e, turn_tuple a _, ⟨_, Heap.get?_push_size _ rfl, rfl, rfl⟩, fun b hb => by
      rw [List.mem_singleton.mp hb]
      exact I1.fpOk (Nat.le_refl _) (I1.hok.fresh (Nat.le_refl _)), q⟩⟩
def iEnumS (K : PySem.W.Frag) (ta : TA) : TI := fun σ H R => ta σ H fun vs H1 => ∃ a l xs, vs = [.ref a] ∧ H1 a = some (sq l xs) ∧ R (if l = true then Ite K a else IteT K a) H1
theorem pi_enumS (hg : Gl X "enumerate") (hm : X.mg "enumerate" = none) (ha : PA X [e] ta) (hs : starEach [e] X.env = [(false, eval e X.env)] := by rfl) : PI X (.Tuple elts kk tpos) (.Call (.Name "enumerate" p) [e] [] pos) (iEnumS X.K ta) :=
  ⟨fun pins s σ H R I h => Call_ (ld_blt I hg hm boot_enumerate (PyProof.Rows.callWith_type1 (thn (ha.run pos pins s σ H _ I h) fun us s1 ⟨vs, H1, I1, r1, a, l, xs, ex, hq, q⟩ => by
    subst ex
    have young : ∀ b ∈ [s1.heap.objs.size + 1, s1.heap.objs.size], FpOk X pins H1 b := fun b hb => by
      have le : s1.heap.objs.size ≤ b := by
        rcases List.mem_cons.mp hb with rfl | hb
        · exact Nat.le_succ _
        · exact Nat.le_of_eq (List.mem_singleton.mp hb).symm
      exact I1.fpOk le (I1.hok.fresh le)
    cases r1 with
    | cons r rr =>
      cases rr
      cases r
      cases l with
      | true =>
        obtain ⟨its, rv, p', hz⟩ := I1.list (SqL.of hq)
        exact call_enumerate_list p'.isList fun h' he hit hsz hk => wpAny_pyIter_enum he ⟨_, _, _, _, H1, rfl, I1.kept (t' := s1.toks) hk, turn_enum a (s1.heap.objs.size + 1) s1.heap.objs.size, ⟨⟨.none, he⟩, hit, Nat.succ_ne_self _⟩, young, q⟩
      | false =>
        obtain ⟨its, rv, p', hz⟩ := I1.tuple (SqT.of hq)
        exact enum_tuple (show s1.heap.IsTuple a its.toArray from p') fun h' he hit hk => wpAny_pyIter_enum he ⟨_, _, _, _, H1, rfl, I1.kept (t' := s1.toks) hk, turn_enumT a (s1.heap.objs.size + 1) s1.heap.objs.size, ⟨⟨.none, he⟩, hit, Nat.succ_ne_self _⟩, young, q⟩) hs rfl))⟩
end
/-! ### loops over what walks n items -/
structure Goes (J : It) (S : Hp → Prop) (n : Nat) (y : Nat → Hp → V → Hp → Prop) : Prop where
  go : ∀ i H, i < n → S H → J.go i H
  stop : ∀ H, S H → J.stop n H
  yld : ∀ i H x H', S H → J.yld i H x H' → y i H x H'
theorem goes_seq {K : PySem.W.Frag} {a : Addr} {l : Bool} {xs : List V} : Goes (if l = true then Itl K a else Itt K a) (fun H => H a = some (sq l xs)) xs.length (fun i H x H' => H' = H ∧ xs[i]? = some x) := by
  cases l with
  | true => exact ⟨fun i H hi h => ⟨xs, xs[i], SqL.of h, by simp [hi]⟩, fun H h => ⟨xs, SqL.of h, Nat.le_refl _⟩, fun i H x H' h y => ⟨y.1, y.2 xs (SqL.of h)⟩⟩
  | false => exact ⟨fun i H hi h => ⟨xs, xs[i], SqT.of h, by simp [hi]⟩, fun H h => ⟨xs, SqT.of h, Nat.le_refl _⟩, fun i H x H' h y => ⟨y.1, y.2 xs (SqT.of h)⟩⟩
theorem goes_enum {K : PySem.W.Frag} {a : Addr} {l : Bool} {xs : List V} : Goes (if l = true then Ite K a else IteT K a) (fun H => H a = some (sq l xs)) xs.length (fun i H x H' => ∃ T z, x = .ref T ∧ H T = none ∧ H' = upd H T (.tup [.int (i : Nat), z]) ∧ xs[i]? = some z) := by
  cases l with
  | true => exact ⟨fun i H hi h => ⟨xs, xs[i], SqL.of h, by simp [hi]⟩, fun H h => ⟨xs, SqL.of h, Nat.le_refl _⟩, fun i H x H' h ⟨T, z, a, b, c, d⟩ => ⟨T, z, a, b, c, d xs (SqL.of h)⟩⟩
  | false => exact ⟨fun i H hi h => ⟨xs, xs[i], SqT.of h, by simp [hi]⟩, fun H h => ⟨xs, SqT.of h, rfl⟩, fun i H x H' h ⟨T, z, a, b, c, d⟩ => ⟨T, z, a, b, c, d xs (SqT.of h)⟩⟩
theorem loop_goes {J : It} {S : Hp → Prop} {n : Nat} {y : Nat → Hp → V → Hp → Prop} {g : TG} {tb : TS} {D : Ends} {σ : L2.St} {H : Hp} (G : Goes J S n y) (Pe : L2.St → Hp → Prop) (Pv : Nat → L2.St → Hp → Prop) (h0 : Pv 0 σ H) (hl : ∀ i σ H, i ≤ n → Pv i σ H → S H)
    (hs : ∀ (bk : L2.St → Hp → Prop), (∀ σ H, Pe σ H → bk σ H) → ∀ i x σ H H', i < n → Pv i σ H → y i H x H' → g x σ H' fun σ2 H2 => tb { D with nx := Pv (i + 1), ct := Pv (i + 1), bk := bk } σ2 H2)
    (hd : ∀ σ H, Pv n σ H → Pe σ H) (he : ∀ σ H, Pe σ H → D.nx σ H) : Rd.Loop J g tb D σ H :=
  ⟨fun i m σ H => m = n - i ∧ i ≤ n ∧ Pv i σ H, ⟨n, rfl, Nat.zero_le _, h0⟩, fun i m σ H ⟨e, hi, p⟩ => by
    subst e
    have q := hl i σ H hi p
    rcases Nat.lt_or_eq_of_le hi with lt | eq
    · exact .inr ⟨G.go i H lt q, Pv (i + 1), fun σ' H' p' => ⟨n - (i + 1), by omega, rfl, lt, p'⟩, fun x H' z => hs D.nx he i x σ H H' lt p (G.yld i H x H' q z)⟩
    · subst eq
      exact .inl ⟨G.stop H q, he σ H (hd σ H p)⟩⟩
theorem lcl_goes {J : It} {S : Hp → Prop} {n : Nat} {y : Nat → Hp → V → Hp → Prop} {g : TG} {tt : TT} {te : TE} {vs : List Nat} {σ : L2.St} {H : Hp} {Q : VK} (G : Goes J S n y) (Pv : Addr → Nat → Hp → Prop) (h0 : ∀ D, H D = none → Pv D 0 (upd H D (.lst []))) (hl : ∀ D i H1, i ≤ n → Pv D i H1 → S H1)
    (hs : ∀ D i x H1 H', i < n → Pv D i H1 → y i H1 x H' → g x (wipe σ vs) H' fun σ2 H2 => Rd.LcTurn te tt D (wipe σ vs) σ2 vs H2 (Pv D (i + 1))) (hd : ∀ D H1, H D = none → Pv D n H1 → Q (.ref D) H1) : Rd.LcL J g tt te vs σ H Q := fun D hD =>
  ⟨fun i m H => m = n - i ∧ i ≤ n ∧ Pv D i H, ⟨n, rfl, Nat.zero_le _, h0 D hD⟩, fun i m H1 ⟨e, hi, p⟩ => by
    subst e
    have q := hl D i H1 hi p
    rcases Nat.lt_or_eq_of_le hi with lt | eq
    · exact .inr ⟨G.go i H1 lt q, Pv D (i + 1), fun H' p' => ⟨n - (i + 1), by omega, rfl, lt, p'⟩, fun x H' z => hs D i x H1 H' lt p (G.yld i H1 x H' q z)⟩
    · subst eq
      exact .inl ⟨G.stop H1 q, hd D H1 hD p⟩⟩
theorem tFor_seq {K : PySem.W.Frag} {te : TE} {g : TG} {tb : TS} {D : Ends} {σ : L2.St} {H : Hp} : tFor (iSeq K te) g tb D σ H = te σ H (fun x H1 => ∃ a l xs, x = .ref a ∧ H1 a = some (sq l xs) ∧ Rd.Loop (if l = true then Itl K a else Itt K a) g tb D σ H1) := rfl
theorem tFor_enumS {K : PySem.W.Frag} {ta : TA} {g : TG} {tb : TS} {D : Ends} {σ : L2.St} {H : Hp} : tFor (iEnumS K ta) g tb D σ H = ta σ H (fun vs H1 => ∃ a l xs, vs = [.ref a] ∧ H1 a = some (sq l xs) ∧ Rd.Loop (if l = true then Ite K a else IteT K a) g tb D σ H1) := rfl
theorem tLc_seq {K : PySem.W.Frag} {te0 : TE} {g : TG} {tt : TT} {te : TE} {vs : List Nat} {σ : L2.St} {H : Hp} {Q : VK} : tLc (iSeq K te0) g tt te vs σ H Q = te0 σ H (fun x H1 => ∃ a l xs, x = .ref a ∧ H1 a = some (sq l xs) ∧ Rd.LcL (if l = true then Itl K a else Itt K a) g tt te vs σ H1 Q) := rfl
theorem tLc_enumS {K : PySem.W.Frag} {ta : TA} {g : TG} {tt : TT} {te : TE} {vs : List Nat} {σ : L2.St} {H : Hp} {Q : VK} : tLc (iEnumS K ta) g tt te vs σ H Q = ta σ H (fun ws H1 => ∃ a l xs, ws = [.ref a] ∧ H1 a = some (sq l xs) ∧ Rd.LcL (if l = true then Ite K a else IteT K a) g tt te vs σ H1 Q) := rfl
/-! ### x, *rest = a list or a tuple -/
section
variable {prog : Program} {w : World} {A : Around} {E : Value → Shared → Prop} {s : Shared}
theorem rest_list {l : Addr} {x : Value} {xs : List Value} {Q : List Value → Shared → Prop} (hl : s.heap.IsList l (x :: xs).toArray) (hh : A.handled = none) (hz : xs.length ≤ 1000)
    (h : ∀ (h' : Heap) (tk : Nat), (∀ b o, s.heap.get? b = some o → h'.get? b = some o) → Q [x, .ref h'.objs.size] { s with heap := h'.push { cls := .type "list", data := .seq xs.toArray }, toks := tk }) : wpAny (model prog w) A (unpackItems (.ref l) 2 (some 1)) Q E s := by
  have ne : l ≠ s.heap.objs.size := let ⟨_, g, _⟩ := hl; Nat.ne_of_lt (Heap.lt_size g)
  unfold unpackItems notIterableAtAll
  refine wpAny_bind (wpAny_bind (wpAny_specialOf hl.typeIs slot_list_iter.lookup (wpAny_pure ?_)))
  simp only [Bool.false_eq_true, if_false]
  refine wpAny_bind (wpAny_holding (wpAny_pyIter_list hl (wpAny_bind (wpAny_holding (PySem.W.kun_draw ne 1 0 _ _ ⟨_, Heap.get?_push_size _ rfl, rfl, rfl⟩ (hl.push _) (by simp) fun h1 it1 sb1 => ?_)))))
  have e1 : ((x :: xs).toArray.toList.drop 0).take 1 = [x] := rfl
  rw [e1]
  have it1 : h1.IsListIter s.heap.objs.size l 1 := it1
  have l1 : h1.IsList l (x :: xs).toArray := (hl.push _).extBut sb1.extBut ne
  have lt1 : s.heap.objs.size < h1.objs.size := let ⟨_, g, _⟩ := it1; Heap.lt_size g
  have lt2 : l < h1.objs.size := let ⟨_, g, _⟩ := l1; Heap.lt_size g
  rw [if_neg (show ¬ ([x] : List Value).length < 1 from Nat.lt_irrefl 1)]
  refine wpAny_bind (wpAny_holding (PySem.W.kun_collect (s := { s with heap := h1 }) (T := "list_iterator") (.inr (.inr (.inl rfl))) (Walks.list (A := A.in1) hh s.heap.objs.size l ne (x :: xs).toArray) (fun j u st => st.1.typeIs) (k := 1) (by simp) ⟨it1, l1⟩ lt1 lt2 (fun h2 tk k2 => ?_) (by simp; exact Nat.le_trans (Nat.succ_le_succ hz) (by decide))))
  rw [if_neg (Nat.not_lt_zero _)]
  have e2 : (x :: xs).toArray.toList.drop 1 = xs := rfl
  have e3 : xs.take (xs.length - (2 - 1 - 1)) = xs := List.take_length
  have e4 : xs.drop (xs.length - (2 - 1 - 1)) = [] := List.drop_length
  rw [e2, e3, e4]
  exact wpAny_bind (wpAny_newList (wpAny_pure (h h2 tk fun b o g => k2 b o (Nat.ne_of_lt (Heap.lt_size g)) (sb1.extBut b o (Nat.ne_of_lt (Heap.lt_size g)) (Heap.get?_push_of_some _ g)))) (Nat.le_trans hz (by decide)))
theorem rest_tuple {l : Addr} {x : Value} {xs : List Value} {Q : List Value → Shared → Prop} (hl : s.heap.IsTuple l (x :: xs).toArray) (hh : A.handled = none) (hz : xs.length ≤ 1000)
    (h : ∀ (h' : Heap) (tk : Nat), (∀ b o, s.heap.get? b = some o → h'.get? b = some o) → Q [x, .ref h'.objs.size] { s with heap := h'.push { cls := .type "list", data := .seq xs.toArray }, toks := tk }) : wpAny (model prog w) A (unpackItems (.ref l) 2 (some 1)) Q E s := by
  have ne : l ≠ s.heap.objs.size := let ⟨_, g, _⟩ := hl; Nat.ne_of_lt (Heap.lt_size g)
  unfold unpackItems notIterableAtAll
  refine wpAny_bind (wpAny_bind (wpAny_specialOf hl.typeIs slot_tuple_iter.lookup (wpAny_pure ?_)))
  simp only [Bool.false_eq_true, if_false]
  refine wpAny_bind (wpAny_holding (wpAny_pyIter_tuple hl (wpAny_bind (wpAny_holding (wpAny_draw_tuple ne 1 0 _ _ ⟨_, Heap.get?_push_size _ rfl, rfl, rfl⟩ (hl.push _) (by simp) fun h1 it1 sb1 => ?_)))))
  have e1 : ((x :: xs).toArray.toList.drop 0).take 1 = [x] := rfl
  rw [e1]
  have it1 : h1.IsTupleIter s.heap.objs.size l 1 := it1
  have l1 : h1.IsTuple l (x :: xs).toArray := (hl.push _).extBut sb1.extBut ne
  have lt1 : s.heap.objs.size < h1.objs.size := let ⟨_, g, _⟩ := it1; Heap.lt_size g
  have lt2 : l < h1.objs.size := let ⟨_, g, _⟩ := l1; Heap.lt_size g
  rw [if_neg (show ¬ ([x] : List Value).length < 1 from Nat.lt_irrefl 1)]
  refine wpAny_bind (wpAny_holding (PySem.W.kun_collect (s := { s with heap := h1 }) (T := "tuple_iterator") (.inr (.inr (.inr rfl))) (Walks.tuple (A := A.in1) hh s.heap.objs.size l ne (x :: xs).toArray) (fun j u st => st.1.typeIs) (k := 1) (by simp) ⟨it1, l1⟩ lt1 lt2 (fun h2 tk k2 => ?_) (by simp; exact Nat.le_trans (Nat.succ_le_succ hz) (by decide))))
  rw [if_neg (Nat.not_lt_zero _)]
  have e2 : (x :: xs).toArray.toList.drop 1 = xs := rfl
  have e3 : xs.take (xs.length - (2 - 1 - 1)) = xs := List.take_length
  have e4 : xs.drop (xs.length - (2 - 1 - 1)) = [] := List.drop_length
  rw [e2, e3, e4]
  exact wpAny_bind (wpAny_newList (wpAny_pure (h h2 tk fun b o g => k2 b o (Nat.ne_of_lt (Heap.lt_size g)) (sb1.extBut b o (Nat.ne_of_lt (Heap.lt_size g)) (Heap.get?_push_of_some _ g)))) (Nat.le_trans hz (by decide)))
end
def gRest (t : TGs) : TG := fun v σ H Q => ∃ a l x xs, v = .ref a ∧ H a = some (sq l (x :: xs)) ∧ xs.length ≤ 1000 ∧ ∀ D, H D = none → t [x, .ref D] σ (upd H D (.lst xs)) Q
theorem pg_rest {X : Cx} {t1 t2 : Expr} {p pos : Pos} {k : Nat} {t : TGs} (hc : X.calm = true) (h : PGs X [t1, t2] t) (he : (assignEach [t1, .Starred t2 p] X.env).map (·.2) = (assignEach [t1, t2] X.env).map (·.2) := by rfl)
    (hn : (assignEach [t1, .Starred t2 p] X.env).length = 2 := by rfl) (hst : (assignEach [t1, .Starred t2 p] X.env).findIdx? (·.1) = some 1 := by rfl) : PG X (.Tuple [t1, .Starred t2 p] k pos) (gRest t) := by
  refine ⟨fun pins s σ H v u Q I r ⟨a, l, x, xs, e1, hq, hz, hw⟩ => ?_⟩
  subst e1
  cases r
  rw [assign_Tuple]
  refine wpAny_bind (wpAny_standAt ?_)
  unfold unpack
  rw [hn, hst, he]
  have fin : ∀ {u : Value} {us : List Value}, RelV x u → Vals xs us → ∀ (h' : Heap) (tk : Nat), (∀ b o, s.heap.get? b = some o → h'.get? b = some o) →
      wpAny (model X.prog X.w) X.A (assignInOrder ((assignEach [t1, t2] X.env).map (·.2)) [u, .ref h'.objs.size]) (fun _ s' => ∃ σ' H', Inv X pins σ' H' s' ∧ Q σ' H') X.xe { s with heap := h'.push { cls := .type "list", data := .seq us.toArray }, toks := tk } := fun {u us} ru rus h' tk kp => by
    have I1 : Inv X pins σ H { s with heap := h', toks := tk } := I.kept (t' := tk) kp
    have I2 := I1.laid (t' := tk) (a := h'.objs.size) (o := .lst xs) (h' := h'.push { cls := .type "list", data := .seq us.toArray }) (fun b o e => Heap.get?_push_of_some _ e) (Nat.le_refl _) ⟨Nat.le_trans hz (by decide), us, 0, rus, Heap.get?_push_size _ rfl⟩
    exact h.run pins _ σ _ [x, .ref h'.objs.size] _ Q I2 (.cons ru (.cons rfl .nil)) (hw h'.objs.size (I1.hok.fresh (Nat.le_refl _)))
  cases l with
  | true =>
    obtain ⟨its, rv, pl, _⟩ := I.list (SqL.of hq)
    cases rv with
    | cons ru rus => exact wpAny_bind (wpAny_holding (rest_list pl.isList (I.ok.hd hc) (by rw [← rus.length]; exact hz) (fin ru rus)))
  | false =>
    obtain ⟨its, rv, pl, _⟩ := I.tuple (SqT.of hq)
    cases rv with
    | cons ru rus => exact wpAny_bind (wpAny_holding (rest_tuple (show s.heap.IsTuple a _ from pl) (I.ok.hd hc) (by rw [← rus.length]; exact hz) (fin ru rus)))
/-- x, y, .. = a list or a tuple of that length -/
def gSeq (n : Nat) (t : TGs) : TG := fun v σ H Q => ∃ a l xs, v = .ref a ∧ H a = some (sq l xs) ∧ xs.length = n ∧ t xs σ H Q
theorem pg_seq {X : Cx} {es : List Expr} {k n : Nat} {pos : Pos} {t : TGs} (hc : X.calm = true) (h : PGs X es t) (hn : (assignEach es X.env).length = n := by rfl) (hst : (assignEach es X.env).findIdx? (·.1) = none := by rfl) : PG X (.Tuple es k pos) (gSeq n t) := by
  refine ⟨fun pins s σ H v u Q I r ⟨a, l, xs, e1, hq, hl, hw⟩ => ?_⟩
  cases l with
  | true => exact (pg_unl hc h hn hst).run pins s σ H v u Q I r ⟨a, xs, e1, SqL.of hq, hl, hw⟩
  | false => exact (pg_tup hc h hn hst).run pins s σ H v u Q I r ⟨a, xs, e1, SqT.of hq, hl, hw⟩
end OwnSeq
/-! A list comprehension within a def that runs while an exception is handled. -/
namespace OwnHot
open PySem PySem.Spec PyProof.Rows L2 L2H HotX
section
variable {prog : Program} {w : World} {A : Around} {E : Value → Shared → Prop} {s : Shared}
/-- what stands behind an iterator's last item: a StopIteration, taken by the one who asked -/
theorem stop_hot {α : Type} {Qa : α → Shared → Prop} {t : Sem α} {k : Value → Sem α} (et : t = newExc (.type "StopIteration") [] >>= k) (ek : ∀ a, k (.ref a) = raiseNew (.ref a)) {x1 : Addr} {Q : Option Value → Shared → Prop} (hot : HotAt A x1 s.heap)
    (hQ : ∀ h', (∀ b o, s.heap.get? b = some o → h'.get? b = some o) → Q none { s with heap := h' }) :
    wpAny (model prog w) A.in1 t Qa (fun e s' => wpAny (model prog w) A (do let b ← isInstance e (.type "StopIteration"); if b = true then pure none else throw e) Q E s') s := by
  obtain ⟨hh, o1, vs1, g1, d1, c1⟩ := hot
  rw [et]
  refine wpAny_bind ?_
  simp only [newExc, newTuple]
  refine wpAny_bind (wpAny_newObj_type ?_ (by size_fits))
  refine wpAny_bind (m := firstArgMember _ _) (wpAny_of_eq (a := Value.none) (by first | rfl | (simp only [firstArgMember]; rfl)) ?_)
  refine wpAny_newObj_type ?_ (by size_fits)
  rw [ek]
  refine raiseNew_hot ⟨hh, o1, vs1, Heap.get?_push_of_some _ (Heap.get?_push_of_some _ g1), d1, c1⟩ (Nat.ne_of_lt (Heap.lt_size (Heap.get?_push_of_some _ g1))) (Heap.get?_push_size _ rfl) rfl (by first | (simp; done) | (simp; omega) | (simp only [Array.size_append]; simp; omega)) ?_
  refine wpAny_bind (wpAny_isInstance (T := "StopIteration") (b := true) ⟨_, Heap.get?_update_self _ (Heap.get?_push_size _ rfl) rfl, rfl⟩ isSubtype_stop (wpAny_pure (hQ _ fun b o e => ?_)))
  rw [Heap.get?_update_other _ _ (Nat.ne_of_gt (Heap.lt_size (Heap.get?_push_of_some _ e)))]
  exact Heap.get?_push_of_some _ (Heap.get?_push_of_some _ e)
theorem list_end {it l x1 : Addr} {i : Nat} {items : Array Value} {Q : Option Value → Shared → Prop} (hot : HotAt A x1 s.heap) (ne : x1 ≠ it) (hit : s.heap.IsListIter it l i) (hl : s.heap.IsList l items) (hx : items[i]? = none)
    (hQ : ∀ h', Heap.ExtBut it s.heap h' → Q none { s with heap := h' }) : wpAny (model prog w) A (pyNext (.ref it)) Q E s := by
  obtain ⟨o, ho, hc, hd⟩ := id hit
  obtain ⟨ol, hol, _, nl, hdl⟩ := hl
  unfold pyNext
  refine wpAny_bind (wpAny_attempt (wpAny_callSpecial?_slot (name := Str.ofString "__next__") hit.typeIs slot_listiter_next (wpAny_call_entry slot_listiter_next hit.typeIs entry_listiter_next ?_ (args_listiter_next _))))
  show wpAny _ _ (field (.ref it) 0 >>= _) _ _ s
  refine wpAny_bind (wpAny_field ho hd (x := .ref l) rfl ?_)
  rw [if_neg (show ¬ ((Value.ref l == Value.none) = true) from Bool.false_ne_true)]
  refine wpAny_bind (wpAny_field ho hd (x := .int i 0) rfl (wpAny_bind (wpAny_seqItems hol hdl ?_)))
  simp only [Int.toNat_natCast, hx]
  refine wpAny_bind (wpAny_rule (wpAny_bind (wpAny_setField ho hd (by simp) ?_)))
  obtain ⟨hh, o1, vs1, g1, d1, c1⟩ := hot
  refine stop_hot (k := fun e => raiseNew e) rfl (fun _ => rfl) ⟨hh, o1, vs1, (Heap.get?_update_other _ _ ne.symm).trans g1, d1, c1⟩ fun h' kp => hQ h' fun b ob hb e => kp b ob ((Heap.get?_update_other _ _ (Ne.symm hb)).trans e)
theorem tuple_end {it l x1 : Addr} {i : Nat} {items : Array Value} {Q : Option Value → Shared → Prop} (hot : HotAt A x1 s.heap) (ne : x1 ≠ it) (hit : s.heap.IsTupleIter it l i) (hl : s.heap.IsTuple l items) (hx : items[i]? = none)
    (hQ : ∀ h', Heap.ExtBut it s.heap h' → Q none { s with heap := h' }) : wpAny (model prog w) A (pyNext (.ref it)) Q E s := by
  obtain ⟨o, ho, hc, hd⟩ := id hit
  obtain ⟨ol, hol, _, nl, hdl⟩ := hl
  unfold pyNext
  refine wpAny_bind (wpAny_attempt (wpAny_callSpecial?_slot (name := Str.ofString "__next__") hit.typeIs F.slot_tuple_iterator_next (wpAny_call_entry F.slot_tuple_iterator_next hit.typeIs F.entry_tuple_iterator_next ?_ (F.args_tuple_iterator_next_1 _))))
  show wpAny _ _ (field (.ref it) 0 >>= _) _ _ s
  refine wpAny_bind (wpAny_field ho hd (x := .ref l) rfl ?_)
  rw [if_neg (show ¬ ((Value.ref l == Value.none) = true) from Bool.false_ne_true)]
  refine wpAny_bind (wpAny_field ho hd (x := .int i 0) rfl (wpAny_bind (wpAny_seqItems hol hdl ?_)))
  simp only [Int.toNat_natCast, hx]
  refine wpAny_bind (wpAny_rule (wpAny_bind (wpAny_setField ho hd (by simp) ?_)))
  obtain ⟨hh, o1, vs1, g1, d1, c1⟩ := hot
  refine stop_hot (k := fun e => raiseNew e) rfl (fun _ => rfl) ⟨hh, o1, vs1, (Heap.get?_update_other _ _ ne.symm).trans g1, d1, c1⟩ fun h' kp => hQ h' fun b ob hb e => kp b ob ((Heap.get?_update_other _ _ (Ne.symm hb)).trans e)
end
/-! ### walks -/
section
variable {P : Program} {w : World} {K : PySem.W.Frag} {tg : Expr}
theorem hot_of {X : Cx} {pins : List (Addr × Obj)} {σ : L2.St} {H : Hp} {s : Shared} {it : Addr} (hc : HotC X) (I : Inv X pins σ H s) (hf : FpOk X pins H it) : ∃ x1, HotAt X.A x1 s.heap ∧ x1 ≠ it := by
  obtain ⟨p, ⟨hh, v1, e1, c1⟩, hp⟩ := hc
  exact ⟨p.1, ⟨hh, p.2, v1, (I.pin p (List.mem_append_left _ hp)).1, e1, c1⟩, hf.2.2.2.2.2 p (List.mem_append_left _ hp)⟩
theorem turnL (a it : Addr) : TurnH P w K tg (Itl K a) [it] it (fun i h => h.IsListIter it a i) :=
  let T : Turn P w K tg (Itl K a) [it] it (fun i h => h.IsListIter it a i) := turn_list a it
  { mem := T.mem, obj := T.obj, keep := T.keep, self := T.self
    item := fun X hP hw hK hc i pins s σ H E I hf st ⟨xs, x, hq, hx⟩ => by
      subst hP hw hK
      obtain ⟨f0, f1, f2, f3, f4, f5⟩ := hf it (List.mem_singleton.mpr rfl)
      obtain ⟨its, rv, p, _⟩ := I.list hq
      obtain ⟨u, hu, ru⟩ := rv.get hx
      refine wpAny_pyNext_list_item st p.isList (x := u) (by simpa using hu) fun h' st' sb => ?_
      have I1 := I.turned (t' := s.toks) (fun b o hb e => (sb.2 b hb).trans e) f0 f1 f3 f4 f5
      obtain ⟨o, e, c, d⟩ := id st'
      exact ⟨u, rfl, go_of (s := { s with heap := h' }) e c d (by decide) ⟨x, H, I1, ru, ⟨rfl, fun ys hy => (congrArg (·[i]?) (I.list_inj hy hq)).trans hx⟩, st', fun b hb => (hf b hb).1⟩⟩
    done := fun X hP hw hK hc i pins s σ H E I hf st ⟨xs, hq, hx⟩ => by
      subst hP hw hK
      have ff := hf it (List.mem_singleton.mpr rfl)
      obtain ⟨f0, f1, f2, f3, f4, f5⟩ := id ff
      obtain ⟨its, rv, p, _⟩ := I.list hq
      obtain ⟨x1, hot, ne⟩ := hot_of hc I ff
      have hl := rv.length
      exact list_end hot ne st p.isList (by simp; omega) fun h' eb => ⟨rfl, I.turned (t' := s.toks) (fun b o hb e => eb b o hb e) f0 f1 f3 f4 f5⟩ }
theorem turnT (a it : Addr) : TurnH P w K tg (Itt K a) [it] it (fun i h => h.IsTupleIter it a i) :=
  let T : Turn P w K tg (Itt K a) [it] it (fun i h => h.IsTupleIter it a i) := turn_tuple a it
  { mem := T.mem, obj := T.obj, keep := T.keep, self := T.self
    item := fun X hP hw hK hc i pins s σ H E I hf st ⟨xs, x, hq, hx⟩ => by
      subst hP hw hK
      obtain ⟨f0, f1, f2, f3, f4, f5⟩ := hf it (List.mem_singleton.mpr rfl)
      obtain ⟨its, rv, p, _⟩ := I.tuple hq
      obtain ⟨u, hu, ru⟩ := rv.get hx
      refine wpAny_pyNext_tuple_item st (show s.heap.IsTuple a its.toArray from p) (x := u) (by simpa using hu) fun h' st' sb => ?_
      have I1 := I.turned (t' := s.toks) (fun b o hb e => (sb.2 b hb).trans e) f0 f1 f3 f4 f5
      obtain ⟨o, e, c, d⟩ := id st'
      exact ⟨u, rfl, go_of (s := { s with heap := h' }) e c d (by decide) ⟨x, H, I1, ru, ⟨rfl, fun ys hy => (congrArg (·[i]?) (I.tuple_inj hy hq)).trans hx⟩, st', fun b hb => (hf b hb).1⟩⟩
    done := fun X hP hw hK hc i pins s σ H E I hf st ⟨xs, hq, hx⟩ => by
      subst hP hw hK
      have ff := hf it (List.mem_singleton.mpr rfl)
      obtain ⟨f0, f1, f2, f3, f4, f5⟩ := id ff
      obtain ⟨its, rv, p, _⟩ := I.tuple hq
      obtain ⟨x1, hot, ne⟩ := hot_of hc I ff
      have hl := rv.length
      exact tuple_end hot ne st (show s.heap.IsTuple a its.toArray from p) (by simp; omega) fun h' eb => ⟨rfl, I.turned (t' := s.toks) (fun b o hb e => eb b o hb e) f0 f1 f3 f4 f5⟩ }
end
section
variable {X : Cx} {tg l : Expr} {tl : TE}
theorem pi_listH (hl : PE X l tl) : PIH X tg l (iList X.K tl) := ⟨fun pins s σ H R I h => thn (hl.run pins s σ H _ I h) fun v s1 ⟨x, H1, I1, r1, a, e, ⟨xs, hq⟩, q⟩ => by
  subst e
  cases r1
  obtain ⟨its, rv, p, _⟩ := I1.list hq
  exact wpAny_pyIter_list p.isList ⟨s1.heap.objs.size, [s1.heap.objs.size], _, _, H1, rfl, I1.kept (t' := s1.toks) fun b o e => Heap.get?_push_of_some _ e, turnL a _, ⟨_, Heap.get?_push_size _ rfl, rfl, rfl⟩, fun b hb => by
    rw [List.mem_singleton.mp hb]
    exact I1.fpOk (Nat.le_refl _) (I1.hok.fresh (Nat.le_refl _)), q⟩⟩
theorem pi_tupH (hl : PE X l tl) : PIH X tg l (iTup X.K tl) := ⟨fun pins s σ H R I h => thn (hl.run pins s σ H _ I h) fun v s1 ⟨x, H1, I1, r1, a, e, ⟨xs, hq⟩, q⟩ => by
  subst e
  cases r1
  obtain ⟨its, rv, p, _⟩ := I1.tuple hq
  exact wpAny_pyIter_tuple (show s1.heap.IsTuple a its.toArray from p) ⟨s1.heap.objs.size, [s1.heap.objs.size], _, _, H1, rfl, I1.kept (t' := s1.toks) fun b o e => Heap.get?_push_of_some _ e, turnT a _, ⟨_, Heap.get?_push_size _ rfl, rfl, rfl⟩, fun b hb => by
    rw [List.mem_singleton.mp hb]
    exact I1.fpOk (Nat.le_refl _) (I1.hok.fresh (Nat.le_refl _)), q⟩⟩
end
/-! ### the block -/
/-- a comprehension's block whose pins stay -/
abbrev blkP (X : Cx) (s : Shared) (H : Hp) (scope : Scope) (cenv : Env) (fp : List Addr) : Cx := { X.blk s H scope cenv fp with pn := X.pn }
theorem toP {X : Cx} {s0 : Shared} {H0 : Hp} {scope : Scope} {cenv : Env} {fp : List Addr} {pins : List (Addr × Obj)} {σ : L2.St} {H : Hp} {s : Shared} (I : Inv (X.blk s0 H0 scope cenv fp) pins σ H s)
    (hp : ∀ p ∈ X.pn, s.heap.get? p.1 = some p.2 ∧ H p.1 = none ∧ p.1 ≠ cenv.locals ∧ p.1 ∉ frs X.stack ∧ ∀ v, p.2.data ≠ .cell v) : Inv (blkP X s0 H0 scope cenv fp) pins σ H s :=
  let o := I.ok
  { ok := ⟨o.mod, o.kind, o.glob, o.blt, o.above, o.inj, o.has, o.cab, o.hd, o.frames, o.stk, o.exf, o.bs, o.bsz, o.noex, o.exfs, o.funs, o.frf⟩
    os := I.os, bare := I.bare, base := I.base, loc := I.loc, cell := I.cell, free := I.free, freeC := I.freeC, hok := I.hok, len := I.len
    pin := fun p h => (List.mem_append.mp h).elim (hp p) fun h => I.pin p (List.mem_append_right _ h) }
/-- [elt for target in iter], an exception being handled -/
theorem pe_lcH {X : Cx} {elt tg iter : Expr} {scope : Scope} {own : List (Str × Nat)} {pos : Pos} {wi : TI} {g : TG} {te : TE} (hc : HotC X) (hN : X.N.Nodup) (hi : PIH X tg iter wi) (ok : BlkOk X.N X.env.scope scope own)
    (hg : ∀ (s : Shared) (H : Hp) (C : Addr) (cl : List (Str × Addr)) (fp : List Addr), PG (blkP X s H scope (compEnvC scope cl C X.env) fp) tg g)
    (he : ∀ (s : Shared) (H : Hp) (C : Addr) (cl : List (Str × Addr)) (fp : List Addr), PE (blkP X s H scope (compEnvC scope cl C X.env) fp) elt te) (hs : ∀ x, foldedSetIterable iter X.env x = pure x := by intro _; rfl) :
    PE X (.ListComp elt [⟨tg, iter, [], 0⟩] scope pos) (tLc wi g tYes te (own.map (·.2))) := by
  refine ⟨fun pins s σ H Q I h => ?_⟩
  have free : ∀ y ∈ scope.names, y.2 = .free → ∃ c, X.env.cells.lookup y.1 = some c := fun y hy e => I.ok.has _ ((ok.free y hy e).imp (fun k => k) fun k => k)
  rw [eval_ListComp]
  refine wpAny_comprehension_free (use := none) rfl hs (closure_ok free) ok.kind (fun y hy e => (ok.uniq y hy).trans (congrArg some e)) (thn (hi.run pins s σ H _ I h) fun _ s1 h1 => thn h1 fun _ s2 ⟨it, fp, tn, J, H2, e, I2, T, st2, f2, q⟩ => ?_)
  subst e
  refine wpAny_newObj_type (newEnv_comp ?_) (Nat.zero_le sizeLine)
  -- the new list stands at D
  obtain ⟨W, ⟨m0, w0⟩, turn⟩ := q _ (I2.hok.fresh (Nat.le_refl s2.heap.objs.size))
  have I3 : Inv X pins σ (upd H2 s2.heap.objs.size (.lst [])) { s2 with heap := s2.heap.push { cls := .type "list", data := .seq ([] : List Value).toArray } } :=
    I2.laid (t' := s2.toks) (fun b o e => Heap.get?_push_of_some _ e) (Nat.le_refl _) ⟨Nat.zero_le _, [], 0, .nil, Heap.get?_push_size _ rfl⟩
  have below : ∀ b ∈ fp, b < s2.heap.objs.size := fun b hb => by
    obtain ⟨o, e, _⟩ := T.obj _ _ st2 b hb
    exact Heap.lt_size e
  have f3 : ∀ b ∈ fp, FpOk X pins (upd H2 s2.heap.objs.size (.lst [])) b ∧ b < ({ s2 with heap := s2.heap.push { cls := .type "list", data := .seq ([] : List Value).toArray } } : Shared).heap.objs.size := fun b hb =>
    ⟨⟨(upd_ne (Nat.ne_of_lt (below b hb))).trans (f2 b hb).1, (f2 b hb).2⟩, by rw [Heap.size_push]; exact Nat.lt_succ_of_lt (below b hb)⟩
  have st3 : tn 0 ({ s2 with heap := s2.heap.push { cls := .type "list", data := .seq ([] : List Value).toArray } } : Shared).heap := T.keep _ _ _ st2 fun b _ o e => Heap.get?_push_of_some _ e
  generalize hD : s2.heap.objs.size = D at turn I3 f3 st3 w0 ⊢
  generalize hs3 : ({ s2 with heap := s2.heap.push { cls := .type "list", data := .seq ([] : List Value).toArray } } : Shared) = s3 at I3 f3 st3
  have B0 := block_start I3 ok hN f3
  have pg := hg s3 (upd H2 D (.lst [])) s3.heap.objs.size (cellsFrom (s3.heap.objs.size + 1) scope.names (cloFrom X.env.cells scope.names [])) fp
  have pe := he s3 (upd H2 D (.lst [])) s3.heap.objs.size (cellsFrom (s3.heap.objs.size + 1) scope.names (cloFrom X.env.cells scope.names [])) fp
  show codeAny _ _ (.compStart (.ListComp elt [⟨tg, iter, [], 0⟩] scope pos) 0 (.ref it) (.ref D) (compEnvC scope (cellsFrom (s3.heap.objs.size + 1) scope.names (cloFrom X.env.cells scope.names [])) s3.heap.objs.size X.env)) (compPost (model X.prog X.w) X.A X.xe none (EP X pins σ Q) (.ref D) s3.heap.objs.size) { s3 with heap := pushCells (s3.heap.push { cls := .type "dict", data := .dict #[] }) scope.names }
  have cL : (compEnvC scope (cellsFrom (s3.heap.objs.size + 1) scope.names (cloFrom X.env.cells scope.names [])) s3.heap.objs.size X.env).locals = s3.heap.objs.size := rfl
  generalize compEnvC scope (cellsFrom (s3.heap.objs.size + 1) scope.names (cloFrom X.env.cells scope.names [])) s3.heap.objs.size X.env = ce at B0 pg pe cL ⊢
  have B := toP B0 fun p hp => by
    obtain ⟨g1, g2, g3, g4, g5⟩ := I3.pin p (List.mem_append_left _ hp)
    exact ⟨pushCells_keeps _ _ _ _ (Heap.get?_push_of_some _ g1), g2, by rw [cL]; exact Nat.ne_of_lt (Heap.lt_size g1), fun hm => (List.mem_cons.mp (I3.stkSub p.1 hm)).elim g3 g4, g5⟩
  have st4 : tn 0 ({ s3 with heap := pushCells (s3.heap.push { cls := .type "dict", data := .dict #[] }) scope.names } : Shared).heap := T.keep _ _ _ st3 fun b _ o e => pushCells_keeps _ _ _ _ (Heap.get?_push_of_some _ e)
  generalize ({ s3 with heap := pushCells (s3.heap.push { cls := .type "dict", data := .dict #[] }) scope.names } : Shared) = s4 at B st4 ⊢
  have fpk : ∀ {σ' : L2.St} {H' : Hp} {s' : Shared}, Inv (blkP X s3 (upd H2 D (.lst [])) scope ce fp) [] σ' H' s' → (∀ b ∈ fp, H' b = none) → ∀ b ∈ fp, FpOk (blkP X s3 (upd H2 D (.lst [])) scope ce fp) [] H' b := fun I' hn b hb =>
    ⟨hn b hb, (I'.ok.exf b hb).1, I'.ok.exfs b hb, .inl hb, (I'.ok.exf b hb).2, fun p hp => (f3 b hb).1.2.2.2.2.2 p (List.mem_append_left _ (by rw [List.append_nil] at hp; exact hp))⟩
  have L : codeAny (model X.prog X.w) X.A (.compLoop (.ListComp elt [⟨tg, iter, [], 0⟩] scope pos) 0 (.ref it) (.ref D) ce) (compPost (model X.prog X.w) X.A X.xe none (EP X pins σ Q) (.ref D) s3.heap.objs.size) s4 := by
    refine compLoop_any (fun n s' => ∃ i H', Inv (blkP X s3 (upd H2 D (.lst [])) scope ce fp) [] (wipe σ (own.map (·.2))) H' s' ∧ tn i s'.heap ∧ (∀ b ∈ fp, H' b = none) ∧ W i n H') ?_ m0 ⟨0, _, B, st4, fun b hb => (f3 b hb).1.1, w0⟩
    rintro n s5 ⟨i, H5, I5, st5, n5, w5⟩
    rcases turn i n H5 w5 with ⟨stop, done⟩ | ⟨go, Nx, next, step⟩
    · refine thnF (T.done (blkP X s3 (upd H2 D (.lst [])) scope ce fp) rfl rfl rfl hc i [] s5 _ H5 (fun _ _ => False) I5 (fpk I5 n5) st5 stop) fun r s6 ⟨hr, I6⟩ => ?_
      subst hr
      obtain ⟨m, hn, _⟩ := I6.loc
      have hn : s6.heap.Ns ce.locals m := hn
      have nC : H5 ce.locals = none := I6.free
      rw [cL] at hn nC
      obtain ⟨f0, f1, f2', f4, f5, f6⟩ := I3.fpOk (H' := H5) (Nat.le_refl _) nC
      have I7 : Inv X pins σ H5 s6 := I3.call' (ch := fp) I6.os I6.base I6.hok I6.bare fun b hb =>
        let ⟨_, a1, a2, a3, a4, a5⟩ := (f3 b hb).1
        ⟨a3, a1, a4, a5⟩
      exact ⟨m, hn, fun h' sb => ⟨.ref D, H5, I7.turned (t' := s6.toks) (fun b o hb e => (sb.2 b hb).trans e) f0 f1 f4 f5 f6, rfl, done⟩⟩
    · refine thnF (T.item (blkP X s3 (upd H2 D (.lst [])) scope ce fp) rfl rfl rfl hc i [] s5 _ H5 (fun _ _ => False) I5 (fpk I5 n5) st5 go) fun r s6 ⟨u, hr, h6⟩ => ?_
      subst hr
      refine thnF h6 fun _ s7 ⟨x, H7, I7, r7, y7, st7, n7⟩ => ?_
      refine thnF (pg.run _ s7 _ H7 x u _ (I7.pinned (fpk I7 n7) (T.obj _ _ st7)) r7 (step x H7 y7)) fun _ s8 ⟨σ8, H8, I8, hw, q8⟩ => ?_
      refine wpAny_tests_nil ?_
      have q8 : te σ8 H8 fun y H4 => ∃ acc, H4 D = some (.lst acc) ∧ acc.length < sizeLine ∧ Nx (upd H4 D (.lst (acc ++ [y]))) := q8
      refine thnF (pe.run _ s8 σ8 H8 _ I8 q8) fun z s9 ⟨yv, H9, I9, r9, acc, hD9, hz9, nx⟩ => ?_
      refine app_ok (X := blkP X s3 (upd H2 D (.lst [])) scope ce fp) I9 hD9 hz9 r9 fun s10 I10 => ?_
      obtain ⟨m', hm, w'⟩ := next _ nx
      have kept : ∀ b ∈ fp, ∀ o, s7.heap.get? b = some o → s10.heap.get? b = some o ∧ (upd H9 D (.lst (acc ++ [yv]))) b = none := fun b hb o e =>
        let z := I10.pin (b, o) (List.mem_append_right _ (List.mem_append_right _ (mem_pinsAt hb e)))
        ⟨z.1, z.2.1⟩
      refine ⟨m', hm, i + 1, _, (I10.unpinned (pins := [])).weak (by rw [← hw, wipe_length]) (fun j v e => ?_), T.keep _ _ _ st7 fun b hb o e => (kept b hb o e).1, fun b hb => ?_, w'⟩
      · rw [← hw] at e
        exact (wipe_some e).1
      · obtain ⟨o, e, _⟩ := T.obj _ _ st7 b hb
        exact (kept b hb o e).2
  exact codeAny_compStart_list L (T.self X.A 0 _ _ _ st4 L)
end OwnHot
/-! Own exceptions with a known context: what is raised by an own class, told so that a suite may call defs. -/
namespace OwnExN
open PySem PySem.Spec PyProof.Rows L2
section
variable {X : Cx} {CX : CXT} {x : Str} {C fI : Addr} {k : Nat} {fd : FuncData} {ps : List Str} {sp : Sp} {e : Expr} {es : List Expr} {ta : TA} {p pos : Pos}
/-- an own exception's call, its __init__ a def of one promise: what stands behind it -/
theorem raised_new {pins : List (Addr × Obj)} {σ : L2.St} {H1 : Hp} {s1 : Shared} {us : List Value} {vs : List V} {Q : XK} (T : OexC X.K C) (iC : PySem.W.findIn X.K (.ref C) "__init__" = some (some (.ref fI))) (tI : PySem.W.typeIn X.K (.ref fI) = some (.type "function"))
    (F1 : FnOk X.prog X.w X.K X.mg X.base CX k fI fd ps sp) (hr : Room (k + 1) X.A) (hb : Binds X.K fd ps []) (hx : Passes CX X (fun _ _ _ => False)) (I1 : Inv X pins σ H1 s1) (r1 : Vals vs us) (hz : vs.length ≤ 1000)
    (h : ∀ a, H1 a = none → sp (.ref a :: vs) (upd H1 a (exo a C none)) (fun v H2 => v = .non ∧ ∃ (d : Addr) (fs : List (Str × V)), H2 a = some (exo a C (some d)) ∧ H2 d = some (exd d fs) ∧ H1 d = none ∧ Q (.ref C) (some d) (upd (del H2 a) d (.xd fs))) (fun _ _ _ => False)) :
    wpAny (model X.prog X.w) X.A (call (.ref C) us) (L2N.MkP X pins σ Q) X.xe s1 := by
  obtain ⟨_, _, _, _, bm, _, _, _, _, _, _, _, _, _, _, inK, bmOk⟩ := T.cls
  have small : us.length ≤ sizeLine := Nat.le_trans (Nat.le_of_eq (Paired.length r1).symm) (Nat.le_trans hz (by decide))
  cases s1 with | mk hp g dr tk os =>
  -- the address of the new exception; what it promises there
  have q := h (hp.objs.size + 1) (I1.hok.fresh (Nat.le_succ _))
  have args : Vals (V.ref (hp.objs.size + 1) :: vs) (Value.ref (hp.objs.size + 1) :: us) := .cons rfl r1
  have J := I1.laid (t' := tk) (a := hp.objs.size + 1) (o := exo (hp.objs.size + 1) C none) (h' := (hp.push (PySem.W.kdv_tup us)).push (PySem.HandSPX.excO C hp.objs.size)) (fun b o z => Heap.get?_push_of_some _ (Heap.get?_push_of_some _ z)) (Nat.le_succ _) (exo_ok (by heap_get))
  have bd := hb _ (Value.ref (hp.objs.size + 1) :: us) J.kIn (by rw [List.append_nil]; exact args.length.symm.trans (F1.len _ _ _ _ q))
  rw [List.append_nil] at bd
  refine wpAny_call (PySem.HandSPX.call_own F.excBase_ValueError (PySem.HandSPX.refsVE_contains · bm bmOk) (I1.kIn _ _ inK) (PySem.W.looks_findIn I1.kIn iC) (fun self => PySem.W.bind_fn I1.kIn self tI) small ?_)
  refine codeAny_mono (F1.run _ X.stack _ _ ⟨Value.ref (hp.objs.size + 1) :: us, []⟩ _ _ _ (fun _ _ _ => False) (hr.make C us []) (J.env0.make C us []) bd args q) ?_
  rintro (er | fl) s' z
  · exact hx pins σ _ _ er s' J z
  · cases fl with
    | ret u =>
      obtain ⟨v, H2, o1, o2, o3, o4, rv, ev, d, fs, m1, m2, m3, fin⟩ := z
      subst ev
      cases s' with | mk h2 g2 d2 t2 os' =>
      obtain ⟨t0, G, JG, kG, nG, at2, free⟩ := mk_end0 (d2 := d2) (t2 := t2) I1 (Nat.le_succ _) (fun b o z => Heap.get?_push_of_some _ (Heap.get?_push_of_some _ z)) o3 o4 o1 o2 m1 m2 m3
      exact ⟨rv, hp.objs.size + 1, _, _, ⟨G, g2, d2, t2, os'⟩, _, .ref C, some d, rfl, JG, kG, nG, at2, ⟨rfl, rfl, fun vs hv => by cases hv; rfl⟩, rfl, rfl, free, rfl, o2, raises_own T.exC T.tyC, fin⟩
    | next => exact z.elim
    | brk => exact z.elim
    | cont => exact z.elim
theorem pmk_oexN (T : OexC X.K C) (iC : PySem.W.findIn X.K (.ref C) "__init__" = some (some (.ref fI))) (tI : PySem.W.typeIn X.K (.ref fI) = some (.type "function"))
    (F1 : FnOk X.prog X.w X.K X.mg X.base CX k fI fd ps sp) (hr : Room (k + 1) X.A) (hb : Binds X.K fd ps []) (hx : Passes CX X (fun _ _ _ => False)) (hg : Gl X x) (hm : X.mg x = some (.ref C)) (ha : PA X (e :: es) ta)
    (hdb : (x == ("__debug__" : Str)) = false := by decide) (he : starEach (e :: es) X.env = (false, eval e X.env) :: starEach es X.env := by rfl) (hpl : (backTo pos (starEach es X.env)).any (·.1) = false := by rfl) :
    L2N.PMk X (.Call (.Name x p) (e :: es) [] pos) (tMkO C sp [] ta) := fun pins s σ H Q I h =>
  wpAny_Call_Name_kw (ld_glob I hg hm (PySem.W.callWith_K (h₀ := X.base) I.ok.mod.kin T.kC (thn (ha.run pos pins s σ H _ I h) fun us s1 ⟨vs, H1, I1, r1, hz, q1⟩ => ⟨I1.kIn, raised_new T iC tI F1 hr hb hx I1 r1 hz fun a n => by
    have z := q1 a n
    rw [List.append_nil] at z
    exact z⟩) he hpl) hdb)
end
theorem passN {X : Cx} : Passes (L2N.CX X.prog X.w) X E0 := fun _ _ _ _ _ _ _ h => by
  obtain ⟨_, _, _, _, _, _, _, _, _, _, _, _, z⟩ := h
  exact z.elim
theorem takesN0 {X : Cx} : L2N.Takes X (fun _ _ _ _ => False) := fun _ _ x => by
  obtain ⟨_, _, _, _, _, _, _, _, _, _, _, _, _, _, _, _, z⟩ := x
  exact z.elim
/-- the rule of a def that may raise, the exception's context known -/
theorem okN {P : Program} {w : World} {K : PySem.W.Frag} {mg : Str → Option Value} {base : Heap} {x qual : Str} {st : Stmt} {f : Addr} {fd : FuncData} {N ps : List Str} {k : Nat} {sp : Sp} (F : Fun K x qual st f fd) (S : FnScope N ps (defScope st)) (len : ∀ vs H Q E, sp vs H Q E → vs.length = ps.length)
    (hbody : ∀ (cdv : Value) (A : Around) (outer : List Env) (s : Shared) (H : Hp) (vs : List V) (Q : VK) (E : XK), Room k (A.deeper (envOfC qual (defScope st) s.heap.objs.size f cdv)) → sp vs H Q E →
      ∃ t, PSs (cxOf (L2N.CX P w) P w K mg base N qual (defScope st) f cdv A outer s H E) (defBody st) t ∧ t { nx := fun _ H' => Q .non H', rt := Q } (L2.start N vs) H) : FnOk P w K mg base (L2N.CX P w) (k + 1) f fd ps sp :=
  match F.ex with
  | ⟨_, _, _, _, _, _, _, _, _, e, lk, hcd⟩ => e ▸ fn_of (e ▸ lk) hcd S len fun A outer s H vs Q E hr hsp => hbody _ A outer s H vs Q E hr hsp
end OwnExN
/-! Rules of our own: len of an own instance; a try with several handlers, named or not. -/
namespace OwnProj
open PySem PySem.Spec PyProof.Rows L2
section
variable {X : Cx} {CX : CXT} {n : Nat} {f C : Addr} {fd : FuncData} {ps : List Str} {sp : Sp} {E : XK}
/-- len(x) by the class's own __len__ -/
def rLenO (C : Addr) (sp : Sp) (E : XK) : List V → Hp → VK → Prop := fun xs H Q => ∃ a dx fs, xs = [.ref a] ∧ H a = some (.ins C dx fs) ∧ sp [.ref a] H (fun v H' => ∃ k : Nat, v = .int k ∧ k < 2 ^ 62 ∧ Q v H') E
theorem call_lenO (F : FnOk X.prog X.w X.K X.mg X.base CX n f fd ps sp) (hr : Room (n + 1) X.A) (m : Meth X.K C "__len__" f) (hb : Binds X.K fd ps []) (hx : Passes CX X E) : CallR X (.builtin "len") (rLenO C sp E) := by
  rintro pins s σ H xs us Q I r ⟨a, dx, fs, rfl, ha, hq⟩
  obtain ⟨u, rfl, rx⟩ := vals1 r
  cases rx
  obtain ⟨mA, J, _⟩ := ins_get I.hok ha
  obtain ⟨od, J, _⟩ := J.look
  obtain ⟨m0, hF⟩ := I.fr
  have args : Vals [V.ref a] [Value.ref a] := .cons rfl .nil
  have bd := hb s [Value.ref a] I.kIn (by rw [List.append_nil]; exact args.length.symm.trans (F.len _ _ _ _ hq))
  rw [List.append_nil] at bd
  refine PySem.W.len_K hF I.ok.mod.kin J m.at_ m.fn (wpAny_call (codeAny_mono (F.run X.A.in1 X.stack s H ⟨[Value.ref a], []⟩ _ _ _ E hr.in1 I.env0.in1 bd args hq) ?_))
  rintro (e | fl) s' z
  · exact hx pins σ H s e s' I z
  · cases fl with
    | ret u =>
      obtain ⟨v, H', I', rv, k, ev, hk, q⟩ := I.after z
      subst ev
      obtain ⟨t, rfl⟩ := rv
      refine ⟨⟨by omega, by omega⟩, ?_⟩
      exact ⟨.int k, H', I'.tok _, ⟨_, rfl⟩, q⟩
    | next => exact z.elim
    | brk => exact z.elim
    | cont => exact z.elim
end
/-! ### several handlers, some with a name -/
structure HdD where
  c : Value
  i : Option Nat
  ts : Addr → Value → Option Addr → TS
def endsAt (D : Ends) : Option Nat → Ends
  | none => D
  | some i => { nx := fun σ' H' => D.nx (σ'.set i none) H', rt := D.rt, bk := fun σ' H' => D.bk (σ'.set i none) H', ct := fun σ' H' => D.ct (σ'.set i none) H' }
def slotAt (σ : L2.St) (a : Addr) : Option Nat → L2.St
  | none => σ
  | some i => σ.set i (some (.ref a))
/-- what is wished of a body's exception: the first handler that takes it -/
def wHds (K : PySem.W.Frag) (Wout : WX) (D : Ends) : List HdD → WX
  | [] => Wout
  | h :: r => fun cls d σ H => ∃ b, PySem.W.exmOne K cls h.c = some b ∧ (b = true → ∀ a, H a = none → h.ts a cls d (endsAt D h.i) (slotAt σ a h.i) H) ∧ (b = false → wHds K Wout D r cls d σ H)
inductive Hds (X : Cx) : List ExceptHandler → List HdD → Prop
  | nil : Hds X [] []
  | bare {x : Str} {c : Value} {ts : Addr → Value → Option Addr → TS} {b₀ : Stmt} {suite : List Stmt} {np pos' : Pos} {hds : List ExceptHandler} {l : List HdD} (hc : Names X x c)
      (su : ∀ (ea : Addr) (oe : Obj) (cls : Value) (d : Option Addr) (pn : List (Addr × Obj)), L2N.Zn cls d oe → (∃ vs, oe.data = .fields vs) → PSs (X.suite ea ((ea, oe) :: pn)) (b₀ :: suite) (ts ea cls d)) (r : Hds X hds l) :
      Hds X (.ExceptHandler (some (.Name x np)) none (b₀ :: suite) pos' :: hds) (⟨c, none, ts⟩ :: l)
  | named {x n : Str} {c : Value} {i : Nat} {ts : Addr → Value → Option Addr → TS} {b₀ : Stmt} {suite : List Stmt} {np pos' : Pos} {hds : List ExceptHandler} {l : List HdD} (hN : X.N.Nodup) (hi : X.N[i]? = some n) (hn : X.env.kindOf n = some .local) (hc : Names X x c)
      (su : ∀ (ea : Addr) (oe : Obj) (cls : Value) (d : Option Addr) (pn : List (Addr × Obj)), L2N.Zn cls d oe → (∃ vs, oe.data = .fields vs) → PSs (X.suite ea ((ea, oe) :: pn)) (b₀ :: suite) (ts ea cls d)) (r : Hds X hds l) :
      Hds X (.ExceptHandler (some (.Name x np)) (some n) (b₀ :: suite) pos' :: hds) (⟨c, some i, ts⟩ :: l)
section
variable {X : Cx} {body : List Stmt} {h₀ : ExceptHandler} {hds : List ExceptHandler} {l : List HdD} {pos : Pos} {tb : WX → TS} {Wout : WX}
/-- where an exception has landed in our frame: the handlers in their order -/
theorem hds_run {pins : List (Addr × Obj)} {σ : L2.St} {H : Hp} {D : Ends} {ea : Addr} {B : Heap} {sI : Shared} {cls : Value} {d : Option Addr} {s : Shared} {h3 : Heap} (own : X.stack = X.env :: X.outer) (fr : X.env.frame = some X.env.locals) (tk : L2N.Takes X Wout) (ok : X.Ok)
    (J : Inv X pins σ H sI) (nb : ∀ b o, sI.heap.get? b = some o → b ∉ frs X.stack → B.get? b = some o) (up3 : sI.heap.UpToSlots h3) (fl3 : HandSPX.FlyingZ B (X.env :: X.outer) ea (L2N.Zn cls d) h3) (na : H ea = none) (os : s.os = sI.os) (ag : AllBare s.gens) :
    ∀ {hds : List ExceptHandler} {l : List HdD}, Hds X hds l → wHds X.K Wout D l cls d σ H → wpAny (model X.prog X.w) X.A (handleBy (.ref ea) X.env hds) (SP X pins D) X.xe { s with heap := h3 } := by
  have landed : ∀ {h : Heap}, HandSPX.FlyingZ B (X.env :: X.outer) ea (L2N.Zn cls d) h → sI.heap.UpToSlots h → Inv X pins σ H { s with heap := h } := fun fl up => J.landed nb fl.1 up os ag
  obtain ⟨oe3, vs3, he3, hz3, hd3⟩ := fl3.there
  have apart : ea ∉ frs (X.env :: X.outer) := fun hm => by
    obtain ⟨_, o, at1, no⟩ := fl3.2.2.1.mem hm
    rw [he3] at at1
    cases at1
    exact no _ hd3
  have n1 : ea ≠ X.env.locals := fun z => apart (List.mem_filterMap.mpr ⟨X.env, List.mem_cons_self, by rw [fr, z]⟩)
  have n2 : ea ∉ X.fs := fun hm => let ⟨e, he, q⟩ := List.mem_filterMap.mp hm; apart (List.mem_filterMap.mpr ⟨e, List.mem_cons_of_mem _ he, q⟩)
  have I3 := (landed fl3 up3).suite he3 hd3 na n1 n2
  -- a handler's test
  have asks : ∀ {x : Str} {c : Value} {np : Pos} {b : Bool} {Qs : Bool → Shared → Prop} {Es Et : Value → Shared → Prop}, Names X x c → PySem.W.exmOne X.K cls c = some b → Qs b { s with heap := h3 } →
      wpAny (model X.prog X.w) (X.A.mark (some (.ref ea))) (eval (.Name x np) X.env) (fun t s' => wpAny (model X.prog X.w) (X.A.mark (some (.ref ea))) (excMatches (.ref ea) t) Qs Es s') Et { s with heap := h3 } := fun {x c np b Qs Es Et} hc hb q => by
    have kind : PySem.W.Looks (model X.prog X.w) h3 (typeOf (.ref ea)) cls := fun A Q E s k q => wpAny_typeOf_ref (k _ _ he3) (by rw [hz3.1]; exact q)
    have m := PySem.W.exm_one (M := model X.prog X.w) I3.kIn kind hb
    obtain ⟨hg, hdbg, hm | ⟨hm, hv, hnn⟩⟩ := hc
    · exact ld_glob (X := X.suite ea ((ea, oe3) :: (X.pn ++ pins))) I3 hg hm (m.here q) hdbg
    · exact ld_blt (X := X.suite ea ((ea, oe3) :: (X.pn ++ pins))) I3 hg hm hv (m.here q) hnn hdbg
  intro hds l hk
  induction hk with
  | nil =>
    intro out
    refine wpAny_handleBy_nil ?_
    obtain ⟨_, _, _, _, _, T, _, _, at1, _, data, head, _⟩ := id fl3
    have flies : wpAny (model X.prog X.w) X.A (setFlight (.ref ea) X.env.frame) (fun _ s4 => wpAny (model X.prog X.w) X.A (throw (.ref ea) : Sem Flow) (SP X pins D) X.xe s4) X.xe { s with heap := h3 } := by
      rw [fr]
      exact HandSPX.setFlight_upZ fl3 fun h4 held up4 => wpAny_throw (tk _ _ ⟨ea, B, sI, pins, σ, H, cls, d, rfl, J, nb, up3.trans up4, .inr (.inr (by rw [own]; exact held)), na, os, ag, out⟩)
    unfold PySem.passOn
    refine wpAny_bind (wpAny_field at1 data head ?_)
    rw [if_neg (show ¬ ((Value.ref T == Value.none) = true) by simp)]
    first
      | exact wpAny_bind flies
      | exact wpAny_bind (wpAny_pure (wpAny_bind flies))
  | @bare x c ts b₀ suite np pos' hds2 l2 hc su r ih =>
    rintro ⟨b, hb, yes, no⟩
    refine wpAny_handleBy_cons (codeAny_handlers_test (asks hc hb ?_)) (by intro q; cases q)
    cases b with
    | false => exact ih (no rfl)
    | true =>
      refine codeAny_handlers_suite (HandSPX.lands_againZ fl3 fun h4 fl4 up4 => ?_)
      obtain ⟨oe4, vs4, he4, hz4, hd4⟩ := fl4.there
      refine wpAny_mono ((su ea oe4 cls d (X.pn ++ pins) hz4 ⟨_, hd4⟩).run [] _ _ H _ ((landed fl4 (up3.trans up4)).suite he4 hd4 na n1 n2) (yes rfl ea na)) (fun f s6 z => ?_) (fun _ _ z => z.elim)
      cases f with
      | next => exact let ⟨_, _, S6, q6⟩ := z; ⟨_, _, S6.unsuite ok, q6⟩
      | brk => exact let ⟨_, _, S6, q6⟩ := z; ⟨_, _, S6.unsuite ok, q6⟩
      | cont => exact let ⟨_, _, S6, q6⟩ := z; ⟨_, _, S6.unsuite ok, q6⟩
      | ret u => exact let ⟨_, _, _, S6, r6, q6⟩ := z; ⟨_, _, _, S6.unsuite ok, r6, q6⟩
  | @named x n c i ts b₀ suite np pos' hds2 l2 hN hi hn hc su r ih =>
    rintro ⟨b, hb, yes, no⟩
    refine wpAny_handleBy_cons (codeAny_handlers_test (asks hc hb ?_)) (by intro q; cases q)
    cases b with
    | false => exact ih (no rfl)
    | true =>
      refine codeAny_handlers_suite_as (HandSPX.lands_againZ fl3 fun h4 fl4 up4 => ?_)
      obtain ⟨oe4, vs4, he4, hz4, hd4⟩ := fl4.there
      refine store_ok (X := X.suite ea ((ea, oe4) :: (X.pn ++ pins))) (v := .ref ea) ((landed fl4 (up3.trans up4)).suite he4 hd4 na n1 n2) hN hi (.inl hn) rfl (fun s5 S5 => ?_) (.inr hn)
      refine wpAny_mono ((su ea oe4 cls d (X.pn ++ pins) hz4 ⟨_, hd4⟩).run [] s5 _ H _ S5 (yes rfl ea na)) (fun f s6 z => ?_) (fun _ _ z => z.elim)
      have gone : ∀ {σ6 : L2.St} {H6 : Hp} {Q : Shared → Prop}, Inv (X.suite ea ((ea, oe4) :: (X.pn ++ pins))) [] σ6 H6 s6 → (∀ s7, Inv X pins (σ6.set i none) H6 s7 → Q s7) → wpAny (model X.prog X.w) X.A (do bindName X.env n .none; unbindBehindTheSuite X.env n pos') (fun _ s7 => Q s7) X.xe s6 := fun S6 hq => gone_ok (S6.unsuite ok) hN hi hn hq
      cases f with
      | next => exact let ⟨_, _, S6, q6⟩ := z; gone S6 fun s7 J7 => ⟨_, _, J7, q6⟩
      | brk => exact let ⟨_, _, S6, q6⟩ := z; gone S6 fun s7 J7 => ⟨_, _, J7, q6⟩
      | cont => exact let ⟨_, _, S6, q6⟩ := z; gone S6 fun s7 J7 => ⟨_, _, J7, q6⟩
      | ret u => exact let ⟨_, _, _, S6, r6, q6⟩ := z; gone S6 fun s7 J7 => ⟨_, _, _, J7, r6, q6⟩
theorem ps_try_hds (own : X.stack = X.env :: X.outer) (fr : X.env.frame = some X.env.locals) (tk : L2N.Takes X Wout)
    (hb : ∀ (W : WX) (pn : List (Addr × Obj)) (xe : Value → Shared → Prop), L2N.Takes (X.tr pn xe) W → PassesOwn (model X.prog X.w) X.A X.env xe → PSs (X.tr pn xe) body (tb W)) (hh : Hds X (h₀ :: hds) l) :
    PS X (.Try body (h₀ :: hds) [] [] pos) (fun D σ H => tb (wHds X.K Wout D l) D σ H) := ⟨fun pins s σ H D I h => by
  have frames : X.A.frames = some (X.env :: X.outer) := by rw [I.ok.frames, own]
  let caught : Value → Shared → Prop := fun e s₁ => wpAny (model X.prog X.w) X.A (noteFrame e X.env) (fun _ s₂ => wpAny (model X.prog X.w) X.A (setFlight e none) (fun _ s₃ => wpAny (model X.prog X.w) X.A (handleBy e X.env (h₀ :: hds)) (SP X pins D) X.xe s₃) X.xe s₂) X.xe s₁
  have inner := hb (wHds X.K Wout D l) (X.pn ++ pins) caught (fun u s' ⟨ea, B, sI, pins', σ', H', cls, d, e, J, nb, up, sky, na, os, ag, w⟩ => by
    subst e
    have sky' : Sky B (X.env :: X.outer) ea (L2N.Zn cls d) X.env.locals s'.heap := by rw [← own]; exact sky
    exact L2N.Sky.land L2N.Zn.steady frames fr sky' fun h3 fl3 up3 => hds_run own fr tk I.ok (J.ofTry I.ok) nb (up.trans up3) fl3 na os ag hh w) PassesOwn.looking
  refine wpAny_Try_except (wpAny_mono (inner.run [] s σ H D (I.toTry _) h) (fun f s1 z => ?_) (fun e s1 he => he))
  cases f with
  | next => exact let ⟨_, _, J, q⟩ := z; wpAny_execs_nil ⟨_, _, J.ofTry I.ok, q⟩
  | brk => exact let ⟨_, _, J, q⟩ := z; ⟨_, _, J.ofTry I.ok, q⟩
  | cont => exact let ⟨_, _, J, q⟩ := z; ⟨_, _, J.ofTry I.ok, q⟩
  | ret u => exact let ⟨_, _, _, J, r, q⟩ := z; ⟨_, _, _, J.ofTry I.ok, r, q⟩⟩
end
end OwnProj
/-! A lambda of one parameter: the start of its body. -/
namespace OwnLam
open PySem PySem.Spec PyProof.Rows L2 LamX
/-- one parameter, a, of slot j, and no other name of its own -/
structure OneS (maker inner : Scope) (N : List Str) (a : Str) (j : Nat) : Prop where
  fn : inner.kind = .function
  noCo : inner.isCoroutine = false
  noGen : inner.isGenerator = false
  each : N.Nodup
  slot : N[j]? = some a
  par : inner.names.lookup a = some .local
  only : ∀ y ∈ inner.names, y.2 ≠ .cell ∧ (y.2 = .local → y.1 = a)
  out : ∀ y ∈ inner.names, y.2 = .free → maker.names.lookup y.1 = some .cell ∨ maker.names.lookup y.1 = some .free
section
variable {X : Cx} {pins : List (Addr × Obj)} {σ : L2.St} {H HZ : Hp} {s s1 : Shared} {inner : Scope} {a : Str} {j : Nat}
theorem OneS.caught (L : OneS X.env.scope inner X.N a j) (ok : X.Ok) (y : Str × NameKind) (hy : y ∈ inner.names) (e : y.2 = .free) : ∃ c, X.env.cells.lookup y.1 = some c := ok.has _ (L.out y hy e)
/-- the cells of the lambda are the maker's -/
theorem clo_sub (L : OneS X.env.scope inner X.N a j) (ok : X.Ok) {y : Str} {c : Addr} (e : (cloFrom X.env.cells inner.names []).lookup y = some c) : X.env.cells.lookup y = some c := by
  rcases cloFrom_mem (PySem.mem_of_lookup e) with no | ⟨yes, eq⟩
  · exact absurd no (by simp)
  · obtain ⟨c1, h1⟩ := L.caught ok _ yes rfl
    have h1 : X.env.cells.lookup y = some c1 := h1
    have : c = c1 := by
      rw [eq, h1] <;> rfl
    exact this ▸ h1
theorem clo_has {y : Str} (h : inner.names.lookup y = some .free) : ∃ c, (cloFrom X.env.cells inner.names []).lookup y = some c :=
  mem_lookup (cloFrom_has (cells := X.env.cells) (acc := []) (PySem.mem_of_lookup h : (y, NameKind.free) ∈ inner.names))
/-- the body begins: the argument v stands in slot j -/
theorem one_start {A : Around} {outer : List Env} {E : XK} {f c' : Addr} {hp : Heap} {tk : Nat} {v : V} {u : Value} (I : Inv X pins σ H s) (L : OneS X.env.scope inner X.N a j) (e0 : Env0 X.prog X.w X.K X.mg X.base A outer s1 HZ) (hd : A.handled = none)
    (un : Un (frs X.stack) [] H HZ s.heap s1.heap) (ns : hp.Ns s1.heap.objs.size fun y => [(a, u)].reverse.lookup y) (kp : ∀ b o, s1.heap.get? b = some o → hp.get? b = some o) (rv : RelV v u) :
    Inv (lamCx X A outer s1 HZ E inner f c') [] (σ.set j (some v)) HZ { s1 with heap := hp, toks := tk } := by
  have still : ∀ {c : Addr} {x : Option Value}, H c = none → s.heap.IsCell c x → hp.IsCell c x := fun {c x} no ⟨o, ho, hv⟩ =>
    let ⟨sl, q⟩ := un.any ho no (by simp)
    ⟨_, kp _ _ q, hv⟩
  have none' : ∀ b : Addr, ¬ b ∈ (lamCx X A outer s1 HZ E inner f c').ex := fun b z => by
    have z : b ∈ ([] : List Addr) := z
    simp at z
  have mine : ∀ {y : Str} {k : NameKind}, inner.names.lookup y = some k → k = .local → y = a := fun {y k} h e => (L.only _ (PySem.mem_of_lookup h)).2 e
  have noCell : ∀ {y : Str}, inner.names.lookup y ≠ some .cell := fun {y} h => (L.only _ (PySem.mem_of_lookup h)).1 rfl
  have okB : (lamCx X A outer s1 HZ E inner f c').Ok :=
    ⟨e0.mod, L.fn, rfl, rfl, Nat.le_refl _, fun y z c l1 l2 => I.ok.inj y z c (clo_sub L I.ok l1) (clo_sub L I.ok l2), fun y hy => hy.elim (fun h => absurd h noCell) clo_has, fun _ _ z _ => Bool.noConfusion (show false = true from z), fun _ => hd, Around.frames_deeper e0.frames,
      .inr ⟨rfl, rfl⟩, fun b z => (none' b z).elim, e0.bs, e0.bsz, fun b _ _ => none' b, fun b z => (none' b z).elim, e0.funs, e0.frf⟩
  refine { ok := okB, os := rfl, bare := e0.bare, base := Un.kept kp, loc := ⟨_, ns, fun i y w hi hw vis => ?_⟩, cell := fun y c l => ?_, free := e0.hok.fresh (Nat.le_refl _), freeC := fun y c l => ?_, pin := fun q hq => ?_, hok := e0.hok.kept kp, len := by rw [List.length_set]; exact I.len }
  · have hi : X.N[i]? = some y := hi
    have vis : Vis inner y := vis
    rcases vis with loc | cel | fre
    · -- the parameter
      have e := mine loc rfl
      subst e
      obtain ⟨l1, q1⟩ := List.getElem?_eq_some_iff.mp hi
      obtain ⟨l2, q2⟩ := List.getElem?_eq_some_iff.mp L.slot
      have ij : i = j := (List.getElem_inj L.each).mp (q1.trans q2.symm)
      subst ij
      have l3 : i < σ.length := by rw [I.len]; exact l1
      rw [List.getElem?_set_self l3] at hw
      cases Option.some.inj (Option.some.inj hw)
      refine ⟨u, rv, .inl ⟨loc, ?_⟩⟩
      show [(y, u)].reverse.lookup y = some u
      simp
    · exact absurd cel noCell
    · have ne : j ≠ i := fun e => by
        have z := L.slot
        rw [e, hi] at z
        cases Option.some.inj z
        rw [L.par] at fre
        cases fre
      rw [List.getElem?_set_ne ne] at hw
      obtain ⟨m, _, all⟩ := I.loc
      have up := L.out _ (PySem.mem_of_lookup fre) rfl
      obtain ⟨x, rx, q⟩ := all i y w hi hw (up.elim (fun k => .inr (.inl k)) fun k => .inr (.inr k))
      obtain ⟨c2, h2⟩ := clo_has (X := X) fre
      have c1 := clo_sub L I.ok h2
      refine ⟨x, rx, .inr ⟨.inr fre, c2, h2, ?_⟩⟩
      rcases q with ⟨k, _⟩ | ⟨_, c3, e3, z⟩
      · have k : X.env.scope.names.lookup y = some .local := k
        have up : X.env.scope.names.lookup y = some .cell ∨ X.env.scope.names.lookup y = some .free := up
        rw [k] at up
        rcases up with up | up <;> cases up
      · have : c3 = c2 := Option.some.inj (e3.symm.trans c1)
        subst this
        exact still (I.freeC y _ c1) z
  · obtain ⟨x, z⟩ := I.cell y c (clo_sub L I.ok l)
    exact ⟨x, still (I.freeC y c (clo_sub L I.ok l)) z⟩
  · obtain ⟨x, o, ho, _⟩ := I.cell y c (clo_sub L I.ok l)
    exact un.free c o ho (I.freeC y c (clo_sub L I.ok l)) (by simp)
  · have hq : q ∈ ([] : List (Addr × Obj)) ++ [] := hq
    simp at hq
/-- b(e1), in the def that holds the lambda in slot i: Z is that def's context, entered at s -/
theorem pe_one {CXg : CXT} {Eg : XK} {Ng : List Str} {qg : Str} {sg : Scope} {g f c' : Addr} {cdg pm ctv : Value} {params : Arguments} {body e1 : Expr} {k i : Nat} {b : Str} {pn : List (Addr × Obj)} {xe : Value → Shared → Prop} {W : WX} {E : XK} {t1 tb : TE} {p1 p2 : Pos}
    (I : Inv X pins σ H s) (L : OneS X.env.scope inner X.N a j) (hf : s.heap.get? f = some (PySem.W.kla_obj "<lambda>" (X.env.qual ++ "<lambda>") params body inner (cloFrom X.env.cells inner.names []) pm c' ctv)) (hfn : H f = none) (hfr : f ∉ frs X.stack)
    (hbind : ∀ u, bindArgs (PySem.W.kla_fn "<lambda>" (X.env.qual ++ "<lambda>") params body inner (cloFrom X.env.cells inner.names []) pm (.ref c') ctv) ⟨[u], []⟩ = pure [(a, u)])
    (tk : Takes ((cxOf CXg X.prog X.w X.K X.mg X.base Ng qg sg g cdg X.A X.stack s H Eg).tr pn xe) W) (hW : ∀ cls d σ' H', E cls d H' → W cls d σ' H') (hr : Room (k + 1) (X.A.deeper (envOfC qg sg s.heap.objs.size g cdg)))
    (hbody : ∀ (A : Around) (outer : List Env) (s : Shared) (H : Hp), Room k (A.deeper (lamEnv X inner s.heap.objs.size f c')) → PE (lamCx X A outer s H E inner f c') body tb)
    (h1 : PE ((cxOf CXg X.prog X.w X.K X.mg X.base Ng qg sg g cdg X.A X.stack s H Eg).tr pn xe) e1 t1)
    (hN : Ng[i]? = some b) (hv : Vis sg b) (hd : (b == ("__debug__" : Str)) = false := by decide) (hcd : (b == ("__classdict__" : Str)) = false := by decide)
    (he : starEach [e1] (envOfC qg sg s.heap.objs.size g cdg) = [(false, eval e1 (envOfC qg sg s.heap.objs.size g cdg))] := by rfl) :
    PE ((cxOf CXg X.prog X.w X.K X.mg X.base Ng qg sg g cdg X.A X.stack s H Eg).tr pn xe) (.Call (.Name b p1) [e1] [] p2)
      (fun σZ HZ Q => σZ[i]? = some (some (.ref f)) ∧ t1 σZ HZ fun v H1 => H1 c' = some (CodeO c' (X.env.qual ++ "<lambda>")) ∧ tb (σ.set j (some v)) H1 Q) := by
  refine ⟨fun pinsZ sZ σZ HZ Q IZ h => ?_⟩
  obtain ⟨hs, ht⟩ := h
  refine wpAny_Call_Name_kw (thn ((pe_var (pos := p1) (i := i) hN hv hd hcd).run pinsZ sZ σZ HZ (fun v H1 => v = .ref f ∧ H1 = HZ) IZ ⟨.ref f, hs, rfl, rfl⟩) fun u s1 ⟨v, H1, I1, r1, q1⟩ => ?_)
  obtain ⟨ev, eH⟩ := q1
  subst ev
  rw [eH] at I1
  obtain rfl : u = Value.ref f := r1
  have at1 : s1.heap.get? f = some (PySem.W.kla_obj "<lambda>" (X.env.qual ++ "<lambda>") params body inner (cloFrom X.env.cells inner.names []) pm c' ctv) := I1.base.keep f _ hf hfn hfr (fun z => nomatch (show f ∈ ([] : List Addr) from z))
  refine PySem.W.callWith_F (he := he) ⟨_, _, _, _, at1⟩ ?_
  show wpAny _ _ (spliced (backTo p2 (starEach [e1] (envOfC qg sg s.heap.objs.size g cdg)))) _ _ s1
  rw [he]
  refine Calls.spliced_cons (thn (h1.run pinsZ s1 σZ HZ _ I1 ht) fun u s2 ⟨v, H2, I2, rv, hc, ht2⟩ => ?_)
  refine Calls.spliced_nil ?_
  have of2 : s2.heap.get? f = some (PySem.W.kla_obj "<lambda>" (X.env.qual ++ "<lambda>") params body inner (cloFrom X.env.cells inner.names []) pm c' ctv) := I2.base.keep f _ hf hfn hfr (fun z => nomatch (show f ∈ ([] : List Addr) from z))
  refine ⟨⟨_, _, _, _, of2⟩, ?_⟩
  have un : Un (frs X.stack) [] H H2 s.heap s2.heap := I2.base
  obtain ⟨⟨oc, vs, t, hoc, hdc, hvc⟩, _, _⟩ := I2.hok c' _ hc
  have rc : codeAny (model X.prog X.w) (X.A.deeper (envOfC qg sg s.heap.objs.size g cdg)) (.call (.ref f) ⟨[u], []⟩) (CR (L2.CX X.prog X.w) (envOfC qg sg s.heap.objs.size g cdg :: X.stack) X.prog X.w H2 s2 Q E) s2 := by
    refine PySem.W.kla_callFunE hr.depth of2 rfl L.noCo L.noGen rfl ⟨c', oc, vs, t, rfl, hoc, hdc, hvc⟩ ?_
    rw [hbind]
    refine wpAny_pure (wpAny_newFunctionEnv (fun y hy => (L.only y hy).1) (fun y hy => ?_) (fun hp ns sb => ⟨I2.nolimit.fresh _ sb, ?_⟩) L.fn)
    · cases List.mem_singleton.mp hy
      exact L.par
    show codeAny _ _ (.expr body (lamEnv X inner s2.heap.objs.size f c')) _ _
    have kp : ∀ b o, s2.heap.get? b = some o → hp.get? b = some o := fun b o e => sb.extBut b o (Nat.ne_of_lt (Heap.lt_size e)) (Heap.get?_push_of_some _ e)
    have J : Inv (lamCx X (X.A.deeper (envOfC qg sg s.heap.objs.size g cdg)) (envOfC qg sg s.heap.objs.size g cdg :: X.stack) s2 H2 E inner f c') [] (σ.set j (some v)) H2 { s2 with heap := hp, toks := s2.toks + [(a, u)].length } :=
      one_start I L I2.env0 hr.hd un ns kp rv
    refine PySem.W.kla_codeExpr (wpAny_mono ((hbody _ _ s2 H2 (hr.deeper _)).run [] _ _ H2 Q J ht2) (fun v s' hq => ?_) fun e s' hq => hq)
    obtain ⟨w', H', J', rw', q⟩ := hq
    exact ⟨w', H', J'.os, J'.bare, J'.base, J'.hok, rw', q⟩
  have hx : Passes (L2.CX X.prog X.w) ((cxOf CXg X.prog X.w X.K X.mg X.base Ng qg sg g cdg X.A X.stack s H Eg).tr pn xe) E := passes_call tk hW
  refine wpAny_call (codeAny_mono rc fun r s' hq => ?_)
  cases r with
  | error e => exact hx pinsZ σZ H2 s2 e s' I2 hq
  | ok fl =>
    cases fl with
    | ret u => exact I2.after hq
    | next => exact False.elim hq
    | brk => exact False.elim hq
    | cont => exact False.elim hq
end
/-- a def of two parameters, a thing and a lambda, that calls what it got by the name b; q: the lambda's code's name; TT: what it makes of the thing and of the lambda's reading -/
def Gives2 (X : Cx) (Ng : List Str) (x : Str) (sg : Scope) (g : Addr) (cdg : Value) (bg : List Stmt) (b q : Str) (TT : V → (V → XK → Hp → VK → Prop) → Hp → VK → Prop) : Prop :=
  ∀ (f c' : Addr) (v0 : V) (s : Shared) (H : Hp) (Q : VK) (tl : V → XK → Hp → VK → Prop),
    (∀ (W : WX) (pn : List (Addr × Obj)) (xe : Value → Shared → Prop) (E : XK) (p1 p2 : Pos) (e1 : Expr) (t1 : TE), Takes ((cxOf C8.CX0 X.prog X.w X.K X.mg X.base Ng x sg g cdg X.A X.stack s H C8.E0).tr pn xe) W → (∀ cls d σ' H', E cls d H' → W cls d σ' H') →
      PE ((cxOf C8.CX0 X.prog X.w X.K X.mg X.base Ng x sg g cdg X.A X.stack s H C8.E0).tr pn xe) e1 t1 →
      starEach [e1] (envOfC x sg s.heap.objs.size g cdg) = [(false, eval e1 (envOfC x sg s.heap.objs.size g cdg))] →
      PE ((cxOf C8.CX0 X.prog X.w X.K X.mg X.base Ng x sg g cdg X.A X.stack s H C8.E0).tr pn xe) (.Call (.Name b p1) [e1] [] p2)
        (fun σZ HZ Q => σZ[1]? = some (some (.ref f)) ∧ t1 σZ HZ fun v H1 => H1 c' = some (CodeO c' q) ∧ tl v E H1 Q)) →
    H c' = some (CodeO c' q) → TT v0 tl H Q →
    ∃ t, PSs (cxOf C8.CX0 X.prog X.w X.K X.mg X.base Ng x sg g cdg X.A X.stack s H C8.E0).nox bg t ∧ t { nx := fun _ H' => Q .non H', rt := Q } (L2.start Ng [v0, .ref f]) H
/-- the reading of x(e0, lambda a: ..): j is the slot of a -/
def tTwo (T : List (Addr × Str)) (j : Nat) (TT : V → (V → XK → Hp → VK → Prop) → Hp → VK → Prop) (t0 : TE) (t : XK → TE) : TE := fun σ H Q =>
  t0 σ H fun v0 H0 => Tabs T H0 ∧ ∀ H1, ExtN H0 H1 → Tabs T H1 → TT v0 (fun v E H' Q' => t E (σ.set j (some v)) H' Q') H1 Q
section
variable {X : Cx} {inner : Scope} {a : Str} {j : Nat}
/-- x(e0, lambda a: body) -/
theorem pe_two {T : List (Addr × Str)} {TT : V → (V → XK → Hp → VK → Prop) → Hp → VK → Prop} {x a0 b : Str} {g c P : Addr} {k : Nat} {pg : Arguments} {bg : List Stmt} {sg : Scope} {dV kV doc pm cdv ct oc : Value} {an od : Option Addr} {osl : Array (Option Value)} {Ng : List Str}
    {params : Arguments} {e0 body : Expr} {t0 : TE} {t : XK → TE} {p lpos pos : Pos} (hg : Gl X x) (hm : X.mg x = some (.ref g)) (hk : PySem.W.keepIn X.K (.ref g) = true)
    (lk : X.K.lookup g = some ⟨oc, od, .func (PySem.W.fnOf x x pg bg sg dV kV doc pm an cdv ct), osl⟩) (hcg : PySem.W.codeIn X.K cdv x = true) (hb : L2.Binds X.K (PySem.W.fnOf x x pg bg sg dV kV doc pm an cdv ct) [a0, b] []) (Sg : FnScope Ng [a0, b] sg) (hNg : Ng[1]? = some b) (hvb : Vis sg b)
    (hG : Gives2 X Ng x sg g cdv bg b (X.env.qual ++ "<lambda>") TT) (h0 : PE X e0 t0)
    (TB : TabB X.base X.mg c P) (hcode : X.env.code = .ref c) (hmT : (P, X.env.qual ++ "<lambda>") ∈ T) (hu : ∀ p ∈ T, p.1 = P → p.2 = X.env.qual ++ "<lambda>") (hr : Room (k + 2) X.A) (L : OneS X.env.scope inner X.N a j) (hdef : defaultsOf params X.env = ([], []))
    (hbind : ∀ (q : Str) (cl : List (Str × Addr)) (pm cv ctv u : Value), bindArgs (PySem.W.kla_fn "<lambda>" q params body inner cl pm cv ctv) ⟨[u], []⟩ = pure [(a, u)])
    (hbody : ∀ (A : Around) (outer : List Env) (s : Shared) (H : Hp) (E : XK) (f c' : Addr), Room k (A.deeper (lamEnv X inner s.heap.objs.size f c')) → PE (lamCx X A outer s H E inner f c') body (t E))
    (he : starEach [e0, .Lambda params body inner lpos] X.env = (false, eval e0 X.env) :: starEach [.Lambda params body inner lpos] X.env := by rfl)
    (hdb : (x == ("__debug__" : Str)) = false := by decide) (hd : (b == ("__debug__" : Str)) = false := by decide) (hcd : (b == ("__classdict__" : Str)) = false := by decide) :
    PE X (.Call (.Name x p) [e0, .Lambda params body inner lpos] [] pos) (tTwo T j TT t0 t) := by
  refine ⟨fun pins s σ H Q I h => ?_⟩
  refine wpAny_Call_Name_kw (ld_glob I hg hm ?_ hdb)
  refine PySem.W.callWith_K (h₀ := X.base) I.ok.mod.kin hk ?_ he (by rfl)
  rw [he]
  show wpAny _ _ (spliced ((false, eval e0 X.env) :: (false, eval (.Lambda params body inner lpos) X.env) :: backTo pos (starEach [] X.env))) _ _ s
  refine Calls.spliced_cons (thn (h0.run pins s σ H _ I h) fun u s0 ⟨v0, H0, I0, r0, hT, h⟩ => ?_)
  refine Calls.spliced_cons (lam_make2 I0 TB hcode hmT hu hT hdef (L.caught I0.ok) fun f c' pm' ctv H1 s' I1 eN T1 hf hfn hfr hco => ?_)
  refine Calls.spliced_nil ⟨I1.kIn, ?_⟩
  have rc : codeAny (model X.prog X.w) X.A (.call (.ref g) ⟨[u, .ref f], []⟩) (CR C8.CX0 X.stack X.prog X.w H1 s' Q C8.E0) s' := by
    refine run_ofS (N := Ng) (ps := [a0, b]) (us := [u, .ref f]) (vs := [v0, .ref f]) lk hcg Sg hr I1.env0 (hb s' [u, .ref f] I1.kIn rfl) (.cons r0 (.cons rfl .nil)) rfl fun hr' => ?_
    obtain ⟨t', ht', hq'⟩ := hG f c' v0 s' H1 Q (fun v E H' Q' => t E (σ.set j (some v)) H' Q') (fun W pn xe E p1 p2 e1 t1 tk hW h1 he1 => pe_one (i := 1) I1 L hf hfn hfr (hbind _ _ _ _ _) tk hW hr' (fun A outer s H hr2 => hbody A outer s H E f c' hr2) h1 hNg hvb hd hcd he1) hco (h H1 eN T1)
    exact ⟨t', ht'.nox, hq'⟩
  refine wpAny_call (codeAny_mono rc fun r s2 hq => ?_)
  cases r with
  | error e => exact (show False from hq).elim
  | ok fl =>
    cases fl with
    | ret u => exact I1.after hq
    | next => exact False.elim hq
    | brk => exact False.elim hq
    | cont => exact False.elim hq
end
end OwnLam
/-! Rows that are linearly independent modulo a prime: two ways to reckon it. -/
namespace OwnIndep
abbrev Vec := Nat → Int
/-- the sum of the rows by their coefficients -/
def comb : List Int → List Vec → Vec
  | c :: cs, r :: rs => fun j => c * r j + comb cs rs j
  | _, _ => fun _ => 0
def Zero (p : Int) (v : Vec) : Prop := ∀ j, p ∣ v j
def Indep (p : Int) (L : List Vec) : Prop := ∀ cs : List Int, cs.length = L.length → Zero p (comb cs L) → ∀ c ∈ cs, p ∣ c
/-- what is asked of p -/
structure Pr (p : Int) : Prop where
  pr : ∀ x y : Int, p ∣ x * y → p ∣ x ∨ p ∣ y
  one : ¬ p ∣ 1
theorem dml {p a : Int} (b : Int) (h : p ∣ a) : p ∣ b * a := Int.dvd_trans h (Int.dvd_mul_left b a)
theorem dmr {p a : Int} (b : Int) (h : p ∣ a) : p ∣ a * b := Int.dvd_trans h (Int.dvd_mul_right a b)
theorem dv {p a b : Int} (h : p ∣ a) (e : a = b) : p ∣ b := e ▸ h
theorem comb_nil (cs : List Int) : comb cs [] = fun _ => 0 := by cases cs <;> rfl
theorem comb_app : ∀ {cs : List Int} {L : List Vec}, cs.length = L.length → ∀ (ds : List Int) (M : List Vec) (j : Nat), comb (cs ++ ds) (L ++ M) j = comb cs L j + comb ds M j
  | [], [], _, ds, M, j => by
    show comb ds M j = 0 + comb ds M j
    omega
  | c :: cs, r :: L, h, ds, M, j => by
    have ih := comb_app (cs := cs) (L := L) (Nat.succ.inj h) ds M j
    show c * r j + comb (cs ++ ds) (L ++ M) j = c * r j + comb cs L j + comb ds M j
    rw [ih]
    omega
theorem comb_zip (d : Int) : ∀ {as fs : List Int} {A : List Vec}, as.length = A.length → fs.length = A.length → ∀ j, comb (List.zipWith (fun a f => a + d * f) as fs) A j = comb as A j + d * comb fs A j
  | [], [], [], _, _, j => by show (0 : Int) = 0 + d * 0; omega
  | a :: as, f :: fs, r :: A, h, k, j => by
    have ih := comb_zip d (as := as) (fs := fs) (A := A) (Nat.succ.inj h) (Nat.succ.inj k) j
    show (a + d * f) * r j + comb (List.zipWith (fun a f => a + d * f) as fs) A j = a * r j + comb as A j + d * (f * r j + comb fs A j)
    rw [ih]
    grind
  | [], f :: fs, A, h, k, j => absurd (k.trans h.symm) (by simp)
  | a :: as, [], A, h, k, j => absurd (k.trans h.symm) (by simp)
theorem zip_dvd {p d : Int} (hd : p ∣ d) : ∀ {as fs : List Int}, as.length = fs.length → (∀ c ∈ List.zipWith (fun a f => a + d * f) as fs, p ∣ c) → ∀ c ∈ as, p ∣ c
  | [], [], _, _ => fun _ h => by cases h
  | a :: as, f :: fs, h, k => fun c hc => by
    rcases List.mem_cons.mp hc with rfl | m
    · exact dv (Int.dvd_sub (k _ List.mem_cons_self) (dmr f hd)) (by show c + d * f - d * f = c; omega)
    · exact zip_dvd hd (Nat.succ.inj h) (fun c hc => k c (List.mem_cons_of_mem _ hc)) c m
/-- coefficients behind one another -/
theorem split_at {cs : List Int} {A : List Vec} {v : Vec} {R : List Vec} (h : cs.length = (A ++ v :: R).length) : ∃ as d rs, cs = as ++ d :: rs ∧ as.length = A.length ∧ rs.length = R.length := by
  rw [List.length_append, List.length_cons] at h
  have z : cs.take A.length ++ cs.drop A.length = cs := List.take_append_drop _ _
  cases e : cs.drop A.length with
  | nil =>
    have := congrArg List.length e
    rw [List.length_drop] at this
    simp at this
    omega
  | cons d rs =>
    have := congrArg List.length e
    rw [List.length_drop, List.length_cons] at this
    exact ⟨_, d, rs, by rw [← e]; exact z.symm, by rw [List.length_take]; omega, by omega⟩
theorem comb_mid {as rs : List Int} {d : Int} {A R : List Vec} {v : Vec} (h : as.length = A.length) (j : Nat) : comb (as ++ d :: rs) (A ++ v :: R) j = comb as A j + (d * v j + comb rs R j) := comb_app h _ _ j
theorem mem_mid {p : Int} {as rs : List Int} {d : Int} : (∀ c ∈ as ++ d :: rs, p ∣ c) ↔ (∀ c ∈ as, p ∣ c) ∧ p ∣ d ∧ ∀ c ∈ rs, p ∣ c := by
  simp only [List.mem_append, List.mem_cons]
  exact ⟨fun h => ⟨fun c hc => h c (.inl hc), h d (.inr (.inl rfl)), fun c hc => h c (.inr (.inr hc))⟩, fun ⟨a, b, k⟩ c hc => hc.elim (a c) fun h => h.elim (fun e => e ▸ b) (k c)⟩
/-- a row plus a sum of the earlier ones -/
theorem op_add {p : Int} {A R : List Vec} {v w : Vec} {fs : List Int} (hf : fs.length = A.length) (hw : ∀ j, p ∣ w j - (v j + comb fs A j)) (h : Indep p (A ++ v :: R)) : Indep p (A ++ w :: R) := by
  intro cs hl hz
  obtain ⟨as, d, rs, rfl, ha, hr⟩ := split_at hl
  have la : (List.zipWith (fun a f => a + d * f) as fs).length = A.length := by rw [List.length_zipWith]; omega
  have z := h (List.zipWith (fun a f => a + d * f) as fs ++ d :: rs) (by rw [List.length_append, List.length_append, la, List.length_cons, List.length_cons, hr]) fun j => by
    have y := hz j
    rw [comb_mid ha] at y
    rw [comb_mid la, comb_zip d ha hf]
    exact dv (Int.dvd_sub y (dml d (hw j))) (by grind)
  obtain ⟨z1, z2, z3⟩ := mem_mid.mp z
  exact mem_mid.mpr ⟨zip_dvd z2 (by omega) z1, z2, z3⟩
/-- a row times a unit -/
theorem op_scale {p u : Int} (P : Pr p) {A R : List Vec} {v w : Vec} (hu : ¬ p ∣ u) (hw : ∀ j, p ∣ w j - u * v j) (h : Indep p (A ++ v :: R)) : Indep p (A ++ w :: R) := by
  intro cs hl hz
  obtain ⟨as, d, rs, rfl, ha, hr⟩ := split_at hl
  have z := h (as ++ (d * u) :: rs) (by rw [List.length_append, List.length_append, ha, List.length_cons, List.length_cons, hr]) fun j => by
    have y := hz j
    rw [comb_mid ha] at y ⊢
    exact dv (Int.dvd_sub y (dml d (hw j))) (by grind)
  obtain ⟨z1, z2, z3⟩ := mem_mid.mp z
  exact mem_mid.mpr ⟨z1, (P.pr _ _ z2).resolve_right hu, z3⟩
/-- a row left out -/
theorem drop_mid {p : Int} {A R : List Vec} {v : Vec} (h : Indep p (A ++ v :: R)) : Indep p (A ++ R) := by
  intro cs hl hz
  rw [List.length_append] at hl
  have z : cs.take A.length ++ cs.drop A.length = cs := List.take_append_drop _ _
  have l1 : (cs.take A.length).length = A.length := by rw [List.length_take]; omega
  have l2 : (cs.drop A.length).length = R.length := by rw [List.length_drop]; omega
  have y := h (cs.take A.length ++ 0 :: cs.drop A.length) (by rw [List.length_append, List.length_append, l1, List.length_cons, List.length_cons, l2]) fun j => by
    have y := hz j
    rw [← z, comb_app l1] at y
    rw [comb_mid l1]
    exact dv y (by omega)
  obtain ⟨y1, _, y3⟩ := mem_mid.mp y
  intro c hc
  rw [← z] at hc
  exact (List.mem_append.mp hc).elim (y1 c) (y3 c)
theorem Indep.sub {p : Int} {L M : List Vec} (s : M.Sublist L) : ∀ A, Indep p (A ++ L) → Indep p (A ++ M) := by
  induction s with
  | slnil => exact fun _ h => h
  | cons a _ ih => exact fun A h => ih A (drop_mid h)
  | cons_cons a _ ih =>
    intro A h
    have := ih (A ++ [a]) (by rw [List.append_assoc]; exact h)
    rw [List.append_assoc] at this
    exact this
theorem Indep.sublist {p : Int} {L M : List Vec} (h : Indep p L) (s : M.Sublist L) : Indep p M := Indep.sub s [] h
theorem indep_nil (p : Int) : Indep p [] := fun cs hl _ c hc => by
  rw [List.eq_nil_of_length_eq_zero hl] at hc
  cases hc
theorem not_zero {p : Int} (P : Pr p) {L : List Vec} {v : Vec} (hv : Zero p v) : ¬ Indep p (L ++ [v]) := fun h => by
  have z := h (List.replicate L.length 0 ++ [1]) (by simp) fun j => by
    rw [comb_mid (by simp)]
    have c0 : ∀ M : List Vec, comb (List.replicate M.length 0) M j = 0 := by
      intro M
      induction M with
      | nil => rfl
      | cons r M ih =>
        show 0 * r j + comb (List.replicate M.length 0) M j = 0
        rw [ih]
        omega
    rw [c0]
    exact dv (hv j) (by show _ = 0 + (1 * v j + 0); omega)
  exact P.one (mem_mid.mp z).2.1
/-! ### the program's way: the last row leaves, its place is cleared in the others -/
def elim (v : Vec) (t : Nat) (r : Vec) : Vec := fun j => r j * v t - r t * v j
theorem comb_elim (v : Vec) (t : Nat) : ∀ (cs : List Int) (L : List Vec) (j : Nat), comb cs (L.map (elim v t)) j = comb cs L j * v t - comb cs L t * v j
  | [], L, j => by cases L <;> show (0 : Int) = 0 * v t - 0 * v j <;> omega
  | c :: cs, [], j => by show (0 : Int) = 0 * v t - 0 * v j; omega
  | c :: cs, r :: L, j => by
    have ih := comb_elim v t cs L j
    show c * (r j * v t - r t * v j) + comb cs (L.map (elim v t)) j = (c * r j + comb cs L j) * v t - (c * r t + comb cs L t) * v j
    rw [ih]
    grind
theorem step_elim {p : Int} (P : Pr p) {L : List Vec} {v : Vec} {t : Nat} (ht : ¬ p ∣ v t) : Indep p (L ++ [v]) ↔ Indep p (L.map (elim v t)) := by
  constructor
  · intro h cs hl hz c hc
    rw [List.length_map] at hl
    have z := h (cs.map (· * v t) ++ [-(comb cs L t)]) (by simp [hl]) fun j => by
      have y := hz j
      rw [comb_elim] at y
      rw [comb_mid (by rw [List.length_map]; exact hl)]
      have m : ∀ (cs : List Int) (M : List Vec), comb (cs.map (· * v t)) M j = comb cs M j * v t := by
        intro cs
        induction cs with
        | nil => intro M; cases M <;> show (0 : Int) = 0 * v t <;> omega
        | cons c cs ih =>
          intro M
          cases M with
          | nil => show (0 : Int) = 0 * v t; omega
          | cons r M =>
            show c * v t * r j + comb (cs.map (· * v t)) M j = (c * r j + comb cs M j) * v t
            rw [ih]
            grind
      rw [m]
      exact dv y (by show _ = _ + (-(comb cs L t) * v j + 0); grind)
    have := (mem_mid.mp z).1 _ (List.mem_map.mpr ⟨c, hc, rfl⟩)
    exact (P.pr _ _ this).resolve_right ht
  · intro h cs hl hz
    obtain ⟨as, d, rs, rfl, ha, hr⟩ := split_at hl
    obtain rfl := List.eq_nil_of_length_eq_zero hr
    have at' : ∀ j, p ∣ comb as L j + d * v j := fun j => by
      have y := hz j
      rw [comb_mid ha] at y
      exact dv y (by show _ + (_ + 0) = _; omega)
    have z := h as (by rw [List.length_map]; exact ha) fun j => by
      rw [comb_elim]
      exact dv (Int.dvd_sub (dmr (v t) (at' j)) (dmr (v j) (at' t))) (by grind)
    have c0 : ∀ (cs : List Int) (M : List Vec) (j : Nat), (∀ c ∈ cs, p ∣ c) → p ∣ comb cs M j := by
      intro cs
      induction cs with
      | nil => intro M j _; cases M <;> exact Int.dvd_zero p
      | cons c cs ih =>
        intro M j hc
        cases M with
        | nil => exact Int.dvd_zero p
        | cons r M => exact Int.dvd_add (dmr _ (hc c List.mem_cons_self)) (ih M j fun c h => hc c (List.mem_cons_of_mem _ h))
    have dt : p ∣ d * v t := dv (Int.dvd_sub (at' t) (c0 as L t z)) (by omega)
    exact mem_mid.mpr ⟨z, (P.pr _ _ dt).resolve_right ht, fun _ h => by cases h⟩
/-! ### the same rows modulo p -/
def Cong (p : Int) : List Vec → List Vec → Prop
  | [], [] => True
  | r :: L, s :: M => (∀ j, p ∣ r j - s j) ∧ Cong p L M
  | _, _ => False
theorem Cong.len {p : Int} : ∀ {L M : List Vec}, Cong p L M → L.length = M.length
  | [], [], _ => rfl
  | _ :: _, _ :: _, h => congrArg (· + 1) (Cong.len h.2)
  | [], _ :: _, h => h.elim
  | _ :: _, [], h => h.elim
theorem Cong.symm {p : Int} : ∀ {L M : List Vec}, Cong p L M → Cong p M L
  | [], [], _ => trivial
  | _ :: _, _ :: _, h => ⟨fun j => dv (Int.dvd_neg.mpr (h.1 j)) (by omega), Cong.symm h.2⟩
  | [], _ :: _, h => h.elim
  | _ :: _, [], h => h.elim
theorem Cong.comb {p : Int} : ∀ {L M : List Vec}, Cong p L M → ∀ (cs : List Int) (j : Nat), p ∣ comb cs L j - comb cs M j
  | [], [], _, cs, j => by rw [comb_nil]; exact Int.dvd_zero p
  | _ :: _, _ :: _, h, [], j => Int.dvd_zero p
  | r :: L, s :: M, h, c :: cs, j => by
    have ih := Cong.comb h.2 cs j
    show p ∣ (c * r j + OwnIndep.comb cs L j) - (c * s j + OwnIndep.comb cs M j)
    exact dv (Int.dvd_add (dml c (h.1 j)) ih) (by grind)
  | [], _ :: _, h, _, _ => h.elim
  | _ :: _, [], h, _, _ => h.elim
theorem Cong.indep {p : Int} {L M : List Vec} (e : Cong p L M) : Indep p L ↔ Indep p M := by
  have one : ∀ {L M : List Vec}, Cong p L M → Indep p L → Indep p M := fun {L M} e h cs hl hz => h cs (by rw [hl, e.len]) fun j => dv (Int.dvd_add (e.comb cs j) (hz j)) (by omega)
  exact ⟨one e, one e.symm⟩
/-! ### the law's way: a basis in steps -/
structure Tri (p : Int) (X : List (Nat × Vec)) : Prop where
  unit : ∀ x ∈ X, ¬ p ∣ x.2 x.1
  low : X.Pairwise fun x y => p ∣ y.2 x.1
theorem tri_indep {p : Int} (P : Pr p) : ∀ {X : List (Nat × Vec)}, Tri p X → Indep p (X.map (·.2))
  | [], _ => indep_nil p
  | x :: X, T => fun cs hl hz => by
    cases cs with
    | nil => exact fun _ h => by cases h
    | cons c cs =>
      have hl : cs.length = (X.map (·.2)).length := Nat.succ.inj hl
      have lo := List.pairwise_cons.mp T.low
      have T' : Tri p X := ⟨fun y hy => T.unit y (List.mem_cons_of_mem _ hy), lo.2⟩
      have rest : ∀ (cs : List Int) (Y : List (Nat × Vec)), (∀ y ∈ Y, p ∣ y.2 x.1) → p ∣ comb cs (Y.map (·.2)) x.1 := by
        intro cs Y
        induction Y generalizing cs with
        | nil => intro _; show p ∣ comb cs [] x.1; rw [comb_nil]; exact Int.dvd_zero p
        | cons y Y ih =>
          intro h
          cases cs with
          | nil => exact Int.dvd_zero p
          | cons c cs => exact Int.dvd_add (dml c (h y List.mem_cons_self)) (ih cs fun z hz => h z (List.mem_cons_of_mem _ hz))
      have z0 : p ∣ c * x.2 x.1 + comb cs (X.map (·.2)) x.1 := hz x.1
      have cx : p ∣ c * x.2 x.1 := dv (Int.dvd_sub z0 (rest cs X lo.1)) (by omega)
      have pc := (P.pr _ _ cx).resolve_right (T.unit x List.mem_cons_self)
      have ih := tri_indep P T' cs hl fun j => by
        have y : p ∣ c * x.2 j + comb cs (X.map (·.2)) j := hz j
        exact dv (Int.dvd_sub y (dmr (x.2 j) pc)) (by omega)
      exact fun d hd => (List.mem_cons.mp hd).elim (fun e => e ▸ pc) (ih d)
structure Bas (p : Int) (L : List Vec) (X : List (Nat × Vec)) : Prop where
  tri : Tri p X
  one : ∀ x ∈ X, p ∣ x.2 x.1 - 1
  same : ∀ R, Indep p (L ++ R) ↔ Indep p (X.map (·.2) ++ R)
theorem bas_nil (p : Int) : Bas p [] [] := ⟨⟨fun _ h => (by cases h), List.Pairwise.nil⟩, fun _ h => (by cases h), fun _ => Iff.rfl⟩
theorem Bas.indep {p : Int} (P : Pr p) {L : List Vec} {X : List (Nat × Vec)} (B : Bas p L X) : Indep p L := by
  have := (B.same []).mpr (by rw [List.append_nil]; exact tri_indep P B.tri)
  rwa [List.append_nil] at this
/-- what a row is, reduced by the first steps of a basis -/
structure Red (p : Int) (X : List (Nat × Vec)) (v w : Vec) : Prop where
  zero : ∀ x ∈ X, p ∣ w x.1
  sum : ∃ fs : List Int, fs.length = X.length ∧ ∀ j, p ∣ w j - (v j + comb fs (X.map (·.2)) j)
theorem red_nil (p : Int) (v : Vec) : Red p [] v v := ⟨fun _ h => (by cases h), [], rfl, fun j => by
  show p ∣ v j - (v j + 0)
  exact ⟨0, by omega⟩⟩
/-- one step more: w' is w less its entry times the step's row -/
theorem red_step {p : Int} {X : List (Nat × Vec)} {x : Nat × Vec} {v w w' : Vec} (h : Red p X v w) (one : p ∣ x.2 x.1 - 1) (low : ∀ y ∈ X, p ∣ x.2 y.1) (hw : ∀ j, p ∣ w' j - (w j - w x.1 * x.2 j)) : Red p (X ++ [x]) v w' := by
  obtain ⟨fs, fl, hs⟩ := h.sum
  refine ⟨fun y hy => ?_, fs ++ [-(w x.1)], by rw [List.length_append, List.length_append, fl]; rfl, fun j => ?_⟩
  · rcases List.mem_append.mp hy with m | m
    · exact dv (Int.dvd_add (hw y.1) (Int.dvd_sub (h.zero y m) (dml (w x.1) (low y m)))) (by omega)
    · rw [List.mem_singleton.mp m]
      exact dv (Int.dvd_sub (hw x.1) (dml (w x.1) one)) (by grind)
  · rw [List.map_append, comb_app (by rw [List.length_map]; exact fl)]
    show p ∣ w' j - (v j + (comb fs (X.map (·.2)) j + (-(w x.1) * x.2 j + 0)))
    exact dv (Int.dvd_add (hw j) (hs j)) (by grind)
theorem comb_neg : ∀ (fs : List Int) (L : List Vec) (j : Nat), comb (fs.map (- ·)) L j = -(comb fs L j)
  | [], L, j => by cases L <;> rfl
  | f :: fs, [], j => rfl
  | f :: fs, r :: L, j => by
    show -f * r j + comb (fs.map (- ·)) L j = -(f * r j + comb fs L j)
    rw [comb_neg fs L j]
    grind
theorem Red.swap {p : Int} {X : List (Nat × Vec)} {v w : Vec} (h : Red p X v w) (R : List Vec) : Indep p (X.map (·.2) ++ v :: R) ↔ Indep p (X.map (·.2) ++ w :: R) := by
  obtain ⟨fs, fl, hs⟩ := h.sum
  exact ⟨op_add (by rw [List.length_map]; exact fl) hs, op_add (fs := fs.map (- ·)) (by rw [List.length_map, List.length_map]; exact fl) fun j => by
    rw [comb_neg]
    exact dv (Int.dvd_neg.mpr (hs j)) (by omega)⟩
theorem bas_none {p : Int} (P : Pr p) {L : List Vec} {X : List (Nat × Vec)} {v w : Vec} (B : Bas p L X) (h : Red p X v w) (z : Zero p w) : ¬ Indep p (L ++ [v]) := fun i =>
  not_zero P z ((h.swap []).mp ((B.same [v]).mp i))
theorem bas_snoc {p : Int} (P : Pr p) {L : List Vec} {X : List (Nat × Vec)} {v w u : Vec} {t : Nat} {f : Int} (B : Bas p L X) (h : Red p X v w) (ht : p ∣ f * w t - 1) (hu : ∀ j, p ∣ u j - f * w j) : Bas p (L ++ [v]) (X ++ [(t, u)]) := by
  have ut : p ∣ u t - 1 := dv (Int.dvd_add (hu t) ht) (by omega)
  have nf : ¬ p ∣ f := fun k => P.one (dv (Int.dvd_sub (dmr (w t) k) ht) (by omega))
  refine ⟨⟨fun x hx => ?_, List.pairwise_append.mpr ⟨B.tri.low, List.pairwise_singleton _ _, fun x hx y hy => ?_⟩⟩, fun x hx => ?_, fun R => ?_⟩
  · rcases List.mem_append.mp hx with m | m
    · exact B.tri.unit x m
    · rw [List.mem_singleton.mp m]
      exact fun k => P.one (dv (Int.dvd_sub k ut) (by show u t - (u t - 1) = 1; omega))
  · rw [List.mem_singleton.mp hy]
    exact dv (Int.dvd_add (hu x.1) (dml f (h.zero x hx))) (by show u x.1 - f * w x.1 + f * w x.1 = u x.1; omega)
  · rcases List.mem_append.mp hx with m | m
    · exact B.one x m
    · rw [List.mem_singleton.mp m]
      exact ut
  · rw [List.append_assoc, List.map_append, List.append_assoc]
    show Indep p (L ++ v :: R) ↔ Indep p (X.map (·.2) ++ u :: R)
    rw [B.same (v :: R), h.swap R]
    exact ⟨op_scale P nf hu, op_scale P (u := w t) (fun k => P.one (dv (Int.dvd_sub (dml f k) ht) (by omega))) fun j => dv (Int.dvd_sub (Int.dvd_neg.mpr (dmr (w j) ht)) (dml (w t) (hu j))) (by grind)⟩
end OwnIndep
namespace K23
open PySem PySem.Spec PyProof.Rows L2
def topS (i : Nat) : Stmt := PySem.Challenge.pw_greatestnext_k23_independent_rows.main.body.getD i (.Pass ⟨0, 0, 0, 0⟩)
abbrev s_parts_of : Stmt := topS 8
abbrev s_all_sets : Stmt := topS 9
abbrev s_is_part : Stmt := topS 10
abbrev s_rest_of : Stmt := topS 11
abbrev s_smaller_by_one : Stmt := topS 12
abbrev s_is_whole : Stmt := topS 14
abbrev s_is_within : Stmt := topS 15
abbrev s_is_ascending : Stmt := topS 16
abbrev s_clean_sets : Stmt := topS 19
abbrev s_closed_sets : Stmt := topS 20
abbrev s_Family_init : Stmt := inClass (topS 21) 0
abbrev s_Family_eq : Stmt := inClass (topS 21) 2
abbrev s_family_of : Stmt := topS 22
abbrev s_independent_rows : Stmt := topS 23
abbrev s_is_independent : Stmt := topS 24
abbrev s_first_above_0 : Stmt := topS 25
abbrev s_law_box : Stmt := topS 27
abbrev s_law_draw : Stmt := topS 28
abbrev s_law_things : Stmt := topS 29
abbrev s_law_shape : Stmt := topS 30
abbrev s_law_long : Stmt := topS 31
abbrev s_law_rows : Stmt := topS 32
abbrev s_law_lifted : Stmt := topS 33
abbrev s_law_inverse : Stmt := topS 34
abbrev s_law_reduced : Stmt := topS 35
abbrev s_law_inside : Stmt := topS 36
abbrev s_law_ordered : Stmt := topS 37
abbrev s_law_integer : Stmt := topS 38
abbrev s_law_is : Stmt := topS 39
abbrev s_law_all : Stmt := topS 40
abbrev s_law : Stmt := topS 41
structure Ad where
  C_Family : Addr
  a_parts_of : Addr
  a_all_sets : Addr
  a_is_part : Addr
  a_rest_of : Addr
  a_smaller_by_one : Addr
  a_is_whole : Addr
  a_is_within : Addr
  a_is_ascending : Addr
  a_clean_sets : Addr
  a_closed_sets : Addr
  a_Family_init : Addr
  a_Family_eq : Addr
  a_family_of : Addr
  a_independent_rows : Addr
  a_is_independent : Addr
  a_first_above_0 : Addr
  a_law_box : Addr
  a_law_draw : Addr
  a_law_things : Addr
  a_law_shape : Addr
  a_law_long : Addr
  a_law_rows : Addr
  a_law_lifted : Addr
  a_law_inverse : Addr
  a_law_reduced : Addr
  a_law_inside : Addr
  a_law_ordered : Addr
  a_law_integer : Addr
  a_law_is : Addr
  a_law_all : Addr
  a_law : Addr
  co_independent_rows : Addr
  tb_independent_rows : Addr
  d_parts_of : FuncData
  d_all_sets : FuncData
  d_is_part : FuncData
  d_rest_of : FuncData
  d_smaller_by_one : FuncData
  d_is_whole : FuncData
  d_is_within : FuncData
  d_is_ascending : FuncData
  d_clean_sets : FuncData
  d_closed_sets : FuncData
  d_Family_init : FuncData
  d_Family_eq : FuncData
  d_family_of : FuncData
  d_independent_rows : FuncData
  d_is_independent : FuncData
  d_first_above_0 : FuncData
  d_law_box : FuncData
  d_law_draw : FuncData
  d_law_things : FuncData
  d_law_shape : FuncData
  d_law_long : FuncData
  d_law_rows : FuncData
  d_law_lifted : FuncData
  d_law_inverse : FuncData
  d_law_reduced : FuncData
  d_law_inside : FuncData
  d_law_ordered : FuncData
  d_law_integer : FuncData
  d_law_is : FuncData
  d_law_all : FuncData
  d_law : FuncData
structure Txt (K : PySem.W.Frag) (mg : Str → Option Value) (a : Ad) : Prop where
  mg_Family : mg "Family" = some (.ref a.C_Family)
  cl_Family : Cls K a.C_Family
  na_Family_sets : NoAttr K a.C_Family "sets"
  na_Family_size : NoAttr K a.C_Family "size"
  cg_Family : PySem.W.findIn K (.ref a.C_Family) "__class__" = some (some (.builtin "object.__class__"))
  mr_Family : PySem.W.mroIn K a.C_Family (.type "object") = some true
  cget : PySem.W.specialIn K (.builtin "object.__class__") "__get__" = some (some (.builtin "getset_descriptor.__get__"))
  ctk : PySem.W.takesIn K (.builtin "object.__class__") = some true
  mg_parts_of : mg "parts_of" = some (.ref a.a_parts_of)
  fn_parts_of : Fun K "parts_of" "parts_of" s_parts_of a.a_parts_of a.d_parts_of
  b_parts_of : Binds K a.d_parts_of ["things"] []
  mg_all_sets : mg "all_sets" = some (.ref a.a_all_sets)
  fn_all_sets : Fun K "all_sets" "all_sets" s_all_sets a.a_all_sets a.d_all_sets
  b_all_sets : Binds K a.d_all_sets ["size"] []
  mg_is_part : mg "is_part" = some (.ref a.a_is_part)
  fn_is_part : Fun K "is_part" "is_part" s_is_part a.a_is_part a.d_is_part
  b_is_part : Binds K a.d_is_part ["part", "things"] []
  mg_rest_of : mg "rest_of" = some (.ref a.a_rest_of)
  fn_rest_of : Fun K "rest_of" "rest_of" s_rest_of a.a_rest_of a.d_rest_of
  b_rest_of : Binds K a.d_rest_of ["things", "out"] []
  mg_smaller_by_one : mg "smaller_by_one" = some (.ref a.a_smaller_by_one)
  fn_smaller_by_one : Fun K "smaller_by_one" "smaller_by_one" s_smaller_by_one a.a_smaller_by_one a.d_smaller_by_one
  b_smaller_by_one : Binds K a.d_smaller_by_one ["things"] []
  mg_is_whole : mg "is_whole" = some (.ref a.a_is_whole)
  fn_is_whole : Fun K "is_whole" "is_whole" s_is_whole a.a_is_whole a.d_is_whole
  b_is_whole : Binds K a.d_is_whole ["value"] []
  mg_is_within : mg "is_within" = some (.ref a.a_is_within)
  fn_is_within : Fun K "is_within" "is_within" s_is_within a.a_is_within a.d_is_within
  b_is_within : Binds K a.d_is_within ["value", "least", "most"] []
  mg_is_ascending : mg "is_ascending" = some (.ref a.a_is_ascending)
  fn_is_ascending : Fun K "is_ascending" "is_ascending" s_is_ascending a.a_is_ascending a.d_is_ascending
  b_is_ascending : Binds K a.d_is_ascending ["value", "size"] []
  mg_clean_sets : mg "clean_sets" = some (.ref a.a_clean_sets)
  fn_clean_sets : Fun K "clean_sets" "clean_sets" s_clean_sets a.a_clean_sets a.d_clean_sets
  b_clean_sets : Binds K a.d_clean_sets ["size", "sets"] []
  mg_closed_sets : mg "closed_sets" = some (.ref a.a_closed_sets)
  fn_closed_sets : Fun K "closed_sets" "closed_sets" s_closed_sets a.a_closed_sets a.d_closed_sets
  b_closed_sets : Binds K a.d_closed_sets ["size", "sets"] []
  fn_Family_init : Fun K "__init__" "Family.__init__" s_Family_init a.a_Family_init a.d_Family_init
  b_Family_init : Binds K a.d_Family_init ["self", "size", "sets"] []
  mt_Family_init : Meth K a.C_Family "__init__" a.a_Family_init
  fn_Family_eq : Fun K "__eq__" "Family.__eq__" s_Family_eq a.a_Family_eq a.d_Family_eq
  b_Family_eq : Binds K a.d_Family_eq ["self", "other"] []
  mt_Family_eq : Meth K a.C_Family "__eq__" a.a_Family_eq
  mg_family_of : mg "family_of" = some (.ref a.a_family_of)
  fn_family_of : Fun K "family_of" "family_of" s_family_of a.a_family_of a.d_family_of
  b_family_of : Binds K a.d_family_of ["size", "fits"] []
  mg_independent_rows : mg "independent_rows" = some (.ref a.a_independent_rows)
  fn_independent_rows : Fun K "independent_rows" "independent_rows" s_independent_rows a.a_independent_rows a.d_independent_rows
  b_independent_rows : Binds K a.d_independent_rows ["p", "rows"] []
  mg_is_independent : mg "is_independent" = some (.ref a.a_is_independent)
  fn_is_independent : Fun K "is_independent" "is_independent" s_is_independent a.a_is_independent a.d_is_independent
  b_is_independent : Binds K a.d_is_independent ["p", "rows"] []
  mg_first_above_0 : mg "first_above_0" = some (.ref a.a_first_above_0)
  fn_first_above_0 : Fun K "first_above_0" "first_above_0" s_first_above_0 a.a_first_above_0 a.d_first_above_0
  b_first_above_0 : Binds K a.d_first_above_0 ["row"] []
  mg_law_box : mg "_law_box" = some (.ref a.a_law_box)
  fn_law_box : Fun K "_law_box" "_law_box" s_law_box a.a_law_box a.d_law_box
  b_law_box : Binds K a.d_law_box ["script"] []
  mg_law_draw : mg "_law_draw" = some (.ref a.a_law_draw)
  fn_law_draw : Fun K "_law_draw" "_law_draw" s_law_draw a.a_law_draw a.d_law_draw
  b_law_draw : Binds K a.d_law_draw ["box", "limit"] []
  mg_law_things : mg "_law_things" = some (.ref a.a_law_things)
  fn_law_things : Fun K "_law_things" "_law_things" s_law_things a.a_law_things a.d_law_things
  b_law_things : Binds K a.d_law_things ["mask"] []
  mg_law_shape : mg "_law_shape" = some (.ref a.a_law_shape)
  fn_law_shape : Fun K "_law_shape" "_law_shape" s_law_shape a.a_law_shape a.d_law_shape
  b_law_shape : Binds K a.d_law_shape ["box", "parts"] []
  mg_law_long : mg "_law_long" = some (.ref a.a_law_long)
  fn_law_long : Fun K "_law_long" "_law_long" s_law_long a.a_law_long a.d_law_long
  b_law_long : Binds K a.d_law_long ["box"] []
  mg_law_rows : mg "_law_rows" = some (.ref a.a_law_rows)
  fn_law_rows : Fun K "_law_rows" "_law_rows" s_law_rows a.a_law_rows a.d_law_rows
  b_law_rows : Binds K a.d_law_rows ["box", "p"] []
  mg_law_lifted : mg "_law_lifted" = some (.ref a.a_law_lifted)
  fn_law_lifted : Fun K "_law_lifted" "_law_lifted" s_law_lifted a.a_law_lifted a.d_law_lifted
  b_law_lifted : Binds K a.d_law_lifted ["box", "rows", "p"] []
  mg_law_inverse : mg "_law_inverse" = some (.ref a.a_law_inverse)
  fn_law_inverse : Fun K "_law_inverse" "_law_inverse" s_law_inverse a.a_law_inverse a.d_law_inverse
  b_law_inverse : Binds K a.d_law_inverse ["number", "p"] []
  mg_law_reduced : mg "_law_reduced" = some (.ref a.a_law_reduced)
  fn_law_reduced : Fun K "_law_reduced" "_law_reduced" s_law_reduced a.a_law_reduced a.d_law_reduced
  b_law_reduced : Binds K a.d_law_reduced ["row", "basis", "p"] []
  mg_law_inside : mg "_law_inside" = some (.ref a.a_law_inside)
  fn_law_inside : Fun K "_law_inside" "_law_inside" s_law_inside a.a_law_inside a.d_law_inside
  b_law_inside : Binds K a.d_law_inside ["rows", "p"] []
  mg_law_ordered : mg "_law_ordered" = some (.ref a.a_law_ordered)
  fn_law_ordered : Fun K "_law_ordered" "_law_ordered" s_law_ordered a.a_law_ordered a.d_law_ordered
  b_law_ordered : Binds K a.d_law_ordered ["inside"] []
  mg_law_integer : mg "_law_integer" = some (.ref a.a_law_integer)
  fn_law_integer : Fun K "_law_integer" "_law_integer" s_law_integer a.a_law_integer a.d_law_integer
  b_law_integer : Binds K a.d_law_integer ["value"] []
  mg_law_is : mg "_law_is" = some (.ref a.a_law_is)
  fn_law_is : Fun K "_law_is" "_law_is" s_law_is a.a_law_is a.d_law_is
  b_law_is : Binds K a.d_law_is ["family", "size", "sets"] []
  mg_law_all : mg "_law_all" = some (.ref a.a_law_all)
  fn_law_all : Fun K "_law_all" "_law_all" s_law_all a.a_law_all a.d_law_all
  b_law_all : Binds K a.d_law_all ["script"] []
  mg_law : mg "law" = some (.ref a.a_law)
  fn_law : Fun K "law" "law" s_law a.a_law a.d_law
  b_law : Binds K a.d_law ["script"] []
  cd_independent_rows : a.d_independent_rows.code = .ref a.co_independent_rows
  cl_independent_rows : ∃ e dd cv sl, K.lookup a.co_independent_rows = some ⟨e, dd, .fields cv, sl⟩ ∧ cv[11]? = some (.ref a.tb_independent_rows)
  ch_independent_rows : PySem.W.codeHdIn K a.co_independent_rows a.tb_independent_rows = true
  cn_independent_rows : K.lookup a.tb_independent_rows = none
  mk_Family : Mk K a.C_Family a.a_Family_init
  no_isinstance : mg "isinstance" = none
  no_int : mg "int" = none
  no_bool : mg "bool" = none
  no_range : mg "range" = none
  no_len : mg "len" = none
  no_abs : mg "abs" = none
  no_str : mg "str" = none
  no_list : mg "list" = none
  no_tuple : mg "tuple" = none
  no_enumerate : mg "enumerate" = none
  no_any : mg "any" = none
  no_all : mg "all" = none
  no_sum : mg "sum" = none
  no_sorted : mg "sorted" = none
  no_set : mg "set" = none
  mg_MOST_THINGS : ∃ t, mg "MOST_THINGS" = some (.int 6 t)
  mg_combinations : mg "combinations" = some (.type "itertools.combinations")
  nf_Fam : PySem.W.notFirst K a.C_Family (.ref a.C_Family) = true
end K23
namespace K23
open PySem PySem.Spec PyProof.Rows L2 Own OwnSeq OwnSet OwnComb OwnSort OwnHot OwnExN OwnProj
/-! ### values by their kinds -/
inductive Tg | non | bl | int | str | lst | tup
  deriving DecidableEq
inductive Ty (H : Hp) : V → Tg → Prop
  | non : Ty H .non .non
  | bl (b : Bool) : Ty H (.bl b) .bl
  | int (i : Int) : Ty H (.int i) .int
  | str (x : Str) : Ty H (.str x) .str
  | lst {p : Addr} {xs : List V} (h : H p = some (.lst xs)) : Ty H (.ref p) .lst
  | tup {p : Addr} {xs : List V} (h : H p = some (.tup xs)) : Ty H (.ref p) .tup
def tyv : Tg → Value
  | .non => .type "NoneType"
  | .bl => .type "bool"
  | .int => .type "int"
  | .str => .type "str"
  | .lst => .type "list"
  | .tup => .type "tuple"
def isB (g : Tg) : Tg → Bool
  | .int => decide (g = .int) || decide (g = .bl)
  | c => decide (g = c)
def clv : Tg → V
  | .non => .ty "NoneType"
  | .bl => .ty "bool"
  | .int => .ty "int"
  | .str => .ty "str"
  | .lst => .ty "list"
  | .tup => .ty "tuple"
theorem Ty.x {K : PySem.W.Frag} {H : Hp} {v : V} {g : Tg} (t : Ty H v g) : TyX K H v (tyv g) := by
  cases t with
  | non => exact .base .non
  | bl b => exact .base (.bl b)
  | int i => exact .base (.int i)
  | str x => exact .base (.str x)
  | lst h => exact .base (.lst h)
  | tup h => exact .base (.tup h)
theorem kit_by {K : PySem.W.Frag} (g c : Tg) (h2 : c ≠ .non) : ∃ n : String, clv c = .ty n ∧ PySem.W.kitOne K (tyv g) (.type n) = some (isB g c) := by
  cases c with
  | non => exact absurd rfl h2
  | int => exact ⟨"int", rfl, by cases g <;> exact kit_ty (by decide +kernel)⟩
  | bl => exact ⟨"bool", rfl, by cases g <;> exact kit_ty (by decide +kernel)⟩
  | str => exact ⟨"str", rfl, by cases g <;> exact kit_ty (by decide +kernel)⟩
  | lst => exact ⟨"list", rfl, by cases g <;> exact kit_ty (by decide +kernel)⟩
  | tup => exact ⟨"tuple", rfl, by cases g <;> exact kit_ty (by decide +kernel)⟩
def rIsB (c : Tg) : List V → Hp → VK → Prop := fun xs H Q => ∃ v g, xs = [v, clv c] ∧ Ty H v g ∧ Q (.bl (isB g c)) H
theorem call_isB {X : Cx} (c : Tg) (h : c ≠ .non := by decide) : CallR X (.builtin "isinstance") (rIsB c) := Rd.CallR.imp call_isi fun xs H Q ⟨v, g, e, t, q⟩ =>
  let ⟨n, e1, k⟩ := kit_by (K := X.K) g c h
  ⟨v, clv c, tyv g, .type n, isB g c, e, e1 ▸ .ty n, t.x, k, q⟩
theorem kit_any {K : PySem.W.Frag} (g : Tg) : PySem.W.kitAny K (tyv g) [.type "list", .type "tuple"] = some (decide (g = .lst) || decide (g = .tup)) := by
  obtain ⟨n1, e1, k1⟩ := kit_by (K := K) g .lst (by decide)
  obtain ⟨n2, e2, k2⟩ := kit_by (K := K) g .tup (by decide)
  have e1 : V.ty "list" = V.ty n1 := e1
  have e2 : V.ty "tuple" = V.ty n2 := e2
  cases e1
  cases e2
  have k1 : PySem.W.kitOne K (tyv g) (.type "list") = some (decide (g = .lst)) := k1
  have k2 : PySem.W.kitOne K (tyv g) (.type "tuple") = some (decide (g = .tup)) := k2
  unfold PySem.W.kitAny
  rw [k1]
  cases decide (g = .lst) with
  | true => rfl
  | false =>
    unfold PySem.W.kitAny
    show (match PySem.W.kitOne K (tyv g) (.type "tuple") with | some true => some true | some false => PySem.W.kitAny K (tyv g) [] | none => none) = _
    rw [k2]
    cases decide (g = .tup) <;> rfl
def rIsS : List V → Hp → VK → Prop := fun xs H Q => ∃ v g tp, xs = [v, .ref tp] ∧ H tp = some (.tup [.ty "list", .ty "tuple"]) ∧ Ty H v g ∧ Q (.bl (decide (g = .lst) || decide (g = .tup))) H
theorem call_isS {X : Cx} : CallR X (.builtin "isinstance") rIsS := Rd.CallR.imp call_isiT fun xs H Q ⟨v, g, tp, e, ht, t, q⟩ =>
  ⟨v, tp, _, _, _, _, e, ht, .cons (.ty "list") (.cons (.ty "tuple") .nil), t.x, kit_any g, q⟩
theorem same_upd {H : Hp} {p : Addr} {o : HO} (h : H p = none) : Same H (upd H p o) := fun b x e => by
  rw [upd_ne (ne_of_none e h)]
  exact e
theorem small {n : Nat} (h : n < 1000) : n < sizeLine := Nat.lt_of_lt_of_le h (by decide)
theorem small_le {n : Nat} (h : n ≤ 1000) : n ≤ sizeLine := Nat.le_trans h (by decide)
/-- an item of a tuple that stands in H by itself -/
def rIxHT : R2 := fun x y H Q => ∃ p xs i v, x = .ref p ∧ y = .int i ∧ H p = some (.tup xs) ∧ atI xs i = some v ∧ Q v H
theorem ixHT {X : Cx} : IxR X rIxHT := fun value slice pins s σ H x y v u Q I rx ry ⟨p, xs, i, z, e1, e2, h, e3, q⟩ hs => ix_tup value slice pins s σ H x y v u Q I rx ry ⟨p, xs, i, z, e1, e2, SqT.of h, e3, q⟩ hs
/-! ### sets of things -/
/-- the things as values -/
def iv (s : List Nat) : List V := s.map fun g => V.int (g : Nat)
theorem iv_len (s : List Nat) : (iv s).length = s.length := List.length_map _
def mk (s : List Nat) : Nat := (s.map fun g => 2 ^ g).sum
def bit (m k : Nat) : Bool := decide (m / 2 ^ k % 2 = 1)
def bits (m : Nat) : List Nat := (List.range 6).filter (bit m)
/-- all sets of n things, in order of size -/
def allS (n : Nat) : List (List Nat) := (List.range (n + 1)).flatMap (combs n)
/-- a part, its masks -/
def Sub (m' m : Nat) : Prop := m' &&& m = m'
instance (m' m : Nat) : Decidable (Sub m' m) := inferInstanceAs (Decidable (_ = _))
def In (S : List Bool) (m : Nat) : Bool := S.getD m false
/-- what may be taken: which masks; () is one, and every part of one -/
structure Fam (n : Nat) (S : List Bool) : Prop where
  n1 : 1 ≤ n
  n6 : n ≤ 6
  len : S.length = 2 ^ n
  zero : In S 0 = true
  down : ∀ m m', Sub m' m → In S m = true → In S m' = true
def famL (n : Nat) (S : List Bool) : List (List Nat) := (allS n).filter fun s => In S (mk s)

/-! ### rules with the table of kept things told -/
theorem op_inK {X : Cx} (K : PySem.W.Frag) (hK : X.K = K := by rfl) : OpR X (compareOp .In) (rIn K false) := by
  subst hK
  exact op_in_seq
theorem op_notInK {X : Cx} (K : PySem.W.Frag) (hK : X.K = K := by rfl) : OpR X (compareOp .NotIn) (rIn K true) := by
  subst hK
  exact op_notIn_seq
theorem pi_combK {X : Cx} {tg e e2 : Expr} {ta : TA} {x : Str} {p pos : Pos} (K : PySem.W.Frag) (hg : Gl X x) (hm : X.mg x = some (.type OwnComb.T)) (ha : PA X [e, e2] ta) (hK : X.K = K := by rfl) (hdb : (x == ("__debug__" : Str)) = false := by decide)
    (hs : starEach [e, e2] X.env = (false, eval e X.env) :: starEach [e2] X.env := by rfl) (hpl : (backTo pos (starEach [e2] X.env)).any (·.1) = false := by rfl) :
    PI X tg (.Call (.Name x p) [e, e2] [] pos) (iComb K ta) := by
  subst hK
  exact pi_comb hg hm ha hdb hs hpl
theorem pe_fldK {X : Cx} {e : Expr} {f : Str} {pos : Pos} {ta : TE} (K : PySem.W.Frag) (he : PE X e ta) (hK : X.K = K := by rfl) (hb : attributeBase e f X.env (eval e X.env) = eval e X.env := by rfl) : PE X (.Attribute e f pos) (tFld K ta f) := by
  subst hK
  exact pe_fld he hb

end K23
namespace K23
open PySem PySem.Spec PyProof.Rows L2 Own OwnSeq OwnSet OwnComb OwnSort OwnHot OwnExN OwnProj
/-! ### the sets of few things: by reckoning -/
def enc (s : List Nat) : PyData := .tuple [.int s.length, .tuple (s.map fun g => .int (g : Nat))]
abbrev leS : List Nat → List Nat → Bool := PySem.W.dataLe false enc
def asc : List Nat → Bool
  | [] => true
  | x :: r => r.all (fun y => decide (x < y)) && asc r
def ordered : List (List Nat) → Bool
  | [] => true
  | s :: r => r.all (fun t => leS s t && !leS t s && decide (s.length ≤ t.length)) && ordered r
def chk (n : Nat) : Bool := ((allS n).all fun s => decide (bits (mk s) = s) && decide (mk s < 2 ^ n) && s.all (fun g => decide (g < n)) && decide (s.length ≤ n) && asc s) &&
  ((List.range (2 ^ n)).all fun m => decide (mk (bits m) = m) && (allS n).contains (bits m)) && ordered (allS n) && decide ((allS n).length = 2 ^ n)
theorem chk_all : ((List.range 7).all chk) = true := by decide +kernel
theorem chk_at {n : Nat} (h : n ≤ 6) : chk n = true := List.all_eq_true.mp chk_all n (List.mem_range.mpr (by omega))
theorem pw_of {r : List Nat → List Nat → Prop} : ∀ {l : List (List Nat)}, ordered l = true → (∀ s t, leS s t = true → leS t s = false → s.length ≤ t.length → r s t) → l.Pairwise r
  | [], _, _ => .nil
  | s :: l, h, k => by
    obtain ⟨a, b⟩ := Bool.and_eq_true_iff.mp h
    refine .cons (fun t ht => ?_) (pw_of b k)
    have z := List.all_eq_true.mp a t ht
    simp at z
    exact k s t z.1.1 z.1.2 z.2
section
variable {n : Nat} (h : n ≤ 6)
theorem allS_at {s : List Nat} (hs : s ∈ allS n) (h : n ≤ 6) : bits (mk s) = s ∧ mk s < 2 ^ n ∧ (∀ g ∈ s, g < n) ∧ s.length ≤ n ∧ asc s = true := by
  have z := chk_at h
  unfold chk at z
  simp only [Bool.and_eq_true] at z
  have y := List.all_eq_true.mp z.1.1.1 s hs
  simp only [Bool.and_eq_true, decide_eq_true_eq] at y
  exact ⟨y.1.1.1.1, y.1.1.1.2, fun g hg => of_decide_eq_true (List.all_eq_true.mp y.1.1.2 g hg), y.1.2, y.2⟩
theorem bits_in {m : Nat} (h : n ≤ 6) (hm : m < 2 ^ n) : mk (bits m) = m ∧ bits m ∈ allS n := by
  have z := chk_at h
  unfold chk at z
  simp only [Bool.and_eq_true] at z
  have y := List.all_eq_true.mp z.1.1.2 m (List.mem_range.mpr hm)
  simp only [Bool.and_eq_true, decide_eq_true_eq] at y
  exact ⟨y.1, List.contains_iff_mem.mp y.2⟩
theorem allS_len (h : n ≤ 6) : (allS n).length = 2 ^ n := by
  have z := chk_at h
  unfold chk at z
  simp only [Bool.and_eq_true, decide_eq_true_eq] at z
  exact z.2
theorem allS_strict (h : n ≤ 6) : (allS n).Pairwise fun s t => leS s t = true ∧ leS t s = false ∧ s.length ≤ t.length := by
  have z := chk_at h
  unfold chk at z
  simp only [Bool.and_eq_true] at z
  exact pw_of z.1.2 fun s t a b c => ⟨a, b, c⟩
theorem allS_nodup (h : n ≤ 6) : (allS n).Nodup := (allS_strict h).imp fun {s t} z e => by
  subst e
  rw [z.1] at z
  exact absurd z.2.1 (by decide)
/-- the masks' sets are all sets -/
theorem perm_masks (h : n ≤ 6) : ((List.range (2 ^ n)).map bits).Perm (allS n) := by
  refine (List.perm_ext_iff_of_nodup ?_ (allS_nodup h)).mpr fun s => ?_
  · refine List.pairwise_map.mpr (List.Pairwise.imp_of_mem (fun {x y} hx hy ne e => ne ?_) List.nodup_range)
    have a := (bits_in h (List.mem_range.mp hx)).1
    rw [e, (bits_in h (List.mem_range.mp hy)).1] at a
    exact a.symm
  · refine ⟨fun z => ?_, fun z => ?_⟩
    · obtain ⟨m, hm, rfl⟩ := List.mem_map.mp z
      exact (bits_in h (List.mem_range.mp hm)).2
    · have y := allS_at z h
      exact List.mem_map.mpr ⟨mk s, List.mem_range.mpr y.2.1, y.1⟩
end
theorem _root_.List.Pairwise.of_mem_or {α : Type} {r : α → α → Prop} : ∀ {l : List α}, l.Pairwise r → ∀ {x y : α}, x ∈ l → y ∈ l → x = y ∨ r x y ∨ r y x
  | _ :: l, .cons a b, x, y, hx, hy => by
    rcases List.mem_cons.mp hx with ex | hx
    · rcases List.mem_cons.mp hy with ey | hy
      · exact .inl (ex.trans ey.symm)
      · exact .inr (.inl (ex ▸ a y hy))
    · rcases List.mem_cons.mp hy with ey | hy
      · exact .inr (.inr (ey ▸ a x hx))
      · exact b.of_mem_or hx hy
theorem sorted_eq {l : List (List Nat)} {n : Nat} (h : n ≤ 6) {p : List Nat → Bool} (hl : l.Perm ((allS n).filter p)) : l.mergeSort leS = (allS n).filter p := by
  have st := (allS_strict h).filter p
  refine List.Perm.eq_of_pairwise (le := fun s t => leS s t = true) ?_ (PySem.W.sort_pairwise ?_ l) (st.imp fun z => z.1) ((List.mergeSort_perm l leS).trans hl)
  · intro s t hs ht a b
    have hs' : s ∈ (allS n).filter p := hl.mem_iff.mp (List.mem_mergeSort.mp hs)
    rcases st.of_mem_or hs' ht with e | e | e
    · exact e
    · rw [e.2.1] at b; cases b
    · rw [e.2.1] at a; cases a
  · exact PySem.W.sortLe_total _ _ _

end K23
namespace K23
open PySem PySem.Spec PyProof.Rows L2 Own OwnSeq OwnSet OwnComb OwnSort OwnHot OwnExN OwnProj
local macro_rules | `(tactic| walk_at "rd") => `(tactic| simp only [tSeq, tAsg, tOp, tUn, tVar, gName, gSub, rIxL, rIxT, rSetL, tC, rI0, rI, rU, rEq, rNe, tCons, tNil, tCB, tLst, tTup, tIfS, tAnd, tOr, tNot, tAndV, tOrV, tNotV, tTest, tB, tIf, tRet, tDrop, tNext, tBreak, tCont, tCall, tCallS, L2.WE, tMakeS, rIsS, rIsB, tChain, gSeq, gRest, gCons, gNil, tFor_seq, tFor_enumS, tLc_seq, tLc_enumS, rAny, rAll, L2.tMeth, StX.tStar, rIn, tLstRg, tRg1, tRg2, rSetI, rSortedSet, rInDT, rInD, rNotInD, rEqD, rNeD, iComb, tFld, tMake, tMkO, sFld, tOst, tNever, tBits, clv, isB,
  Rd.tFor_rng1, Rd.tFor_rng2, Rd.tFor_list, Rd.tFor_tup, Rd.tLc_list, Rd.tLc_tup, Rd.tLc_rng1, Rd.LcTurn, tYes, wipe, Rd.rLenL, Rd.rLenT, Rd.rIntI, Rd.rIxH, rIxHT,  HO.tup.injEq, Rd.at0, Rd.at1, Rd.at2, Rd.at3, Rd.ixN40, Rd.ixN41, Rd.ixN42, Rd.ixN43, Rd.scal_ii, cxOf,
  List.length_cons, List.length_nil, List.length_map, List.map_cons, List.map_nil, upd_same, decide_eq_true_eq, decide_true, decide_false, if_true, if_false, Bool.false_eq_true, Bool.not_true, Bool.not_false, HO.lst.injEq, HO.ins.injEq, List.set_cons_zero, List.set_cons_succ, List.getElem?_cons_zero, List.getElem?_cons_succ, List.append_nil, List.nil_append, List.cons_append, Option.some.injEq, V.ref.injEq, V.int.injEq, V.bl.injEq, List.cons.injEq, exists_eq_left', exists_and_left, exists_eq_left, true_and, and_true, and_self, and_assoc, implies_true, reduceCtorEq, Nat.reduceAdd])

/-- the sets as new tuples -/
def Tups (H : Hp) : List V → List (List Nat) → Prop
  | [], [] => True
  | v :: vs, s :: ss => (∃ q, v = .ref q ∧ H q = some (.tup (iv s))) ∧ Tups H vs ss
  | _, _ => False
theorem Tups.same {H H' : Hp} (e : Same H H') : ∀ {vs : List V} {ss : List (List Nat)}, Tups H vs ss → Tups H' vs ss
  | [], [], _ => trivial
  | _ :: _, _ :: _, ⟨⟨q, a, b⟩, r⟩ => ⟨⟨q, a, e _ _ b⟩, Tups.same e r⟩
  | [], _ :: _, h => h.elim
  | _ :: _, [], h => h.elim
theorem Tups.upd {H : Hp} {D : Addr} {xs : List V} {o : HO} (h : H D = some (.lst xs)) : ∀ {vs : List V} {ss : List (List Nat)}, Tups H vs ss → Tups (upd H D o) vs ss
  | [], [], _ => trivial
  | _ :: _, _ :: _, ⟨⟨q, a, b⟩, r⟩ => ⟨⟨q, a, by rw [upd_ne (fun z => by rw [z, h] at b; cases b)]; exact b⟩, Tups.upd h r⟩
  | [], _ :: _, h => h.elim
  | _ :: _, [], h => h.elim
theorem Tups.app {H : Hp} : ∀ {vs ws : List V} {gs hs : List (List Nat)}, Tups H vs gs → Tups H ws hs → Tups H (vs ++ ws) (gs ++ hs)
  | [], _, [], _, _, h => h
  | _ :: _, _, _ :: _, _, ⟨a, r⟩, h => ⟨a, Tups.app r h⟩
  | [], _, _ :: _, _, h, _ => h.elim
  | _ :: _, _, [], _, h, _ => h.elim
theorem Tups.len {H : Hp} : ∀ {xs : List V} {gs : List (List Nat)}, Tups H xs gs → xs.length = gs.length
  | [], [], _ => rfl
  | _ :: _, _ :: _, h => congrArg (· + 1) h.2.len
  | [], _ :: _, h => h.elim
  | _ :: _, [], h => h.elim
theorem Tups.at {H : Hp} : ∀ {xs : List V} {gs : List (List Nat)} {i : Nat} {x : V}, Tups H xs gs → xs[i]? = some x → ∃ g, gs[i]? = some g ∧ ∃ q, x = .ref q ∧ H q = some (.tup (iv g))
  | _ :: _, g :: _, 0, _, h, e => ⟨g, rfl, by cases Option.some.inj e; exact h.1⟩
  | _ :: _, _ :: _, i + 1, _, h, e => Tups.at (i := i) h.2 e
  | [], [], _, _, _, e => by cases e
  | [], _ :: _, _, _, h, _ => h.elim
  | _ :: _, [], _, _, h, _ => h.elim
theorem seqOr {K : PySem.W.Frag} {H : Hp} {p : Addr} {l : Bool} {xs : List V} (h : H p = some (sq l xs)) : SqL K H p xs ∨ SqT K H p xs := by
  cases l with
  | true => exact .inl (SqL.of h)
  | false => exact .inr (SqT.of h)
theorem seqOr' {K : PySem.W.Frag} {H : Hp} {p : Addr} {l : Bool} {xs : List V} (h : H p = some (sq l xs)) : SqT K H p xs ∨ SqL K H p xs := (seqOr h).symm
theorem flat_len : ((List.range 7).all fun n => (List.range 9).all fun i => decide (((List.range i).flatMap (combs n)).length ≤ 64)) = true := by decide +kernel
theorem flat_at {n i : Nat} (hn : n ≤ 6) (hi : i ≤ 8) : ((List.range i).flatMap (combs n)).length ≤ 64 := of_decide_eq_true (List.all_eq_true.mp (List.all_eq_true.mp flat_len n (List.mem_range.mpr (by omega))) i (List.mem_range.mpr (by omega)))
theorem pick_iv {n : Nat} {js : List Nat} (h : ∀ j ∈ js, j < n) : (js.map fun j => (iv (List.range n)).getD j .non) = iv js := List.map_congr_left fun j hj => by
  have z := h j hj
  unfold iv
  rw [List.getD_eq_getElem?_getD, List.getElem?_map, List.getElem?_range z]
  rfl
theorem all_flat {α β : Type} {f : α → Bool} : True := trivial
theorem iv_flat (s : List Nat) : (iv s).all flatV = true := List.all_eq_true.mpr fun x hx => by
  obtain ⟨g, _, rfl⟩ := List.mem_map.mp hx
  rfl
theorem inV_iv (g : Nat) (s : List Nat) : inV (.int (g : Nat)) (iv s) = s.contains g := by
  unfold inV iv
  rw [List.any_map]
  induction s with
  | nil => rfl
  | cons x s ih =>
    rw [List.any_cons, List.contains_cons, ih]
    congr 1
    show ((x : Int) == (g : Int)) = (g == x)
    exact Bool.eq_iff_iff.mpr ⟨fun z => beq_iff_eq.mpr (by have := beq_iff_eq.mp z; omega), fun z => beq_iff_eq.mpr (by have := beq_iff_eq.mp z; omega)⟩
section
variable {P : Program} {w : World} {K : PySem.W.Frag} {mg : Str → Option Value} {base : Heap} {a : Ad}
/-! ### parts_of(list(range(n))), all_sets -/
def spParts : Sp := fun vs H Q _ => ∃ (p : Addr) (n : Nat), vs = [.ref p] ∧ H p = some (.lst (iv (List.range n))) ∧ n ≤ 6 ∧ ∀ q ys H', H q = none → Same H H' → H' q = some (.lst ys) → Tups H' ys (allS n) → Q (.ref q) H'
theorem sc_parts_of : FnScope ["things", "row", "many", "part"] ["things"] (defScope s_parts_of) := ⟨rfl, rfl, rfl, by decide +kernel, rfl, by decide +kernel, by decide +kernel⟩
theorem ok_parts_of (T : Txt K mg a) : FnOk P w K mg base CX0 1 a.a_parts_of a.d_parts_of ["things"] spParts := by
  refine T.fn_parts_of.ok sc_parts_of (fun vs H Q E h => ?_) (fun cdv A outer s H vs Q E hr h => ?_)
  · obtain ⟨p, n, rfl, _⟩ := h
    rfl
  · obtain ⟨p, n, rfl, hp, hn, k⟩ := h
    refine ⟨_, (pss_cons (ps_set (i := 1) sc_parts_of.nd rfl (Or.inr rfl) (pe_callTy call_list_of (by rfl) T.no_list (by decide +kernel) (pa_cons (pv 0) pa_nil)))
      (pss_one (ps_ret (pe_lc2 (own := [("many", 2), ("part", 3)]) (vs1 := [3]) (by rfl) sc_parts_of.nd (pi_range1 (by rfl) T.no_range (pa_cons (pe_op op_add (pe_callB Rd.call_lenL (by rfl) T.no_len PySem.boot_len (pa_cons (pv 1) pa_nil)) pe_int) pa_nil)) (blkOk_by (own := [("many", 2), ("part", 3)]) (N := ["things", "row", "many", "part"]) (sc := defScope s_parts_of) (by decide +kernel)) (by decide) (fun _ _ _ _ _ => pg_name (i := 2) sc_parts_of.nd rfl (Or.inl rfl)) (fun _ _ _ _ _ => pts_nil) (fun _ _ _ _ _ => (pi_combK K (by rfl) T.mg_combinations (pa_cons (pv 1) (pa_cons (pv 2) pa_nil)))) (fun _ _ _ _ _ => pg_name (i := 3) sc_parts_of.nd rfl (Or.inl rfl)) (fun _ _ _ _ _ => pts_nil) (fun _ _ _ _ _ => (pv 3)))))), ?_⟩
    show (_ : TS) _ [some (V.ref p), none, none, none] H
    walk_at "rd"
    refine ⟨_, .inl (SqL.of hp), fun l hl => ?_⟩
    have e1 := same_upd (o := .lst (iv (List.range n))) hl
    have at1 := upd_same (H := H) (a := l) (o := .lst (iv (List.range n)))
    generalize upd H l (.lst (iv (List.range n))) = H1 at e1 at1 ⊢
    unfold tLc2 iRng1
    walk_at "rd"
    refine ⟨_, SqL.of at1, ?_⟩
    rw [iv_len, List.length_range]
    refine ⟨by omega, by omega, fun D hD => ⟨fun i m H' => m = n + 1 - i ∧ i ≤ n + 1 ∧ ∃ ys, Same H1 H' ∧ H' D = some (.lst ys) ∧ Tups H' ys ((List.range i).flatMap (combs n)), ⟨n + 1, rfl, Nat.zero_le _, [], same_upd hD, upd_same, trivial⟩, fun i m H2 ⟨em, hi, ys, e2, hy, tv⟩ => ?_⟩⟩
    have jn : ((n : Int) + 1).toNat = n + 1 := by omega
    rw [jn]
    rcases Nat.lt_or_eq_of_le hi with lt | eq
    · refine .inr ⟨lt, fun H' => ∃ ys, Same H1 H' ∧ H' D = some (.lst ys) ∧ Tups H' ys ((List.range (i + 1)).flatMap (combs n)), fun H' z => ⟨n + 1 - (i + 1), by omega, rfl, lt, z⟩, fun x H' yl => ?_⟩
      obtain ⟨rfl, rfl⟩ : H' = H2 ∧ x = V.int ((0 : Int) + (i : Nat)) := yl
      refine ⟨i, by rw [Int.zero_add], _, SqL.of (e2 _ _ at1), by omega, by rw [iv_len, List.length_range]; omega, combs n i, by rw [iv_len, List.length_range]; exact chain6 hn (by omega), ?_⟩
      have C := chain6 (n := n) (r := i) hn (by omega)
      have fl := flat_at (n := n) (i := i + 1) hn (by omega)
      rw [List.range_succ, List.flatMap_append, List.flatMap_cons, List.flatMap_nil, List.append_nil] at fl ⊢
      refine ⟨fun j k H' => k = (combs n i).length - j ∧ j ≤ (combs n i).length ∧ ∃ ys, Same H1 H' ∧ H' D = some (.lst ys) ∧ Tups H' ys ((List.range i).flatMap (combs n) ++ (combs n i).take j), ⟨_, rfl, Nat.zero_le _, ys, e2, hy, by rw [List.take_zero, List.append_nil]; exact tv⟩, fun j k H3 ⟨ek, hj, ys, e3, hy3, tv3⟩ => ?_⟩
      rcases Nat.lt_or_eq_of_le hj with lt2 | eq2
      · refine .inr ⟨lt2, fun H' => ∃ ys, Same H1 H' ∧ H' D = some (.lst ys) ∧ Tups H' ys ((List.range i).flatMap (combs n) ++ (combs n i).take (j + 1)), fun H' z => ⟨_, by omega, rfl, lt2, z⟩, fun x H4 yl => ?_⟩
        obtain ⟨t, js, hjs, rfl, ht, rfl⟩ := yl
        have te := same_upd (o := .tup (js.map fun j => (iv (List.range n)).getD j .non)) ht
        have yl := tv3.len
        rw [List.length_append, List.length_take] at yl
        rw [List.length_append] at fl
        refine ⟨ys, te _ _ hy3, small (by omega), ys ++ [.ref t], fun b o hb => (upd_ne (ne_of_none hb hD)).trans (te _ _ (e3 _ _ hb)), upd_same, ?_⟩
        rw [List.take_add_one, hjs, ← List.append_assoc]
        exact Tups.upd (te _ _ hy3) (Tups.app (tv3.same te) ⟨⟨t, rfl, by rw [upd_same, pick_iv (C.inn js (List.mem_of_getElem? hjs))]⟩, trivial⟩)
      · subst eq2
        rw [List.take_length] at tv3
        exact .inl ⟨rfl, ys, e3, hy3, tv3⟩
    · subst eq
      refine .inl ⟨Nat.le_refl _, k D ys H2 (e1.free hD) (e1.trans e2) hy tv⟩
def spAll : Sp := fun vs H Q _ => ∃ (n : Nat), vs = [.int n] ∧ n ≤ 6 ∧ ∀ q ys H', H q = none → Same H H' → H' q = some (.lst ys) → Tups H' ys (allS n) → Q (.ref q) H'
theorem sc_all_sets : FnScope ["size"] ["size"] (defScope s_all_sets) := ⟨rfl, rfl, rfl, by decide +kernel, rfl, by decide +kernel, by decide +kernel⟩
theorem ok_all_sets (T : Txt K mg a) : FnOk P w K mg base CX0 2 a.a_all_sets a.d_all_sets ["size"] spAll := by
  refine T.fn_all_sets.ok sc_all_sets (fun vs H Q E h => ?_) (fun cdv A outer s H vs Q E hr h => ?_)
  · obtain ⟨n, rfl, _⟩ := h
    rfl
  · obtain ⟨n, rfl, hn, k⟩ := h
    refine ⟨_, (pss_one (ps_ret (pe_call (ok_parts_of T) (hr.mono (by decide)) (by rfl) T.mg_parts_of T.fn_parts_of.kp T.b_parts_of .nil pass0 (pa_cons (pe_listRg rfl (by rfl) T.no_list (prg_1 (by rfl) T.no_range (pv 0))) pa_nil)))), ?_⟩
    show (_ : TS) _ [some (V.int n)] H
    walk_at "rd"
    refine ⟨RgOk.of_le (by decide) (by omega) (by decide) (by omega), fun q hq => ⟨q, n, rfl, ?_, hn, fun r ys H' hr e ha ht => k r ys H' ((same_upd hq).free hr) ((same_upd hq).trans e) ha ht⟩⟩
    rw [upd_same]
    unfold rgV iv
    rw [show ((n : Int) - 0).toNat = n by omega]
    congr 2
    refine List.map_congr_left fun j hj => ?_
    rw [Int.zero_add]
/-! ### is_part, touches -/
def subL (s t : List Nat) : Bool := s.all fun g => t.contains g
def spPart : Sp := fun vs H Q _ => ∃ (p q : Addr) (l l' : Bool) (s t : List Nat), vs = [.ref p, .ref q] ∧ H p = some (sq l (iv s)) ∧ H q = some (sq l' (iv t)) ∧ s.length ≤ 6 ∧ ∀ H', Same H H' → Q (.bl (subL s t)) H'
theorem sc_is_part : FnScope ["part", "things", "thing"] ["part", "things"] (defScope s_is_part) := ⟨rfl, rfl, rfl, by decide +kernel, rfl, by decide +kernel, by decide +kernel⟩
theorem ok_is_part (T : Txt K mg a) : FnOk P w K mg base CX0 1 a.a_is_part a.d_is_part ["part", "things"] spPart := by
  refine T.fn_is_part.ok sc_is_part (fun vs H Q E h => ?_) (fun cdv A outer s H vs Q E hr h => ?_)
  · obtain ⟨p, q, l, l', s, t, rfl, _⟩ := h
    rfl
  · obtain ⟨p, q, l, l', s, t, rfl, hp, hq, h6, k⟩ := h
    refine ⟨_, (pss_one (ps_ret (pe_callB (cr_all rfl) (by rfl) T.no_all (by decide +kernel) (pa_cons (pe_lc (own := [("thing", 2)]) (by rfl) sc_is_part.nd (pi_seq (pv 0)) (blkOk_by (own := [("thing", 2)]) (N := ["part", "things", "thing"]) (sc := defScope s_is_part) (by decide +kernel)) (fun _ _ _ _ _ => pg_name (i := 2) sc_is_part.nd rfl (Or.inl rfl)) (fun _ _ _ _ _ => pts_nil) (fun _ _ _ _ _ => (pe_cmpR (op_inK K) (pv 2) (pv 1) (by with_unfolding_all rfl)))) pa_nil)))), ?_⟩
    show (_ : TS) _ [some (V.ref p), some (V.ref q), none] H
    walk_at "rd"
    refine ⟨l, _, hp, lcl_goes goes_seq (fun D i H5 => H D = none ∧ Same H H5 ∧ H5 D = some (.lst (((s.take i).map fun g => t.contains g).map V.bl))) (fun D hD => ⟨hD, same_upd hD, upd_same⟩)
      (fun D i H5 _ h => h.2.1 _ _ hp) (fun D i x H5 H5' hi ⟨n5, e5, a5⟩ ⟨eq5, hx⟩ => ?_) (fun D H5 _ ⟨n5, e5, a5⟩ => ?_)⟩
    · subst eq5
      rw [iv_len] at hi
      obtain ⟨g, hg, rfl⟩ : ∃ g, s[i]? = some g ∧ x = V.int (g : Nat) := by
        unfold iv at hx
        rw [List.getElem?_map] at hx
        cases z : s[i]? with
        | none => rw [z] at hx; cases hx
        | some g => rw [z] at hx; exact ⟨g, rfl, (Option.some.inj hx).symm⟩
      walk_at "rd"
      refine ⟨_, seqOr (e5 _ _ hq), rfl, iv_flat t, _, a5, small (by rw [List.length_map, List.length_map, List.length_take]; omega), n5, fun b o hb => (upd_ne (ne_of_none hb n5)).trans (e5 _ _ hb), ?_⟩
      rw [List.take_add_one, hg, List.map_append, List.map_append, inV_iv]
      rfl
    · rw [iv_len, List.take_length] at a5
      exact ⟨D, rfl, _, SqL.of a5, by rw [List.all_map]; exact k _ e5⟩
end

end K23
namespace K23
open PySem PySem.Spec PyProof.Rows L2 Own OwnSeq OwnSet OwnComb OwnSort OwnHot OwnExN OwnProj
local macro_rules | `(tactic| walk_at "rd") => `(tactic| simp only [tSeq, tAsg, tOp, tUn, tVar, gName, gSub, rIxL, rIxT, rSetL, tC, rI0, rI, rU, rEq, rNe, tCons, tNil, tCB, tLst, tTup, tIfS, tAnd, tOr, tNot, tAndV, tOrV, tNotV, tTest, tB, tIf, tRet, tDrop, tNext, tBreak, tCont, tCall, tCallS, L2.WE, tMakeS, rIsS, rIsB, tChain, gSeq, gRest, gCons, gNil, tFor_seq, tFor_enumS, tLc_seq, tLc_enumS, rAny, rAll, L2.tMeth, StX.tStar, rIn, tLstRg, tRg1, tRg2, rSetI, rSortedSet, rInDT, rInD, rNotInD, rEqD, rNeD, iComb, tFld, tMake, tMkO, sFld, tOst, tNever, tBits, clv, isB,
  Rd.tFor_rng1, Rd.tFor_rng2, Rd.tFor_list, Rd.tFor_tup, Rd.tLc_list, Rd.tLc_tup, Rd.tLc_rng1, Rd.LcTurn, tYes, wipe, Rd.rLenL, Rd.rLenT, Rd.rIntI, Rd.rIxH, rIxHT,  HO.tup.injEq, Rd.at0, Rd.at1, Rd.at2, Rd.at3, Rd.ixN40, Rd.ixN41, Rd.ixN42, Rd.ixN43, Rd.scal_ii, cxOf,
  List.length_cons, List.length_nil, List.length_map, List.map_cons, List.map_nil, upd_same, decide_eq_true_eq, decide_true, decide_false, if_true, if_false, Bool.false_eq_true, Bool.not_true, Bool.not_false, HO.lst.injEq, HO.ins.injEq, List.set_cons_zero, List.set_cons_succ, List.getElem?_cons_zero, List.getElem?_cons_succ, List.append_nil, List.nil_append, List.cons_append, Option.some.injEq, V.ref.injEq, V.int.injEq, V.bl.injEq, List.cons.injEq, exists_eq_left', exists_and_left, exists_eq_left, true_and, and_true, and_self, and_assoc, implies_true, reduceCtorEq, Nat.reduceAdd])

/-- sets as lists or tuples -/
def Seqs (H : Hp) : List V → List (List Nat) → Prop
  | [], [] => True
  | v :: vs, s :: ss => (∃ q l, v = .ref q ∧ H q = some (sq l (iv s))) ∧ Seqs H vs ss
  | _, _ => False
theorem Seqs.len {H : Hp} : ∀ {xs : List V} {gs : List (List Nat)}, Seqs H xs gs → xs.length = gs.length
  | [], [], _ => rfl
  | _ :: _, _ :: _, h => congrArg (· + 1) h.2.len
  | [], _ :: _, h => h.elim
  | _ :: _, [], h => h.elim
theorem Seqs.at {H : Hp} : ∀ {xs : List V} {gs : List (List Nat)} {i : Nat} {x : V}, Seqs H xs gs → xs[i]? = some x → ∃ g, gs[i]? = some g ∧ ∃ q l, x = .ref q ∧ H q = some (sq l (iv g))
  | _ :: _, g :: _, 0, _, h, e => ⟨g, rfl, by cases Option.some.inj e; exact h.1⟩
  | _ :: _, _ :: _, i + 1, _, h, e => Seqs.at (i := i) h.2 e
  | [], [], _, _, _, e => by cases e
  | [], _ :: _, _, _, h, _ => h.elim
  | _ :: _, [], _, _, h, _ => h.elim
theorem at_iv {s : List Nat} {i : Nat} {x : V} (hx : (iv s)[i]? = some x) : ∃ g, s[i]? = some g ∧ x = V.int (g : Nat) := by
  unfold iv at hx
  rw [List.getElem?_map] at hx
  cases z : s[i]? with
  | none => rw [z] at hx; cases hx
  | some g => rw [z] at hx; exact ⟨g, rfl, (Option.some.inj hx).symm⟩
theorem Seqs.same {H H' : Hp} (e : Same H H') : ∀ {vs : List V} {ss : List (List Nat)}, Seqs H vs ss → Seqs H' vs ss
  | [], [], _ => trivial
  | _ :: _, _ :: _, ⟨⟨q, l, a, b⟩, r⟩ => ⟨⟨q, l, a, e _ _ b⟩, Seqs.same e r⟩
  | [], _ :: _, h => h.elim
  | _ :: _, [], h => h.elim
theorem ty_sq {H : Hp} {p : Addr} {l : Bool} {xs : List V} (h : H p = some (sq l xs)) : ∃ g, Ty H (.ref p) g ∧ (decide (g = .lst) || decide (g = .tup)) = true ∧ (decide (g = .tup)) = !l := by
  cases l with
  | true => exact ⟨.lst, .lst h, by decide, by decide⟩
  | false => exact ⟨.tup, .tup h, by decide, by decide⟩
theorem asc_step {s : List Nat} {i g : Nat} (h : asc s = true) (hg : s[i]? = some g) : ∀ g', g' ∈ s.take i → g' < g := by
  induction s generalizing i with
  | nil => cases hg
  | cons x s ih =>
    obtain ⟨a, b⟩ := Bool.and_eq_true_iff.mp h
    cases i with
    | zero => intro g' hm; cases hm
    | succ i =>
      intro g' hm
      have hg : s[i]? = some g := hg
      rcases List.mem_cons.mp hm with rfl | hm
      · exact of_decide_eq_true (List.all_eq_true.mp a g (List.mem_of_getElem? hg))
      · exact ih b hg g' hm
section
variable {P : Program} {w : World} {K : PySem.W.Frag} {mg : Str → Option Value} {base : Heap} {a : Ad}
/-! ### is_whole, is_within, is_ascending -/
def spWhole : Sp := fun vs H Q _ => ∃ (i : Int), vs = [.int i] ∧ Q (.bl true) H
theorem sc_is_whole : FnScope ["value"] ["value"] (defScope s_is_whole) := ⟨rfl, rfl, rfl, by decide +kernel, rfl, by decide +kernel, by decide +kernel⟩
theorem ok_is_whole (T : Txt K mg a) : FnOk P w K mg base CX0 1 a.a_is_whole a.d_is_whole ["value"] spWhole := by
  refine T.fn_is_whole.ok sc_is_whole (fun vs H Q E h => ?_) (fun cdv A outer s H vs Q E hr h => ?_)
  · obtain ⟨i, rfl, _⟩ := h
    rfl
  · obtain ⟨i, rfl, k⟩ := h
    refine ⟨_, (pss_one (ps_ret (pe_and (pe_callB (call_isB .int) (by rfl) T.no_isinstance (by decide +kernel) (pa_cons (pv 0) (pa_cons (pe_bltn (v := .ty "int") (u := .type "int") (by rfl) T.no_int (by decide +kernel) rfl) pa_nil))) (pe_one (pe_not (pe_callB (call_isB .bl) (by rfl) T.no_isinstance (by decide +kernel) (pa_cons (pv 0) (pa_cons (pe_bltn (v := .ty "bool") (u := .type "bool") (by rfl) T.no_bool (by decide +kernel) rfl) pa_nil)))))))), ?_⟩
    show (_ : TS) _ [some (V.int i)] H
    walk_at "rd"
    refine ⟨_, .int i, ?_⟩
    rw [if_pos (by decide)]
    exact ⟨_, .int i, k⟩
def spWithin : Sp := fun vs H Q _ => ∃ (i lo hi : Int), vs = [.int i, .int lo, .int hi] ∧ Q (.bl (decide (lo ≤ i) && decide (i ≤ hi))) H
theorem sc_is_within : FnScope ["value", "least", "most"] ["value", "least", "most"] (defScope s_is_within) := ⟨rfl, rfl, rfl, by decide +kernel, rfl, by decide +kernel, by decide +kernel⟩
theorem ok_is_within (T : Txt K mg a) : FnOk P w K mg base CX0 2 a.a_is_within a.d_is_within ["value", "least", "most"] spWithin := by
  refine T.fn_is_within.ok sc_is_within (fun vs H Q E h => ?_) (fun cdv A outer s H vs Q E hr h => ?_)
  · obtain ⟨i, lo, hi, rfl, _⟩ := h
    rfl
  · obtain ⟨i, lo, hi, rfl, k⟩ := h
    refine ⟨_, (pss_one (ps_ret (pe_and (pe_call (ok_is_whole T) (hr.mono (by decide)) (by rfl) T.mg_is_whole T.fn_is_whole.kp T.b_is_whole .nil pass0 (pa_cons (pv 0) pa_nil)) (pe_one (pe_chain op_le op_le (pv 1) (pv 0) (pv 2)))))), ?_⟩
    show (_ : TS) _ [some (V.int i), some (V.int lo), some (V.int hi)] H
    walk_at "rd"
    refine ⟨i, rfl, true, rfl, ?_⟩
    rw [if_pos rfl]
    by_cases z : lo ≤ i
    · rw [if_pos z]
      rw [decide_eq_true z] at k
      exact k
    · rw [if_neg z]
      rw [decide_eq_false z] at k
      exact k
def spAsc : Sp := fun vs H Q _ => ∃ (p : Addr) (l : Bool) (s : List Nat) (n : Nat), vs = [.ref p, .int n] ∧ H p = some (sq l (iv s)) ∧ asc s = true ∧ (∀ g ∈ s, g < n) ∧ ∀ H', Same H H' → Q (.bl true) H'
theorem sc_is_ascending : FnScope ["value", "size", "least", "number"] ["value", "size"] (defScope s_is_ascending) := ⟨rfl, rfl, rfl, by decide +kernel, rfl, by decide +kernel, by decide +kernel⟩
theorem ok_is_ascending (T : Txt K mg a) : FnOk P w K mg base CX0 3 a.a_is_ascending a.d_is_ascending ["value", "size"] spAsc := by
  refine T.fn_is_ascending.ok sc_is_ascending (fun vs H Q E h => ?_) (fun cdv A outer s H vs Q E hr h => ?_)
  · obtain ⟨p, l, s, n, rfl, _⟩ := h
    rfl
  · obtain ⟨p, l, t, n, rfl, hp, ha, hn, k⟩ := h
    refine ⟨_, (pss_cons (ps_if (pt_not (pt_val (pe_callB call_isS (by rfl) T.no_isinstance (by decide +kernel) (pa_cons (pv 0) (pa_cons (pe_tup (pa_cons (pe_bltn (v := .ty "list") (u := .type "list") (by rfl) T.no_list (by decide +kernel) rfl) (pa_cons (pe_bltn (v := .ty "tuple") (u := .type "tuple") (by rfl) T.no_tuple (by decide +kernel) rfl) pa_nil))) pa_nil))))) (pss_one (ps_ret pe_bl)) pss_nil)
      (pss_cons (ps_set (i := 2) sc_is_ascending.nd rfl (Or.inl rfl) pe_int)
      (pss_cons (ps_for PassesOwn.never rfl (pi_seq (pv 0)) (pg_name (i := 3) sc_is_ascending.nd rfl (Or.inl rfl))
        (pss_cons (ps_if (pt_not (pt_val (pe_call (ok_is_within T) (hr.mono (by decide)) (by rfl) T.mg_is_within T.fn_is_within.kp T.b_is_within .nil pass0 (pa_cons (pv 3) (pa_cons (pv 2) (pa_cons (pe_op op_sub (pv 1) pe_int) pa_nil)))))) (pss_one (ps_ret pe_bl)) pss_nil)
        (pss_one (ps_set (i := 2) sc_is_ascending.nd rfl (Or.inl rfl) (pe_op op_add (pv 3) pe_int)))))
      (pss_one (ps_ret pe_bl))))), ?_⟩
    show (_ : TS) _ [some (V.ref p), some (V.int n), none, none] H
    walk_at "rd"
    refine ⟨by decide, fun c hc => ?_⟩
    have e1 := same_upd (o := .tup [V.ty "list", V.ty "tuple"]) hc
    generalize upd H c (.tup [V.ty "list", V.ty "tuple"]) = H1 at e1 ⊢
    obtain ⟨g, t1, t2, _⟩ := ty_sq (e1 _ _ hp)
    refine ⟨g, t1, ?_⟩
    rw [if_neg (by rw [t2]; decide)]
    refine ⟨l, _, e1 _ _ hp, loop_goes goes_seq (fun σ H' => Same H H' ∧ ∃ o2 o3, σ = [some (V.ref p), some (V.int n), o2, o3])
      (fun i σ H' => Same H H' ∧ ∃ (z : Nat) (o3 : Option V), σ = [some (V.ref p), some (V.int n), some (V.int z), o3] ∧ ∀ g ∈ t.drop i, z ≤ g) ⟨e1, 0, none, rfl, fun g _ => Nat.zero_le g⟩ (fun i σ H' _ ⟨e, _⟩ => e _ _ hp) ?_ (fun σ H' ⟨e, z, o3, q, _⟩ => ⟨e, _, _, q⟩) ?_⟩
    · rintro bk hbk i x σ H2 H2' hi ⟨e2, z, o3, rfl, lo⟩ ⟨rfl, hx⟩
      obtain ⟨g, hg, rfl⟩ := at_iv hx
      have hm := List.mem_of_getElem? hg
      have hd : t.drop i = g :: t.drop (i + 1) := by
        rw [List.drop_eq_getElem_cons (List.getElem?_eq_some_iff.mp hg).1]
        rw [(List.getElem?_eq_some_iff.mp hg).2]
      have zg := lo g (by rw [hd]; exact List.mem_cons_self)
      have gn := hn g hm
      walk_at "rd"
      refine ⟨_, _, _, rfl, true, ?_, ?_⟩
      · rw [decide_eq_true (show (z : Int) ≤ (g : Int) by omega), decide_eq_true (show (g : Int) ≤ (n : Int) - 1 by omega)]
        rfl
      rw [if_neg (by decide)]
      refine ⟨e2, g + 1, rfl, fun g' hg' => ?_⟩
      obtain ⟨j, hj⟩ := List.mem_iff_getElem?.mp hg'
      rw [List.getElem?_drop] at hj
      refine asc_step ha hj g ?_
      refine List.mem_take_iff_getElem.mpr ⟨i, ?_, (List.getElem?_eq_some_iff.mp hg).2⟩
      have := (List.getElem?_eq_some_iff.mp hj).1
      omega
    · rintro σ H2 ⟨e2, o2, o3, rfl⟩
      exact k _ e2
/-! ### clean_sets -/
def spCleanS : Sp := fun vs H Q _ => ∃ (p : Addr) (n : Nat) (xs : List V) (ss : List (List Nat)), vs = [.int n, .ref p] ∧ H p = some (.lst xs) ∧ Seqs H xs ss ∧ 1 ≤ n ∧ n ≤ 6 ∧ ss.length ≤ 64 ∧ (∀ s ∈ ss, s ∈ allS n) ∧
  ∀ q ys H', H q = none → Same H H' → H' q = some (.lst ys) → Tups H' ys ss → Q (.ref q) H'
theorem sc_clean_sets : FnScope ["size", "sets", "cleaned", "at", "things"] ["size", "sets"] (defScope s_clean_sets) := ⟨rfl, rfl, rfl, by decide +kernel, rfl, by decide +kernel, by decide +kernel⟩
theorem ok_clean_sets (T : Txt K mg a) : FnOk P w K mg base CX0 4 a.a_clean_sets a.d_clean_sets ["size", "sets"] spCleanS := by
  refine T.fn_clean_sets.ok sc_clean_sets (fun vs H Q E h => ?_) (fun cdv A outer s H vs Q E hr h => ?_)
  · obtain ⟨p, n, xs, ss, rfl, _⟩ := h
    rfl
  · obtain ⟨p, n, xs, ss, rfl, hp, sv, n1, n6, l64, ha, k⟩ := h
    obtain ⟨t1, mg_MOST_THINGS⟩ := T.mg_MOST_THINGS
    refine ⟨_, (pss_cons (ps_if (pt_not (pt_val (pe_call (ok_is_within T) (hr.mono (by decide)) (by rfl) T.mg_is_within T.fn_is_within.kp T.b_is_within .nil pass0 (pa_cons (pv 0) (pa_cons pe_int (pa_cons (pe_glob (v := .int 6) rfl mg_MOST_THINGS ⟨_, rfl⟩) pa_nil)))))) (pss_one ps_never) pss_nil)
      (pss_cons (ps_set (i := 2) sc_clean_sets.nd rfl (Or.inl rfl) (pe_lst pa_nil))
      (pss_cons (ps_for PassesOwn.never rfl (pi_enumS (by rfl) T.no_enumerate (pa_cons (pv 1) pa_nil)) (pg_seq (n := 2) rfl (pgs_cons (pg_name (i := 3) sc_clean_sets.nd rfl (Or.inl rfl)) (pgs_cons (pg_name (i := 4) sc_clean_sets.nd rfl (Or.inl rfl)) pgs_nil)))
        (pss_cons (ps_if (pt_not (pt_val (pe_call (ok_is_ascending T) (hr.mono (by decide)) (by rfl) T.mg_is_ascending T.fn_is_ascending.kp T.b_is_ascending .nil pass0 (pa_cons (pv 4) (pa_cons (pv 0) pa_nil))))) (pss_one ps_never) pss_nil)
        (pss_one (ps_expr (pe_bm PySem.F.plainAttrs_list PySem.F.slot_list_append PySem.F.type_list_append mt_append (pv 2) (pa_cons (pe_callTy call_tuple_of (by rfl) T.no_tuple (by decide +kernel) (pa_cons (pv 4) pa_nil)) pa_nil))))))
      (pss_one (ps_ret (pv 2)))))), ?_⟩
    show (_ : TS) _ [some (V.int n), some (V.ref p), none, none, none] H
    walk_at "rd"
    refine ⟨_, _, _, rfl, true, ?_, ?_⟩
    · rw [decide_eq_true (show (1 : Int) ≤ (n : Int) by omega), decide_eq_true (show (n : Int) ≤ 6 by omega)]
      rfl
    rw [if_neg (by decide)]
    refine ⟨by decide, fun c hc => ?_⟩
    have e1 := same_upd (o := .lst []) hc
    have at1 := upd_same (H := H) (a := c) (o := .lst [])
    generalize upd H c (.lst []) = H1 at e1 at1 ⊢
    have len := sv.len
    refine ⟨true, xs, e1 _ _ hp, loop_goes goes_enum (fun σ H' => ∃ o3 o4 acc, σ = [some (V.int n), some (V.ref p), some (V.ref c), o3, o4] ∧ Same H H' ∧ H' c = some (.lst acc) ∧ Tups H' acc ss)
      (fun i σ H' => ∃ o3 o4 acc, σ = [some (V.int n), some (V.ref p), some (V.ref c), o3, o4] ∧ Same H H' ∧ H' c = some (.lst acc) ∧ Tups H' acc (ss.take i)) ⟨none, none, [], rfl, e1, at1, trivial⟩ (fun i σ H' _ ⟨_, _, _, _, e, _⟩ => e _ _ hp) ?_
      (fun σ H' ⟨o3, o4, acc, q1, q2, q3, q4⟩ => ⟨o3, o4, acc, q1, q2, q3, by rw [len, List.take_length] at q4; exact q4⟩) ?_⟩
    · rintro bk hbk i y σ H3 H3' hi ⟨o3, o4, acc, rfl, e3, a3, c3⟩ ⟨t, z, rfl, ht, rfl, hz⟩
      obtain ⟨s', hs, q, l, rfl, hq⟩ := sv.at hz
      have te := same_upd (o := .tup [.int (i : Nat), .ref q]) ht
      have e4 := e3.trans te
      have ss' := allS_at (ha _ (List.mem_of_getElem? hs)) n6
      walk_at "rd"
      refine ⟨false, _, rfl, rfl, _, _, rfl, _, _, rfl, rfl, q, l, s', n, rfl, e4 _ _ hq, ss'.2.2.2.2, ss'.2.2.1, fun H5 e5 => ⟨true, rfl, ?_⟩⟩
      rw [if_neg (by decide)]
      simp only [tBM, rAppend]
      walk_at "rd"
      have a5 := e5 _ _ (te _ _ a3)
      have cl := c3.len
      rw [List.length_take] at cl
      have fin : ∀ r H6, Same H5 H6 → H6 r = some (.tup (iv s')) → ∃ x, H6 c = some (.lst x) ∧ x.length < sizeLine ∧ Same H (upd H6 c (.lst (x ++ [.ref r]))) ∧ Tups (upd H6 c (.lst (x ++ [.ref r]))) (x ++ [.ref r]) (ss.take (i + 1)) := fun r H6 e6 hr => by
        have a6 := e6 _ _ a5
        have c6 := ((c3.same te).same e5).same e6
        refine ⟨acc, a6, small (by omega), fun b o hb => (upd_ne (ne_of_none hb hc)).trans (e6 _ _ (e5 _ _ (e4 _ _ hb))), ?_⟩
        rw [List.take_add_one, hs]
        exact Tups.upd a6 (Tups.app c6 ⟨⟨r, rfl, hr⟩, trivial⟩)
      have hq5 := e5 _ _ (e4 _ _ hq)
      cases l with
      | true =>
        refine ⟨.inl ⟨rfl, _, SqL.of a5⟩, _, .inl ⟨SqL.of hq5, fun r hr => ?_⟩⟩
        obtain ⟨x, h1, h2, h3, h4⟩ := fin r _ (same_upd hr) upd_same
        exact ⟨x, h1, h2, h3, h4⟩
      | false =>
        refine ⟨.inl ⟨rfl, _, SqL.of a5⟩, _, .inr ⟨SqT.of hq5, ?_⟩⟩
        obtain ⟨x, h1, h2, h3, h4⟩ := fin q _ (Same.refl _) hq5
        exact ⟨x, h1, h2, h3, h4⟩
    · rintro σ H3 ⟨o3, o4, acc, rfl, e3, a3, c3⟩
      walk_at "rd"
      exact k c acc H3 hc e3 a3 c3
end

end K23
namespace K23
open PySem PySem.Spec PyProof.Rows L2 Own OwnSeq OwnSet OwnComb OwnSort OwnHot OwnExN OwnProj
local macro_rules | `(tactic| walk_at "rd") => `(tactic| simp only [tSeq, tAsg, tOp, tUn, tVar, gName, gSub, rIxL, rIxT, rSetL, tC, rI0, rI, rU, rEq, rNe, tCons, tNil, tCB, tLst, tTup, tIfS, tAnd, tOr, tNot, tAndV, tOrV, tNotV, tTest, tB, tIf, tRet, tDrop, tNext, tBreak, tCont, tCall, tCallS, L2.WE, tMakeS, rIsS, rIsB, tChain, gSeq, gRest, gCons, gNil, tFor_seq, tFor_enumS, tLc_seq, tLc_enumS, rAny, rAll, L2.tMeth, StX.tStar, rIn, tLstRg, tRg1, tRg2, rSetI, rSortedSet, rInDT, rInD, rNotInD, rEqD, rNeD, iComb, tFld, tMake, tMkO, sFld, tOst, tNever, tBits, clv, isB,
  Rd.tFor_rng1, Rd.tFor_rng2, Rd.tFor_list, Rd.tFor_tup, Rd.tLc_list, Rd.tLc_tup, Rd.tLc_rng1, Rd.LcTurn, tYes, wipe, Rd.rLenL, Rd.rLenT, Rd.rIntI, Rd.rIxH, rIxHT,  HO.tup.injEq, Rd.at0, Rd.at1, Rd.at2, Rd.at3, Rd.ixN40, Rd.ixN41, Rd.ixN42, Rd.ixN43, Rd.scal_ii, cxOf,
  List.length_cons, List.length_nil, List.length_map, List.map_cons, List.map_nil, upd_same, decide_eq_true_eq, decide_true, decide_false, if_true, if_false, Bool.false_eq_true, Bool.not_true, Bool.not_false, HO.lst.injEq, HO.ins.injEq, List.set_cons_zero, List.set_cons_succ, List.getElem?_cons_zero, List.getElem?_cons_succ, List.append_nil, List.nil_append, List.cons_append, Option.some.injEq, V.ref.injEq, V.int.injEq, V.bl.injEq, List.cons.injEq, exists_eq_left', exists_and_left, exists_eq_left, true_and, and_true, and_self, and_assoc, implies_true, reduceCtorEq, Nat.reduceAdd])

theorem eqD_at {X : Cx} (K : PySem.W.Frag) (hu : X.A.units + 64 < cLine) (hK : X.K = K := by rfl) : OpR X (compareOp .Eq) (rEqD K) := by
  subst hK
  exact op_eqD hu
theorem u65 {k : Nat} {A : Around} (r : Room k A) : A.units + 65 < cLine := by have := r.un; omega
theorem inD_at {X : Cx} (K : PySem.W.Frag) (hu : X.A.units + 65 < cLine) (hK : X.K = K := by rfl) : OpR X (compareOp .In) (rInD K) := by
  subst hK
  exact op_inD hu
theorem inDT_at {X : Cx} (K : PySem.W.Frag) (hu : X.A.units + 65 < cLine) (hK : X.K = K := by rfl) : OpR X (compareOp .In) (rInDT K) := by
  subst hK
  exact op_inDT hu
/-! ### sets as data -/
def dS (s : List Nat) : PyData := .tuple (s.map fun g => .int (g : Nat))
theorem dp_ints {K : PySem.W.Frag} {H : Hp} : ∀ s : List Nat, DpAll K H (iv s) (s.map fun g => PyData.int (g : Nat))
  | [] => .nil
  | g :: s => .cons (.int _) (dp_ints s)
theorem dp_set {K : PySem.W.Frag} {H : Hp} {q : Addr} {s : List Nat} (h : H q = some (.tup (iv s))) : Dp K H (.ref q) (dS s) := .tup (SqT.of h) (dp_ints s)
theorem dp_sets {K : PySem.W.Frag} {H : Hp} : ∀ {vs : List V} {ss : List (List Nat)}, Tups H vs ss → DpAll K H vs (ss.map dS)
  | [], [], _ => .nil
  | _ :: _, _ :: _, ⟨⟨q, e, h⟩, r⟩ => e ▸ .cons (dp_set h) (dp_sets r)
  | [], _ :: _, h => h.elim
  | _ :: _, [], h => h.elim
theorem lay_ints : ∀ s : List Nat, PyData.canLayAll0 (s.map fun g => PyData.int (g : Nat)) = true ∧ PyData.depthAll (s.map fun g => PyData.int (g : Nat)) = 0
  | [] => ⟨by simp [PyData.canLayAll0], by simp [PyData.depthAll]⟩
  | g :: s => by
    obtain ⟨a, b⟩ := lay_ints s
    refine ⟨?_, ?_⟩
    · simp only [List.map_cons, PyData.canLayAll0, PyData.canLay0, a, Bool.and_self]
    · simp only [List.map_cons, PyData.depthAll, PyData.depth, b, Nat.max_self]
theorem lay_set (s : List Nat) : (dS s).canLay0 = true ∧ (dS s).depth = 1 := by
  obtain ⟨a, b⟩ := lay_ints s
  unfold dS
  exact ⟨by simp only [PyData.canLay0, a], by simp only [PyData.depth, b]⟩
theorem lay_sets : ∀ ss : List (List Nat), PyData.canLayAll0 (ss.map dS) = true ∧ PyData.depthAll (ss.map dS) ≤ 1
  | [] => ⟨by simp [PyData.canLayAll0], by simp [PyData.depthAll]⟩
  | s :: ss => by
    obtain ⟨a, b⟩ := lay_sets ss
    obtain ⟨c, d⟩ := lay_set s
    refine ⟨?_, ?_⟩
    · simp only [List.map_cons, PyData.canLayAll0, a, c, Bool.and_self]
    · simp only [List.map_cons, PyData.depthAll, d]
      omega
theorem sh_set (s : List Nat) : SeqAt.shaped (dS s) = true := by
  unfold SeqAt.shaped
  rw [(lay_set s).1, (lay_set s).2]
  decide
theorem sh_list (ss : List (List Nat)) : SeqAt.shaped (.list (ss.map dS)) = true := by
  have := (lay_sets ss).2
  unfold SeqAt.shaped
  rw [show (PyData.list (ss.map dS)).canLay0 = PyData.canLayAll0 (ss.map dS) by simp only [PyData.canLay0], (lay_sets ss).1]
  simp only [PyData.depth, Bool.true_and]
  exact decide_eq_true (by omega)
theorem sh_tup (ss : List (List Nat)) : SeqAt.shaped (.tuple (ss.map dS)) = true := by
  have := (lay_sets ss).2
  unfold SeqAt.shaped
  rw [show (PyData.tuple (ss.map dS)).canLay0 = PyData.canLayAll0 (ss.map dS) by simp only [PyData.canLay0], (lay_sets ss).1]
  simp only [PyData.depth, Bool.true_and]
  exact decide_eq_true (by omega)
theorem eqv_ints : ∀ s t : List Nat, PyData.eqvAll (s.map fun g => PyData.int (g : Nat)) (t.map fun g => PyData.int (g : Nat)) = decide (s = t)
  | [], [] => by simp [PyData.eqvAll]
  | [], _ :: _ => by simp [PyData.eqvAll]
  | _ :: _, [] => by simp [PyData.eqvAll]
  | x :: s, y :: t => by
    simp only [List.map_cons, PyData.eqvAll, PyData.eqv, eqv_ints s t]
    by_cases h : x = y
    · subst h
      by_cases h2 : s = t <;> simp [h2]
    · have : ¬ ((x : Int) = (y : Int)) := by omega
      simp [h, this]
theorem eqv_set (s t : List Nat) : PyData.eqv (dS s) (dS t) = decide (s = t) := by
  unfold dS
  simp only [PyData.eqv]
  exact eqv_ints s t
theorem any_sets (ss : List (List Nat)) (s : List Nat) : ((ss.map dS).any fun z => PyData.eqv z (dS s)) = ss.contains s := by
  rw [List.any_map]
  induction ss with
  | nil => rfl
  | cons t ss ih =>
    rw [List.any_cons, List.contains_cons, ih]
    congr 1
    show PyData.eqv (dS t) (dS s) = (s == t)
    rw [eqv_set, Bool.eq_iff_iff, decide_eq_true_eq, beq_iff_eq]
    exact eq_comm
theorem famL_mem {n : Nat} {S : List Bool} {s : List Nat} : s ∈ famL n S ↔ s ∈ allS n ∧ In S (mk s) = true := List.mem_filter
theorem subs_all : ((List.range 7).all fun n => (allS n).all fun s => (allS n).all fun t => !subL s t || decide (Sub (mk s) (mk t))) = true := by decide +kernel
theorem sub_mk {n : Nat} {s t : List Nat} (h : n ≤ 6) (hs : s ∈ allS n) (ht : t ∈ allS n) (z : subL s t = true) : Sub (mk s) (mk t) := by
  have y := List.all_eq_true.mp (List.all_eq_true.mp (List.all_eq_true.mp subs_all n (List.mem_range.mpr (by omega))) s hs) t ht
  rw [z] at y
  simpa using y
theorem nil_in {n : Nat} (h : n ≤ 6) : ([] : List Nat) ∈ allS n := by
  have z := (bits_in (n := n) (m := 0) h (Nat.pow_pos (by decide))).2
  rwa [show bits 0 = [] by decide] at z
section
variable {P : Program} {w : World} {K : PySem.W.Frag} {mg : Str → Option Value} {base : Heap} {a : Ad}
/-! ### closed_sets -/
def spClosed : Sp := fun vs H Q _ => ∃ (p : Addr) (n : Nat) (S : List Bool) (xs : List V) (ss : List (List Nat)), vs = [.int n, .ref p] ∧ H p = some (.lst xs) ∧ Seqs H xs ss ∧ Fam n S ∧ ss.length ≤ 64 ∧ (∀ s, s ∈ ss ↔ s ∈ famL n S) ∧
  ∀ q ys H', H q = none → Same H H' → H' q = some (.tup ys) → Tups H' ys (famL n S) → Q (.ref q) H'
theorem sc_closed_sets : FnScope ["size", "sets", "given", "kept", "things", "other"] ["size", "sets"] (defScope s_closed_sets) := ⟨rfl, rfl, rfl, by decide +kernel, rfl, by decide +kernel, by decide +kernel⟩
theorem ok_closed_sets (T : Txt K mg a) : FnOk P w K mg base CX0 5 a.a_closed_sets a.d_closed_sets ["size", "sets"] spClosed := by
  refine T.fn_closed_sets.ok sc_closed_sets (fun vs H Q E h => ?_) (fun cdv A outer s H vs Q E hr h => ?_)
  · obtain ⟨p, n, S, xs, ss, rfl, _⟩ := h
    rfl
  · obtain ⟨p, n, S, xs, ss, rfl, hp, sv, F, l64, hs, k⟩ := h
    refine ⟨_, (pss_cons (ps_set (i := 2) sc_closed_sets.nd rfl (Or.inl rfl) (pe_call (ok_clean_sets T) (hr.mono (by decide)) (by rfl) T.mg_clean_sets T.fn_clean_sets.kp T.b_clean_sets .nil pass0 (pa_cons (pv 0) (pa_cons (pv 1) pa_nil))))
      (pss_cons (ps_set (i := 3) sc_closed_sets.nd rfl (Or.inl rfl) (pe_lst pa_nil))
      (pss_cons (ps_for PassesOwn.never rfl (pi_list (pe_call (ok_all_sets T) (hr.mono (by decide)) (by rfl) T.mg_all_sets T.fn_all_sets.kp T.b_all_sets .nil pass0 (pa_cons (pv 0) pa_nil))) (pg_name (i := 4) sc_closed_sets.nd rfl (Or.inr rfl))
        (pss_one (ps_if (pt_cmpR (inD_at K (u65 hr)) (pv 4) (pv 2) (by with_unfolding_all rfl)) (pss_one (ps_expr (pe_bm PySem.F.plainAttrs_list PySem.F.slot_list_append PySem.F.type_list_append mt_append (pv 3) (pa_cons (pv 4) pa_nil)))) (pss_one (ps_if (PW.pt (pw_or (pt_cmpR (eqD_at K hr.units) (pv 4) (pe_tup pa_nil) (nomark _)) (pw_or1 (pt_val (pe_callB (cr_any rfl) (by rfl) T.no_any (by decide +kernel) (pa_cons (pe_lc (own := [("other", 5)]) (by rfl) sc_closed_sets.nd (pi_list (pv 2)) (blkOk_by (own := [("other", 5)]) (N := ["size", "sets", "given", "kept", "things", "other"]) (sc := defScope s_closed_sets) (by decide +kernel)) (fun _ _ _ _ _ => pg_name (i := 5) sc_closed_sets.nd rfl (Or.inl rfl)) (fun _ _ _ _ _ => pts_nil) (fun _ _ _ _ _ => (pe_call (ok_is_part T) (hr.mono (by decide)) (by rfl) T.mg_is_part T.fn_is_part.kp T.b_is_part .nil pass0 (pa_cons (pv 4) (pa_cons (pv 5) pa_nil))))) pa_nil)))))) (pss_one ps_never) pss_nil)))))
      (pss_one (ps_ret (pe_callTy call_tuple_of (by rfl) T.no_tuple (by decide +kernel) (pa_cons (pv 3) pa_nil))))))), ?_⟩
    show (_ : TS) _ [some (V.int n), some (V.ref p), none, none, none, none] H
    walk_at "rd"
    have al : ∀ s ∈ ss, s ∈ allS n := fun s h => (famL_mem.mp ((hs s).mp h)).1
    refine ⟨p, n, xs, ss, rfl, hp, sv, F.n1, F.n6, l64, al, fun gv gl H1 g0 e1 hg tg => ⟨by decide, fun c hc => ⟨n, rfl, F.n6, fun q ys H2 q0 e2 hq tq => ⟨q, rfl, ⟨_, SqL.of hq⟩, ?_⟩⟩⟩⟩
    have ec := same_upd (o := .lst []) hc
    have hc2 := e2 _ _ (upd_same (H := H1) (a := c) (o := .lst []))
    have c0 : H c = none := e1.free hc
    have e02 : Same H H2 := (e1.trans ec).trans e2
    have hg2 := e2 _ _ (ec _ _ hg)
    have tg2 := (tg.same ec).same e2
    have gc : gv ≠ c := fun z => by rw [z, hc] at hg; cases hg
    have qc : q ≠ c := fun z => by rw [z, upd_same] at q0; cases q0
    have ql := tq.len
    refine Rd.loop_listC (xs := ys) (fun σ H' => ∃ acc o4 o5, σ = [some (V.int n), some (V.ref p), some (V.ref gv), some (V.ref c), o4, o5] ∧ Same H H' ∧ H' c = some (.lst acc) ∧ Tups H' acc (famL n S))
      (fun i σ H' => ∃ acc o4 o5, σ = [some (V.int n), some (V.ref p), some (V.ref gv), some (V.ref c), o4, o5] ∧ (∀ b o, b ≠ c → H2 b = some o → H' b = some o) ∧ H' c = some (.lst acc) ∧ acc.length ≤ i ∧ Tups H' acc (((allS n).take i).filter fun s => In S (mk s)))
      ⟨[], none, none, rfl, fun _ _ _ h => h, hc2, Nat.le_refl _, trivial⟩ (fun i σ H' _ ⟨_, _, _, _, e, _⟩ => SqL.of (e _ _ qc hq)) ?_ ?_ ?_
    · rintro bk hbk i x σ H3 hx ⟨acc, o4, o5, rfl, e3, hc3, al3, ta⟩
      obtain ⟨s', hs', t, rfl, ht⟩ := tq.at hx
      have sm := List.mem_of_getElem? hs'
      have tc : t ≠ c := fun z => by rw [z, hc2] at ht; cases ht
      have ht3 := e3 _ _ tc ht
      have hg3 := e3 _ _ gc hg2
      have mv : ∀ {vs : List V} {us : List (List Nat)}, Tups H2 vs us → Tups H3 vs us := fun {vs us} h => by
        induction vs generalizing us with
        | nil => cases us <;> exact h
        | cons v vs ih =>
          cases us with
          | nil => exact h
          | cons u us => exact let ⟨⟨q, a, b⟩, r⟩ := h; ⟨⟨q, a, e3 _ _ (fun z => by rw [z, hc2] at b; cases b) b⟩, ih r⟩
      have tg3 := mv tg2
      have i64 : i < 64 := by
        have := (List.getElem?_eq_some_iff.mp hs').1
        rw [allS_len F.n6] at this
        exact Nat.lt_of_lt_of_le this (Nat.le_trans (Nat.pow_le_pow_right (by decide) F.n6) (by decide))
      have nx : ((allS n).take (i + 1)).filter (fun s => In S (mk s)) = ((allS n).take i).filter (fun s => In S (mk s)) ++ (if In S (mk s') = true then [s'] else []) := by
        rw [List.take_add_one, hs', List.filter_append]
        cases z : In S (mk s') with
        | true => rw [show (some s').toList = [s'] from rfl, List.filter_cons_of_pos (p := fun s => In S (mk s)) z]; rfl
        | false => rw [show (some s').toList = [s'] from rfl, List.filter_cons_of_neg (p := fun s => In S (mk s)) (by rw [z]; decide)]; rfl
      walk_at "rd"
      refine ⟨_, dp_set ht3, _, .lst (SqL.of hg3) (dp_sets tg3), sh_set _, sh_list _, ?_⟩
      rw [any_sets]
      cases hin : ss.contains s' with
      | true =>
        have z : In S (mk s') = true := (famL_mem.mp ((hs s').mp (List.contains_iff_mem.mp hin))).2
        rw [if_pos rfl]
        simp only [tBM, rAppend]
        walk_at "rd"
        refine ⟨.inl ⟨rfl, _, SqL.of hc3⟩, acc, hc3, small (by omega), fun b o nb h => (upd_ne nb).trans (e3 _ _ nb h), by rw [List.length_append]; exact Nat.succ_le_succ al3, ?_⟩
        rw [nx, if_pos z]
        exact Tups.upd hc3 (Tups.app ta ⟨⟨t, rfl, ht3⟩, trivial⟩)
      | false =>
        have z : ¬ In S (mk s') = true := fun z => by
          have := List.contains_iff_mem.mpr ((hs s').mpr (famL_mem.mpr ⟨sm, z⟩))
          rw [hin] at this
          cases this
        have ns : s' ≠ [] := fun e => z (by rw [e]; exact F.zero)
        rw [if_neg (by decide)]
        refine ⟨by decide, fun u hu => ?_⟩
        have eu := same_upd (o := .tup []) hu
        refine ⟨_, dp_set (eu _ _ ht3), _, dp_set (s := []) upd_same, sh_set _, sh_set _, ?_⟩
        rw [eqv_set, decide_eq_false ns]
        rw [if_neg (by decide)]
        have glen := tg3.len
        have e3u : ∀ b o, b ≠ c → H2 b = some o → (upd H3 u (.tup [])) b = some o := fun b o nb h => eu _ _ (e3 _ _ nb h)
        have hc4 := eu _ _ hc3
        have ta4 := ta.same eu
        have tg4 := tg3.same eu
        have hg4 := eu _ _ hg3
        have ht4 := eu _ _ ht3
        generalize upd H3 u (.tup []) = H4 at e3u hc4 ta4 tg4 hg4 ht4 ⊢
        refine ⟨⟨_, SqL.of hg4⟩, Rd.lcl_list (xs := gl) (fun D j H' => H4 D = none ∧ Same H4 H' ∧ H' D = some (.lst (((ss.take j).map fun t => subL s' t).map V.bl))) (fun D hD => ⟨hD, same_upd hD, upd_same⟩) (fun D j H' _ h => SqL.of (h.2.1 _ _ hg4))
          (fun D j y H5 hy ⟨n5, e5, a5⟩ => ?_) (fun D H5 _ ⟨n5, e5, a5⟩ => ?_)⟩
        · obtain ⟨t', ht', r', rfl, hr'⟩ := tg4.at hy
          have jl := (List.getElem?_eq_some_iff.mp ht').1
          walk_at "rd"
          have al' := allS_at sm F.n6
          refine ⟨t, r', false, false, s', t', rfl, e5 _ _ ht4, e5 _ _ hr', Nat.le_trans al'.2.2.2.1 F.n6, fun H6 e6 => ⟨_, e6 _ _ a5, small (by rw [List.length_map, List.length_map, List.length_take]; omega), n5, fun b o hb => (upd_ne (ne_of_none hb n5)).trans (e6 _ _ (e5 _ _ hb)), ?_⟩⟩
          rw [List.take_add_one, ht', List.map_append, List.map_append]
          rfl
        · rw [glen, List.take_length] at a5
          refine ⟨D, rfl, _, SqL.of a5, ?_⟩
          rw [if_neg ?_]
          · refine ⟨fun b o nb h => e5 _ _ (e3u b o nb h), acc, e5 _ _ hc4, by omega, ?_⟩
            rw [nx, if_neg z, List.append_nil]
            exact ta4.same e5
          · intro y
            obtain ⟨b, hb, rfl⟩ := List.any_eq_true.mp y
            obtain ⟨t', ht', e⟩ := List.mem_map.mp hb
            have z2 := famL_mem.mp ((hs t').mp ht')
            exact z (F.down _ _ (sub_mk F.n6 sm z2.1 e) z2.2)
    · rintro σ H3 ⟨acc, o4, o5, rfl, e3, hc3, al3, ta⟩
      refine ⟨acc, o4, o5, rfl, fun b o h => e3 _ _ (ne_of_none h c0) (e02 _ _ h), hc3, ?_⟩
      rw [ql, List.take_length] at ta
      exact ta
    · rintro σ H3 ⟨acc, o4, o5, rfl, e3, hc3, ta⟩
      walk_at "rd"
      exact ⟨_, .inl ⟨SqL.of hc3, fun r hr => k r acc _ (e3.free hr) (e3.trans (same_upd hr)) upd_same (ta.same (same_upd hr))⟩⟩
/-! ### Family.__init__ -/
def ff (t : Addr) (n : Nat) : List (Str × V) := putF "size" (.int (n : Nat)) (putF "sets" (.ref t) [])
def spFam (C : Addr) : Sp := fun vs H Q _ => ∃ (x dx p : Addr) (n : Nat) (S : List Bool) (xs : List V) (ss : List (List Nat)), vs = [.ref x, .int n, .ref p] ∧ H x = some (.ins C dx []) ∧ H p = some (.lst xs) ∧ Seqs H xs ss ∧ Fam n S ∧ ss.length ≤ 64 ∧ (∀ s, s ∈ ss ↔ s ∈ famL n S) ∧
  ∀ t ys H1 H', Same H H1 → H1 t = some (.tup ys) → Tups H1 ys (famL n S) → H' = upd H1 x (.ins C dx (ff t n)) → Q .non H'
theorem sc_Family_init : FnScope ["self", "size", "sets"] ["self", "size", "sets"] (defScope s_Family_init) := ⟨rfl, rfl, rfl, by decide +kernel, rfl, by decide +kernel, by decide +kernel⟩
theorem ok_Family_init (T : Txt K mg a) : FnOk P w K mg base CX0 6 a.a_Family_init a.d_Family_init ["self", "size", "sets"] (spFam a.C_Family) := by
  refine T.fn_Family_init.ok sc_Family_init (fun vs H Q E h => ?_) (fun cdv A outer s H vs Q E hr h => ?_)
  · obtain ⟨x, dx, p, n, S, xs, ss, rfl, _⟩ := h
    rfl
  · obtain ⟨x, dx, p, n, S, xs, ss, rfl, hx, hp, sv, F, l64, hs, k⟩ := h
    refine ⟨_, (pss_cons (ps_fld (pv 0) (pe_call (ok_closed_sets T) (hr.mono (by decide)) (by rfl) T.mg_closed_sets T.fn_closed_sets.kp T.b_closed_sets .nil pass0 (pa_cons (pv 1) (pa_cons (pv 2) pa_nil))) rfl)
      (pss_one (ps_fld (pv 0) (pv 1) rfl))), ?_⟩
    show (_ : TS) _ [some (V.ref x), some (V.int n), some (V.ref p)] H
    walk_at "rd"
    refine ⟨p, n, S, xs, ss, rfl, hp, sv, F, l64, hs, fun t ys H1 t0 e1 ht tt => ⟨a.C_Family, dx, [], e1 _ _ hx, ?_⟩⟩
    refine ⟨T.cl_Family, T.na_Family_sets, by decide, T.cl_Family, T.na_Family_size, by show 1 < 1000; decide, ?_⟩
    rw [upd_upd]
    exact k t ys H1 _ e1 ht tt rfl
end

end K23
namespace K23
open PySem PySem.Spec PyProof.Rows L2 Own OwnSeq OwnSet OwnComb OwnSort OwnHot OwnExN OwnProj
local macro_rules | `(tactic| walk_at "rd") => `(tactic| simp only [tSeq, tAsg, tOp, tUn, tVar, gName, gSub, rIxL, rIxT, rSetL, tC, rI0, rI, rU, rEq, rNe, tCons, tNil, tCB, tLst, tTup, tIfS, tAnd, tOr, tNot, tAndV, tOrV, tNotV, tTest, tB, tIf, tRet, tDrop, tNext, tBreak, tCont, tCall, tCallS, L2.WE, tMakeS, rIsS, rIsB, tChain, gSeq, gRest, gCons, gNil, tFor_seq, tFor_enumS, tLc_seq, tLc_enumS, rAny, rAll, L2.tMeth, StX.tStar, rIn, tLstRg, tRg1, tRg2, rSetI, rSortedSet, rInDT, rInD, rNotInD, rEqD, rNeD, iComb, tFld, tMake, tMkO, sFld, tOst, tNever, tBits, clv, isB,
  Rd.tFor_rng1, Rd.tFor_rng2, Rd.tFor_list, Rd.tFor_tup, Rd.tLc_list, Rd.tLc_tup, Rd.tLc_rng1, Rd.LcTurn, tYes, wipe, Rd.rLenL, Rd.rLenT, Rd.rIntI, Rd.rIxH, rIxHT,  HO.tup.injEq, Rd.at0, Rd.at1, Rd.at2, Rd.at3, Rd.ixN40, Rd.ixN41, Rd.ixN42, Rd.ixN43, Rd.scal_ii, cxOf,
  List.length_cons, List.length_nil, List.length_map, List.map_cons, List.map_nil, upd_same, decide_eq_true_eq, decide_true, decide_false, if_true, if_false, Bool.false_eq_true, Bool.not_true, Bool.not_false, HO.lst.injEq, HO.ins.injEq, List.set_cons_zero, List.set_cons_succ, List.getElem?_cons_zero, List.getElem?_cons_succ, List.append_nil, List.nil_append, List.cons_append, Option.some.injEq, V.ref.injEq, V.int.injEq, V.bl.injEq, List.cons.injEq, exists_eq_left', exists_and_left, exists_eq_left, true_and, and_true, and_self, and_assoc, implies_true, reduceCtorEq, Nat.reduceAdd])

theorem ff_sets (t : Addr) (n : Nat) : (ff t n).lookup ("sets" : Str) = some (.ref t) := by
  unfold ff
  rw [lookup_putF, if_neg (by decide +kernel), lookup_putF, if_pos rfl]
theorem ff_size (t : Addr) (n : Nat) : (ff t n).lookup ("size" : Str) = some (.int (n : Nat)) := by
  unfold ff
  rw [lookup_putF, if_pos rfl]
theorem ff_no (t : Addr) (n : Nat) {m : Str} (h1 : ¬ m = "size") (h2 : ¬ m = "sets") : (ff t n).lookup m = none := by
  unfold ff
  rw [lookup_putF, if_neg h1, lookup_putF, if_neg h2]
  rfl
/-- a family as an object -/
structure FamV (C : Addr) (H : Hp) (f : Addr) (n : Nat) (S : List Bool) : Prop where
  fam : Fam n S
  ob : ∃ dx t ys, H f = some (.ins C dx (ff t n)) ∧ H t = some (.tup ys) ∧ Tups H ys (famL n S)
theorem FamV.same {C : Addr} {H H' : Hp} {f : Addr} {n : Nat} {S : List Bool} (F : FamV C H f n S) (e : Same H H') : FamV C H' f n S :=
  let ⟨dx, t, ys, a, b, c⟩ := F.ob
  ⟨F.fam, dx, t, ys, e _ _ a, e _ _ b, c.same e⟩

end K23
namespace K23
open PySem PySem.Spec PyProof.Rows L2 Own OwnSeq OwnSet OwnComb OwnSort OwnHot OwnExN OwnProj
local macro_rules | `(tactic| walk_at "rd") => `(tactic| simp only [tSeq, tAsg, tOp, tUn, tVar, gName, gSub, rIxL, rIxT, rSetL, tC, rI0, rI, rU, rEq, rNe, tCons, tNil, tCB, tLst, tTup, tIfS, tAnd, tOr, tNot, tAndV, tOrV, tNotV, tTest, tB, tIf, tRet, tDrop, tNext, tBreak, tCont, tCall, tCallS, L2.WE, tMakeS, rIsS, rIsB, tChain, gSeq, gRest, gCons, gNil, tFor_seq, tFor_enumS, tLc_seq, tLc_enumS, rAny, rAll, L2.tMeth, StX.tStar, rIn, tLstRg, tRg1, tRg2, rSetI, rSortedSet, rInDT, rInD, rNotInD, rEqD, rNeD, iComb, tFld, tMake, tMkO, sFld, tOst, tNever, tBits, clv, isB,
  Rd.tFor_rng1, Rd.tFor_rng2, Rd.tFor_list, Rd.tFor_tup, Rd.tLc_list, Rd.tLc_tup, Rd.tLc_rng1, Rd.LcTurn, tYes, wipe, Rd.rLenL, Rd.rLenT, Rd.rIntI, Rd.rIxH, rIxHT,  HO.tup.injEq, Rd.at0, Rd.at1, Rd.at2, Rd.at3, Rd.ixN40, Rd.ixN41, Rd.ixN42, Rd.ixN43, Rd.scal_ii, cxOf,
  List.length_cons, List.length_nil, List.length_map, List.map_cons, List.map_nil, upd_same, decide_eq_true_eq, decide_true, decide_false, if_true, if_false, Bool.false_eq_true, Bool.not_true, Bool.not_false, HO.lst.injEq, HO.ins.injEq, List.set_cons_zero, List.set_cons_succ, List.getElem?_cons_zero, List.getElem?_cons_succ, List.append_nil, List.nil_append, List.cons_append, Option.some.injEq, V.ref.injEq, V.int.injEq, V.bl.injEq, List.cons.injEq, exists_eq_left', exists_and_left, exists_eq_left, true_and, and_true, and_self, and_assoc, implies_true, reduceCtorEq, Nat.reduceAdd])

theorem at_int {ns : List Int} {z : Int} (h0 : 0 ≤ z) (h1 : z < (ns.length : Int)) : ∃ y, atI (ns.map V.int) z = some (V.int y) := by
  obtain ⟨j, rfl⟩ : ∃ j : Nat, z = (j : Int) := ⟨z.toNat, by omega⟩
  have hj : j < ns.length := by omega
  exact ⟨ns[j], atI_nat (by rw [List.getElem?_map, List.getElem?_eq_getElem hj]; rfl)⟩
theorem abs_nn (x : Int) : 0 ≤ (if x < 0 then -x else x) := by split <;> omega
theorem abs_eq (x : Int) : (if x < 0 then -x else x) = (x.natAbs : Int) := by split <;> omega
theorem cm_mod {x y m : Int} (h : 0 < m) (h2 : m ≤ 2 ^ 64) : CMul (x % m) y := by
  have a := Int.emod_nonneg x (show m ≠ 0 by omega)
  have b := Int.emod_lt_of_pos x h
  exact .inl ⟨by omega, by omega⟩
/-- what stood stands, but for b -/
def But (b : Addr) (H H' : Hp) : Prop := ∀ p o, p ≠ b → H p = some o → H' p = some o
theorem But.refl (b : Addr) (H : Hp) : But b H H := fun _ _ _ h => h
theorem But.trans {b : Addr} {H H1 H2 : Hp} (x : But b H H1) (y : But b H1 H2) : But b H H2 := fun p o n h => y p o n (x p o n h)
theorem But.free {b : Addr} {H H1 : Hp} (x : But b H H1) {p : Addr} (n : p ≠ b) (h : H1 p = none) : H p = none := by
  cases e : H p with
  | none => rfl
  | some o =>
    rw [x p o n e] at h
    cases h
theorem Same.but {b : Addr} {H H1 : Hp} (x : Same H H1) : But b H H1 := fun p o _ h => x p o h
theorem SqL.but {K : PySem.W.Frag} {H H' : Hp} {b c : Addr} {xs : List V} (h : SqL K H c xs) (n : c ≠ b) (e : But b H H') : SqL K H' c xs := by
  rcases h with (h | ⟨o, h⟩) | h
  · exact .inl (.inl (e _ _ n h))
  · exact .inl (.inr ⟨o, e _ _ n h⟩)
  · exact .inr h
/-- the law's box: its cells, what is drawn from -/
structure BoxAt (K : PySem.W.Frag) (H : Hp) (b c : Addr) (ns : List Int) : Prop where
  ne : c ≠ b
  len : ns.length ≤ 63
  ob : ∃ n1 n2 n3 : Int, H b = some (.lst [.ref c, .int n1, .int n2, .int n3]) ∧ 0 ≤ n2 ∧ 0 ≤ n3
  cells : SqL K H c (ns.map V.int)
theorem BoxAt.same {K : PySem.W.Frag} {H H' : Hp} {b c : Addr} {ns : List Int} (B : BoxAt K H b c ns) (e : Same H H') : BoxAt K H' b c ns :=
  let ⟨n1, n2, n3, h, p, q⟩ := B.ob
  ⟨B.ne, B.len, ⟨n1, n2, n3, e _ _ h, p, q⟩, e.seq B.cells⟩
theorem BoxAt.ne_new {K : PySem.W.Frag} {H : Hp} {b c : Addr} {ns : List Int} (B : BoxAt K H b c ns) {p : Addr} (h : H p = none) : p ≠ b := fun e => by
  obtain ⟨n1, n2, n3, hb, _⟩ := B.ob
  rw [e, hb] at h
  cases h
section
variable {P : Program} {w : World} {K : PySem.W.Frag} {mg : Str → Option Value} {base : Heap} {a : Ad}
/-! ### _law_box -/
def spBox (K : PySem.W.Frag) : Sp := fun vs H Q _ => ∃ (s : Addr) (ns : List Int), vs = [.ref s] ∧ SqL K H s (ns.map V.int) ∧ ns.length ≤ 63 ∧ ∀ b c H', BoxAt K H' b c ns → Same H H' → H b = none → Q (.ref b) H'
theorem sc_law_box : FnScope ["script", "cell"] ["script"] (defScope s_law_box) := ⟨rfl, rfl, rfl, by decide +kernel, rfl, by decide +kernel, by decide +kernel⟩
theorem ok_law_box (T : Txt K mg a) : FnOk P w K mg base CX0 1 a.a_law_box a.d_law_box ["script"] (spBox K) := by
  refine T.fn_law_box.ok sc_law_box (fun vs H Q E h => ?_) (fun cdv A outer s H vs Q E hr h => ?_)
  · obtain ⟨p, ns, rfl, _⟩ := h
    rfl
  · obtain ⟨p, ns, rfl, hs, hl, k⟩ := h
    refine ⟨_, (pss_one (ps_ret (pe_lst (pa_cons (pe_lc (own := [("cell", 1)]) (by rfl) sc_law_box.nd (pi_list (pv 0)) (blkOk_by (own := [("cell", 1)]) (N := ["script", "cell"]) (sc := defScope s_law_box) (by decide +kernel)) (fun _ _ _ _ _ => pg_name (i := 1) sc_law_box.nd rfl (Or.inl rfl)) (fun _ _ _ _ _ => pts_nil) (fun _ _ _ _ _ => (pe_callTy Rd.call_intI (by rfl) T.no_int (by decide +kernel) (pa_cons (pv 1) pa_nil)))) (pa_cons pe_int (pa_cons pe_int (pa_cons pe_int pa_nil))))))), ?_⟩
    show (_ : TS) _ [some (V.ref p), none] H
    walk_at "rd"
    refine ⟨⟨_, hs⟩, Rd.lcl_list (xs := ns.map V.int) (fun D i H1 => (Same H H1 ∧ H D = none) ∧ H1 D = some (.lst ((ns.take i).map V.int))) (fun D hD => ⟨⟨same_upd hD, hD⟩, upd_same⟩) (fun D i H1 _ p => p.1.1.seq hs) ?_ ?_⟩
    · rintro D i x H1 hx ⟨⟨s1, hD⟩, e1⟩
      obtain ⟨z, hz, rfl⟩ : ∃ z, ns[i]? = some z ∧ x = V.int z := by
        rw [List.getElem?_map] at hx
        cases e : ns[i]? with
        | none => rw [e] at hx; cases hx
        | some z => rw [e] at hx; exact ⟨z, rfl, (Option.some.inj hx).symm⟩
      walk_at "rd"
      refine ⟨_, e1, ?_, fun b o e => ?_, ?_⟩
      · rw [List.length_map, List.length_take]
        exact Nat.lt_of_le_of_lt (Nat.min_le_left _ _) (by have := (List.getElem?_eq_some_iff.mp hz).1; exact small1000 (by omega))
      · rw [upd_ne (ne_of_none e hD)]
        exact s1 _ _ e
      · rw [List.take_add_one, hz, List.map_append]
        exact ⟨hD, rfl⟩
    · rw [List.length_map, List.take_length]
      rintro D H1 _ ⟨⟨s1, hD⟩, e1⟩
      refine ⟨by decide, fun b hb => ?_⟩
      have nbD : D ≠ b := fun e => by rw [← e, e1] at hb; cases hb
      refine k b D _ ⟨nbD, hl, ⟨0, 0, 0, upd_same, Int.le_refl _, Int.le_refl _⟩, SqL.of ((upd_ne nbD).trans e1)⟩ (s1.trans (same_upd hb)) (s1.free hb)
/-! ### _law_draw -/
def spDraw (K : PySem.W.Frag) : Sp := fun vs H Q _ => ∃ (b c : Addr) (ns : List Int) (m : Int), vs = [.ref b, .int m] ∧ BoxAt K H b c ns ∧ 0 < m ∧ m < 1000000000 ∧
  ∀ (d : Int) (H' : Hp), 0 ≤ d → d < m → BoxAt K H' b c ns → (∀ p, p ≠ b → H' p = H p) → Q (.int d) H'
theorem sc_law_draw : FnScope ["box", "limit", "cells", "k", "digit", "cell", "mixed"] ["box", "limit"] (defScope s_law_draw) := ⟨rfl, rfl, rfl, by decide +kernel, rfl, by decide +kernel, by decide +kernel⟩
theorem ok_law_draw (T : Txt K mg a) : FnOk P w K mg base CX0 1 a.a_law_draw a.d_law_draw ["box", "limit"] (spDraw K) := by
  refine T.fn_law_draw.ok sc_law_draw (fun vs H Q E h => ?_) (fun cdv A outer s H vs Q E hr h => ?_)
  · obtain ⟨b, c, ns, m, rfl, _⟩ := h
    rfl
  · obtain ⟨b, c, ns, m, rfl, ⟨hbc, hl, ⟨n1, n2, n3, hb, p2, p3⟩, hc⟩, hm, hm2, k⟩ := h
    refine ⟨_, (pss_cons (ps_set (i := 2) sc_law_draw.nd rfl (Or.inl rfl) (pe_ix Rd.ixH (pv 0) pe_int (fun _ _ => rfl)))
      (pss_cons (ps_asg (pe_op op_add (pe_ix Rd.ixH (pv 0) pe_int (fun _ _ => rfl)) pe_int) (pg_sub (pv 0) pe_int set_list))
      (pss_cons (ps_for PassesOwn.never rfl (pi_range1 (by rfl) T.no_range (pa_cons (pe_callB Rd.call_lenL (by rfl) T.no_len PySem.boot_len (pa_cons (pv 2) pa_nil)) pa_nil)) (pg_name (i := 3) sc_law_draw.nd rfl (Or.inl rfl))
        (pss_one (ps_if (PW.pt (pw_and (pt_cmpR op_eq (pe_ix Rd.ixH (pv 0) pe_int (fun _ _ => rfl)) pe_int (nomark _)) (pw_and1 (pt_cmpR op_lt (pe_ix Rd.ixH (pv 0) pe_int (fun _ _ => rfl)) (pe_callB Rd.call_lenL (by rfl) T.no_len PySem.boot_len (pa_cons (pv 2) pa_nil)) (nomark _))))) (pss_cons (ps_if (pt_cmpR op_ge (pe_callB call_abs (by rfl) T.no_abs (by decide +kernel) (pa_cons (pe_ix ix_list (pv 2) (pe_ix Rd.ixH (pv 0) pe_int (fun _ _ => rfl)) (fun _ _ => rfl)) pa_nil)) (pe_op op_pow pe_int pe_int) (nomark _)) (pss_one (ps_asg (pe_callB call_abs (by rfl) T.no_abs (by decide +kernel) (pa_cons (pe_ix ix_list (pv 2) (pe_ix Rd.ixH (pv 0) pe_int (fun _ _ => rfl)) (fun _ _ => rfl)) pa_nil)) (pg_sub (pv 0) pe_int set_list))) pss_nil)
          (pss_one (ps_asg (pe_op op_add (pe_ix Rd.ixH (pv 0) pe_int (fun _ _ => rfl)) pe_int) (pg_sub (pv 0) pe_int set_list)))) (pss_one ps_break))))
      (pss_cons (ps_if (pt_cmpR op_gt (pe_ix Rd.ixH (pv 0) pe_int (fun _ _ => rfl)) pe_int (nomark _)) (pss_cons (ps_set (i := 4) sc_law_draw.nd rfl (Or.inl rfl) (pe_op op_mod (pe_callTy Rd.call_intI (by rfl) T.no_int (by decide +kernel) (pa_cons (pe_ix Rd.ixH (pv 0) pe_int (fun _ _ => rfl)) pa_nil)) (pv 1)))
        (pss_cons (ps_asg (pe_op op_fdiv (pe_ix Rd.ixH (pv 0) pe_int (fun _ _ => rfl)) (pv 1)) (pg_sub (pv 0) pe_int set_list))
        (pss_one (ps_ret (pv 4))))) pss_nil)
      (pss_cons (ps_set (i := 5) sc_law_draw.nd rfl (Or.inl rfl) pe_int)
      (pss_cons (ps_if (pt_cmpR op_gt (pe_callB Rd.call_lenL (by rfl) T.no_len PySem.boot_len (pa_cons (pv 2) pa_nil)) pe_int (nomark _)) (pss_one (ps_set (i := 5) sc_law_draw.nd rfl (Or.inl rfl) (pe_callB call_abs (by rfl) T.no_abs (by decide +kernel) (pa_cons (pe_ix ix_list (pv 2) (pe_op op_mod (pe_callTy Rd.call_intI (by rfl) T.no_int (by decide +kernel) (pa_cons (pe_ix Rd.ixH (pv 0) pe_int (fun _ _ => rfl)) pa_nil)) (pe_callB Rd.call_lenL (by rfl) T.no_len PySem.boot_len (pa_cons (pv 2) pa_nil))) (fun _ _ => rfl)) pa_nil)))) pss_nil)
      (pss_cons (ps_set (i := 6) sc_law_draw.nd rfl (Or.inl rfl) (pe_op op_mod (pe_callTy Rd.call_intI (by rfl) T.no_int (by decide +kernel) (pa_cons (pe_op op_add (pe_op op_add (pe_op op_mul (pv 5) pe_int) (pe_op op_mul (pe_ix Rd.ixH (pv 0) pe_int (fun _ _ => rfl)) pe_int)) pe_int) pa_nil)) pe_int))
      (pss_cons (ps_set (i := 6) sc_law_draw.nd rfl (Or.inl rfl) (pe_op op_mod (pe_callTy Rd.call_intI (by rfl) T.no_int (by decide +kernel) (pa_cons (pe_op op_add (pe_op op_add (pe_op op_mul (pv 6) (pv 6)) (pe_op op_mul (pe_ix Rd.ixH (pv 0) pe_int (fun _ _ => rfl)) pe_int)) (pv 5)) pa_nil)) pe_int))
      (pss_cons (ps_set (i := 6) sc_law_draw.nd rfl (Or.inl rfl) (pe_op op_mod (pe_callTy Rd.call_intI (by rfl) T.no_int (by decide +kernel) (pa_cons (pe_op op_add (pe_op op_add (pe_op op_mul (pe_op op_mul (pv 6) (pv 6)) pe_int) (pe_op op_fdiv (pv 5) pe_int)) pe_int) pa_nil)) pe_int))
      (pss_one (ps_ret (pe_op op_mod (pe_callTy Rd.call_intI (by rfl) T.no_int (by decide +kernel) (pa_cons (pe_op op_fdiv (pv 6) pe_int) pa_nil)) (pv 1))))))))))))), ?_⟩
    show (_ : TS) _ [some (V.ref b), some (V.int m), none, none, none, none, none] H
    walk_at "rd"
    simp only [hb]
    walk_at "rd"
    have e1 : ∀ a, a ≠ b → (upd H b (.lst [V.ref c, .int (n1 + 1), .int n2, .int n3])) a = H a := fun a ha => upd_ne ha
    refine ⟨_, SqL.but hc hbc fun p o n h => (e1 p n).trans h, ?_⟩
    rw [List.length_map]
    refine ⟨by omega, by omega, ?_⟩
    refine Rd.loop_rngC (fun σ H' => ∃ (x : Option V) (k2 k3 : Int), σ = [some (.ref b), some (.int m), some (.ref c), x, none, none, none] ∧ (∀ a, a ≠ b → H' a = H a) ∧ H' b = some (.lst [.ref c, .int (n1 + 1), .int k2, .int k3]) ∧ 0 ≤ k2 ∧ 0 ≤ k3)
      (fun _ σ H' => ∃ (x : Option V) (k2 k3 : Int), σ = [some (.ref b), some (.int m), some (.ref c), x, none, none, none] ∧ (∀ a, a ≠ b → H' a = H a) ∧ H' b = some (.lst [.ref c, .int (n1 + 1), .int k2, .int k3]) ∧ 0 ≤ k2 ∧ 0 ≤ k3)
      ⟨none, n2, n3, rfl, e1, upd_same, p2, p3⟩ ?_ (fun _ _ z => z) ?_
    · rintro bk hbk i σ H1 hi ⟨x, k2, k3, rfl, e, hb1, q2, q3⟩
      walk_at "rd"
      simp only [hb1]
      walk_at "rd"
      have hc1 : SqL K H1 c (ns.map V.int) := SqL.but hc hbc fun p o n h => (e p n).trans h
      have out : bk [some (V.ref b), some (V.int m), some (V.ref c), some (V.int (0 + ↑i)), none, none, none] H1 := hbk _ _ ⟨_, k2, k3, rfl, e, hb1, q2, q3⟩
      refine ite2 (fun h => ?_) (fun _ => out)
      refine ⟨_, hc1, ?_⟩
      try rw [List.length_map]
      refine ite2 (fun h2 => ?_) (fun _ => out)
      obtain ⟨y, hy⟩ := at_int q3 h2
      refine ⟨_, hc1, _, hy, _, rfl, ⟨by decide, by decide, by decide⟩, ite2 (fun _ => ?_) (fun _ => ?_)⟩
      · refine ⟨_, hc1, _, hy, _, rfl, fun a ha => ?_, abs_nn y, by omega⟩
        rw [upd_ne ha, upd_ne ha, e a ha]
      · refine ⟨fun a ha => ?_, q2, by omega⟩
        rw [upd_ne ha, e a ha]
    · rintro σ H1 ⟨x, k2, k3, rfl, e, hb1, q2, q3⟩
      walk_at "rd"
      simp only [hb1]
      walk_at "rd"
      have hc1 : SqL K H1 c (ns.map V.int) := SqL.but hc hbc fun p o n h => (e p n).trans h
      refine ite2 (fun h => ?_) (fun h => ?_)
      · refine ⟨hm, ⟨hm, by omega⟩, k _ _ (Int.emod_nonneg _ (by omega)) (Int.emod_lt_of_pos _ hm) ⟨hbc, hl, ⟨_, _, _, upd_same, Int.ediv_nonneg (by omega) (by omega), q3⟩, SqL.but hc1 hbc fun p o n h => (upd_ne n).trans h⟩ fun a ha => ?_⟩
        rw [upd_ne ha, e a ha]
      · refine ⟨_, hc1, ?_⟩
        try rw [List.length_map]
        have fin : ∀ z : Int, Q (V.int (z % m)) H1 := fun z => k _ _ (Int.emod_nonneg _ (by omega)) (Int.emod_lt_of_pos _ hm) ⟨hbc, hl, ⟨_, _, _, hb1, q2, q3⟩, hc1⟩ e
        refine ite2 (fun h2 => ?_) (fun h2 => ?_)
        · obtain ⟨y, hy⟩ := at_int (ns := ns) (z := (n1 + 1) % (ns.length : Int)) (Int.emod_nonneg _ (by omega)) (Int.emod_lt_of_pos _ h2)
          refine ⟨_, hc1, by rw [List.length_map]; exact h2, _, hc1, _, by rw [List.length_map]; exact hy, _, rfl, .inr ⟨by decide, by decide⟩, .inr ⟨by decide, by decide⟩, by decide, cm_mod (by decide) (by decide), .inr ⟨by decide, by decide⟩, by decide, cm_mod (by decide) (by decide), .inr ⟨by decide, by decide⟩, ⟨by decide, by decide⟩, by decide, ⟨by decide, by decide⟩, hm, fin _⟩
        · exact ⟨.inr ⟨by decide, by decide⟩, .inr ⟨by decide, by decide⟩, by decide, cm_mod (by decide) (by decide), .inr ⟨by decide, by decide⟩, by decide, cm_mod (by decide) (by decide), .inr ⟨by decide, by decide⟩, ⟨by decide, by decide⟩, by decide, ⟨by decide, by decide⟩, hm, fin _⟩
end
section
variable {P : Program} {w : World} {K : PySem.W.Frag} {mg : Str → Option Value} {base : Heap} {a : Ad}
theorem But.of {b : Addr} {H H' : Hp} (e : ∀ p, p ≠ b → H' p = H p) : But b H H' := fun p o n h => (e p n).trans h
theorem But.updn {b p : Addr} {o : HO} {H H' : Hp} (e : But b H H') (h : H p = none) : But b H (upd H' p o) := fun q u n z => (upd_ne (ne_of_none z h)).trans (e q u n z)
theorem BoxAt.upd {H0 H : Hp} {b c p : Addr} {ns : List Int} {o : HO} (B0 : BoxAt K H0 b c ns) (B : BoxAt K H b c ns) (n : p ≠ b) (e : But b H0 (L2.upd H p o)) : BoxAt K (L2.upd H p o) b c ns :=
  let ⟨n1, n2, n3, h, u, v⟩ := B.ob
  ⟨B.ne, B.len, ⟨n1, n2, n3, (upd_ne (Ne.symm n)).trans h, u, v⟩, SqL.but B0.cells B.ne e⟩
theorem drw {H : Hp} {b c : Addr} {ns : List Int} {m : Int} {Q : VK} {E : XK} (B : BoxAt K H b c ns) (h0 : 0 < m) (h1 : m < 1000000000) (k : ∀ (d : Nat) (H' : Hp), (d : Int) < m → BoxAt K H' b c ns → But b H H' → Q (.int (d : Nat)) H') : spDraw K [.ref b, .int m] H Q E :=
  ⟨b, c, ns, m, rfl, B, h0, h1, fun d H' p q B' e => by
    obtain ⟨j, rfl⟩ : ∃ j : Nat, d = (j : Int) := ⟨d.toNat, by omega⟩
    exact k j H' q B' (But.of e)⟩
end

end K23
namespace K23
open PySem PySem.Spec PyProof.Rows L2 Own OwnSeq OwnSet OwnComb OwnSort OwnHot OwnExN OwnProj
local macro_rules | `(tactic| walk_at "rd") => `(tactic| simp only [tSeq, tAsg, tOp, tUn, tVar, gName, gSub, rIxL, rIxT, rSetL, tC, rI0, rI, rU, rEq, rNe, tCons, tNil, tCB, tLst, tTup, tIfS, tAnd, tOr, tNot, tAndV, tOrV, tNotV, tTest, tB, tIf, tRet, tDrop, tNext, tBreak, tCont, tCall, tCallS, L2.WE, tMakeS, rIsS, rIsB, tChain, gSeq, gRest, gCons, gNil, tFor_seq, tFor_enumS, tLc_seq, tLc_enumS, rAny, rAll, L2.tMeth, StX.tStar, rIn, tLstRg, tRg1, tRg2, rSetI, rSortedSet, rInDT, rInD, rNotInD, rEqD, rNeD, iComb, tFld, tMake, tMkO, sFld, tOst, tNever, tBits, clv, isB,
  Rd.tFor_rng1, Rd.tFor_rng2, Rd.tFor_list, Rd.tFor_tup, Rd.tLc_list, Rd.tLc_tup, Rd.tLc_rng1, Rd.LcTurn, tYes, wipe, Rd.rLenL, Rd.rLenT, Rd.rIntI, Rd.rIxH, rIxHT,  HO.tup.injEq, Rd.at0, Rd.at1, Rd.at2, Rd.at3, Rd.ixN40, Rd.ixN41, Rd.ixN42, Rd.ixN43, Rd.scal_ii, cxOf,
  List.length_cons, List.length_nil, List.length_map, List.map_cons, List.map_nil, upd_same, decide_eq_true_eq, decide_true, decide_false, if_true, if_false, Bool.false_eq_true, Bool.not_true, Bool.not_false, HO.lst.injEq, HO.ins.injEq, List.set_cons_zero, List.set_cons_succ, List.getElem?_cons_zero, List.getElem?_cons_succ, List.append_nil, List.nil_append, List.cons_append, Option.some.injEq, V.ref.injEq, V.int.injEq, V.bl.injEq, List.cons.injEq, exists_eq_left', exists_and_left, exists_eq_left, true_and, and_true, and_self, and_assoc, implies_true, reduceCtorEq, Nat.reduceAdd])

/-! ### masks by reckoning -/
def pop (m : Nat) : Nat := (bits m).length
def cntL (n : Nat) : List Nat := (List.range n).map pop
theorem and_nat {x y : Nat} : Builtin.bitAnd (x : Int) (y : Int) = ((x &&& y : Nat) : Int) := by
  rw [bitAnd_pp (by omega) (by omega), Int.toNat_natCast, Int.toNat_natCast]
theorem or_nat {x y : Nat} : Builtin.bitOr (x : Int) (y : Int) = ((x ||| y : Nat) : Int) := by
  rw [bitOr_and, bitAnd_pp (by omega) (by omega), Int.toNat_natCast, Int.toNat_natCast]
  have := nat_or_add_and x y
  omega
theorem sub_iff {m t : Nat} : (Builtin.bitAnd (m : Int) (t : Int) = (m : Int)) ↔ Sub m t := by
  rw [and_nat]
  unfold Sub
  omega
theorem sub_trans {x y z : Nat} (a : Sub x y) (b : Sub y z) : Sub x z := by
  unfold Sub at *
  rw [← a, Nat.and_assoc, b]
theorem sub_zero (x : Nat) : Sub 0 x := Nat.zero_and x
theorem sub_le {x y : Nat} (a : Sub x y) : x ≤ y := a ▸ Nat.and_le_right
theorem pow64 {n : Nat} (h : n ≤ 6) : 2 ^ n ≤ 64 := Nat.le_trans (Nat.pow_le_pow_right (by decide) h) (by decide)
theorem pow_cast (n : Nat) : (1 : Int) * 2 ^ (n : Int).toNat = ((2 ^ n : Nat) : Int) := by
  rw [Int.toNat_natCast, Int.one_mul]
  rfl
theorem pbd {n : Nat} (h : n ≤ 6) : -(2 : Int) ^ 62 ≤ 1 * 2 ^ (n : Int).toNat ∧ (1 : Int) * 2 ^ (n : Int).toNat < 2 ^ 62 ∧ ((1 : Int) * 2 ^ (n : Int).toNat).toNat = 2 ^ n ∧ ((1 : Int) * 2 ^ (n : Int).toNat - 1).toNat = 2 ^ n - 1 := by
  rw [Int.toNat_natCast]
  have hn : n = 0 ∨ n = 1 ∨ n = 2 ∨ n = 3 ∨ n = 4 ∨ n = 5 ∨ n = 6 := by omega
  rcases hn with rfl | rfl | rfl | rfl | rfl | rfl | rfl <;> decide
theorem sum_cast : ∀ s : List Nat, (s.map fun g => ((2 ^ g : Nat) : Int)).sum = ((mk s : Nat) : Int)
  | [] => rfl
  | g :: s => by
    have := sum_cast s
    unfold mk at this ⊢
    rw [List.map_cons, List.sum_cons, this, List.map_cons, List.sum_cons]
    exact (Int.natCast_add _ _).symm
theorem cpw {n : Nat} (h : n ≤ 8) : CPow 1 (n : Int) := ⟨by omega, by omega, by decide⟩
theorem shr_mod (m k : Nat) : ((m : Int) / 2 ^ (k : Int).toNat) = ((m / 2 ^ k : Nat) : Int) := by
  rw [Int.toNat_natCast, Int.natCast_ediv]
  rfl
theorem pops : ((List.range 64).all fun m => decide (m = 0) || decide (pop m = pop (m / 2) + m % 2)) = true := by decide +kernel
theorem pop_at {m : Nat} (h : m < 64) (h0 : m ≠ 0) : pop m = pop (m / 2) + m % 2 := by
  have z := List.all_eq_true.mp pops m (List.mem_range.mpr h)
  simpa [h0] using z
theorem in_bool {S : List Bool} {m : Nat} (h : m < S.length) : atI (S.map V.bl) (m : Nat) = some (V.bl (In S m)) := by
  refine atI_nat ?_
  unfold In
  rw [List.getElem?_map, List.getElem?_eq_getElem h, List.getD_eq_getElem?_getD, List.getElem?_eq_getElem h]
  rfl
theorem ixN_of {n t : Nat} (h : t < n) : ixN n (t : Int) = some t := by
  unfold ixN
  split <;> first
    | (split <;> first | rfl | (simp; omega))
    | (simp; omega)
theorem in_set {S : List Bool} {t m : Nat} {b : Bool} (h : t < S.length) : In (S.set t b) m = if m = t then b else In S m := by
  unfold In
  rw [List.getD_eq_getElem?_getD, List.getElem?_set]
  by_cases e : t = m
  · subst e
    rw [if_pos rfl, if_pos rfl, if_pos h]
    rfl
  · rw [if_neg e, if_neg (fun z => e z.symm), List.getD_eq_getElem?_getD]
theorem iv_at {s : List Nat} {j g : Nat} (h : s[j]? = some g) : atI (iv s) (j : Nat) = some (V.int (g : Nat)) := atI_nat (by unfold iv; rw [List.getElem?_map, h]; rfl)
theorem cnt_at {N j : Nat} (h : j < N) : (cntL N)[j]? = some (pop j) := by
  unfold cntL
  rw [List.getElem?_map, List.getElem?_range h]
  rfl
theorem fam_zero {n : Nat} (n1 : 1 ≤ n) (n6 : n ≤ 6) : Fam n ((List.range (2 ^ n)).map fun m => decide (m = 0)) := by
  have val : ∀ m, In ((List.range (2 ^ n)).map fun m => decide (m = 0)) m = decide (m = 0) := fun m => by
    unfold In
    rw [List.getD_eq_getElem?_getD, List.getElem?_map]
    by_cases h : m < 2 ^ n
    · rw [List.getElem?_range h]; rfl
    · rw [List.getElem?_eq_none (by rw [List.length_range]; omega)]
      have : 0 < 2 ^ n := Nat.pow_pos (by decide)
      rw [decide_eq_false (by omega)]
      rfl
  refine ⟨n1, n6, by rw [List.length_map, List.length_range], by rw [val]; decide, fun m m' s h => ?_⟩
  rw [val] at h ⊢
  have h := of_decide_eq_true h
  have := sub_le s
  exact decide_eq_true (by omega)
section
variable {P : Program} {w : World} {K : PySem.W.Frag} {mg : Str → Option Value} {base : Heap} {a : Ad}
/-! ### _law_things, _law_mask -/
def spThings : Sp := fun vs H Q _ => ∃ (m : Nat), vs = [.int m] ∧ ∀ r H', H r = none → Same H H' → H' r = some (.tup (iv (bits m))) → Q (.ref r) H'
theorem sc_law_things : FnScope ["mask", "thing"] ["mask"] (defScope s_law_things) := ⟨rfl, rfl, rfl, by decide +kernel, rfl, by decide +kernel, by decide +kernel⟩
theorem ok_law_things (T : Txt K mg a) : FnOk P w K mg base CX0 1 a.a_law_things a.d_law_things ["mask"] spThings := by
  refine T.fn_law_things.ok sc_law_things (fun vs H Q E h => ?_) (fun cdv A outer s H vs Q E hr h => ?_)
  · obtain ⟨m, rfl, _⟩ := h
    rfl
  · obtain ⟨m, rfl, k⟩ := h
    refine ⟨_, (pss_one (ps_ret (pe_callTy call_tuple_of (by rfl) T.no_tuple (by decide +kernel) (pa_cons (pe_lc (own := [("thing", 1)]) (by rfl) sc_law_things.nd (pi_range1 (by rfl) T.no_range (pa_cons pe_int pa_nil)) (blkOk_by (own := [("thing", 1)]) (N := ["mask", "thing"]) (sc := defScope s_law_things) (by decide +kernel)) (fun _ _ _ _ _ => pg_name (i := 1) sc_law_things.nd rfl (Or.inl rfl)) (fun _ _ _ _ _ => pts_one (pt_cmpR op_eq (pe_op op_mod (pe_callTy Rd.call_intI (by rfl) T.no_int (by decide +kernel) (pa_cons (pe_op op_shr (pv 0) (pv 1)) pa_nil)) pe_int) pe_int (nomark _))) (fun _ _ _ _ _ => (pv 1))) pa_nil)))), ?_⟩
    show (_ : TS) _ [some (V.int m), none] H
    walk_at "rd"
    refine ⟨by decide, by decide, Rd.lcl_rng (fun D i H5 => H D = none ∧ Same H H5 ∧ H5 D = some (.lst (iv ((List.range i).filter (bit m))))) (fun D hD => ⟨hD, same_upd hD, upd_same⟩) (fun D i H5 hi ⟨n5, e5, a5⟩ => ?_) (fun D H5 _ ⟨n5, e5, a5⟩ => ?_)⟩
    · walk_at "rd"
      have iq : (0 + (i : Int)).toNat = i := by omega
      have bt : ((m : Int) / 2 ^ i % 2 = 1) = (bit m i = true) := by
        unfold bit
        rw [decide_eq_true_eq]
        have z : (m : Int) / 2 ^ i % 2 = ((m / 2 ^ i % 2 : Nat) : Int) := by
          rw [Int.natCast_emod, Int.natCast_ediv]
          rfl
        rw [z]
        exact propext ⟨fun h => by omega, fun h => by omega⟩
      have i6 : i < 6 := hi
      have fl : ((List.range i).filter (bit m)).length ≤ i := by
        have := List.length_filter_le (bit m) (List.range i)
        rwa [List.length_range] at this
      refine ⟨by omega, by decide, ?_⟩
      rw [iq, List.range_succ, List.filter_append]
      refine ite2 (fun h => ⟨_, a5, small (by rw [iv_len]; omega), n5, fun b o hb => (upd_ne (ne_of_none hb n5)).trans (e5 _ _ hb), ?_⟩) (fun h => ⟨n5, e5, ?_⟩)
      · rw [bt] at h
        rw [List.filter_cons_of_pos h, Int.zero_add]
        unfold iv
        rw [List.map_append]
        rfl
      · rw [bt] at h
        rw [List.filter_cons_of_neg h, List.filter_nil, List.append_nil]
        exact a5
    · exact ⟨D, rfl, _, .inl ⟨SqL.of a5, fun r hr => k r _ (e5.free hr) (e5.trans (same_upd hr)) upd_same⟩⟩
end

end K23
namespace K23
open PySem PySem.Spec PyProof.Rows L2 Own OwnSeq OwnSet OwnComb OwnSort OwnHot OwnExN OwnProj
local macro_rules | `(tactic| walk_at "rd") => `(tactic| simp only [tSeq, tAsg, tOp, tUn, tVar, gName, gSub, rIxL, rIxT, rSetL, tC, rI0, rI, rU, rEq, rNe, tCons, tNil, tCB, tLst, tTup, tIfS, tAnd, tOr, tNot, tAndV, tOrV, tNotV, tTest, tB, tIf, tRet, tDrop, tNext, tBreak, tCont, tCall, tCallS, L2.WE, tMakeS, rIsS, rIsB, tChain, gSeq, gRest, gCons, gNil, tFor_seq, tFor_enumS, tLc_seq, tLc_enumS, rAny, rAll, L2.tMeth, StX.tStar, rIn, tLstRg, tRg1, tRg2, rSetI, rSortedSet, rInDT, rInD, rNotInD, rEqD, rNeD, iComb, tFld, tMake, tMkO, sFld, tOst, tNever, tBits, clv, isB,
  Rd.tFor_rng1, Rd.tFor_rng2, Rd.tFor_list, Rd.tFor_tup, Rd.tLc_list, Rd.tLc_tup, Rd.tLc_rng1, Rd.LcTurn, tYes, wipe, Rd.rLenL, Rd.rLenT, Rd.rIntI, Rd.rIxH, rIxHT,  HO.tup.injEq, Rd.at0, Rd.at1, Rd.at2, Rd.at3, Rd.ixN40, Rd.ixN41, Rd.ixN42, Rd.ixN43, Rd.scal_ii, cxOf,
  List.length_cons, List.length_nil, List.length_map, List.map_cons, List.map_nil, upd_same, decide_eq_true_eq, decide_true, decide_false, if_true, if_false, Bool.false_eq_true, Bool.not_true, Bool.not_false, HO.lst.injEq, HO.ins.injEq, List.set_cons_zero, List.set_cons_succ, List.getElem?_cons_zero, List.getElem?_cons_succ, List.append_nil, List.nil_append, List.cons_append, Option.some.injEq, V.ref.injEq, V.int.injEq, V.bl.injEq, List.cons.injEq, exists_eq_left', exists_and_left, exists_eq_left, true_and, and_true, and_self, and_assoc, implies_true, reduceCtorEq, Nat.reduceAdd])

/-! ### rest_of, smaller_by_one -/
section
variable {P : Program} {w : World} {K : PySem.W.Frag} {mg : Str → Option Value} {base : Heap} {a : Ad}
def restL (s t : List Nat) : List Nat := s.filter fun g => !t.contains g
def spRest : Sp := fun vs H Q _ => ∃ (p q : Addr) (l l' : Bool) (s t : List Nat), vs = [.ref p, .ref q] ∧ H p = some (sq l (iv s)) ∧ H q = some (sq l' (iv t)) ∧ s.length ≤ 6 ∧ ∀ r H', H r = none → Same H H' → H' r = some (.tup (iv (restL s t))) → Q (.ref r) H'
theorem sc_rest_of : FnScope ["things", "out", "thing"] ["things", "out"] (defScope s_rest_of) := ⟨rfl, rfl, rfl, by decide +kernel, rfl, by decide +kernel, by decide +kernel⟩
theorem ok_rest_of (T : Txt K mg a) : FnOk P w K mg base CX0 1 a.a_rest_of a.d_rest_of ["things", "out"] spRest := by
  refine T.fn_rest_of.ok sc_rest_of (fun vs H Q E h => ?_) (fun cdv A outer s H vs Q E hr h => ?_)
  · obtain ⟨p, q, l, l', s, t, rfl, _⟩ := h
    rfl
  · obtain ⟨p, q, l, l', s, t, rfl, hp, hq, h6, k⟩ := h
    refine ⟨_, (pss_one (ps_ret (pe_callTy call_tuple_of (by rfl) T.no_tuple (by decide +kernel) (pa_cons (pe_lc (own := [("thing", 2)]) (by rfl) sc_rest_of.nd (pi_seq (pv 0)) (blkOk_by (own := [("thing", 2)]) (N := ["things", "out", "thing"]) (sc := defScope s_rest_of) (by decide +kernel)) (fun _ _ _ _ _ => pg_name (i := 2) sc_rest_of.nd rfl (Or.inl rfl)) (fun _ _ _ _ _ => pts_one (pt_cmpR (op_notInK K) (pv 2) (pv 1) (by with_unfolding_all rfl))) (fun _ _ _ _ _ => (pv 2))) pa_nil)))), ?_⟩
    show (_ : TS) _ [some (V.ref p), some (V.ref q), none] H
    walk_at "rd"
    refine ⟨l, _, hp, lcl_goes goes_seq (fun D i H5 => H D = none ∧ Same H H5 ∧ H5 D = some (.lst (iv (restL (s.take i) t)))) (fun D hD => ⟨hD, same_upd hD, upd_same⟩)
      (fun D i H5 _ h => h.2.1 _ _ hp) (fun D i x H5 H5' hi ⟨n5, e5, a5⟩ ⟨eq5, hx⟩ => ?_) (fun D H5 _ ⟨n5, e5, a5⟩ => ?_)⟩
    · subst eq5
      rw [iv_len] at hi
      obtain ⟨g, hg, rfl⟩ : ∃ g, s[i]? = some g ∧ x = V.int (g : Nat) := by
        unfold iv at hx
        rw [List.getElem?_map] at hx
        cases z : s[i]? with
        | none => rw [z] at hx; cases hx
        | some g => rw [z] at hx; exact ⟨g, rfl, (Option.some.inj hx).symm⟩
      walk_at "rd"
      refine ⟨_, seqOr (e5 _ _ hq), rfl, iv_flat t, ?_⟩
      have st : restL (s.take (i + 1)) t = restL (s.take i) t ++ (if t.contains g = true then [] else [g]) := by
        unfold restL
        rw [List.take_add_one, hg, List.filter_append]
        cases z : t.contains g with
        | true => rw [show (some g).toList = [g] from rfl, List.filter_cons_of_neg (by rw [z]; decide)]; rfl
        | false => rw [show (some g).toList = [g] from rfl, List.filter_cons_of_pos (by rw [z]; decide)]; rfl
      rw [inV_iv, st]
      cases z : t.contains g with
      | true =>
        rw [if_neg (by decide), if_pos rfl, List.append_nil]
        exact ⟨n5, e5, a5⟩
      | false =>
        rw [if_pos (by decide), if_neg (by decide)]
        refine ⟨_, a5, small ?_, n5, fun b o hb => (upd_ne (ne_of_none hb n5)).trans (e5 _ _ hb), ?_⟩
        · rw [iv_len]
          have := List.length_filter_le (fun g => !t.contains g) (s.take i)
          rw [List.length_take] at this
          show (restL (s.take i) t).length < 1000
          unfold restL
          omega
        · unfold iv
          rw [List.map_append]
          rfl
    · rw [iv_len, List.take_length] at a5
      exact ⟨D, rfl, _, .inl ⟨SqL.of a5, fun r hr => k r _ (e5.free hr) (e5.trans (same_upd hr)) upd_same⟩⟩
theorem at_iv' {s : List Nat} {i : Nat} {x : V} (hx : (iv s)[i]? = some x) : ∃ g, s[i]? = some g ∧ x = V.int (g : Nat) := at_iv hx
def spLess : Sp := fun vs H Q _ => ∃ (p : Addr) (s : List Nat), vs = [.ref p] ∧ H p = some (.tup (iv s)) ∧ s.length ≤ 6 ∧ ∀ q ys H', H q = none → Same H H' → H' q = some (.lst ys) → Tups H' ys (s.map fun g => restL s [g]) → Q (.ref q) H'
theorem sc_smaller_by_one : FnScope ["things", "thing"] ["things"] (defScope s_smaller_by_one) := ⟨rfl, rfl, rfl, by decide +kernel, rfl, by decide +kernel, by decide +kernel⟩
theorem ok_smaller_by_one (T : Txt K mg a) : FnOk P w K mg base CX0 2 a.a_smaller_by_one a.d_smaller_by_one ["things"] spLess := by
  refine T.fn_smaller_by_one.ok sc_smaller_by_one (fun vs H Q E h => ?_) (fun cdv A outer s H vs Q E hr h => ?_)
  · obtain ⟨p, s, rfl, _⟩ := h
    rfl
  · obtain ⟨p, s, rfl, hp, h6, k⟩ := h
    refine ⟨_, (pss_one (ps_ret (pe_lc (own := [("thing", 1)]) (by rfl) sc_smaller_by_one.nd (pi_seq (pv 0)) (blkOk_by (own := [("thing", 1)]) (N := ["things", "thing"]) (sc := defScope s_smaller_by_one) (by decide +kernel)) (fun _ _ _ _ _ => pg_name (i := 1) sc_smaller_by_one.nd rfl (Or.inl rfl)) (fun _ _ _ _ _ => pts_nil) (fun _ _ _ _ _ => (pe_call (ok_rest_of T) (hr.mono (by decide)) (by rfl) T.mg_rest_of T.fn_rest_of.kp T.b_rest_of .nil pass0 (pa_cons (pv 0) (pa_cons (pe_tup (pa_cons (pv 1) pa_nil)) pa_nil))))))), ?_⟩
    show (_ : TS) _ [some (V.ref p), none] H
    walk_at "rd"
    refine ⟨false, _, hp, lcl_goes goes_seq (fun D i H5 => H D = none ∧ Same H H5 ∧ ∃ ys, H5 D = some (.lst ys) ∧ Tups H5 ys ((s.take i).map fun g => restL s [g])) (fun D hD => ⟨hD, same_upd hD, [], upd_same, trivial⟩)
      (fun D i H5 _ h => h.2.1 _ _ hp) (fun D i x H5 H5' hi ⟨n5, e5, ys, a5, t5⟩ ⟨eq5, hx⟩ => ?_) (fun D H5 _ ⟨n5, e5, ys, a5, t5⟩ => ?_)⟩
    · subst eq5
      rw [iv_len] at hi
      obtain ⟨g, hg, rfl⟩ := at_iv' hx
      walk_at "rd"
      refine ⟨by decide, fun t ht => ?_⟩
      have et := same_upd (o := .tup [V.int (g : Int)]) ht
      refine ⟨p, t, false, false, s, [g], rfl, et _ _ (e5 _ _ hp), by rw [upd_same]; rfl, h6, fun r H6 hr6 e6 a6 => ?_⟩
      have l5 := t5.len
      rw [List.length_map, List.length_take] at l5
      refine ⟨ys, e6 _ _ (et _ _ a5), small (by omega), n5, fun b o hb => (upd_ne (ne_of_none hb n5)).trans (e6 _ _ (et _ _ (e5 _ _ hb))), ?_⟩
      rw [List.take_add_one, hg, List.map_append]
      exact Tups.upd (e6 _ _ (et _ _ a5)) (Tups.app ((t5.same et).same e6) ⟨⟨r, rfl, a6⟩, trivial⟩)
    · rw [iv_len, List.take_length] at t5
      exact k D ys H5 n5 e5 a5 t5
end

end K23
namespace K23
open PySem PySem.Spec PyProof.Rows L2 Own OwnSeq OwnSet OwnComb OwnSort OwnHot OwnExN OwnProj
local macro_rules | `(tactic| walk_at "rd") => `(tactic| simp only [tSeq, tAsg, tOp, tUn, tVar, gName, gSub, rIxL, rIxT, rSetL, tC, rI0, rI, rU, rEq, rNe, tCons, tNil, tCB, tLst, tTup, tIfS, tAnd, tOr, tNot, tAndV, tOrV, tNotV, tTest, tB, tIf, tRet, tDrop, tNext, tBreak, tCont, tCall, tCallS, L2.WE, tMakeS, rIsS, rIsB, tChain, gSeq, gRest, gCons, gNil, tFor_seq, tFor_enumS, tLc_seq, tLc_enumS, rAny, rAll, L2.tMeth, StX.tStar, rIn, tLstRg, tRg1, tRg2, rSetI, rSortedSet, rInDT, rInD, rNotInD, rEqD, rNeD, iComb, tFld, tMake, tMkO, sFld, tOst, tNever, tBits, clv, isB,
  Rd.tFor_rng1, Rd.tFor_rng2, Rd.tFor_list, Rd.tFor_tup, Rd.tLc_list, Rd.tLc_tup, Rd.tLc_rng1, Rd.LcTurn, tYes, wipe, Rd.rLenL, Rd.rLenT, Rd.rIntI, Rd.rIxH, rIxHT,  HO.tup.injEq, Rd.at0, Rd.at1, Rd.at2, Rd.at3, Rd.ixN40, Rd.ixN41, Rd.ixN42, Rd.ixN43, Rd.scal_ii, cxOf,
  List.length_cons, List.length_nil, List.length_map, List.map_cons, List.map_nil, upd_same, decide_eq_true_eq, decide_true, decide_false, if_true, if_false, Bool.false_eq_true, Bool.not_true, Bool.not_false, HO.lst.injEq, HO.ins.injEq, List.set_cons_zero, List.set_cons_succ, List.getElem?_cons_zero, List.getElem?_cons_succ, List.append_nil, List.nil_append, List.cons_append, Option.some.injEq, V.ref.injEq, V.int.injEq, V.bl.injEq, List.cons.injEq, exists_eq_left', exists_and_left, exists_eq_left, true_and, and_true, and_self, and_assoc, implies_true, reduceCtorEq, Nat.reduceAdd])

section
variable {P : Program} {w : World} {K : PySem.W.Frag} {mg : Str → Option Value} {base : Heap} {a : Ad}
open LamX OwnLam in
/-- what family_of makes of a size and a lambda that tells of each set whether it fits -/
def TTfit (C : Addr) : V → (V → XK → Hp → VK → Prop) → Hp → VK → Prop := fun v0 tl H Q => ∃ (n : Nat) (S : List Bool) (fit : List Nat → Bool), v0 = .int n ∧ Fam n S ∧
  (∀ s, s ∈ allS n → (In S (mk s) = true ↔ fit s = true ∧ ∀ g ∈ s, In S (mk (restL s [g])) = true)) ∧
  (∀ (t : Addr) (s : List Nat) (H1 : Hp) (Q1 : VK), s ∈ allS n → Same H H1 → H1 t = some (.tup (iv s)) → (∀ H2, Same H1 H2 → Q1 (.bl (fit s)) H2) → tl (.ref t) (fun _ _ _ => False) H1 Q1) ∧
  ∀ g H', H g = none → Same H H' → FamV C H' g n S → Q (.ref g) H'
theorem Tups.keep {H H' : Hp} : ∀ {xs : List V} {ss : List (List Nat)}, (∀ q l, H q = some (.tup l) → H' q = some (.tup l)) → Tups H xs ss → Tups H' xs ss
  | [], [], _, _ => trivial
  | _ :: _, _ :: _, k, ⟨⟨q, e, h⟩, r⟩ => ⟨⟨q, e, k q _ h⟩, Tups.keep k r⟩
  | [], _ :: _, _, h => h.elim
  | _ :: _, [], _, h => h.elim
theorem Tups.seqs {H : Hp} : ∀ {xs : List V} {ss : List (List Nat)}, Tups H xs ss → Seqs H xs ss
  | [], [], _ => trivial
  | _ :: _, _ :: _, ⟨⟨q, e, h⟩, r⟩ => ⟨⟨q, false, e, h⟩, Tups.seqs r⟩
  | [], _ :: _, h => h.elim
  | _ :: _, [], h => h.elim
theorem make_fam {C l : Addr} {H1 : Hp} {n : Nat} {S : List Bool} {xs : List V} {ss : List (List Nat)} {Q : VK} (hl : H1 l = some (.lst xs)) (tu : Tups H1 xs ss) (F : Fam n S) (l64 : ss.length ≤ 64) (mem : ∀ s, s ∈ ss ↔ s ∈ famL n S)
    (k : ∀ g H', H1 g = none → Same H1 H' → FamV C H' g n S → Q (.ref g) H') (x dx : Addr) (hx : H1 x = none) (hdx : H1 dx = none) (ne : dx ≠ x) :
    spFam C [.ref x, .int n, .ref l] (upd (upd H1 dx (.own x)) x (.ins C dx [])) (fun v H2 => v = .non ∧ Q (.ref x) H2) E0 := by
  have s1 : Same H1 (upd H1 dx (.own x)) := same_upd hdx
  have s2 : Same (upd H1 dx (.own x)) (upd (upd H1 dx (.own x)) x (.ins C dx [])) := same_upd ((upd_ne ne.symm).trans hx)
  have s12 := s1.trans s2
  refine ⟨x, dx, l, n, S, xs, ss, rfl, upd_same, s12 _ _ hl, tu.seqs.same s12, F, l64, mem, fun t ys H3 H4 e3 ht tt e4 => ⟨rfl, ?_⟩⟩
  subst e4
  have x3 := e3 _ _ upd_same
  exact k x _ hx (fun b o hb => (upd_ne (ne_of_none hb hx)).trans (e3 _ _ (s12 _ _ hb))) ⟨F, dx, t, ys, upd_same, (upd_ne fun z => by rw [z, x3] at ht; cases ht).trans ht, Tups.keep (fun z l h => (upd_ne fun e => by rw [e, x3] at h; cases h).trans h) tt⟩
theorem less_all : ((List.range 7).all fun n => (List.range (allS n).length).all fun i => ((allS n).getD i []).all fun g => ((allS n).take i).contains (restL ((allS n).getD i []) [g])) = true := by decide +kernel
theorem less_at {n i : Nat} {s : List Nat} (h : n ≤ 6) (hs : (allS n)[i]? = some s) {g : Nat} (hg : g ∈ s) : restL s [g] ∈ (allS n).take i := by
  have z := List.all_eq_true.mp (List.all_eq_true.mp less_all n (List.mem_range.mpr (by omega))) i (List.mem_range.mpr (List.getElem?_eq_some_iff.mp hs).1)
  rw [List.getD_eq_getElem?_getD, hs] at z
  exact List.contains_iff_mem.mp (List.all_eq_true.mp z g hg)
theorem sc_family_of : FnScope ["size", "fits", "held", "things", "part"] ["size", "fits"] (defScope s_family_of) := ⟨rfl, rfl, rfl, by decide +kernel, rfl, by decide +kernel, by decide +kernel⟩
open LamX OwnLam in
theorem fam_of (T : Txt K mg a) {A : Around} {outer : List Env} {s0 : Shared} {H : Hp} {cdv : Value} {f c' : Addr} {q : Str} {v0 : V} {Q : VK} {tl : V → XK → Hp → VK → Prop} (hr : Room 9 (A.deeper (envOfC "family_of" (defScope s_family_of) s0.heap.objs.size a.a_family_of cdv)))
    (act : ∀ (W : WX) (pn : List (Addr × Obj)) (xe : Value → Shared → Prop) (E : XK) (p1 p2 : Pos) (e1 : Expr) (t1 : TE), Takes ((cxOf C8.CX0 P w K mg base ["size", "fits", "held", "things", "part"] "family_of" (defScope s_family_of) a.a_family_of cdv A outer s0 H C8.E0).tr pn xe) W → (∀ cls d σ' H', E cls d H' → W cls d σ' H') →
      PE ((cxOf C8.CX0 P w K mg base ["size", "fits", "held", "things", "part"] "family_of" (defScope s_family_of) a.a_family_of cdv A outer s0 H C8.E0).tr pn xe) e1 t1 →
      starEach [e1] (envOfC "family_of" (defScope s_family_of) s0.heap.objs.size a.a_family_of cdv) = [(false, eval e1 (envOfC "family_of" (defScope s_family_of) s0.heap.objs.size a.a_family_of cdv))] →
      PE ((cxOf C8.CX0 P w K mg base ["size", "fits", "held", "things", "part"] "family_of" (defScope s_family_of) a.a_family_of cdv A outer s0 H C8.E0).tr pn xe) (.Call (.Name "fits" p1) [e1] [] p2)
        (fun σZ HZ Q => σZ[1]? = some (some (.ref f)) ∧ t1 σZ HZ fun v H1 => H1 c' = some (CodeO c' q) ∧ tl v E H1 Q))
    (hc : H c' = some (CodeO c' q)) (h : TTfit a.C_Family v0 tl H Q) :
    ∃ t, PSs (cxOf C8.CX0 P w K mg base ["size", "fits", "held", "things", "part"] "family_of" (defScope s_family_of) a.a_family_of cdv A outer s0 H C8.E0).nox (defBody s_family_of) t ∧ t { nx := fun _ H' => Q .non H', rt := Q } (L2.start ["size", "fits", "held", "things", "part"] [v0, .ref f]) H := by
  obtain ⟨n, S, fit, rfl, F, hS, hfit, k⟩ := h
  refine ⟨_, (pss_cons (ps_set (i := 2) sc_family_of.nd rfl (Or.inr rfl) (pe_lst pa_nil))
      (pss_cons (ps_for PassesOwn.never rfl (pi_list (pe_call (ok_all_sets T) (hr.mono (by decide)) (by rfl) T.mg_all_sets T.fn_all_sets.kp T.b_all_sets .nil pass0 (pa_cons (pv 0) pa_nil))) (pg_name (i := 3) sc_family_of.nd rfl (Or.inl rfl))
        (pss_one (ps_if (PW.pt (pw_and (pt_val (act _ _ _ _ _ _ _ _ LamX.takes0 (fun _ _ _ _ z => z) (pv 3) (by rfl))) (pw_and1 (pt_val (pe_callB (cr_all rfl) (by rfl) T.no_all (by decide +kernel) (pa_cons (pe_lc (own := [("part", 4)]) (by rfl) sc_family_of.nd (pi_list (pe_call (ok_smaller_by_one T) (hr.mono (by decide)) (by rfl) T.mg_smaller_by_one T.fn_smaller_by_one.kp T.b_smaller_by_one .nil pass0 (pa_cons (pv 3) pa_nil))) (blkOk_by (own := [("part", 4)]) (N := ["size", "fits", "held", "things", "part"]) (sc := defScope s_family_of) (by decide +kernel)) (fun _ _ _ _ _ => pg_name (i := 4) sc_family_of.nd rfl (Or.inl rfl)) (fun _ _ _ _ _ => pts_nil) (fun _ _ _ _ _ => (pe_cmpR (inD_at K (u65 hr)) (pv 4) (pv 2) (by with_unfolding_all rfl)))) pa_nil)))))) (pss_one (ps_expr (pe_bm PySem.F.plainAttrs_list PySem.F.slot_list_append PySem.F.type_list_append mt_append (pv 2) (pa_cons (pv 3) pa_nil)))) pss_nil)))
      (pss_one (ps_ret (pe_make T.mk_Family (ok_Family_init T) (hr.mono (by decide)) (by rfl) T.mg_Family T.b_Family_init .nil pass0 (pa_cons (pv 0) (pa_cons (pv 2) pa_nil))))))), ?_⟩
  show (_ : TS) _ [some (V.int n), some (V.ref f), none, none, none] H
  walk_at "rd"
  refine ⟨by decide, fun c hc0 => ⟨n, rfl, F.n6, fun u ys H2 u0 e2 hu tu => ⟨u, rfl, ⟨_, SqL.of hu⟩, ?_⟩⟩⟩
  have ec := same_upd (o := .lst []) hc0
  have hc2 := e2 _ _ (upd_same (H := H) (a := c) (o := .lst []))
  have e02 : Same H H2 := ec.trans e2
  have uc : u ≠ c := fun z => by rw [z, upd_same] at u0; cases u0
  have ul := tu.len
  refine Rd.loop_listC (xs := ys) (fun σ H' => ∃ acc o4 o5, σ = [some (V.int n), some (V.ref f), some (V.ref c), o4, o5] ∧ Same H H' ∧ H' c = some (.lst acc) ∧ Tups H' acc (famL n S))
    (fun i σ H' => ∃ acc o4 o5, σ = [some (V.int n), some (V.ref f), some (V.ref c), o4, o5] ∧ (∀ b o, b ≠ c → H2 b = some o → H' b = some o) ∧ H' c = some (.lst acc) ∧ acc.length ≤ i ∧ Tups H' acc (((allS n).take i).filter fun s => In S (mk s)))
    ⟨[], none, none, rfl, fun _ _ _ h => h, hc2, Nat.le_refl _, trivial⟩ (fun i σ H' _ ⟨_, _, _, _, e, _⟩ => SqL.of (e _ _ uc hu)) ?_ ?_ ?_
  · rintro bk hbk i x σ H3 hx ⟨acc, o4, o5, rfl, e3, hc3, al3, ta⟩
    obtain ⟨s', hs', t, rfl, ht⟩ := tu.at hx
    have sm := List.mem_of_getElem? hs'
    have tc : t ≠ c := fun z => by rw [z, hc2] at ht; cases ht
    have ht3 := e3 _ _ tc ht
    have e03 : Same H H3 := fun b o h => e3 _ _ (fun z => by rw [z, hc0] at h; cases h) (e02 _ _ h)
    have s6 := Nat.le_trans (allS_at sm F.n6).2.2.2.1 F.n6
    have i64 : i < 64 := by
      have := (List.getElem?_eq_some_iff.mp hs').1
      rw [allS_len F.n6] at this
      exact Nat.lt_of_lt_of_le this (Nat.le_trans (Nat.pow_le_pow_right (by decide) F.n6) (by decide))
    have nx : ((allS n).take (i + 1)).filter (fun s => In S (mk s)) = ((allS n).take i).filter (fun s => In S (mk s)) ++ (if In S (mk s') = true then [s'] else []) := by
      rw [List.take_add_one, hs', List.filter_append]
      cases z : In S (mk s') with
      | true => rw [show (some s').toList = [s'] from rfl, List.filter_cons_of_pos (p := fun s => In S (mk s)) z]; rfl
      | false => rw [show (some s').toList = [s'] from rfl, List.filter_cons_of_neg (p := fun s => In S (mk s)) (by rw [z]; decide)]; rfl
    walk_at "rd"
    refine ⟨e03 _ _ hc, hfit t s' H3 _ sm e03 ht3 fun H4 e4 => ⟨fit s', rfl, ?_⟩⟩
    have hc4 := e4 _ _ hc3
    have ta4 := ta.same e4
    have HS := hS s' sm
    refine ite2 (fun hf => ?_) (fun hf => ?_)
    · refine ⟨t, s', rfl, e4 _ _ ht3, s6, fun r zs H5 r0 e5 hr5 tz => ⟨r, rfl, ⟨_, SqL.of hr5⟩, ?_⟩⟩
      have zl := tz.len
      rw [List.length_map] at zl
      refine Rd.lcl_list (xs := zs) (fun D j H' => H5 D = none ∧ Same H5 H' ∧ H' D = some (.lst (((s'.take j).map fun g => In S (mk (restL s' [g]))).map V.bl))) (fun D hD => ⟨hD, same_upd hD, upd_same⟩) (fun D j H' _ h => SqL.of (h.2.1 _ _ hr5)) (fun D j x H6 hx ⟨n6, e6, a6⟩ => ?_) (fun D H6 _ ⟨n6, e6, a6⟩ => ?_)
      · obtain ⟨pp, hpp, v, rfl, hv⟩ := tz.at hx
        rw [List.getElem?_map] at hpp
        obtain ⟨g, hg, rfl⟩ : ∃ g, s'[j]? = some g ∧ pp = restL s' [g] := by
          cases z : s'[j]? with
          | none => rw [z] at hpp; cases hpp
          | some g => rw [z] at hpp; exact ⟨g, rfl, (Option.some.inj hpp).symm⟩
        have jl := (List.getElem?_eq_some_iff.mp hg).1
        have le := less_at F.n6 hs' (List.mem_of_getElem? hg)
        walk_at "rd"
        refine ⟨_, dp_set (e6 _ _ hv), _, .lst (SqL.of (e6 _ _ (e5 _ _ hc4))) (dp_sets ((ta4.same e5).same e6)), sh_set _, sh_list _, _, a6, small ?_, n6, fun b o hb => (upd_ne (ne_of_none hb n6)).trans (e6 _ _ hb), ?_⟩
        · rw [List.length_map, List.length_map, List.length_take]
          omega
        · rw [any_sets, List.take_add_one, hg]
          have eq : (((allS n).take i).filter fun s => In S (mk s)).contains (restL s' [g]) = In S (mk (restL s' [g])) := by
            rw [Bool.eq_iff_iff, List.contains_iff_mem, List.mem_filter]
            exact ⟨fun h => h.2, fun h => ⟨le, h⟩⟩
          rw [eq, List.map_append, List.map_append]
          rfl
      · rw [zl, List.take_length] at a6
        have e46 : Same H4 H6 := e5.trans e6
        have hc6 := e46 _ _ hc4
        refine ⟨D, rfl, _, SqL.of a6, ite2 (fun h => ?_) (fun h => ?_)⟩
        · have z : In S (mk s') = true := HS.mpr ⟨hf, fun g hg => by
            have := List.all_eq_true.mp h _ (List.mem_map.mpr ⟨g, hg, rfl⟩)
            exact this⟩
          simp only [tBM, rAppend]
          walk_at "rd"
          refine ⟨.inl ⟨rfl, _, SqL.of hc6⟩, acc, hc6, small (by omega), fun b o nb h => (upd_ne nb).trans (e46 _ _ (e4 _ _ (e3 _ _ nb h))), by rw [List.length_append]; exact Nat.succ_le_succ al3, ?_⟩
          rw [nx, if_pos z]
          exact Tups.upd hc6 (Tups.app (ta4.same e46) ⟨⟨t, rfl, e46 _ _ (e4 _ _ ht3)⟩, trivial⟩)
        · have z : ¬ In S (mk s') = true := fun z => h (List.all_eq_true.mpr fun x hx => by
            obtain ⟨g, hg, rfl⟩ := List.mem_map.mp hx
            exact (HS.mp z).2 g hg)
          refine ⟨fun b o nb h => e46 _ _ (e4 _ _ (e3 _ _ nb h)), acc, hc6, by omega, ?_⟩
          rw [nx, if_neg z, List.append_nil]
          exact ta4.same e46
    · have z : ¬ In S (mk s') = true := fun z => hf (HS.mp z).1
      refine ⟨fun b o nb h => e4 _ _ (e3 _ _ nb h), acc, hc4, by omega, ?_⟩
      rw [nx, if_neg z, List.append_nil]
      exact ta4
  · rintro σ H3 ⟨acc, o4, o5, rfl, e3, hc3, _, ta⟩
    rw [ul, List.take_length] at ta
    exact ⟨acc, o4, o5, rfl, fun b o h => e3 _ _ (fun z => by rw [z, hc0] at h; cases h) (e02 _ _ h), hc3, ta⟩
  · rintro σ H3 ⟨acc, o4, o5, rfl, e3, hc3, ta⟩
    walk_at "rd"
    refine make_fam hc3 ta F ?_ (fun s => Iff.rfl) (fun g H' hg e FV => k g H' (e3.free hg) (e3.trans e) FV)
    have l1 := List.length_filter_le (fun s => In S (mk s)) (allS n)
    rw [allS_len F.n6] at l1
    exact Nat.le_trans l1 (Nat.le_trans (Nat.pow_le_pow_right (by decide) F.n6) (by decide))
open LamX OwnLam in
theorem gives_family_of {X : Cx} (T : Txt X.K X.mg a) {cdv : Value} {q : Str} (hr : Room 10 X.A) : Gives2 X ["size", "fits", "held", "things", "part"] "family_of" (defScope s_family_of) a.a_family_of cdv (defBody s_family_of) "fits" q (TTfit a.C_Family) :=
  fun f c' v0 s H Q tl act hc h => fam_of T (hr.deeper _) act hc h
end

end K23
namespace K23
open PySem PySem.Spec PyProof.Rows L2 Own OwnSeq OwnSet OwnComb OwnSort OwnHot OwnExN OwnProj
local macro_rules | `(tactic| walk_at "rd") => `(tactic| simp only [tSeq, tAsg, tOp, tUn, tVar, gName, gSub, rIxL, rIxT, rSetL, tC, rI0, rI, rU, rEq, rNe, tCons, tNil, tCB, tLst, tTup, tIfS, tAnd, tOr, tNot, tAndV, tOrV, tNotV, tTest, tB, tIf, tRet, tDrop, tNext, tBreak, tCont, tCall, tCallS, L2.WE, tMakeS, rIsS, rIsB, tChain, gSeq, gRest, gCons, gNil, tFor_seq, tFor_enumS, tLc_seq, tLc_enumS, rAny, rAll, L2.tMeth, StX.tStar, rIn, tLstRg, tRg1, tRg2, rSetI, rSortedSet, rInDT, rInD, rNotInD, rEqD, rNeD, iComb, tFld, tMake, tMkO, sFld, tOst, tNever, tBits, clv, isB,
  Rd.tFor_rng1, Rd.tFor_rng2, Rd.tFor_list, Rd.tFor_tup, Rd.tLc_list, Rd.tLc_tup, Rd.tLc_rng1, Rd.LcTurn, tYes, wipe, Rd.rLenL, Rd.rLenT, Rd.rIntI, Rd.rIxH, rIxHT,  HO.tup.injEq, Rd.at0, Rd.at1, Rd.at2, Rd.at3, Rd.ixN40, Rd.ixN41, Rd.ixN42, Rd.ixN43, Rd.scal_ii, cxOf,
  List.length_cons, List.length_nil, List.length_map, List.map_cons, List.map_nil, upd_same, decide_eq_true_eq, decide_true, decide_false, if_true, if_false, Bool.false_eq_true, Bool.not_true, Bool.not_false, HO.lst.injEq, HO.ins.injEq, List.set_cons_zero, List.set_cons_succ, List.getElem?_cons_zero, List.getElem?_cons_succ, List.append_nil, List.nil_append, List.cons_append, Option.some.injEq, V.ref.injEq, V.int.injEq, V.bl.injEq, List.cons.injEq, exists_eq_left', exists_and_left, exists_eq_left, true_and, and_true, and_self, and_assoc, implies_true, reduceCtorEq, Nat.reduceAdd])

theorem lenK {X : Cx} (K : PySem.W.Frag) (hK : X.K = K := by rfl) : CallR X (.builtin "len") fun xs H Q => ∃ p ys, xs = [V.ref p] ∧ (SqL K H p ys ∨ SqT K H p ys) ∧ Q (V.int ys.length) H := by
  subst hK
  exact call_len_seq
/-! ### family_of(size, lambda a: ..) -/
open LamX OwnLam in
def oneSB (maker inner : Scope) (N : List Str) (a : Str) (j : Nat) : Bool := decide (inner.kind = .function) && !inner.isCoroutine && !inner.isGenerator && decide N.Nodup && decide (N[j]? = some a) && decide (inner.names.lookup a = some .local) &&
  inner.names.all fun y => !decide (y.2 = .cell) && (!decide (y.2 = .local) || decide (y.1 = a)) && (!decide (y.2 = .free) || decide (maker.names.lookup y.1 = some .cell) || decide (maker.names.lookup y.1 = some .free))
open LamX OwnLam in
theorem oneS_by {maker inner : Scope} {N : List Str} {a : Str} {j : Nat} (h : oneSB maker inner N a j = true) : OneS maker inner N a j := by
  unfold oneSB at h
  simp only [Bool.and_eq_true, Bool.or_eq_true, Bool.not_eq_true', decide_eq_true_eq, decide_eq_false_iff_not, List.all_eq_true] at h
  obtain ⟨⟨⟨⟨⟨⟨h1, h2⟩, h3⟩, h4⟩, h5⟩, h6⟩, h7⟩ := h
  refine ⟨h1, h2, h3, h4, h5, h6, fun y hy => ⟨(h7 y hy).1.1, fun e => (h7 y hy).1.2.resolve_left (fun z => z e)⟩, fun y hy e => ?_⟩
  rcases (h7 y hy).2 with (z | z) | z
  · exact absurd e z
  · exact .inl z
  · exact .inr z
section
variable {P : Program} {w : World} {K : PySem.W.Frag} {mg : Str → Option Value} {base : Heap} {a : Ad}
open LamX OwnLam in
theorem pe_famOf {X : Cx} {a : Ad} {inner : Scope} {v : Str} {j : Nat} {c P0 : Addr} {params : Arguments} {e0 body : Expr} {t0 : TE} {t : XK → TE} {p lpos pos : Pos} (T : Txt X.K X.mg a) (TB : TabB X.base X.mg c P0) (hcode : X.env.code = .ref c) (hr : Room 10 X.A) (hg : Gl X "family_of") (h0 : PE X e0 t0)
    (L : OneS X.env.scope inner X.N v j) (hdef : defaultsOf params X.env = ([], []))
    (hbind : ∀ (q : Str) (cl : List (Str × Addr)) (pm cv ctv u : Value), bindArgs (PySem.W.kla_fn "<lambda>" q params body inner cl pm cv ctv) ⟨[u], []⟩ = pure [(v, u)])
    (hbody : ∀ (A : Around) (outer : List Env) (s : Shared) (H : Hp) (E : XK) (f c' : Addr), Room 8 (A.deeper (lamEnv X inner s.heap.objs.size f c')) → PE (lamCx X A outer s H E inner f c') body (t E))
    (he : starEach [e0, .Lambda params body inner lpos] X.env = (false, eval e0 X.env) :: starEach [.Lambda params body inner lpos] X.env := by rfl) :
    PE X (.Call (.Name "family_of" p) [e0, .Lambda params body inner lpos] [] pos) (tTwo [(P0, X.env.qual ++ "<lambda>")] j (TTfit a.C_Family) t0 t) := by
  obtain ⟨oc, od, kV, doc, pm, an, cdv, ct, osl, e, lk, hcd⟩ := T.fn_family_of.ex
  have hb := T.b_family_of
  rw [e] at lk hb
  exact pe_two hg T.mg_family_of T.fn_family_of.kp lk hcd hb sc_family_of rfl (.inl rfl) (gives_family_of T hr) h0 TB hcode (List.mem_singleton.mpr rfl) (fun p hp _ => by cases List.mem_singleton.mp hp; rfl) hr L hdef hbind hbody he
/-- a def whose code object is told -/
theorem okC {x qual : Str} {st : Stmt} {f c : Addr} {fd : FuncData} {N ps : List Str} {k : Nat} {sp : Sp} (F : Fun K x qual st f fd) (hc : fd.code = .ref c) (S : FnScope N ps (defScope st)) (len : ∀ vs H Q E, sp vs H Q E → vs.length = ps.length)
    (hbody : ∀ (A : Around) (outer : List Env) (s : Shared) (H : Hp) (vs : List V) (Q : VK) (E : XK), Room k (A.deeper (envOfC qual (defScope st) s.heap.objs.size f (.ref c))) → sp vs H Q E →
      ∃ t, PSs (cxOf C8.CX0 P w K mg base N qual (defScope st) f (.ref c) A outer s H E).nox (defBody st) t ∧ t { nx := fun _ H' => Q .non H', rt := Q } (L2.start N vs) H) : FnOk P w K mg base C8.CX0 (k + 1) f fd ps sp := by
  obtain ⟨oc, od, kV, doc, pm, an, cdv, ct, osl, rfl, lk, hcd⟩ := F.ex
  obtain rfl : cdv = .ref c := hc
  refine fn_of lk hcd S len fun A outer s H vs Q E hr hsp => ?_
  obtain ⟨t, h, q⟩ := hbody A outer s H vs Q E hr hsp
  exact ⟨t, h.nox, q⟩
end
/-! ### families by what fits -/
theorem chain_all : ((List.range 7).all fun n => (allS n).all fun s => s.all fun g => s.isPerm (restL s [g] ++ [g]) && (allS n).contains (restL s [g]) && decide (mk (restL s [g]) < mk s)) = true := by decide +kernel
theorem chain_at {n : Nat} (h : n ≤ 6) {s : List Nat} (hs : s ∈ allS n) {g : Nat} (hg : g ∈ s) : s.Perm (restL s [g] ++ [g]) ∧ restL s [g] ∈ allS n ∧ mk (restL s [g]) < mk s := by
  have z := List.all_eq_true.mp (List.all_eq_true.mp (List.all_eq_true.mp chain_all n (List.mem_range.mpr (by omega))) s hs) g hg
  simp only [Bool.and_eq_true, decide_eq_true_eq] at z
  exact ⟨List.isPerm_iff.mp z.1.1, List.contains_iff_mem.mp z.1.2, z.2⟩
theorem sub_all : ((List.range 64).all fun m => (List.range 64).all fun m' => !decide (Sub m' m) || decide (m' = m) || (bits m).any fun g => decide (Sub m' (mk (restL (bits m) [g])))) = true := by decide +kernel
theorem sub_lt {m m' : Nat} (h : Sub m' m) : m' ≤ m := by
  unfold Sub at h
  rw [← h]
  exact Nat.and_le_right
theorem fam_down {n : Nat} {S : List Bool} (h : n ≤ 6) (len : S.length = 2 ^ n) (st : ∀ s, s ∈ allS n → In S (mk s) = true → ∀ g ∈ s, In S (mk (restL s [g])) = true) : ∀ (k m m' : Nat), m ≤ k → Sub m' m → In S m = true → In S m' = true
  | k, m, m', hk, hs, hm => by
    have ml : m < 2 ^ n := by
      rw [← len]
      apply Classical.byContradiction
      intro z
      unfold In at hm
      rw [List.getD_eq_getElem?_getD, List.getElem?_eq_none (by omega)] at hm
      cases hm
    have p64 : 2 ^ n ≤ 64 := Nat.le_trans (Nat.pow_le_pow_right (by decide) h) (by decide)
    have le := sub_lt hs
    have z := List.all_eq_true.mp (List.all_eq_true.mp sub_all m (List.mem_range.mpr (by omega))) m' (List.mem_range.mpr (by omega))
    rw [decide_eq_true hs] at z
    simp only [Bool.not_true, Bool.false_or, Bool.or_eq_true, decide_eq_true_eq, List.any_eq_true] at z
    rcases z with z | ⟨g, hg, hz⟩
    · rw [z]
      exact hm
    · obtain ⟨b1, b2⟩ := bits_in h ml
      have c := chain_at h b2 hg
      have lt := c.2.2
      rw [b1] at lt
      cases k with
      | zero => omega
      | succ k => exact fam_down h len st k _ m' (by omega) hz (st _ b2 (by rw [b1]; exact hm) g hg)
theorem fam_by {n : Nat} {S : List Bool} (h1 : 1 ≤ n) (h : n ≤ 6) (len : S.length = 2 ^ n) (z : In S 0 = true) (st : ∀ s, s ∈ allS n → In S (mk s) = true → ∀ g ∈ s, In S (mk (restL s [g])) = true) : Fam n S :=
  ⟨h1, h, len, z, fun m m' hs hm => fam_down h len st m m m' (Nat.le_refl _) hs hm⟩

end K23
namespace K23
open PySem PySem.Spec PyProof.Rows L2 Own OwnSeq OwnSet OwnComb OwnSort OwnHot OwnExN OwnProj
local macro_rules | `(tactic| walk_at "rd") => `(tactic| simp only [tSeq, tAsg, tOp, tUn, tVar, gName, gSub, rIxL, rIxT, rSetL, tC, rI0, rI, rU, rEq, rNe, tCons, tNil, tCB, tLst, tTup, tIfS, tAnd, tOr, tNot, tAndV, tOrV, tNotV, tTest, tB, tIf, tRet, tDrop, tNext, tBreak, tCont, tCall, tCallS, L2.WE, tMakeS, rIsS, rIsB, tChain, gSeq, gRest, gCons, gNil, tFor_seq, tFor_enumS, tLc_seq, tLc_enumS, rAny, rAll, L2.tMeth, StX.tStar, rIn, tLstRg, tRg1, tRg2, rSetI, rSortedSet, rInDT, rInD, rNotInD, rEqD, rNeD, iComb, tFld, tMake, tMkO, sFld, tOst, tNever, tBits, clv, isB,
  Rd.tFor_rng1, Rd.tFor_rng2, Rd.tFor_list, Rd.tFor_tup, Rd.tLc_list, Rd.tLc_tup, Rd.tLc_rng1, Rd.LcTurn, tYes, wipe, Rd.rLenL, Rd.rLenT, Rd.rIntI, Rd.rIxH, rIxHT,  HO.tup.injEq, Rd.at0, Rd.at1, Rd.at2, Rd.at3, Rd.ixN40, Rd.ixN41, Rd.ixN42, Rd.ixN43, Rd.scal_ii, cxOf,
  List.length_cons, List.length_nil, List.length_map, List.map_cons, List.map_nil, upd_same, decide_eq_true_eq, decide_true, decide_false, if_true, if_false, Bool.false_eq_true, Bool.not_true, Bool.not_false, HO.lst.injEq, HO.ins.injEq, List.set_cons_zero, List.set_cons_succ, List.getElem?_cons_zero, List.getElem?_cons_succ, List.append_nil, List.nil_append, List.cons_append, Option.some.injEq, V.ref.injEq, V.int.injEq, V.bl.injEq, List.cons.injEq, exists_eq_left', exists_and_left, exists_eq_left, true_and, and_true, and_self, and_assoc, implies_true, reduceCtorEq, Nat.reduceAdd])

theorem pi_told {X : Cx} {e tg : Expr} {te : TE} (K : PySem.W.Frag) (he : PE X e te) (hK : X.K = K := by rfl) : PI X tg e (iSeq K te) := hK ▸ pi_seq he
theorem pi_enumK {X : Cx} {elts : List Expr} {kk : Nat} {tpos p pos : Pos} {e : Expr} {ta : TA} (K : PySem.W.Frag) (hg : Gl X "enumerate") (hm : X.mg "enumerate" = none) (ha : PA X [e] ta) (hs : starEach [e] X.env = [(false, eval e X.env)] := by rfl) (hK : X.K = K := by rfl) : PI X (.Tuple elts kk tpos) (.Call (.Name "enumerate" p) [e] [] pos) (iEnumS K ta) := hK ▸ pi_enumS hg hm ha hs
section
variable {P : Program} {w : World} {K : PySem.W.Frag} {mg : Str → Option Value} {base : Heap} {a : Ad}
def zv (r : List Int) : List V := r.map V.int
/-- the first place of a row that is above 0 -/
def firstP : List Int → Option Nat
  | [] => none
  | x :: r => if 0 < x then some 0 else (firstP r).map (· + 1)
def optV : Option Nat → V
  | none => .non
  | some t => .int (t : Nat)
/-! ### first_above_0 -/
theorem first_some : ∀ {r : List Int} {i : Nat} {x : Int}, r[i]? = some x → 0 < x → (∀ y ∈ r.take i, ¬ 0 < y) → firstP r = some i
  | [], _, _, h, _, _ => by cases h
  | z :: r, 0, x, h, hx, _ => by
    obtain rfl := Option.some.inj h
    show (if 0 < z then some 0 else _) = _
    rw [if_pos hx]
  | z :: r, i + 1, x, h, hx, hn => by
    show (if 0 < z then some 0 else (firstP r).map (· + 1)) = _
    rw [if_neg (hn z List.mem_cons_self), first_some (r := r) (i := i) h hx fun y hy => hn y (List.mem_cons_of_mem _ hy)]
    rfl
theorem first_none : ∀ {r : List Int}, firstP r = none ↔ ∀ y ∈ r, ¬ 0 < y
  | [] => ⟨fun _ _ h => (by cases h), fun _ => rfl⟩
  | z :: r => by
    have ih := first_none (r := r)
    show (if 0 < z then some 0 else (firstP r).map (· + 1)) = none ↔ _
    by_cases h : 0 < z
    · rw [if_pos h]
      exact ⟨fun e => (by cases e), fun k => absurd h (k z List.mem_cons_self)⟩
    · rw [if_neg h, Option.map_eq_none_iff, ih]
      exact ⟨fun k y hy => (List.mem_cons.mp hy).elim (fun e => e ▸ h) (k y), fun k y hy => k y (List.mem_cons_of_mem _ hy)⟩
theorem first_at : ∀ {r : List Int} {t : Nat}, firstP r = some t → ∃ x, r[t]? = some x ∧ 0 < x
  | [], _, h => by cases h
  | z :: r, t, h => by
    have h : (if 0 < z then some 0 else (firstP r).map (· + 1)) = some t := h
    by_cases hz : 0 < z
    · rw [if_pos hz] at h
      obtain rfl := Option.some.inj h
      exact ⟨z, rfl, hz⟩
    · rw [if_neg hz] at h
      obtain ⟨u, hu, rfl⟩ := Option.map_eq_some_iff.mp h
      exact first_at (r := r) hu
def spFirst : Sp := fun vs H Q _ => ∃ (p : Addr) (r : List Int), vs = [.ref p] ∧ H p = some (.lst (zv r)) ∧ r.length ≤ 6 ∧ ∀ H', Same H H' → Q (optV (firstP r)) H'
theorem sc_first_above_0 : FnScope ["row", "at", "number"] ["row"] (defScope s_first_above_0) := ⟨rfl, rfl, rfl, by decide +kernel, rfl, by decide +kernel, by decide +kernel⟩
theorem ok_first_above_0 (T : Txt K mg a) : FnOk P w K mg base CX0 1 a.a_first_above_0 a.d_first_above_0 ["row"] spFirst := by
  refine T.fn_first_above_0.ok sc_first_above_0 (fun vs H Q E h => ?_) (fun cdv A outer s H vs Q E hr h => ?_)
  · obtain ⟨p, r, rfl, _⟩ := h
    rfl
  · obtain ⟨p, r, rfl, hp, r6, k⟩ := h
    refine ⟨_, (pss_cons (ps_for PassesOwn.never rfl (pi_enumS (by rfl) T.no_enumerate (pa_cons (pv 0) pa_nil)) (pg_seq (n := 2) rfl (pgs_cons (pg_name (i := 1) sc_first_above_0.nd rfl (Or.inl rfl)) (pgs_cons (pg_name (i := 2) sc_first_above_0.nd rfl (Or.inl rfl)) pgs_nil)))
        (pss_one (ps_if (pt_cmpR op_gt (pv 2) pe_int (nomark _)) (pss_one (ps_ret (pv 1))) pss_nil)))
      (pss_one (ps_ret pe_non))), ?_⟩
    show (_ : TS) _ [some (V.ref p), none, none] H
    walk_at "rd"
    refine ⟨true, zv r, hp, loop_goes goes_enum (fun σ H' => ∃ o1 o2, σ = [some (V.ref p), o1, o2] ∧ Same H H' ∧ ∀ y ∈ r, ¬ 0 < y)
      (fun i σ H' => ∃ o1 o2, σ = [some (V.ref p), o1, o2] ∧ Same H H' ∧ ∀ y ∈ r.take i, ¬ 0 < y) ⟨none, none, rfl, fun _ _ h => h, fun _ h => by cases h⟩ (fun i σ H' _ ⟨_, _, _, e, _⟩ => e _ _ hp) ?_
      (fun σ H' ⟨o1, o2, q1, q2, q3⟩ => ⟨o1, o2, q1, q2, by unfold zv at q3; rw [List.length_map, List.take_length] at q3; exact q3⟩) ?_⟩
    · rintro bk hbk i y σ H3 H3' hi ⟨o1, o2, rfl, e3, n3⟩ ⟨t, z, rfl, ht, rfl, hz⟩
      unfold zv at hz
      rw [List.getElem?_map] at hz
      obtain ⟨x, hx, rfl⟩ : ∃ x, r[i]? = some x ∧ z = V.int x := by
        cases c : r[i]? with
        | none => rw [c] at hz; cases hz
        | some x => rw [c] at hz; exact ⟨x, rfl, (Option.some.inj hz).symm⟩
      have te := same_upd (o := .tup [.int (i : Nat), .int x]) ht
      have e4 := e3.trans te
      walk_at "rd"
      refine ⟨false, _, rfl, rfl, _, _, rfl, _, _, rfl, rfl, _, rfl, ite2 (fun h => ?_) (fun h => ⟨e4, fun y hy => ?_⟩)⟩
      · have z := k _ e4
        rw [first_some hx h n3] at z
        exact z
      · rw [List.take_add_one, hx] at hy
        rcases List.mem_append.mp hy with m | m
        · exact n3 y m
        · rw [List.mem_singleton.mp m]
          exact h
    · rintro σ H3 ⟨o1, o2, rfl, e3, n3⟩
      walk_at "rd"
      have z := k _ e3
      rw [first_none.mpr n3] at z
      exact z
end

end K23
namespace K23
open PySem PySem.Spec PyProof.Rows L2 Own OwnSeq OwnSet OwnComb OwnSort OwnHot OwnExN OwnProj
local macro_rules | `(tactic| walk_at "rd") => `(tactic| simp only [tSeq, tAsg, tOp, tUn, tVar, gName, gSub, rIxL, rIxT, rSetL, tC, rI0, rI, rU, rEq, rNe, tCons, tNil, tCB, tLst, tTup, tIfS, tAnd, tOr, tNot, tAndV, tOrV, tNotV, tTest, tB, tIf, tRet, tDrop, tNext, tBreak, tCont, tCall, tCallS, L2.WE, tMakeS, rIsS, rIsB, tChain, gSeq, gRest, gCons, gNil, tFor_seq, tFor_enumS, tLc_seq, tLc_enumS, rAny, rAll, L2.tMeth, StX.tStar, rIn, tLstRg, tRg1, tRg2, rSetI, rSortedSet, rInDT, rInD, rNotInD, rEqD, rNeD, iComb, tFld, tMake, tMkO, sFld, tOst, tNever, tBits, clv, isB,
  Rd.tFor_rng1, Rd.tFor_rng2, Rd.tFor_list, Rd.tFor_tup, Rd.tLc_list, Rd.tLc_tup, Rd.tLc_rng1, Rd.LcTurn, tYes, wipe, Rd.rLenL, Rd.rLenT, Rd.rIntI, Rd.rIxH, rIxHT,  HO.tup.injEq, Rd.at0, Rd.at1, Rd.at2, Rd.at3, Rd.ixN40, Rd.ixN41, Rd.ixN42, Rd.ixN43, Rd.scal_ii, cxOf,
  List.length_cons, List.length_nil, List.length_map, List.map_cons, List.map_nil, upd_same, decide_eq_true_eq, decide_true, decide_false, if_true, if_false, Bool.false_eq_true, Bool.not_true, Bool.not_false, HO.lst.injEq, HO.ins.injEq, List.set_cons_zero, List.set_cons_succ, List.getElem?_cons_zero, List.getElem?_cons_succ, List.append_nil, List.nil_append, List.cons_append, Option.some.injEq, V.ref.injEq, V.int.injEq, V.bl.injEq, List.cons.injEq, exists_eq_left', exists_and_left, exists_eq_left, true_and, and_true, and_self, and_assoc, implies_true, reduceCtorEq, Nat.reduceAdd])

/-! ### rows of whole numbers -/
def RowsZ (H : Hp) : List V → List (List Int) → Prop
  | [], [] => True
  | v :: vs, s :: ss => (∃ q l, v = .ref q ∧ H q = some (sq l (zv s))) ∧ RowsZ H vs ss
  | _, _ => False
def RowsI (H : Hp) : List V → List (List Int) → Prop
  | [], [] => True
  | v :: vs, s :: ss => (∃ q, v = .ref q ∧ H q = some (.lst (zv s))) ∧ RowsI H vs ss
  | _, _ => False
theorem RowsI.z {H : Hp} : ∀ {vs : List V} {ss : List (List Int)}, RowsI H vs ss → RowsZ H vs ss
  | [], [], _ => trivial
  | _ :: _, _ :: _, ⟨⟨q, e, h⟩, r⟩ => ⟨⟨q, true, e, h⟩, RowsI.z r⟩
  | [], _ :: _, h => h.elim
  | _ :: _, [], h => h.elim
theorem RowsZ.len {H : Hp} : ∀ {vs : List V} {ss : List (List Int)}, RowsZ H vs ss → vs.length = ss.length
  | [], [], _ => rfl
  | _ :: _, _ :: _, h => congrArg (· + 1) (RowsZ.len h.2)
  | [], _ :: _, h => h.elim
  | _ :: _, [], h => h.elim
theorem RowsI.len {H : Hp} {vs : List V} {ss : List (List Int)} (h : RowsI H vs ss) : vs.length = ss.length := h.z.len
theorem RowsZ.keep {H H' : Hp} (k : ∀ q l (s : List Int), H q = some (sq l (zv s)) → H' q = some (sq l (zv s))) : ∀ {vs : List V} {ss : List (List Int)}, RowsZ H vs ss → RowsZ H' vs ss
  | [], [], _ => trivial
  | _ :: _, _ :: _, ⟨⟨q, l, e, h⟩, r⟩ => ⟨⟨q, l, e, k _ _ _ h⟩, RowsZ.keep k r⟩
  | [], _ :: _, h => h.elim
  | _ :: _, [], h => h.elim
theorem RowsI.keep {H H' : Hp} (k : ∀ q (s : List Int), H q = some (.lst (zv s)) → H' q = some (.lst (zv s))) : ∀ {vs : List V} {ss : List (List Int)}, RowsI H vs ss → RowsI H' vs ss
  | [], [], _ => trivial
  | _ :: _, _ :: _, ⟨⟨q, e, h⟩, r⟩ => ⟨⟨q, e, k _ _ h⟩, RowsI.keep k r⟩
  | [], _ :: _, h => h.elim
  | _ :: _, [], h => h.elim
theorem RowsI.same {H H' : Hp} (e : Same H H') {vs : List V} {ss : List (List Int)} (h : RowsI H vs ss) : RowsI H' vs ss := h.keep fun q s z => e _ _ z
theorem RowsI.app {H : Hp} : ∀ {vs us : List V} {ss ts : List (List Int)}, RowsI H vs ss → RowsI H us ts → RowsI H (vs ++ us) (ss ++ ts)
  | [], _, [], _, _, h => h
  | _ :: _, _, _ :: _, _, ⟨x, r⟩, h => ⟨x, RowsI.app r h⟩
  | [], _, _ :: _, _, h, _ => h.elim
  | _ :: _, _, [], _, h, _ => h.elim
theorem RowsI.upd {H : Hp} {p : Addr} {o : HO} {xs : List V} (hp : H p = some (.lst xs)) : ∀ {vs : List V} {ss : List (List Int)}, RowsI H vs ss → (∀ v ∈ vs, v ∈ xs) → RowsI (L2.upd H p o) vs ss
  | [], [], _, _ => trivial
  | _ :: _, _ :: _, ⟨⟨q, e, h⟩, r⟩, m => ⟨⟨q, e, (upd_ne fun z => by
      rw [z, hp] at h
      have y := HO.lst.inj (Option.some.inj h)
      have := m _ List.mem_cons_self
      rw [y, e] at this
      obtain ⟨_, _, w⟩ := List.mem_map.mp this
      cases w).trans h⟩, RowsI.upd hp r fun v hv => m v (List.mem_cons_of_mem _ hv)⟩
  | [], _ :: _, h, _ => h.elim
  | _ :: _, [], h, _ => h.elim
theorem RowsZ.at {H : Hp} : ∀ {vs : List V} {ss : List (List Int)} {g : Nat}, RowsZ H vs ss → g < ss.length → ∃ q l, vs[g]? = some (.ref q) ∧ ∃ s, ss[g]? = some s ∧ H q = some (sq l (zv s))
  | [], [], _, _, h => absurd h (Nat.not_lt_zero _)
  | [], _ :: _, _, h, _ => h.elim
  | _ :: _, [], _, h, _ => h.elim
  | v :: vs, s :: ss, 0, ⟨⟨q, l, e, h⟩, _⟩, _ => ⟨q, l, by rw [e]; rfl, s, rfl, h⟩
  | v :: vs, s :: ss, g + 1, ⟨_, r⟩, h => RowsZ.at (g := g) r (Nat.lt_of_succ_lt_succ h)
theorem RowsI.at {H : Hp} : ∀ {vs : List V} {ss : List (List Int)} {g : Nat}, RowsI H vs ss → g < ss.length → ∃ q, vs[g]? = some (.ref q) ∧ ∃ s, ss[g]? = some s ∧ H q = some (.lst (zv s))
  | [], [], _, _, h => absurd h (Nat.not_lt_zero _)
  | [], _ :: _, _, h, _ => h.elim
  | _ :: _, [], _, h, _ => h.elim
  | v :: vs, s :: ss, 0, ⟨⟨q, e, h⟩, _⟩, _ => ⟨q, by rw [e]; rfl, s, rfl, h⟩
  | v :: vs, s :: ss, g + 1, ⟨_, r⟩, h => RowsI.at (g := g) r (Nat.lt_of_succ_lt_succ h)
theorem RowsI.split {H : Hp} : ∀ {vs : List V} {ss : List (List Int)} {s : List Int}, RowsI H vs (ss ++ [s]) → ∃ us q, vs = us ++ [.ref q] ∧ RowsI H us ss ∧ H q = some (.lst (zv s))
  | v :: vs, [], s, ⟨⟨q, e, h⟩, r⟩ => by
    cases vs with
    | nil => exact ⟨[], q, by rw [e]; rfl, trivial, h⟩
    | cons _ _ => exact r.elim
  | v :: vs, t :: ss, s, ⟨x, r⟩ => by
    obtain ⟨us, q, rfl, a, b⟩ := RowsI.split (ss := ss) r
    exact ⟨v :: us, q, rfl, ⟨x, a⟩, b⟩
  | [], [], _, h => h.elim
  | [], _ :: _, _, h => h.elim
theorem zv_at {r : List Int} {i : Nat} {x : V} (h : (zv r)[i]? = some x) : ∃ z, r[i]? = some z ∧ x = V.int z := by
  unfold zv at h
  rw [List.getElem?_map] at h
  cases c : r[i]? with
  | none => rw [c] at h; cases h
  | some z => rw [c] at h; exact ⟨z, rfl, (Option.some.inj h).symm⟩
theorem zv_len (r : List Int) : (zv r).length = r.length := by unfold zv; rw [List.length_map]
theorem zv_get {r : List Int} {i : Nat} {z : Int} (h : r[i]? = some z) : atI (zv r) (i : Nat) = some (V.int z) := atI_nat (by unfold zv; rw [List.getElem?_map, h]; rfl)
open OwnIndep
def vec (r : List Int) : Vec := fun j => r.getD j 0
theorem vec_at {r : List Int} {j : Nat} {z : Int} (h : r[j]? = some z) : vec r j = z := by
  unfold vec
  rw [List.getD_eq_getElem?_getD, h]
  rfl
theorem vec_out {r : List Int} {j : Nat} (h : r.length ≤ j) : vec r j = 0 := by
  unfold vec
  rw [List.getD_eq_getElem?_getD, List.getElem?_eq_none h]
  rfl
def PP (p : Int) : Prop := p = 2 ∨ p = 3 ∨ p = 5 ∨ p = 7
theorem mod_pr {p : Int} (h : PP p) : Pr p := by
  have key : ∀ q : Nat, (((List.range q).all fun x => (List.range q).all fun y => decide (x * y % q ≠ 0) || decide (x = 0) || decide (y = 0)) = true) → 1 < q → Pr (q : Int) := fun q hq h1 => by
    refine ⟨fun x y hd => ?_, fun hd => ?_⟩
    · have q0 : (0 : Int) < q := by omega
      have mx := Int.emod_nonneg x (show (q : Int) ≠ 0 by omega)
      have my := Int.emod_nonneg y (show (q : Int) ≠ 0 by omega)
      have lx := Int.emod_lt_of_pos x q0
      have ly := Int.emod_lt_of_pos y q0
      obtain ⟨a, ha⟩ : ∃ a : Nat, x % q = a := ⟨(x % q).toNat, by omega⟩
      obtain ⟨b, hb⟩ : ∃ b : Nat, y % q = b := ⟨(y % q).toNat, by omega⟩
      have z := List.all_eq_true.mp (List.all_eq_true.mp hq a (List.mem_range.mpr (by omega))) b (List.mem_range.mpr (by omega))
      have e : (x * y) % q = 0 := Int.emod_eq_zero_of_dvd hd
      rw [Int.mul_emod, ha, hb] at e
      have e2 : a * b % q = 0 := by
        have : ((a * b % q : Nat) : Int) = 0 := by rw [Int.natCast_emod, Int.natCast_mul]; exact e
        omega
      simp only [e2, ne_eq, not_true_eq_false, decide_false, Bool.false_or, Bool.or_eq_true, decide_eq_true_eq] at z
      rcases z with z | z
      · exact .inl (Int.dvd_of_emod_eq_zero (by rw [ha, z]; rfl))
      · exact .inr (Int.dvd_of_emod_eq_zero (by rw [hb, z]; rfl))
    · have := Int.le_of_dvd (by decide) hd
      omega
  rcases h with rfl | rfl | rfl | rfl
  · exact key 2 (by decide) (by decide)
  · exact key 3 (by decide) (by decide)
  · exact key 5 (by decide) (by decide)
  · exact key 7 (by decide) (by decide)

end K23
namespace K23
open PySem PySem.Spec PyProof.Rows L2 Own OwnSeq OwnSet OwnComb OwnSort OwnHot OwnExN OwnProj
local macro_rules | `(tactic| walk_at "rd") => `(tactic| simp only [tSeq, tAsg, tOp, tUn, tVar, gName, gSub, rIxL, rIxT, rSetL, tC, rI0, rI, rU, rEq, rNe, tCons, tNil, tCB, tLst, tTup, tIfS, tAnd, tOr, tNot, tAndV, tOrV, tNotV, tTest, tB, tIf, tRet, tDrop, tNext, tBreak, tCont, tCall, tCallS, L2.WE, tMakeS, rIsS, rIsB, tChain, gSeq, gRest, gCons, gNil, tFor_seq, tFor_enumS, tLc_seq, tLc_enumS, rAny, rAll, L2.tMeth, StX.tStar, rIn, tLstRg, tRg1, tRg2, rSetI, rSortedSet, rInDT, rInD, rNotInD, rEqD, rNeD, iComb, tFld, tMake, tMkO, sFld, tOst, tNever, tBits, clv, isB,
  Rd.tFor_rng1, Rd.tFor_rng2, Rd.tFor_list, Rd.tFor_tup, Rd.tLc_list, Rd.tLc_tup, Rd.tLc_rng1, Rd.LcTurn, tYes, wipe, Rd.rLenL, Rd.rLenT, Rd.rIntI, Rd.rIxH, rIxHT,  HO.tup.injEq, Rd.at0, Rd.at1, Rd.at2, Rd.at3, Rd.ixN40, Rd.ixN41, Rd.ixN42, Rd.ixN43, Rd.scal_ii, cxOf,
  List.length_cons, List.length_nil, List.length_map, List.map_cons, List.map_nil, upd_same, decide_eq_true_eq, decide_true, decide_false, if_true, if_false, Bool.false_eq_true, Bool.not_true, Bool.not_false, HO.lst.injEq, HO.ins.injEq, List.set_cons_zero, List.set_cons_succ, List.getElem?_cons_zero, List.getElem?_cons_succ, List.append_nil, List.nil_append, List.cons_append, Option.some.injEq, V.ref.injEq, V.int.injEq, V.bl.injEq, List.cons.injEq, exists_eq_left', exists_and_left, exists_eq_left, true_and, and_true, and_self, and_assoc, implies_true, reduceCtorEq, Nat.reduceAdd])

section
variable {P : Program} {w : World} {K : PySem.W.Frag} {mg : Str → Option Value} {base : Heap} {a : Ad}
def rIxHS : R2 := fun x y H Q => ∃ p xs i z l, x = .ref p ∧ y = .int i ∧ H p = some (sq l xs) ∧ atI xs i = some z ∧ Q z H
theorem ixHS {X : Cx} : IxR X rIxHS := fun value slice pins s σ H x y v u Q I rx ry ⟨p, xs, i, z, l, e1, e2, h, e3, q⟩ hs => by
  cases l with
  | true => exact Rd.ixH value slice pins s σ H x y v u Q I rx ry ⟨p, xs, i, z, e1, e2, h, e3, q⟩ hs
  | false => exact ix_tup value slice pins s σ H x y v u Q I rx ry ⟨p, xs, i, z, e1, e2, SqT.of h, e3, q⟩ hs
open OwnIndep
/-- reduced rows of one length -/
def RedL (p : Int) (n : Nat) (L : List (List Int)) : Prop := ∀ r ∈ L, r.length = n ∧ ∀ x ∈ r, 0 ≤ x ∧ x < p
def modR (p : Int) (r : List Int) : List Int := r.map (· % p)
theorem mod_red {p : Int} {n : Nat} (p0 : 0 < p) {L : List (List Int)} (h : ∀ r ∈ L, r.length = n) : RedL p n (L.map (modR p)) := fun r hr => by
  obtain ⟨s, hs, rfl⟩ := List.mem_map.mp hr
  refine ⟨by unfold modR; rw [List.length_map]; exact h s hs, fun x hx => ?_⟩
  obtain ⟨y, _, rfl⟩ := List.mem_map.mp hx
  exact ⟨Int.emod_nonneg _ (by omega), Int.emod_lt_of_pos _ p0⟩
theorem mod_cong {p : Int} : ∀ L : List (List Int), Cong p (L.map vec) ((L.map (modR p)).map vec)
  | [] => trivial
  | r :: L => ⟨fun j => by
      show p ∣ vec r j - vec (modR p r) j
      cases e : r[j]? with
      | none =>
        have l := List.getElem?_eq_none_iff.mp e
        rw [vec_out l, vec_out (by unfold modR; rw [List.length_map]; exact l)]
        exact Int.dvd_zero p
      | some x =>
        rw [vec_at e, vec_at (r := modR p r) (z := x % p) (by unfold modR; rw [List.getElem?_map, e]; rfl)]
        exact Int.dvd_self_sub_emod, mod_cong L⟩
/-- a row with the pivot's place cleared -/
def clr (p : Int) (v : List Int) (t : Nat) (r : List Int) : List Int := (List.range r.length).map fun j => (vec r j * vec v t - vec r t * vec v j) % p
theorem clr_vec {p : Int} {v r : List Int} {t j : Nat} (h : v.length = r.length) : p ∣ elim (vec v) t (vec r) j - vec (clr p v t r) j := by
  by_cases l : j < r.length
  · rw [vec_at (r := clr p v t r) (z := (vec r j * vec v t - vec r t * vec v j) % p) (by unfold clr; rw [List.getElem?_map, List.getElem?_range l]; rfl)]
    exact Int.dvd_self_sub_emod
  · rw [vec_out (r := clr p v t r) (by unfold clr; rw [List.length_map, List.length_range]; omega)]
    unfold elim
    rw [vec_out (r := r) (j := j) (by omega), vec_out (r := v) (j := j) (by omega)]
    exact ⟨0, by simp⟩
theorem clr_cong {p : Int} {n : Nat} {v : List Int} {t : Nat} (hv : v.length = n) : ∀ L : List (List Int), (∀ r ∈ L, r.length = n) → Cong p ((L.map vec).map (elim (vec v) t)) ((L.map (clr p v t)).map vec)
  | [], _ => trivial
  | r :: L, h => ⟨fun j => clr_vec (by rw [hv, h r List.mem_cons_self]), clr_cong hv L fun r hr => h r (List.mem_cons_of_mem _ hr)⟩
theorem clr_red {p : Int} {n : Nat} (p0 : 0 < p) {v : List Int} {t : Nat} {L : List (List Int)} (h : ∀ r ∈ L, r.length = n) : RedL p n (L.map (clr p v t)) := fun r hr => by
  obtain ⟨s, hs, rfl⟩ := List.mem_map.mp hr
  refine ⟨by unfold clr; rw [List.length_map, List.length_range]; exact h s hs, fun x hx => ?_⟩
  obtain ⟨y, _, rfl⟩ := List.mem_map.mp hx
  exact ⟨Int.emod_nonneg _ (by omega), Int.emod_lt_of_pos _ p0⟩
theorem ite_true_of' {C A B : Prop} [Decidable C] (hc : C) (h : A) : if C then A else B := by rw [if_pos hc]; exact h
theorem ite_false_of' {C A B : Prop} [Decidable C] (hc : ¬ C) (h : B) : if C then A else B := by rw [if_neg hc]; exact h
/-! ### is_independent -/
def spIndep : Sp := fun vs H Q _ => ∃ (p : Int) (q : Addr) (l : Bool) (xs : List V) (rows : List (List Int)) (n : Nat), vs = [.int p, .ref q] ∧ PP p ∧ H q = some (sq l xs) ∧ RowsZ H xs rows ∧ rows.length ≤ 6 ∧ n ≤ 6 ∧ (∀ r ∈ rows, r.length = n) ∧
  ∀ (b : Bool) H', (b = true ↔ Indep p (rows.map vec)) → Same H H' → Q (.bl b) H'
theorem sc_is_independent : FnScope ["p", "rows", "left", "pivot", "at", "row", "number", "place"] ["p", "rows"] (defScope s_is_independent) := ⟨rfl, rfl, rfl, by decide +kernel, rfl, by decide +kernel, by decide +kernel⟩
theorem ok_is_independent (T : Txt K mg a) : FnOk P w K mg base CX0 2 a.a_is_independent a.d_is_independent ["p", "rows"] spIndep := by
  refine T.fn_is_independent.ok sc_is_independent (fun vs H Q E h => ?_) (fun cdv A outer s H vs Q E hr h => ?_)
  · obtain ⟨p, q, l, xs, rows, n, rfl, _⟩ := h
    rfl
  · obtain ⟨p, q, l, xs, rows, n, rfl, hp, hq, RZ, l6, n6, rn, k⟩ := h
    have p0 : 0 < p := by rcases hp with rfl | rfl | rfl | rfl <;> decide
    have p8 : p < 8 := by rcases hp with rfl | rfl | rfl | rfl <;> decide
    refine ⟨_, (pss_cons (ps_setLc (i := 2) (own := [("row", 5)]) (by rfl) sc_is_independent.nd rfl rfl (sw_true rfl rfl rfl (by decide +kernel)) (pi_told K (pv 1)) (blkOk_by (own := [("row", 5)]) (N := ["p", "rows", "left", "pivot", "at", "row", "number", "place"]) (sc := defScope s_is_independent) (by decide +kernel)) (fun _ _ _ _ _ => pg_name (i := 5) sc_is_independent.nd rfl (Or.inl rfl)) (fun _ _ _ _ _ => pts_nil) (fun _ _ _ _ _ => (pe_lc (own := [("number", 6)]) (by rfl) sc_is_independent.nd (pi_told K (pv 5)) (blkOk_by (own := [("number", 6)]) (N := ["p", "rows", "left", "pivot", "at", "row", "number", "place"]) (sc := { kind := .function, names := [(Str.ofString ".0", .local), (Str.ofString "row", .local), (Str.ofString "p", .cell)], isGenerator := false, isCoroutine := false }) (by decide +kernel)) (fun _ _ _ _ _ => pg_name (i := 6) sc_is_independent.nd rfl (Or.inl rfl)) (fun _ _ _ _ _ => pts_nil) (fun _ _ _ _ _ => (pe_op op_mod (pv 6) (pv 0))))))
      (pss_cons (ps_while PassesOwn.never (pt_cmpR op_gt (pe_callB Rd.call_lenL (by rfl) T.no_len PySem.boot_len (pa_cons (pv 2) pa_nil)) pe_int (nomark _)) (pss_cons (ps_set (i := 3) sc_is_independent.nd rfl (Or.inr rfl) (pe_bm0 PySem.F.plainAttrs_list PySem.F.slot_list_pop PySem.F.type_list_pop mt_pop (pv 2)))
        (pss_cons (ps_set (i := 4) sc_is_independent.nd rfl (Or.inr rfl) (pe_call (ok_first_above_0 T) (hr.mono (by decide)) (by rfl) T.mg_first_above_0 T.fn_first_above_0.kp T.b_first_above_0 .nil pass0 (pa_cons (pv 3) pa_nil)))
        (pss_cons (ps_if (pt_cmpR op_isN (pv 4) pe_non (nomark _)) (pss_one (ps_ret pe_bl)) pss_nil)
        (pss_one (ps_setLc (i := 2) (own := [("row", 5)]) (by rfl) sc_is_independent.nd rfl rfl (sw_true rfl rfl rfl (by decide +kernel)) (pi_list (pv 2)) (blkOk_by (own := [("row", 5)]) (N := ["p", "rows", "left", "pivot", "at", "row", "number", "place"]) (sc := defScope s_is_independent) (by decide +kernel)) (fun _ _ _ _ _ => pg_name (i := 5) sc_is_independent.nd rfl (Or.inr rfl)) (fun _ _ _ _ _ => pts_nil) (fun _ _ _ _ _ => (pe_lc (own := [("place", 7), ("number", 6)]) (by rfl) sc_is_independent.nd (pi_enumK K (by rfl) T.no_enumerate (pa_cons (pv 5) pa_nil)) (blkOk_by (own := [("place", 7), ("number", 6)]) (N := ["p", "rows", "left", "pivot", "at", "row", "number", "place"]) (sc := { kind := .function, names := [(Str.ofString ".0", .local), (Str.ofString "row", .cell), (Str.ofString "enumerate", .globalImplicit), (Str.ofString "at", .cell), (Str.ofString "p", .cell), (Str.ofString "pivot", .cell)], isGenerator := false, isCoroutine := false }) (by decide +kernel)) (fun _ _ _ _ _ => pg_seq (n := 2) rfl (pgs_cons (pg_name (i := 7) sc_is_independent.nd rfl (Or.inl rfl)) (pgs_cons (pg_name (i := 6) sc_is_independent.nd rfl (Or.inl rfl)) pgs_nil))) (fun _ _ _ _ _ => pts_nil) (fun _ _ _ _ _ => (pe_op op_mod (pe_op op_sub (pe_op op_mul (pv 6) (pe_ix Rd.ixH (pv 3) (pv 4) (fun _ _ => rfl))) (pe_op op_mul (pe_ix Rd.ixH (pv 5) (pv 4) (fun _ _ => rfl)) (pe_ix Rd.ixH (pv 3) (pv 7) (fun _ _ => rfl)))) (pv 0)))))))))))
      (pss_one (ps_ret pe_bl)))), ?_⟩
    show (_ : TS) _ [some (V.int p), some (V.ref q), none, none, none, none, none, none] H
    have xl := RZ.len
    walk_at "rd"
    refine ⟨l, xs, hq, lcl_goes goes_seq (fun D i H5 => H D = none ∧ Same H H5 ∧ ∃ zs, H5 D = some (.lst zs) ∧ RowsI H5 zs ((rows.take i).map (modR p))) (fun D hD => ⟨hD, same_upd hD, [], upd_same, trivial⟩) (fun D i H5 _ h => h.2.1 _ _ hq) (fun D i x H5 H5' hi ⟨n5, e5, zs, a5, R5⟩ ⟨eq5, hx⟩ => ?_) (fun D H5 _ ⟨n5, e5, zs, a5, R5⟩ => ?_)⟩
    · subst eq5
      have il : i < rows.length := by omega
      obtain ⟨u, lu, hu, r, hr', hau⟩ := RZ.at il
      rw [hx] at hu
      obtain rfl := Option.some.inj hu
      have ru := rn r (List.mem_of_getElem? hr')
      walk_at "rd"
      refine ⟨lu, zv r, e5 _ _ hau, lcl_goes goes_seq (fun C j H7 => H5' C = none ∧ Same H5' H7 ∧ H7 C = some (.lst (zv ((modR p r).take j)))) (fun C hC => ⟨hC, same_upd hC, upd_same⟩) (fun C j H7 _ h => h.2.1 _ _ (e5 _ _ hau)) (fun C j y H7 H7' hj ⟨n7, e7, a7⟩ ⟨eq7, hy⟩ => ?_) (fun C H7 _ ⟨n7, e7, a7⟩ => ?_)⟩
      · subst eq7
        obtain ⟨z, hz, rfl⟩ := zv_at hy
        walk_at "rd"
        have jl := (List.getElem?_eq_some_iff.mp hz).1
        refine ⟨p0, _, a7, small (by rw [zv_len, List.length_take]; omega), n7, fun b o hb => (upd_ne (ne_of_none hb n7)).trans (e7 _ _ hb), ?_⟩
        rw [List.take_add_one, show (modR p r)[j]? = some (z % p) by unfold modR; rw [List.getElem?_map, hz]; rfl]
        unfold zv
        rw [List.map_append]
        rfl
      · have ml : (modR p r).length = r.length := by unfold modR; rw [List.length_map]
        rw [zv_len, ← ml, List.take_length] at a7
        have CD : C ≠ D := fun z => by rw [z, a5] at n7; cases n7
        have a8 := e7 _ _ a5
        refine ⟨zs, a8, small (by have := R5.len; rw [List.length_map, List.length_take] at this; omega), n5, fun b o hb => (upd_ne (ne_of_none hb n5)).trans (e7 _ _ (e5 _ _ hb)), ?_⟩
        rw [List.take_add_one, hr', List.map_append]
        exact RowsI.app (RowsI.upd a8 (R5.same e7) fun _ h => h) ⟨⟨C, rfl, (upd_ne CD).trans a7⟩, trivial⟩
    · rw [xl, List.take_length] at R5
      refine ⟨fun m σ H' => ∃ D zs L o3 o4 o5 o6 o7, σ = [some (V.int p), some (V.ref q), some (V.ref D), o3, o4, o5, o6, o7] ∧ H D = none ∧ Same H H' ∧ H' D = some (.lst zs) ∧ RowsI H' zs L ∧ L.length = m ∧ m ≤ 6 ∧ RedL p n L ∧ (Indep p (rows.map vec) ↔ Indep p (L.map vec)), ⟨rows.length, D, zs, rows.map (modR p), none, none, none, none, none, rfl, n5, e5, a5, R5, by rw [List.length_map], l6, mod_red p0 rn, (mod_cong rows).indep⟩, ?_⟩
      rintro m σ H6 ⟨D, zs, L, o3, o4, o5, o6, o7, rfl, nD, e6, a6, R6, Lm, m6, RL, iff⟩
      have zl := R6.len
      walk_at "rd"
      refine ⟨_, SqL.of a6, ?_⟩
      refine ite2 (fun h0 => ⟨_, fun _ _ h => h, ?_⟩) (fun h0 => k true H6 ?_ e6)
      · obtain ⟨L', v, rfl⟩ : ∃ L' v, L = L' ++ [v] := ⟨L.dropLast, L.getLast (fun e => by rw [e] at zl; simp at zl; rw [zl] at h0; simp at h0), (List.dropLast_concat_getLast _).symm⟩
        obtain ⟨us, qv, rfl, RI, hv⟩ := R6.split
        have vn := RL v (List.mem_append_right _ List.mem_cons_self)
        have L'n : ∀ r ∈ L', r.length = n := fun r hr => (RL r (List.mem_append_left _ hr)).1
        rw [List.length_append, List.length_singleton] at Lm
        unfold tBM0 rPop
        walk_at "rd"
        have e7 : Same H (L2.upd H6 D (.lst us)) := fun b o hb => (upd_ne (ne_of_none hb nD)).trans (e6 _ _ hb)
        have vD : qv ≠ D := fun z => by
          rw [z, a6] at hv
          have := HO.lst.inj (Option.some.inj hv)
          have m : V.ref qv ∈ zv v := this ▸ List.mem_append_right _ List.mem_cons_self
          obtain ⟨_, _, w⟩ := List.mem_map.mp m
          cases w
        have RI7 : RowsI (L2.upd H6 D (.lst us)) us L' := RI.upd a6 fun _ h => List.mem_append_left _ h
        have hv7 : L2.upd H6 D (.lst us) qv = some (.lst (zv v)) := (upd_ne vD).trans hv
        refine ⟨.inl ⟨rfl, _, SqL.of a6⟩, _, a6, .ref qv, by simp, ?_⟩
        rw [List.dropLast_concat]
        refine ⟨qv, v, rfl, hv7, by omega, fun H8 e8 => ?_⟩
        have eq := iff
        rw [List.map_append, List.map_singleton] at eq
        cases hf : firstP v with
        | none =>
          refine ite_true_of' rfl (k false H8 ?_ (e7.trans e8))
          have z : Zero p (vec v) := fun j => by
            cases e : v[j]? with
            | none => rw [vec_out (List.getElem?_eq_none_iff.mp e)]; exact Int.dvd_zero p
            | some x =>
              have m := List.mem_of_getElem? e
              have n := first_none.mp hf x m
              have b := (vn.2 x m).1
              rw [vec_at e, show x = 0 by omega]
              exact Int.dvd_zero p
          exact ⟨fun h => (by cases h), fun h => absurd (eq.mp h) (not_zero (mod_pr hp) z)⟩
        | some t =>
          refine ite_false_of' (by intro z; cases z) ?_
          obtain ⟨x, hx, x0⟩ := first_at hf
          have xb := vn.2 x (List.mem_of_getElem? hx)
          have nd : ¬ p ∣ vec v t := fun h => by
            rw [vec_at hx] at h
            have := Int.le_of_dvd x0 h
            omega
          have a8 := e8 _ _ (upd_same (H := H6) (a := D) (o := .lst us))
          have RI8 := RI7.same e8
          have hv8 := e8 _ _ hv7
          have ul := RI.len
          refine ⟨⟨_, SqL.of a8⟩, Rd.lcl_list (xs := us) (fun C i H9 => H8 C = none ∧ Same H8 H9 ∧ ∃ zs, H9 C = some (.lst zs) ∧ RowsI H9 zs ((L'.take i).map (clr p v t))) (fun C hC => ⟨hC, same_upd hC, [], upd_same, trivial⟩) (fun C i H9 _ h => SqL.of (h.2.1 _ _ a8)) (fun C i y H9 hy ⟨n9, e9, zs, a9, R9⟩ => ?_) (fun C H9 _ ⟨n9, e9, zs, a9, R9⟩ => ?_)⟩
          · have il : i < L'.length := by
              have := (List.getElem?_eq_some_iff.mp hy).1
              omega
            obtain ⟨qr, hqr, r, hr, har⟩ := RI8.at il
            rw [hy] at hqr
            obtain rfl := Option.some.inj hqr
            have har9 := e9 _ _ har
            have hv9 := e9 _ _ hv8
            have rL := RL r (List.mem_append_left _ (List.mem_of_getElem? hr))
            walk_at "rd"
            refine ⟨true, zv r, har9, lcl_goes goes_enum (fun G j H10 => H9 G = none ∧ Same H9 H10 ∧ H10 G = some (.lst (zv ((clr p v t r).take j)))) (fun G hG => ⟨hG, same_upd hG, upd_same⟩) (fun G j H10 _ h => h.2.1 _ _ har9) (fun G j y H10 H10' hj ⟨n10, e10, a10⟩ ⟨S, z, eqy, hS, eqH, hz⟩ => ?_) (fun G H10 _ ⟨n10, e10, a10⟩ => ?_)⟩
            · subst eqy eqH
              obtain ⟨z, hz', rfl⟩ := zv_at hz
              have jl := (List.getElem?_eq_some_iff.mp hz').1
              have eS := same_upd (o := .tup [.int (j : Nat), .int z]) hS
              have e11 := e10.trans eS
              have a11 := eS _ _ a10
              have hr11 := e11 _ _ har9
              have hv11 := e11 _ _ hv9
              have tl := (List.getElem?_eq_some_iff.mp hx).1
              obtain ⟨rt, hrt⟩ : ∃ rt, r[t]? = some rt := ⟨_, List.getElem?_eq_getElem (by rw [rL.1, ← vn.1]; exact tl)⟩
              obtain ⟨vj, hvj⟩ : ∃ vj, v[j]? = some vj := ⟨_, List.getElem?_eq_getElem (by rw [vn.1, ← rL.1]; exact jl)⟩
              have b1 := rL.2 z (List.mem_of_getElem? hz')
              have b2 := rL.2 rt (List.mem_of_getElem? hrt)
              have b3 := vn.2 vj (List.mem_of_getElem? hvj)
              walk_at "rd"
              refine ⟨false, _, rfl, rfl, _, _, rfl, _, _, rfl, rfl, _, (t : Nat), rfl, hv11, _, zv_get hx, _, rfl, _, rfl, .inl ⟨by omega, by omega⟩, _, (t : Nat), rfl, hr11, _, zv_get hrt, _, (j : Nat), rfl, hv11, _, zv_get hvj, _, rfl, _, rfl, .inl ⟨by omega, by omega⟩, p0, _, a11, small (by rw [zv_len, List.length_take]; have := rL.1; omega), n10, fun b o hb => (upd_ne (ne_of_none hb n10)).trans (e11 _ _ hb), ?_⟩
              have ce : (clr p v t r)[j]? = some ((z * x - rt * vj) % p) := by
                unfold clr
                rw [List.getElem?_map, List.getElem?_range jl]
                show some ((vec r j * vec v t - vec r t * vec v j) % p) = _
                rw [vec_at hz', vec_at hx, vec_at hrt, vec_at hvj]
              rw [List.take_add_one, ce]
              unfold zv
              rw [List.map_append]
              rfl
            · have cl : (clr p v t r).length = r.length := by unfold clr; rw [List.length_map, List.length_range]
              rw [zv_len, ← cl, List.take_length] at a10
              have GC : G ≠ C := fun z => by rw [z, a9] at n10; cases n10
              have a11 := e10 _ _ a9
              refine ⟨zs, a11, small (by have := R9.len; rw [List.length_map, List.length_take] at this; omega), n9, fun b o hb => (upd_ne (ne_of_none hb n9)).trans (e10 _ _ (e9 _ _ hb)), ?_⟩
              rw [List.take_add_one, hr, List.map_append]
              exact RowsI.app (RowsI.upd a11 (R9.same e10) fun _ h => h) ⟨⟨G, rfl, (upd_ne GC).trans a10⟩, trivial⟩
          · rw [ul, List.take_length] at R9
            refine ⟨m - 1, by omega, C, rfl, (e7.trans e8).free n9, (e7.trans e8).trans e9, zs, a9, _, R9, by rw [List.length_map]; omega, by omega, clr_red p0 L'n, ?_⟩
            rw [eq, step_elim (mod_pr hp) nd]
            exact (clr_cong vn.1 L' L'n).indep
      · rw [iff]
        have : L = [] := List.eq_nil_of_length_eq_zero (by omega)
        rw [this]
        exact ⟨fun _ => indep_nil p, fun _ => rfl⟩
end

end K23
namespace K23
open PySem PySem.Spec PyProof.Rows L2 Own OwnSeq OwnSet OwnComb OwnSort OwnHot OwnExN OwnProj
local macro_rules | `(tactic| walk_at "rd") => `(tactic| simp only [tSeq, tAsg, tOp, tUn, tVar, gName, gSub, rIxL, rIxT, rSetL, tC, rI0, rI, rU, rEq, rNe, tCons, tNil, tCB, tLst, tTup, tIfS, tAnd, tOr, tNot, tAndV, tOrV, tNotV, tTest, tB, tIf, tRet, tDrop, tNext, tBreak, tCont, tCall, tCallS, L2.WE, tMakeS, rIsS, rIsB, tChain, gSeq, gRest, gCons, gNil, tFor_seq, tFor_enumS, tLc_seq, tLc_enumS, rAny, rAll, L2.tMeth, StX.tStar, rIn, tLstRg, tRg1, tRg2, rSetI, rSortedSet, rInDT, rInD, rNotInD, rEqD, rNeD, iComb, tFld, tMake, tMkO, sFld, tOst, tNever, tBits, clv, isB,
  Rd.tFor_rng1, Rd.tFor_rng2, Rd.tFor_list, Rd.tFor_tup, Rd.tLc_list, Rd.tLc_tup, Rd.tLc_rng1, Rd.LcTurn, tYes, wipe, Rd.rLenL, Rd.rLenT, Rd.rIntI, Rd.rIxH, rIxHT,  HO.tup.injEq, Rd.at0, Rd.at1, Rd.at2, Rd.at3, Rd.ixN40, Rd.ixN41, Rd.ixN42, Rd.ixN43, Rd.scal_ii, cxOf,
  List.length_cons, List.length_nil, List.length_map, List.map_cons, List.map_nil, upd_same, decide_eq_true_eq, decide_true, decide_false, if_true, if_false, Bool.false_eq_true, Bool.not_true, Bool.not_false, HO.lst.injEq, HO.ins.injEq, List.set_cons_zero, List.set_cons_succ, List.getElem?_cons_zero, List.getElem?_cons_succ, List.append_nil, List.nil_append, List.cons_append, Option.some.injEq, V.ref.injEq, V.int.injEq, V.bl.injEq, List.cons.injEq, exists_eq_left', exists_and_left, exists_eq_left, true_and, and_true, and_self, and_assoc, implies_true, reduceCtorEq, Nat.reduceAdd])

theorem RowsZ.app {H : Hp} : ∀ {vs us : List V} {ss ts : List (List Int)}, RowsZ H vs ss → RowsZ H us ts → RowsZ H (vs ++ us) (ss ++ ts)
  | [], _, [], _, _, h => h
  | _ :: _, _, _ :: _, _, ⟨x, r⟩, h => ⟨x, RowsZ.app r h⟩
  | [], _, _ :: _, _, h, _ => h.elim
  | _ :: _, _, [], _, h, _ => h.elim
theorem RowsZ.upd {H : Hp} {p : Addr} {o : HO} {xs : List V} (hp : H p = some (.lst xs)) : ∀ {vs : List V} {ss : List (List Int)}, RowsZ H vs ss → (∀ v ∈ vs, v ∈ xs) → RowsZ (L2.upd H p o) vs ss
  | [], [], _, _ => trivial
  | _ :: _, _ :: _, ⟨⟨q, l, e, h⟩, r⟩, m => ⟨⟨q, l, e, (upd_ne fun z => by
      rw [z, hp] at h
      cases l with
      | false => cases h
      | true =>
        have y := HO.lst.inj (Option.some.inj h)
        have := m _ List.mem_cons_self
        rw [y, e] at this
        obtain ⟨_, _, w⟩ := List.mem_map.mp this
        cases w).trans h⟩, RowsZ.upd hp r fun v hv => m v (List.mem_cons_of_mem _ hv)⟩
  | [], _ :: _, h, _ => h.elim
  | _ :: _, [], h, _ => h.elim
/-! ### sets of rows that are independent -/
open OwnIndep in
def rowsV (rows : List (List Int)) (s : List Nat) : List Vec := s.map fun g => vec (rows.getD g [])
open OwnIndep in
noncomputable def fitI (p : Int) (rows : List (List Int)) (s : List Nat) : Bool := @decide (Indep p (rowsV rows s)) (Classical.propDecidable _)
open OwnIndep in
theorem fitI_iff {p : Int} {rows : List (List Int)} {s : List Nat} : fitI p rows s = true ↔ Indep p (rowsV rows s) := by
  unfold fitI
  exact @decide_eq_true_iff _ (Classical.propDecidable _)
section
variable {P : Program} {w : World} {K : PySem.W.Frag} {mg : Str → Option Value} {base : Heap} {a : Ad}
abbrev nmF : Str := (envOfC "independent_rows" (defScope s_independent_rows) 0 0 .none).qual ++ "<lambda>"
open LamX OwnLam in
def spInd (C P0 : Addr) : Sp := fun vs H Q _ => ∃ (p : Int) (r : Addr) (l : Bool) (xs : List V) (rows : List (List Int)) (m : Nat) (S : List Bool), vs = [.int p, .ref r] ∧ PP p ∧ H r = some (sq l xs) ∧ RowsZ H xs rows ∧ m ≤ 6 ∧ (∀ q ∈ rows, q.length = m) ∧ Fam rows.length S ∧
  (∀ s, s ∈ allS rows.length → (In S (mk s) = true ↔ fitI p rows s = true ∧ ∀ g ∈ s, In S (mk (restL s [g])) = true)) ∧ TabS H P0 nmF ∧ ∀ g H', ExtN H H' → TabS H' P0 nmF → FamV C H' g rows.length S → Q (.ref g) H'
theorem sq_ntab {l : Bool} {xs : List V} (ps : Array Value) : sq l xs ≠ .tbl ps := by
  cases l <;> exact fun z => by cases z
theorem sc_independent_rows : FnScope ["p", "rows", "held", "thing"] ["p", "rows"] (defScope s_independent_rows) := ⟨rfl, rfl, rfl, by decide +kernel, rfl, by decide +kernel, by decide +kernel⟩
open LamX OwnLam in
theorem ok_independent_rows (T : Txt K mg a) (TB : TabB base mg a.co_independent_rows a.tb_independent_rows) : FnOk P w K mg base C8.CX0 11 a.a_independent_rows a.d_independent_rows ["p", "rows"] (spInd a.C_Family a.tb_independent_rows) := by
  refine okC T.fn_independent_rows T.cd_independent_rows sc_independent_rows (fun vs H Q E h => ?_) (fun A outer s H vs Q E hr h => ?_)
  · obtain ⟨p, r, l, xs, rows, m, S, rfl, _⟩ := h
    rfl
  · obtain ⟨p, r, l, xs, rows, m, S, rfl, pp, hR, rv, m6, rm, F, hS, hT, k⟩ := h
    refine ⟨_, (pss_one (ps_ret (pe_famOf T TB rfl hr (by rfl) (pe_callB (lenK K) (by rfl) T.no_len PySem.boot_len (pa_cons (pv 1) pa_nil)) (oneS_by (maker := defScope s_independent_rows) (N := ["p", "rows", "held", "thing"]) (a := "held") (j := 2) (by decide +kernel)) rfl (fun _ _ _ _ _ _ => by kernel_rfl) (fun A outer s H E f c' hr => (pe_call (ok_is_independent T) (hr.mono (by decide)) (by rfl) T.mg_is_independent T.fn_is_independent.kp T.b_is_independent .nil pass0 (pa_cons (pv 0) (pa_cons (pe_lc (own := [("thing", 3)]) (by rfl) sc_independent_rows.nd (pi_told K (pv 2)) (blkOk_by (own := [("thing", 3)]) (N := ["p", "rows", "held", "thing"]) (sc := { kind := .function, names := [(Str.ofString "held", .local), (Str.ofString "p", .free), (Str.ofString "rows", .free), (Str.ofString "is_independent", .globalImplicit)], isGenerator := false, isCoroutine := false, more := [(Str.ofString "fast", Const.str (Str.ofString "held")), (Str.ofString "fast", Const.str (Str.ofString "thing")), (Str.ofString "fast", Const.str (Str.ofString "p")), (Str.ofString "fast", Const.str (Str.ofString "rows"))] }) (by decide +kernel)) (fun _ _ _ _ _ => pg_name (i := 3) sc_independent_rows.nd rfl (Or.inl rfl)) (fun _ _ _ _ _ => pts_nil) (fun _ _ _ _ _ => (pe_ix ixHS (pv 1) (pv 3) (fun _ _ => rfl)))) pa_nil))))))), ?_⟩
    show (_ : TS) _ [some (V.int p), some (V.ref r), none, none] H
    unfold tTwo
    walk_at "rd"
    refine ⟨xs, seqOr hR, fun p hp => by cases List.mem_singleton.mp hp; exact hT, fun H1 e1 T1 => ?_⟩
    rw [rv.len]
    refine ⟨rows.length, S, fitI p rows, rfl, F, hS, fun t s' H2 Q1 hs e2 ht k1 => ?_, fun g H' _ e FV => k g H' (e1.trans (ExtN.of e)) ((T1 _ List.mem_cons_self).ext e) FV⟩
    have R2 : RowsZ H2 xs rows := rv.keep fun q l s h => e2 _ _ (e1 _ _ h sq_ntab)
    have hR2 := e2 _ _ (e1 _ _ hR sq_ntab)
    have lt := allS_at hs F.n6
    have s6 := Nat.le_trans lt.2.2.2.1 F.n6
    refine ⟨t, rfl, false, _, ht, lcl_goes goes_seq (fun D i H5 => H2 D = none ∧ Same H2 H5 ∧ ∃ zs, H5 D = some (.lst zs) ∧ RowsZ H5 zs ((s'.take i).map fun g => rows.getD g [])) (fun D hD => ⟨hD, same_upd hD, [], upd_same, trivial⟩) (fun D i H5 _ h => h.2.1 _ _ ht) (fun D i x H5 H5' hi ⟨n5, e5, zs, a5, R5⟩ ⟨eq5, hx⟩ => ?_) (fun D H5 _ ⟨n5, e5, zs, a5, R5⟩ => ?_)⟩
    · subst eq5
      obtain ⟨g, hg, rfl⟩ := at_iv hx
      have gl := lt.2.2.1 g (List.mem_of_getElem? hg)
      obtain ⟨u, lu, hu, r', hr', hau⟩ := R2.at gl
      walk_at "rd"
      refine ⟨r, xs, g, _, l, rfl, rfl, e5 _ _ hR2, atI_nat hu, zs, a5, small ?_, n5, fun b o hb => (upd_ne (ne_of_none hb n5)).trans (e5 _ _ hb), ?_⟩
      · have := R5.len
        rw [List.length_map, List.length_take] at this
        omega
      · rw [List.take_add_one, hg, List.map_append]
        refine RowsZ.app (RowsZ.upd a5 R5 fun _ h => h) ⟨⟨u, lu, rfl, ?_⟩, trivial⟩
        have uD : u ≠ D := fun z => by
          rw [z] at hau
          rw [hau] at n5
          cases n5
        show _ = some (sq lu (zv (rows.getD g [])))
        rw [show rows.getD g [] = r' by rw [List.getD_eq_getElem?_getD, hr']; rfl]
        exact (upd_ne uD).trans (e5 _ _ hau)
    · rw [iv_len, List.take_length] at R5
      refine ⟨p, D, true, zs, _, m, rfl, pp, a5, R5, by rw [List.length_map]; exact s6, m6, fun q hq => ?_, fun b H6 hb e6 => ?_⟩
      · obtain ⟨g, hg, rfl⟩ := List.mem_map.mp hq
        have gl := lt.2.2.1 g hg
        rw [List.getD_eq_getElem?_getD, List.getElem?_eq_getElem gl]
        exact rm _ (List.getElem_mem gl)
      · have : b = fitI p rows s' := by
          rw [Bool.eq_iff_iff, hb, fitI_iff, List.map_map]
          exact Iff.rfl
        rw [this]
        exact k1 _ (e5.trans e6)
end

end K23
namespace K23
open PySem PySem.Spec PyProof.Rows L2 Own OwnSeq OwnSet OwnComb OwnSort OwnHot OwnExN OwnProj
local macro_rules | `(tactic| walk_at "rd") => `(tactic| simp only [tSeq, tAsg, tOp, tUn, tVar, gName, gSub, rIxL, rIxT, rSetL, tC, rI0, rI, rU, rEq, rNe, tCons, tNil, tCB, tLst, tTup, tIfS, tAnd, tOr, tNot, tAndV, tOrV, tNotV, tTest, tB, tIf, tRet, tDrop, tNext, tBreak, tCont, tCall, tCallS, L2.WE, tMakeS, rIsS, rIsB, tChain, gSeq, gRest, gCons, gNil, tFor_seq, tFor_enumS, tLc_seq, tLc_enumS, rAny, rAll, L2.tMeth, StX.tStar, rIn, tLstRg, tRg1, tRg2, rSetI, rSortedSet, rInDT, rInD, rNotInD, rEqD, rNeD, iComb, tFld, tMake, tMkO, sFld, tOst, tNever, tBits, clv, isB,
  Rd.tFor_rng1, Rd.tFor_rng2, Rd.tFor_list, Rd.tFor_tup, Rd.tLc_list, Rd.tLc_tup, Rd.tLc_rng1, Rd.LcTurn, tYes, wipe, Rd.rLenL, Rd.rLenT, Rd.rIntI, Rd.rIxH, rIxHT,  HO.tup.injEq, Rd.at0, Rd.at1, Rd.at2, Rd.at3, Rd.ixN40, Rd.ixN41, Rd.ixN42, Rd.ixN43, Rd.scal_ii, cxOf,
  List.length_cons, List.length_nil, List.length_map, List.map_cons, List.map_nil, upd_same, decide_eq_true_eq, decide_true, decide_false, if_true, if_false, Bool.false_eq_true, Bool.not_true, Bool.not_false, HO.lst.injEq, HO.ins.injEq, List.set_cons_zero, List.set_cons_succ, List.getElem?_cons_zero, List.getElem?_cons_succ, List.append_nil, List.nil_append, List.cons_append, Option.some.injEq, V.ref.injEq, V.int.injEq, V.bl.injEq, List.cons.injEq, exists_eq_left', exists_and_left, exists_eq_left, true_and, and_true, and_self, and_assoc, implies_true, reduceCtorEq, Nat.reduceAdd])

theorem sortedK {X : Cx} (K : PySem.W.Frag) (hu : X.A.units + 64 < cLine) (hK : X.K = K := by rfl) : CallR X (.builtin "sorted") (OwnSort.rSortedD K) := by
  subst hK
  exact OwnSort.cr_sortedD hu
/-- a pair of a set's size and the set -/
def PrAt (H : Hp) (x : Addr × List Nat) : Prop := ∃ t, H x.1 = some (.tup [.int x.2.length, .ref t]) ∧ H t = some (.tup (iv x.2))
theorem PrAt.same {H H' : Hp} {x : Addr × List Nat} (e : Same H H') : PrAt H x → PrAt H' x := fun ⟨t, a, b⟩ => ⟨t, e _ _ a, e _ _ b⟩
theorem PrAt.upd {H : Hp} {x : Addr × List Nat} {D : Addr} {l l' : List V} (hD : H D = some (.lst l)) : PrAt H x → PrAt (upd H D (.lst l')) x := fun ⟨t, a, b⟩ =>
  ⟨t, (upd_ne fun e => by rw [e, hD] at a; cases a).trans a, (upd_ne fun e => by rw [e, hD] at b; cases b).trans b⟩
theorem alike_ints : ∀ s t : List Nat, PySem.W.alikeAll (s.map fun g => PyData.int (g : Nat)) (t.map fun g => PyData.int (g : Nat)) = true
  | [], [] => by simp [PySem.W.alikeAll]
  | [], _ :: _ => by simp [PySem.W.alikeAll]
  | _ :: _, [] => by simp [PySem.W.alikeAll]
  | x :: s, y :: t => by
    simp only [List.map_cons, PySem.W.alikeAll, PySem.W.alike, alike_ints s t, Bool.and_self]
theorem alike_enc (s t : List Nat) : PySem.W.alike (enc s) (enc t) = true := by
  unfold enc
  simp only [PySem.W.alike, PySem.W.alikeAll, alike_ints s t, Bool.and_self]
theorem enc_depth (s : List Nat) : (enc s).depth = 2 := by
  have h := (lay_ints s).2
  unfold enc
  simp [PyData.depth, PyData.depthAll, h]
theorem PrAt.dp {K : PySem.W.Frag} {H : Hp} {x : Addr × List Nat} : PrAt H x → Dp K H (.ref x.1) (enc x.2) := fun ⟨t, a, b⟩ => .tup (SqT.of a) (.cons (.int _) (.cons (dp_set b) .nil))
theorem sort_pairs (L : List (Addr × List Nat)) : ((L.map fun x => (x.1, enc x.2)).mergeSort (PySem.W.dataLe false (·.2))) = (L.mergeSort fun x y => leS x.2 y.2).map fun x => (x.1, enc x.2) :=
  (List.map_mergeSort (f := fun x : Addr × List Nat => (x.1, enc x.2)) (r := fun x y => leS x.2 y.2) fun _ _ _ _ => rfl).symm
theorem sort_sets (L : List (Addr × List Nat)) : (L.mergeSort fun x y => leS x.2 y.2).map (·.2) = (L.map (·.2)).mergeSort leS :=
  List.map_mergeSort fun _ _ _ _ => rfl
section
variable {P : Program} {w : World} {K : PySem.W.Frag} {mg : Str → Option Value} {base : Heap} {a : Ad}
/-! ### _law_ordered -/
def spOrd : Sp := fun vs H Q _ => ∃ (p : Addr) (n : Nat) (S : List Bool), vs = [.ref p] ∧ H p = some (.lst (S.map V.bl)) ∧ Fam n S ∧ ∀ r us H', H r = none → Same H H' → H' r = some (.lst us) → Tups H' us (famL n S) → Q (.ref r) H'
theorem sc_law_ordered : FnScope ["inside", "pairs", "mask", "pair"] ["inside"] (defScope s_law_ordered) := ⟨rfl, rfl, rfl, by decide +kernel, rfl, by decide +kernel, by decide +kernel⟩
theorem ok_law_ordered (T : Txt K mg a) : FnOk P w K mg base CX0 2 a.a_law_ordered a.d_law_ordered ["inside"] spOrd := by
  refine T.fn_law_ordered.ok sc_law_ordered (fun vs H Q E h => ?_) (fun cdv A outer s H vs Q E hr h => ?_)
  · obtain ⟨p, n, S, rfl, _⟩ := h
    rfl
  · obtain ⟨p, n, S, rfl, hp, F, k⟩ := h
    refine ⟨_, (pss_cons (ps_set (i := 1) sc_law_ordered.nd rfl (Or.inl rfl) (pe_callB (sortedK K hr.units) (by rfl) T.no_sorted (by decide +kernel) (pa_cons (pe_lc (own := [("mask", 2)]) (by rfl) sc_law_ordered.nd (pi_range1 (by rfl) T.no_range (pa_cons (pe_callB Rd.call_lenL (by rfl) T.no_len PySem.boot_len (pa_cons (pv 0) pa_nil)) pa_nil)) (blkOk_by (own := [("mask", 2)]) (N := ["inside", "pairs", "mask", "pair"]) (sc := defScope s_law_ordered) (by decide +kernel)) (fun _ _ _ _ _ => pg_name (i := 2) sc_law_ordered.nd rfl (Or.inl rfl)) (fun _ _ _ _ _ => pts_one (pt_val (pe_ix Rd.ixH (pv 0) (pv 2) (fun _ _ => rfl)))) (fun _ _ _ _ _ => (pe_tup (pa_cons (pe_callB (lenK K) (by rfl) T.no_len PySem.boot_len (pa_cons (pe_call (ok_law_things T) (hr.mono (by decide)) (by rfl) T.mg_law_things T.fn_law_things.kp T.b_law_things .nil pass0 (pa_cons (pv 2) pa_nil)) pa_nil)) (pa_cons (pe_call (ok_law_things T) (hr.mono (by decide)) (by rfl) T.mg_law_things T.fn_law_things.kp T.b_law_things .nil pass0 (pa_cons (pv 2) pa_nil)) pa_nil))))) pa_nil)))
      (pss_one (ps_ret (pe_lc (own := [("pair", 3)]) (by rfl) sc_law_ordered.nd (pi_list (pv 1)) (blkOk_by (own := [("pair", 3)]) (N := ["inside", "pairs", "mask", "pair"]) (sc := defScope s_law_ordered) (by decide +kernel)) (fun _ _ _ _ _ => pg_name (i := 3) sc_law_ordered.nd rfl (Or.inl rfl)) (fun _ _ _ _ _ => pts_nil) (fun _ _ _ _ _ => (pe_ix ixHT (pv 3) pe_int (fun _ _ => rfl))))))), ?_⟩
    show (_ : TS) _ [some (V.ref p), none, none, none] H
    have n6 := F.n6
    have p64 := pow64 n6
    walk_at "rd"
    refine ⟨_, SqL.of hp, ?_⟩
    rw [List.length_map, F.len, Int.toNat_natCast]
    refine ⟨by have : 0 < 2 ^ n := Nat.pow_pos (by decide); omega, by omega, ?_⟩
    refine Rd.lcl_rng (fun D i H5 => H D = none ∧ Same H H5 ∧ ∃ L : List (Addr × List Nat), H5 D = some (.lst (L.map fun x => V.ref x.1)) ∧ (∀ x ∈ L, PrAt H5 x) ∧ L.map (·.2) = ((List.range i).filter (In S)).map bits) (fun D hD => ⟨hD, same_upd hD, [], upd_same, (fun _ h => by cases h), rfl⟩) (fun D i H5 hi ⟨n5, e5, L, a5, pL, eL⟩ => ?_) (fun D H5 _ ⟨n5, e5, L, a5, pL, eL⟩ => ?_)
    · have Ll : L.length ≤ i := by
        have z := congrArg List.length eL
        rw [List.length_map, List.length_map] at z
        have := List.length_filter_le (In S) (List.range i)
        rw [List.length_range] at this
        omega
      have rs := List.range_succ (n := i)
      walk_at "rd"
      rw [Int.zero_add]
      refine ⟨_, e5 _ _ hp, _, in_bool (by rw [F.len]; exact hi), _, rfl, ite2 (fun hc => ?_) (fun hc => ⟨n5, e5, L, a5, pL, ?_⟩)⟩
      · refine ⟨i, rfl, fun r1 H6 h1 e6 a6 => ⟨r1, rfl, _, .inr (SqT.of a6), i, rfl, fun r2 H7 h2 e7 a7 => ⟨by decide, fun q hq => ?_⟩⟩⟩
        have e8 : Same H7 (upd H7 q (.tup [V.int (iv (bits i)).length, V.ref r2])) := same_upd hq
        have a8 := (e8 _ _ (e7 _ _ (e6 _ _ a5)))
        have e9 := ((e5.trans e6).trans e7).trans e8
        refine ⟨_, a8, small (by rw [List.length_map]; omega), n5, fun b o hb => (upd_ne (ne_of_none hb n5)).trans (e9 _ _ hb), L ++ [(q, bits i)], by rw [List.map_append]; rfl, fun x hx => ?_, ?_⟩
        · refine PrAt.upd a8 ?_
          rcases List.mem_append.mp hx with hx | hx
          · exact (pL x hx).same ((e6.trans e7).trans e8)
          · obtain rfl := List.mem_singleton.mp hx
            refine ⟨r2, ?_, e8 _ _ a7⟩
            rw [iv_len]
            exact upd_same
        · rw [List.map_append, eL, rs, List.filter_append, List.filter_cons_of_pos hc, List.map_append]
          rfl
      · rw [rs, List.filter_append, List.filter_cons_of_neg hc, List.filter_nil, List.append_nil]
        exact eL
    · have Lm : (L.map (·.2)).Perm (famL n S) := by
        rw [eL]
        have z := (perm_masks n6).filter fun s => In S (mk s)
        rw [List.filter_map] at z
        rw [show (List.range (2 ^ n)).filter (In S) = (List.range (2 ^ n)).filter ((fun s => In S (mk s)) ∘ bits) from List.filter_congr fun m hm => by
          show In S m = In S (mk (bits m))
          rw [(bits_in n6 (List.mem_range.mp hm)).1]]
        exact z
      have sorted := sorted_eq n6 Lm
      refine ⟨D, L.map fun x => (x.1, enc x.2), rfl, ?_, fun b hb => ?_, ?_, ?_, fun b hb => ?_, ?_, fun q hq => ?_⟩
      · rw [List.map_map]
        exact SqL.of a5
      · obtain ⟨x, hx, rfl⟩ := List.mem_map.mp hb
        exact (pL x hx).dp
      · rw [List.map_map]
        intro d hd d' hd'
        obtain ⟨x, _, rfl⟩ := List.mem_map.mp hd
        obtain ⟨y, _, rfl⟩ := List.mem_map.mp hd'
        exact alike_enc _ _
      · rw [List.map_map]
        refine .inl fun d hd => ?_
        obtain ⟨x, _, rfl⟩ := List.mem_map.mp hd
        exact ⟨_, _, rfl⟩
      · obtain ⟨x, hx, rfl⟩ := List.mem_map.mp hb
        show (enc x.2).depth ≤ 60
        rw [enc_depth]
        decide
      · rw [List.length_map, show L.length = ((List.range (2 ^ n)).filter (In S)).length by have z := congrArg List.length eL; rwa [List.length_map, List.length_map] at z]
        have := List.length_filter_le (In S) (List.range (2 ^ n))
        rw [List.length_range] at this
        exact Nat.le_of_lt (small (by omega))
      · rw [sort_pairs, List.map_map]
        rw [← sort_sets] at sorted
        refine ⟨q, rfl, ⟨_, SqL.of upd_same⟩, ?_⟩
        have pM : ∀ x ∈ L.mergeSort fun x y => leS x.2 y.2, PrAt H5 x := fun x hx => pL x (List.mem_mergeSort.mp hx)
        generalize (L.mergeSort fun x y => leS x.2 y.2) = M at *
        have e6 : Same H5 (upd H5 q (HO.lst (List.map ((fun b => V.ref b.fst) ∘ fun x => (x.fst, enc x.snd)) M))) := same_upd hq
        have pM := fun x hx => (pM x hx).same e6
        have aM : upd H5 q (HO.lst (List.map ((fun b => V.ref b.fst) ∘ fun x => (x.fst, enc x.snd)) M)) q = some (.lst (M.map fun x => V.ref x.1)) := upd_same
        have fq : H q = none := e5.free hq
        revert pM aM
        generalize upd H5 q (HO.lst (List.map ((fun b => V.ref b.fst) ∘ fun x => (x.fst, enc x.snd)) M)) = H6 at e6
        intro pM aM
        have Ml : M.length < 65 := by
          have z := congrArg List.length sorted
          rw [List.length_map] at z
          have := List.length_filter_le (fun s => In S (mk s)) (allS n)
          rw [allS_len n6] at this
          omega
        refine Rd.lcl_list (xs := M.map fun x => V.ref x.1) (fun D2 i H7 => H6 D2 = none ∧ Same H6 H7 ∧ ∃ us, H7 D2 = some (.lst us) ∧ us.length = i ∧ Tups H7 us ((M.map (·.2)).take i)) (fun D2 hD => ⟨hD, same_upd hD, [], upd_same, rfl, trivial⟩) (fun D2 i H7 _ p => p.2.1.seq (SqL.of aM)) (fun D2 i x H7 hx ⟨n7, e7, us, a7, ul, tu⟩ => ?_) (fun D2 H7 _ ⟨n7, e7, us, a7, ul, tu⟩ => ?_)
        · rw [List.getElem?_map] at hx
          obtain ⟨m, hm, rfl⟩ : ∃ m, M[i]? = some m ∧ x = V.ref m.1 := by
            cases e : M[i]? with
            | none => rw [e] at hx; cases hx
            | some m => rw [e] at hx; exact ⟨m, rfl, (Option.some.inj hx).symm⟩
          have il := (List.getElem?_eq_some_iff.mp hm).1
          obtain ⟨t, b1, b2⟩ := pM m (List.mem_of_getElem? hm)
          walk_at "rd"
          have e8 : Same H6 (upd H7 D2 (.lst (us ++ [V.ref t]))) := fun b o hb => (upd_ne (ne_of_none hb n7)).trans (e7 _ _ hb)
          refine ⟨_, e7 _ _ b1, _, rfl, _, a7, small (by omega), n7, e8, by rw [List.length_append, ul]; rfl, ?_⟩
          rw [List.take_add_one, List.getElem?_map, hm]
          exact Tups.app (Tups.upd a7 tu) ⟨⟨t, rfl, e8 _ _ b2⟩, trivial⟩
        · rw [List.take_of_length_le (by rw [List.length_map, List.length_map]; exact Nat.le_refl _), sorted] at tu
          exact k D2 us H7 (e5.free (e6.free n7)) ((e5.trans e6).trans e7) a7 tu
end

end K23
namespace K23
open PySem PySem.Spec PyProof.Rows L2 Own OwnSeq OwnSet OwnComb OwnSort OwnHot OwnExN OwnProj
local macro_rules | `(tactic| walk_at "rd") => `(tactic| simp only [tSeq, tAsg, tOp, tUn, tVar, gName, gSub, rIxL, rIxT, rSetL, tC, rI0, rI, rU, rEq, rNe, tCons, tNil, tCB, tLst, tTup, tIfS, tAnd, tOr, tNot, tAndV, tOrV, tNotV, tTest, tB, tIf, tRet, tDrop, tNext, tBreak, tCont, tCall, tCallS, L2.WE, tMakeS, rIsS, rIsB, tChain, gSeq, gRest, gCons, gNil, tFor_seq, tFor_enumS, tLc_seq, tLc_enumS, rAny, rAll, L2.tMeth, StX.tStar, rIn, tLstRg, tRg1, tRg2, rSetI, rSortedSet, rInDT, rInD, rNotInD, rEqD, rNeD, iComb, tFld, tMake, tMkO, sFld, tOst, tNever, tBits, clv, isB,
  Rd.tFor_rng1, Rd.tFor_rng2, Rd.tFor_list, Rd.tFor_tup, Rd.tLc_list, Rd.tLc_tup, Rd.tLc_rng1, Rd.LcTurn, tYes, wipe, Rd.rLenL, Rd.rLenT, Rd.rIntI, Rd.rIxH, rIxHT,  HO.tup.injEq, Rd.at0, Rd.at1, Rd.at2, Rd.at3, Rd.ixN40, Rd.ixN41, Rd.ixN42, Rd.ixN43, Rd.scal_ii, cxOf,
  List.length_cons, List.length_nil, List.length_map, List.map_cons, List.map_nil, upd_same, decide_eq_true_eq, decide_true, decide_false, if_true, if_false, Bool.false_eq_true, Bool.not_true, Bool.not_false, HO.lst.injEq, HO.ins.injEq, List.set_cons_zero, List.set_cons_succ, List.getElem?_cons_zero, List.getElem?_cons_succ, List.append_nil, List.nil_append, List.cons_append, Option.some.injEq, V.ref.injEq, V.int.injEq, V.bl.injEq, List.cons.injEq, exists_eq_left', exists_and_left, exists_eq_left, true_and, and_true, and_self, and_assoc, implies_true, reduceCtorEq, Nat.reduceAdd])

theorem famL_len {n : Nat} {S : List Bool} (h : n ≤ 6) : (famL n S).length ≤ 2 ^ n := by
  have := List.length_filter_le (fun s => In S (mk s)) (allS n)
  rw [allS_len h] at this
  exact this
theorem Tups.get {H : Hp} {xs : List V} {gs : List (List Nat)} {i : Nat} {g : List Nat} (h : Tups H xs gs) (hg : gs[i]? = some g) : ∃ q, xs[i]? = some (.ref q) ∧ H q = some (.tup (iv g)) := by
  have il := (List.getElem?_eq_some_iff.mp hg).1
  have e := List.getElem?_eq_getElem (l := xs) (i := i) (by rw [h.len]; exact il)
  obtain ⟨g', hg', q, hq, a⟩ := h.at e
  rw [hg] at hg'
  rw [e, hq]
  exact ⟨q, rfl, Option.some.inj hg' ▸ a⟩
def rIsO (K : PySem.W.Frag) : List V → Hp → VK → Prop := fun xs H Q => ∃ f C : Addr, xs = [.ref f, .ref C] ∧ TyOf K H (.ref f) (.ref C) ∧ Q (.bl true) H
theorem selfKit {K : PySem.W.Frag} {C : Addr} : PySem.W.kitOne K (.ref C) (.ref C) = some true := by
  unfold PySem.W.kitOne
  exact if_pos (beq_self_eq_true _)
theorem call_isO {X : Cx} (K : PySem.W.Frag) (hK : X.K = K := by rfl) : CallR X (.builtin "isinstance") (rIsO K) := by
  subst hK
  exact Rd.CallR.imp call_isi fun xs H Q ⟨f, C, e, h, q⟩ => ⟨.ref f, .ref C, .ref C, .ref C, true, e, .own _, .base h, selfKit, q⟩
section
variable {P : Program} {w : World} {K : PySem.W.Frag} {mg : Str → Option Value} {base : Heap} {a : Ad}
/-! ### _law_integer, _law_is, == -/
def spInt : Sp := fun vs H Q _ => ∃ i : Int, vs = [.int i] ∧ Q (.bl true) H
theorem sc_law_integer : FnScope ["value"] ["value"] (defScope s_law_integer) := ⟨rfl, rfl, rfl, by decide +kernel, rfl, by decide +kernel, by decide +kernel⟩
theorem ok_law_integer (T : Txt K mg a) : FnOk P w K mg base CX0 1 a.a_law_integer a.d_law_integer ["value"] spInt := by
  refine T.fn_law_integer.ok sc_law_integer (fun vs H Q E h => ?_) (fun cdv A outer s H vs Q E hr h => ?_)
  · obtain ⟨i, rfl, _⟩ := h
    rfl
  · obtain ⟨i, rfl, k⟩ := h
    refine ⟨_, (pss_one (ps_ret (pe_and (pe_callB (call_isB .int) (by rfl) T.no_isinstance (by decide +kernel) (pa_cons (pv 0) (pa_cons (pe_bltn (v := .ty "int") (u := .type "int") (by rfl) T.no_int (by decide +kernel) rfl) pa_nil))) (pe_one (pe_not (pe_callB (call_isB .bl) (by rfl) T.no_isinstance (by decide +kernel) (pa_cons (pv 0) (pa_cons (pe_bltn (v := .ty "bool") (u := .type "bool") (by rfl) T.no_bool (by decide +kernel) rfl) pa_nil)))))))), ?_⟩
    show (_ : TS) _ [some (V.int i)] H
    walk_at "rd"
    refine ⟨.int, .int _, ?_⟩
    rw [if_pos (by decide)]
    exact ⟨.int, .int _, k⟩
def spLIs (C : Addr) : Sp := fun vs H Q _ => ∃ (f r n : Nat) (S : List Bool) (us : List V), vs = [.ref f, .int n, .ref r] ∧ FamV C H f n S ∧ H r = some (.lst us) ∧ Tups H us (famL n S) ∧ ∀ H', Same H H' → Q (.bl true) H'
theorem sc_law_is : FnScope ["family", "size", "sets", "k", "at"] ["family", "size", "sets"] (defScope s_law_is) := ⟨rfl, rfl, rfl, by decide +kernel, rfl, by decide +kernel, by decide +kernel⟩
theorem ok_law_is (T : Txt K mg a) : FnOk P w K mg base CX0 3 a.a_law_is a.d_law_is ["family", "size", "sets"] (spLIs a.C_Family) := by
  refine T.fn_law_is.ok sc_law_is (fun vs H Q E h => ?_) (fun cdv A outer s H vs Q E hr h => ?_)
  · obtain ⟨f, r, n, S, us, rfl, _⟩ := h
    rfl
  · obtain ⟨f, r, n, S, us, rfl, F, hr1, tu, k⟩ := h
    refine ⟨_, (pss_cons (ps_if (PW.pt (pw_or (pt_not (pt_val (pe_callB (call_isO K) (by rfl) T.no_isinstance (by decide +kernel) (pa_cons (pv 0) (pa_cons (pe_glob (v := .ref a.C_Family) rfl T.mg_Family rfl) pa_nil))))) (pw_or (pt_not (pt_val (pe_call (ok_law_integer T) (hr.mono (by decide)) (by rfl) T.mg_law_integer T.fn_law_integer.kp T.b_law_integer .nil pass0 (pa_cons (pe_fldK K (pv 0)) pa_nil)))) (pw_or1 (pt_cmpR op_ne (pe_fldK K (pv 0)) (pv 1) (nomark _)))))) (pss_one (ps_ret pe_bl)) pss_nil)
      (pss_cons (ps_if (PW.pt (pw_or (pt_not (pt_val (pe_callB (call_isB .tup) (by rfl) T.no_isinstance (by decide +kernel) (pa_cons (pe_fldK K (pv 0)) (pa_cons (pe_bltn (v := .ty "tuple") (u := .type "tuple") (by rfl) T.no_tuple (by decide +kernel) rfl) pa_nil))))) (pw_or1 (pt_cmpR op_ne (pe_callB (lenK K) (by rfl) T.no_len PySem.boot_len (pa_cons (pe_fldK K (pv 0)) pa_nil)) (pe_callB (lenK K) (by rfl) T.no_len PySem.boot_len (pa_cons (pv 2) pa_nil)) (nomark _))))) (pss_one (ps_ret pe_bl)) pss_nil)
      (pss_cons (ps_for PassesOwn.never rfl (pi_range1 (by rfl) T.no_range (pa_cons (pe_callB (lenK K) (by rfl) T.no_len PySem.boot_len (pa_cons (pv 2) pa_nil)) pa_nil)) (pg_name (i := 3) sc_law_is.nd rfl (Or.inl rfl))
        (pss_cons (ps_if (PW.pt (pw_or (pt_not (pt_val (pe_callB (call_isB .tup) (by rfl) T.no_isinstance (by decide +kernel) (pa_cons (pe_ix ixHT (pe_fldK K (pv 0)) (pv 3) (fun _ _ => rfl)) (pa_cons (pe_bltn (v := .ty "tuple") (u := .type "tuple") (by rfl) T.no_tuple (by decide +kernel) rfl) pa_nil))))) (pw_or1 (pt_cmpR op_ne (pe_callB (lenK K) (by rfl) T.no_len PySem.boot_len (pa_cons (pe_ix ixHT (pe_fldK K (pv 0)) (pv 3) (fun _ _ => rfl)) pa_nil)) (pe_callB (lenK K) (by rfl) T.no_len PySem.boot_len (pa_cons (pe_ix Rd.ixH (pv 2) (pv 3) (fun _ _ => rfl)) pa_nil)) (nomark _))))) (pss_one (ps_ret pe_bl)) pss_nil)
        (pss_one (ps_for PassesOwn.never rfl (pi_range1 (by rfl) T.no_range (pa_cons (pe_callB (lenK K) (by rfl) T.no_len PySem.boot_len (pa_cons (pe_ix Rd.ixH (pv 2) (pv 3) (fun _ _ => rfl)) pa_nil)) pa_nil)) (pg_name (i := 4) sc_law_is.nd rfl (Or.inl rfl))
          (pss_one (ps_if (PW.pt (pw_or (pt_not (pt_val (pe_call (ok_law_integer T) (hr.mono (by decide)) (by rfl) T.mg_law_integer T.fn_law_integer.kp T.b_law_integer .nil pass0 (pa_cons (pe_ix ixHT (pe_ix ixHT (pe_fldK K (pv 0)) (pv 3) (fun _ _ => rfl)) (pv 4) (fun _ _ => rfl)) pa_nil)))) (pw_or1 (pt_cmpR op_ne (pe_ix ixHT (pe_ix ixHT (pe_fldK K (pv 0)) (pv 3) (fun _ _ => rfl)) (pv 4) (fun _ _ => rfl)) (pe_ix ixHT (pe_ix Rd.ixH (pv 2) (pv 3) (fun _ _ => rfl)) (pv 4) (fun _ _ => rfl)) (nomark _))))) (pss_one (ps_ret pe_bl)) pss_nil))))))
      (pss_one (ps_ret pe_bl))))), ?_⟩
    show (_ : TS) _ [some (V.ref f), some (V.int n), some (V.ref r), none, none] H
    obtain ⟨dx, t, ys, hf, ht, tv⟩ := F.ob
    have n6 := F.fam.n6
    have p64 := pow64 n6
    have fl := famL_len (S := S) n6
    have len := tv.len
    walk_at "rd"
    refine ⟨f, a.C_Family, rfl, .ins hf T.cl_Family T.cg_Family T.cget T.ctk T.mr_Family, ?_⟩
    have hf1 := hf
    have ht1 := ht
    have tv1 := tv
    have ul := tu.len
    refine ⟨_, rfl, ?_⟩
    rw [if_neg (by decide)]
    refine ⟨_, dx, ff t n, hf1, T.cl_Family, T.na_Family_size, _, ff_size t n, (n : Nat), rfl, _, rfl, ?_⟩
    rw [if_neg (by decide)]
    refine ⟨_, dx, ff t n, hf1, T.cl_Family, T.na_Family_size, _, ff_size t n, rfl, ?_⟩
    rw [if_neg (by simp)]
    refine ⟨_, dx, ff t n, hf1, T.cl_Family, T.na_Family_sets, _, ff_sets t n, ?_⟩
    refine ⟨.tup, .tup ht1, ?_⟩
    rw [if_neg (by decide)]
    refine ⟨_, dx, ff t n, hf1, T.cl_Family, T.na_Family_sets, _, ff_sets t n, t, rfl, _, .inr (SqT.of ht1), _, .inl (SqL.of hr1), ?_⟩
    rw [if_neg (by simp; omega)]
    refine ⟨_, .inl (SqL.of hr1), by omega, by omega, ?_⟩
    rw [Int.toNat_natCast]
    refine Rd.loop_rngC (fun σ H' => ∃ o4 o5, σ = [some (V.ref f), some (V.int n), some (V.ref r), o4, o5] ∧ H' = H) (fun _ σ H' => ∃ o4 o5, σ = [some (V.ref f), some (V.int n), some (V.ref r), o4, o5] ∧ H' = H) ⟨none, none, rfl, rfl⟩ ?_ (fun _ _ z => z) ?_
    · rintro bk hbk i σ H2 hi ⟨o4, o5, rfl, rfl⟩
      obtain ⟨s', hs⟩ : ∃ s', (famL n S)[i]? = some s' := ⟨_, List.getElem?_eq_getElem (by omega)⟩
      have sa := allS_at (famL_mem.mp (List.mem_of_getElem? hs)).1 n6
      obtain ⟨p1, up1, hp1⟩ := tu.get hs
      obtain ⟨p2, up2, hp2⟩ := tv1.get hs
      walk_at "rd"
      rw [Int.zero_add]
      refine ⟨_, dx, ff t n, hf1, T.cl_Family, T.na_Family_sets, _, ff_sets t n, t, rfl, _, ht1, _, atI_nat up2, .tup, .tup hp2, ?_⟩
      rw [if_neg (by decide)]
      refine ⟨_, dx, ff t n, hf1, T.cl_Family, T.na_Family_sets, _, ff_sets t n, t, rfl, _, ht1, _, atI_nat up2, p2, rfl, _, .inr (SqT.of hp2), _, hr1, _, atI_nat up1, p1, rfl, _, .inr (SqT.of hp1), ?_⟩
      rw [if_neg (by simp)]
      refine ⟨_, hr1, _, atI_nat up1, p1, rfl, _, .inr (SqT.of hp1), ?_⟩
      rw [iv_len, Int.toNat_natCast]
      refine ⟨by omega, by omega, Rd.loop_rngC (fun σ H' => ∃ o5, σ = [some (V.ref f), some (V.int n), some (V.ref r), some (V.int i), o5] ∧ H' = H2) (fun _ σ H' => ∃ o5, σ = [some (V.ref f), some (V.int n), some (V.ref r), some (V.int i), o5] ∧ H' = H2) ⟨_, rfl, rfl⟩ ?_ (fun _ _ z => z) ?_⟩
      · rintro bk2 hbk2 j σ H3 hj ⟨o5, rfl, rfl⟩
        have ge := iv_at (List.getElem?_eq_getElem hj)
        walk_at "rd"
        rw [Int.zero_add]
        refine ⟨_, dx, ff t n, hf1, T.cl_Family, T.na_Family_sets, _, ff_sets t n, t, rfl, _, ht1, _, atI_nat up2, p2, rfl, _, hp2, _, ge, _, rfl, _, rfl, ?_⟩
        rw [if_neg (by decide)]
        refine ⟨_, dx, ff t n, hf1, T.cl_Family, T.na_Family_sets, _, ff_sets t n, t, rfl, _, ht1, _, atI_nat up2, p2, rfl, _, hp2, _, ge, _, hr1, _, atI_nat up1, p1, rfl, _, hp1, _, ge, rfl, ?_⟩
        rw [if_neg (by simp)]
      · rintro σ H3 ⟨o5, rfl, rfl⟩
        walk_at "rd"
        exact ⟨_, rfl⟩
    · rintro σ H2 ⟨o4, o5, rfl, rfl⟩
      walk_at "rd"
      exact k _ (fun _ _ h => h)
theorem eqv_all : ∀ ss : List (List Nat), PyData.eqvAll (ss.map dS) (ss.map dS) = true
  | [] => by simp [PyData.eqvAll]
  | s :: ss => by
    rw [List.map_cons]
    simp only [PyData.eqvAll, eqv_set s s, eqv_all ss, Bool.and_true, decide_eq_true_eq]
theorem eqv_tups (ss : List (List Nat)) : PyData.eqv (.tuple (ss.map dS)) (.tuple (ss.map dS)) = true := by
  simp only [PyData.eqv]
  exact eqv_all ss
def spFEq (C : Addr) : Sp := fun vs H Q _ => ∃ (f g n : Nat) (S : List Bool), vs = [.ref f, .ref g] ∧ FamV C H f n S ∧ FamV C H g n S ∧ ∀ H', Same H H' → Q (.bl true) H'
theorem sc_Family_eq : FnScope ["self", "other"] ["self", "other"] (defScope s_Family_eq) := ⟨rfl, rfl, rfl, by decide +kernel, rfl, by decide +kernel, by decide +kernel⟩
theorem ok_Family_eq (T : Txt K mg a) : FnOk P w K mg base CX0 1 a.a_Family_eq a.d_Family_eq ["self", "other"] (spFEq a.C_Family) := by
  refine T.fn_Family_eq.ok sc_Family_eq (fun vs H Q E h => ?_) (fun cdv A outer s H vs Q E hr h => ?_)
  · obtain ⟨f, g, n, S, rfl, _⟩ := h
    rfl
  · obtain ⟨f, g, n, S, rfl, F, G, k⟩ := h
    refine ⟨_, (pss_one (ps_ret (pe_and (pe_callB (call_isO K) (by rfl) T.no_isinstance (by decide +kernel) (pa_cons (pv 1) (pa_cons (pe_glob (v := .ref a.C_Family) rfl T.mg_Family rfl) pa_nil))) (pe_and (pe_cmpR op_eq (pe_fldK K (pv 0)) (pe_fldK K (pv 1)) (nomark _)) (pe_one (pe_cmpR (eqD_at K hr.units) (pe_fldK K (pv 0)) (pe_fldK K (pv 1)) (nomark _))))))), ?_⟩
    show (_ : TS) _ [some (V.ref f), some (V.ref g)] H
    obtain ⟨dx, t, ys, hf, ht, tv⟩ := F.ob
    obtain ⟨dy, t2, zs, hg, ht2, tv2⟩ := G.ob
    walk_at "rd"
    refine ⟨g, a.C_Family, rfl, .ins hg T.cl_Family T.cg_Family T.cget T.ctk T.mr_Family, _, rfl, ?_⟩
    rw [if_pos rfl]
    refine ⟨_, dx, ff t n, hf, T.cl_Family, T.na_Family_size, _, ff_size t n, _, dy, ff t2 n, hg, T.cl_Family, T.na_Family_size, _, ff_size t2 n, rfl, ?_⟩
    rw [if_pos rfl]
    refine ⟨_, dx, ff t n, hf, T.cl_Family, T.na_Family_sets, _, ff_sets t n, _, dy, ff t2 n, hg, T.cl_Family, T.na_Family_sets, _, ff_sets t2 n, ?_⟩
    refine ⟨_, .tup (SqT.of ht) (dp_sets tv), _, .tup (SqT.of ht2) (dp_sets tv2), sh_tup _, sh_tup _, ?_⟩
    rw [eqv_tups]
    exact k _ (fun _ _ h => h)
end

end K23
namespace K23
open PySem PySem.Spec PyProof.Rows L2 Own OwnSeq OwnSet OwnComb OwnSort OwnHot OwnExN OwnProj
local macro_rules | `(tactic| walk_at "rd") => `(tactic| simp only [tSeq, tAsg, tOp, tUn, tVar, gName, gSub, rIxL, rIxT, rSetL, tC, rI0, rI, rU, rEq, rNe, tCons, tNil, tCB, tLst, tTup, tIfS, tAnd, tOr, tNot, tAndV, tOrV, tNotV, tTest, tB, tIf, tRet, tDrop, tNext, tBreak, tCont, tCall, tCallS, L2.WE, tMakeS, rIsS, rIsB, tChain, gSeq, gRest, gCons, gNil, tFor_seq, tFor_enumS, tLc_seq, tLc_enumS, rAny, rAll, L2.tMeth, StX.tStar, rIn, tLstRg, tRg1, tRg2, rSetI, rSortedSet, rInDT, rInD, rNotInD, rEqD, rNeD, iComb, tFld, tMake, tMkO, sFld, tOst, tNever, tBits, clv, isB,
  Rd.tFor_rng1, Rd.tFor_rng2, Rd.tFor_list, Rd.tFor_tup, Rd.tLc_list, Rd.tLc_tup, Rd.tLc_rng1, Rd.LcTurn, tYes, wipe, Rd.rLenL, Rd.rLenT, Rd.rIntI, Rd.rIxH, rIxHT,  HO.tup.injEq, Rd.at0, Rd.at1, Rd.at2, Rd.at3, Rd.ixN40, Rd.ixN41, Rd.ixN42, Rd.ixN43, Rd.scal_ii, cxOf,
  List.length_cons, List.length_nil, List.length_map, List.map_cons, List.map_nil, upd_same, decide_eq_true_eq, decide_true, decide_false, if_true, if_false, Bool.false_eq_true, Bool.not_true, Bool.not_false, HO.lst.injEq, HO.ins.injEq, List.set_cons_zero, List.set_cons_succ, List.getElem?_cons_zero, List.getElem?_cons_succ, List.append_nil, List.nil_append, List.cons_append, Option.some.injEq, V.ref.injEq, V.int.injEq, V.bl.injEq, List.cons.injEq, exists_eq_left', exists_and_left, exists_eq_left, true_and, and_true, and_self, and_assoc, implies_true, reduceCtorEq, Nat.reduceAdd])

section
variable {P : Program} {w : World} {K : PySem.W.Frag} {mg : Str → Option Value} {base : Heap} {a : Ad}
theorem cut {t u : TS} {D : Ends} {σ : L2.St} {H : Hp} (G : L2.St → Hp → Prop) (h : ∀ R : L2.St → Hp → Prop, (∀ σ H, G σ H → R σ H) → t { D with nx := R } σ H) (k : ∀ σ H, G σ H → u D σ H) : tSeq t u D σ H := h (u D) k
/-! ### _law_shape -/
def spShape (K : PySem.W.Frag) : Sp := fun vs H Q _ => ∃ (b c p : Addr) (ns : List Int) (l : Bool) (xs : List V), vs = [.ref b, .ref p] ∧ BoxAt K H b c ns ∧ p ≠ b ∧ H p = some (sq l xs) ∧ xs.length ≤ 6 ∧
  ∀ q l' H', BoxAt K H' b c ns → But b H H' → q ≠ b → H' q = some (sq l' xs) → (l' = true → H q = none) → Q (.ref q) H'
theorem sc_law_shape : FnScope ["box", "parts"] ["box", "parts"] (defScope s_law_shape) := ⟨rfl, rfl, rfl, by decide +kernel, rfl, by decide +kernel, by decide +kernel⟩
theorem ok_law_shape (T : Txt K mg a) : FnOk P w K mg base CX0 2 a.a_law_shape a.d_law_shape ["box", "parts"] (spShape K) := by
  refine T.fn_law_shape.ok sc_law_shape (fun vs H Q E h => ?_) (fun cdv A outer s H vs Q E hr h => ?_)
  · obtain ⟨b, c, p, ns, l, xs, rfl, _⟩ := h
    rfl
  · obtain ⟨b, c, p, ns, l, xs, rfl, B, pb, hp, x6, k⟩ := h
    refine ⟨_, (pss_cons (ps_if (pt_cmpR op_eq (pe_call (ok_law_draw T) (hr.mono (by decide)) (by rfl) T.mg_law_draw T.fn_law_draw.kp T.b_law_draw .nil pass0 (pa_cons (pv 0) (pa_cons pe_int pa_nil))) pe_int (nomark _)) (pss_one (ps_ret (pe_callTy call_list_of (by rfl) T.no_list (by decide +kernel) (pa_cons (pv 1) pa_nil)))) pss_nil)
      (pss_one (ps_ret (pe_callTy call_tuple_of (by rfl) T.no_tuple (by decide +kernel) (pa_cons (pv 1) pa_nil))))), ?_⟩
    show (_ : TS) _ [some (V.ref b), some (V.ref p)] H
    walk_at "rd"
    refine drw B (by decide) (by decide) fun x H1 x2 B1 e1 => ⟨rfl, ?_⟩
    have hp1 := e1 _ _ pb hp
    have mk1 : ∀ (l : Addr) (l' : Bool), H1 l = none → Q (.ref l) (upd H1 l (sq l' xs)) := fun l l' hl => by
      have lb := B1.ne_new hl
      have z : But b H (upd H1 l (sq l' xs)) := e1.updn (e1.free lb hl)
      exact k l l' _ (B.upd B1 lb z) z lb upd_same fun _ => e1.free lb hl
    refine ite2 (fun _ => ⟨xs, (seqOr hp1), fun q hq => mk1 q true hq⟩) (fun _ => ⟨xs, ?_⟩)
    cases l with
    | true => exact .inl ⟨SqL.of hp1, fun q hq => mk1 q false hq⟩
    | false => exact .inr ⟨SqT.of hp1, k p false H1 B1 e1 pb hp1 fun h => by cases h⟩
theorem fits {n : Nat} (h : n < 1000) : n ≤ sizeLine := Nat.le_of_lt (small h)
/-! ### _law_long -/
def spLong (K : PySem.W.Frag) : Sp := fun vs H Q _ => ∃ (b c : Addr) (ns : List Int), vs = [.ref b] ∧ BoxAt K H b c ns ∧ ∀ (x : Int) H', BoxAt K H' b c ns → But b H H' → Q (.int x) H'
theorem sc_law_long : FnScope ["box", "number", "k"] ["box"] (defScope s_law_long) := ⟨rfl, rfl, rfl, by decide +kernel, rfl, by decide +kernel, by decide +kernel⟩
theorem ok_law_long (T : Txt K mg a) : FnOk P w K mg base CX0 2 a.a_law_long a.d_law_long ["box"] (spLong K) := by
  refine T.fn_law_long.ok sc_law_long (fun vs H Q E h => ?_) (fun cdv A outer s H vs Q E hr h => ?_)
  · obtain ⟨b, c, ns, rfl, _⟩ := h
    rfl
  · obtain ⟨b, c, ns, rfl, B, k⟩ := h
    refine ⟨_, (pss_cons (ps_set (i := 1) sc_law_long.nd rfl (Or.inl rfl) (pe_op op_add pe_int (pe_call (ok_law_draw T) (hr.mono (by decide)) (by rfl) T.mg_law_draw T.fn_law_draw.kp T.b_law_draw .nil pass0 (pa_cons (pv 0) (pa_cons pe_int pa_nil)))))
      (pss_cons (ps_for PassesOwn.never rfl (pi_range1 (by rfl) T.no_range (pa_cons pe_int pa_nil)) (pg_name (i := 2) sc_law_long.nd rfl (Or.inl rfl))
        (pss_one (ps_set (i := 1) sc_law_long.nd rfl (Or.inl rfl) (pe_op op_add (pe_op op_mulW (pv 1) (pe_op op_pow pe_int pe_int)) (pe_call (ok_law_draw T) (hr.mono (by decide)) (by rfl) T.mg_law_draw T.fn_law_draw.kp T.b_law_draw .nil pass0 (pa_cons (pv 0) (pa_cons pe_int pa_nil)))))))
      (pss_one (ps_ret (pv 1))))), ?_⟩
    show (_ : TS) _ [some (V.ref b), none, none] H
    walk_at "rd"
    refine drw B (by decide) (by decide) fun x H1 x9 B1 e1 => ⟨_, rfl, by decide, by decide, ?_⟩
    rw [show (1 : Int) + (x : Int) = ((1 + x : Nat) : Int) by omega]
    refine Rd.loop_rngC (fun σ H' => ∃ (n : Nat) (o2 : Option V), σ = [some (V.ref b), some (V.int n), o2] ∧ BoxAt K H' b c ns ∧ But b H H')
      (fun i σ H' => ∃ (n : Nat) (o2 : Option V), σ = [some (V.ref b), some (V.int n), o2] ∧ BoxAt K H' b c ns ∧ But b H H' ∧ 0 < n ∧ n < 2 ^ (200 * (i + 1)))
      ⟨1 + x, none, rfl, B1, e1, by omega, Nat.lt_of_lt_of_le (show 1 + x < 2 ^ 10 by omega) (Nat.pow_le_pow_right (by decide) (by omega))⟩ ?_ (fun σ H' ⟨n, o2, q1, q2, q3, _⟩ => ⟨n, o2, q1, q2, q3⟩) ?_
    · rintro bk hbk i σ H2 hi ⟨n, o2, rfl, B2, e2, n0, nb⟩
      walk_at "rd"
      have i9 : i < 9 := hi
      have lg : n.log2 < 200 * (i + 1) := (Nat.log2_lt (by omega)).mpr nb
      refine ⟨⟨by decide, by decide, by decide⟩, ?_, drw B2 (by decide) (by decide) fun d H3 dl B3 e3 => ⟨_, rfl, n * 10 ^ 40 + d, ?_, B3, e2.trans e3, ?_, ?_⟩⟩
      · show (n : Int).natAbs.log2 + ((10 : Int) ^ (40 : Int).toNat).natAbs.log2 < 1000000
        rw [Int.natAbs_natCast, show ((10 : Int) ^ (40 : Int).toNat).natAbs.log2 = 132 by decide +kernel]
        omega
      · rw [Int.natCast_add, Int.natCast_mul, Int.natCast_pow, show (40 : Int).toNat = 40 from rfl, show ((10 : Nat) : Int) = 10 from rfl]
      · exact Nat.lt_of_lt_of_le (Nat.mul_pos n0 (by decide +kernel)) (Nat.le_add_right _ _)
      · have h1 : (n + 1) * 10 ^ 40 ≤ 2 ^ (200 * (i + 1)) * 2 ^ 200 := Nat.mul_le_mul nb (by decide +kernel)
        rw [← Nat.pow_add, show 200 * (i + 1) + 200 = 200 * (i + 1 + 1) by omega, Nat.add_mul, Nat.one_mul] at h1
        have dl' : d < 10 ^ 40 := Nat.lt_of_lt_of_le (show d < 100003 by omega) (by decide +kernel)
        exact Nat.lt_of_lt_of_le (Nat.add_lt_add_left dl' _) h1
    · rintro σ H2 ⟨n, o2, rfl, B2, e2⟩
      walk_at "rd"
      exact k _ H2 B2 e2
theorem inv_ex {p x : Int} (pp : PP p) (x0 : 0 < x) (xp : x < p) : ∃ j : Nat, j < (p - 1).toNat ∧ (x * (1 + (j : Int))) % p = 1 := by
  rcases pp with rfl | rfl | rfl | rfl
  · obtain rfl : x = 1 := by omega
    exact ⟨0, by decide, by decide⟩
  · rcases (show x = 1 ∨ x = 2 by omega) with rfl | rfl
    · exact ⟨0, by decide, by decide⟩
    · exact ⟨1, by decide, by decide⟩
  · rcases (show x = 1 ∨ x = 2 ∨ x = 3 ∨ x = 4 by omega) with rfl | rfl | rfl | rfl
    · exact ⟨0, by decide, by decide⟩
    · exact ⟨2, by decide, by decide⟩
    · exact ⟨1, by decide, by decide⟩
    · exact ⟨3, by decide, by decide⟩
  · rcases (show x = 1 ∨ x = 2 ∨ x = 3 ∨ x = 4 ∨ x = 5 ∨ x = 6 by omega) with rfl | rfl | rfl | rfl | rfl | rfl
    · exact ⟨0, by decide, by decide⟩
    · exact ⟨3, by decide, by decide⟩
    · exact ⟨4, by decide, by decide⟩
    · exact ⟨1, by decide, by decide⟩
    · exact ⟨2, by decide, by decide⟩
    · exact ⟨5, by decide, by decide⟩
/-! ### _law_inverse -/
def spInv : Sp := fun vs H Q _ => ∃ (x p : Int), vs = [.int x, .int p] ∧ PP p ∧ 0 < x ∧ x < p ∧ ∀ y : Int, (x * y) % p = 1 → 0 < y → y < p → Q (.int y) H
theorem sc_law_inverse : FnScope ["number", "p", "other"] ["number", "p"] (defScope s_law_inverse) := ⟨rfl, rfl, rfl, by decide +kernel, rfl, by decide +kernel, by decide +kernel⟩
theorem ok_law_inverse (T : Txt K mg a) : FnOk P w K mg base CX0 1 a.a_law_inverse a.d_law_inverse ["number", "p"] spInv := by
  refine T.fn_law_inverse.ok sc_law_inverse (fun vs H Q E h => ?_) (fun cdv A outer s H vs Q E hr h => ?_)
  · obtain ⟨x, p, rfl, _⟩ := h
    rfl
  · obtain ⟨x, p, rfl, pp, x0, xp, k⟩ := h
    have p0 : 0 < p := by omega
    have p8 : p < 8 := by rcases pp with rfl | rfl | rfl | rfl <;> decide
    refine ⟨_, (pss_cons (ps_for PassesOwn.never rfl (pi_range2 (by rfl) T.no_range (pa_cons pe_int (pa_cons (pv 1) pa_nil))) (pg_name (i := 2) sc_law_inverse.nd rfl (Or.inl rfl))
        (pss_one (ps_if (pt_cmpR op_eq (pe_op op_mod (pe_callTy Rd.call_intI (by rfl) T.no_int (by decide +kernel) (pa_cons (pe_op op_mul (pv 0) (pv 2)) pa_nil)) (pv 1)) pe_int (nomark _)) (pss_one (ps_ret (pv 2))) pss_nil)))
      (pss_one (ps_ret pe_int))), ?_⟩
    show (_ : TS) _ [some (V.int x), some (V.int p), none] H
    walk_at "rd"
    refine ⟨by decide, by decide, by omega, by omega, ?_⟩
    refine Rd.loop_rngC (fun _ _ => False) (fun i σ H' => ∃ o2, σ = [some (V.int x), some (V.int p), o2] ∧ H' = H ∧ ∀ j : Nat, j < i → (x * (1 + (j : Int))) % p ≠ 1) ⟨none, rfl, rfl, fun j h => absurd h (Nat.not_lt_zero _)⟩ ?_ (fun σ H' ⟨_, _, _, h⟩ => ?_) (fun _ _ h => h.elim)
    · rintro bk hbk i σ H2 hi ⟨o2, rfl, rfl, hj⟩
      walk_at "rd"
      refine ⟨.inl ⟨by omega, by omega⟩, p0, ?_⟩
      by_cases h : (x * (1 + (i : Int))) % p = 1
      · rw [if_pos h]
        exact k _ h (by omega) (by omega)
      · rw [if_neg h]
        intro j jl
        by_cases e : j = i
        · exact e ▸ h
        · exact hj j (by omega)
    · obtain ⟨j, jl, je⟩ := inv_ex pp x0 xp
      exact h j jl je
end

end K23
namespace K23
open PySem PySem.Spec PyProof.Rows L2 Own OwnSeq OwnSet OwnComb OwnSort OwnHot OwnExN OwnProj
local macro_rules | `(tactic| walk_at "rd") => `(tactic| simp only [tSeq, tAsg, tOp, tUn, tVar, gName, gSub, rIxL, rIxT, rSetL, tC, rI0, rI, rU, rEq, rNe, tCons, tNil, tCB, tLst, tTup, tIfS, tAnd, tOr, tNot, tAndV, tOrV, tNotV, tTest, tB, tIf, tRet, tDrop, tNext, tBreak, tCont, tCall, tCallS, L2.WE, tMakeS, rIsS, rIsB, tChain, gSeq, gRest, gCons, gNil, tFor_seq, tFor_enumS, tLc_seq, tLc_enumS, rAny, rAll, L2.tMeth, StX.tStar, rIn, tLstRg, tRg1, tRg2, rSetI, rSortedSet, rInDT, rInD, rNotInD, rEqD, rNeD, iComb, tFld, tMake, tMkO, sFld, tOst, tNever, tBits, clv, isB,
  Rd.tFor_rng1, Rd.tFor_rng2, Rd.tFor_list, Rd.tFor_tup, Rd.tLc_list, Rd.tLc_tup, Rd.tLc_rng1, Rd.LcTurn, tYes, wipe, Rd.rLenL, Rd.rLenT, Rd.rIntI, Rd.rIxH, rIxHT,  HO.tup.injEq, Rd.at0, Rd.at1, Rd.at2, Rd.at3, Rd.ixN40, Rd.ixN41, Rd.ixN42, Rd.ixN43, Rd.scal_ii, cxOf,
  List.length_cons, List.length_nil, List.length_map, List.map_cons, List.map_nil, upd_same, decide_eq_true_eq, decide_true, decide_false, if_true, if_false, Bool.false_eq_true, Bool.not_true, Bool.not_false, HO.lst.injEq, HO.ins.injEq, List.set_cons_zero, List.set_cons_succ, List.getElem?_cons_zero, List.getElem?_cons_succ, List.append_nil, List.nil_append, List.cons_append, Option.some.injEq, V.ref.injEq, V.int.injEq, V.bl.injEq, List.cons.injEq, exists_eq_left', exists_and_left, exists_eq_left, true_and, and_true, and_self, and_assoc, implies_true, reduceCtorEq, Nat.reduceAdd])

section
variable {P : Program} {w : World} {K : PySem.W.Frag} {mg : Str → Option Value} {base : Heap} {a : Ad}
/-- the box is no list of whole numbers -/
theorem not_boxI {H : Hp} {b c q : Addr} {ns : List Int} {l : Bool} {s : List Int} (B : BoxAt K H b c ns) (h : H q = some (sq l (zv s))) : q ≠ b := fun e => by
  obtain ⟨n1, n2, n3, hb, _⟩ := B.ob
  rw [e, hb] at h
  cases l with
  | false => cases h
  | true =>
    have z := HO.lst.inj (Option.some.inj h)
    cases s with
    | nil => cases z
    | cons x r => cases (List.cons.inj z).1
theorem RowsI.but {H H' : Hp} {b c : Addr} {ns : List Int} (B : BoxAt K H b c ns) (e : But b H H') {vs : List V} {ss : List (List Int)} (h : RowsI H vs ss) : RowsI H' vs ss :=
  h.keep fun q s z => e q _ (not_boxI (l := true) B z) z
/-- a row under way -/
structure GR (K : PySem.W.Frag) (b c : Addr) (ns : List Int) (H : Hp) (out : Addr) (xs : List V) (rows : List (List Int)) (wd : Nat) (z : Addr) (H' : Hp) : Prop where
  box : BoxAt K H' b c ns
  but : But b H H'
  at' : H' out = some (.lst xs)
  rs : RowsI H' xs rows
  row : ∃ r : List Int, H' z = some (.lst (zv r)) ∧ r.length = wd
  zo : z ≠ out
  zb : z ≠ b
theorem GR.go {b c out z : Addr} {ns : List Int} {H H5 H' : Hp} {xs : List V} {rows : List (List Int)} {wd : Nat} (g : GR K b c ns H out xs rows wd z H5) (ob : out ≠ b) (B' : BoxAt K H' b c ns) (e : But b H5 H') : GR K b c ns H out xs rows wd z H' :=
  let ⟨r, h, l⟩ := g.row
  ⟨B', g.but.trans e, e _ _ ob g.at', g.rs.but g.box e, ⟨r, e _ _ g.zb h, l⟩, g.zo, g.zb⟩
theorem GR.new {b c out z D : Addr} {ns : List Int} {H H5 H' : Hp} {xs : List V} {rows : List (List Int)} {wd : Nat} {r : List Int} (g : GR K b c ns H out xs rows wd z H5) (ob : out ≠ b) (hD : H5 D = none) (B' : BoxAt K H' b c ns) (e : But b H5 H') (h : H' D = some (.lst (zv r))) (l : r.length = wd) : GR K b c ns H out xs rows wd D H' :=
  ⟨B', g.but.trans e, e _ _ ob g.at', g.rs.but g.box e, ⟨r, h, l⟩, fun z => (by rw [z, g.at'] at hD; cases hD), g.box.ne_new hD⟩
/-- one number more in a new row -/
theorem more {b c D : Addr} {ns : List Int} {H5 H6 H7 : Hp} {r : List Int} {x : Int} {i wd : Nat} (B5 : BoxAt K H5 b c ns) (hD : H5 D = none) (e6 : But b H5 H6) (a6 : H6 D = some (.lst (zv r))) (rl : r.length = i) (iw : i < wd) (w6 : wd ≤ 6) (B7 : BoxAt K H7 b c ns) (e7 : But b H6 H7) :
    ∃ acc, H7 D = some (.lst acc) ∧ acc.length < sizeLine ∧ H5 D = none ∧ BoxAt K (L2.upd H7 D (.lst (acc ++ [V.int x]))) b c ns ∧ But b H5 (L2.upd H7 D (.lst (acc ++ [V.int x]))) ∧ ∃ r', acc ++ [V.int x] = zv r' ∧ r'.length = i + 1 := by
  have nD := B5.ne_new hD
  have e8 : But b H5 (L2.upd H7 D (.lst (zv r ++ [V.int x]))) := (e6.trans e7).updn hD
  refine ⟨zv r, e7 _ _ nD a6, small (by rw [zv_len]; omega), hD, B5.upd B7 nD e8, e8, r ++ [x], ?_, by rw [List.length_append, rl]; rfl⟩
  unfold zv
  rw [List.map_append]
  rfl
theorem ite3 {A B X Y : Prop} [Decidable A] [Decidable B] (hx : B → X) (hy : Y) : if A then (if B then X else Y) else Y := by
  split
  · split
    · exact hx ‹B›
    · exact hy
  · exact hy
/-! ### _law_rows -/
def spRowsL (K : PySem.W.Frag) : Sp := fun vs H Q _ => ∃ (b c : Addr) (ns : List Int) (p : Int), vs = [.ref b, .int p] ∧ PP p ∧ BoxAt K H b c ns ∧ ∀ r xs (rows : List (List Int)) (n : Nat) H', BoxAt K H' b c ns → But b H H' → H r = none → r ≠ b → H' r = some (.lst xs) → RowsI H' xs rows → 1 ≤ rows.length → rows.length ≤ 6 → 1 ≤ n → n ≤ 6 → (∀ q ∈ rows, q.length = n) → Q (.ref r) H'
theorem sc_law_rows : FnScope ["box", "p", "many", "wide", "out", "k", "shape", "row", "old", "factor", "one", "two", "at", "number"] ["box", "p"] (defScope s_law_rows) := ⟨rfl, rfl, rfl, by decide +kernel, rfl, by decide +kernel, by decide +kernel⟩
theorem ok_law_rows (T : Txt K mg a) : FnOk P w K mg base CX0 2 a.a_law_rows a.d_law_rows ["box", "p"] (spRowsL K) := by
  refine T.fn_law_rows.ok sc_law_rows (fun vs H Q E h => ?_) (fun cdv A outer s H vs Q E hr h => ?_)
  · obtain ⟨b, c, ns, p, rfl, _⟩ := h
    rfl
  · obtain ⟨b, c, ns, p, rfl, pp, B, k⟩ := h
    have p0 : 0 < p := by rcases pp with rfl | rfl | rfl | rfl <;> decide
    have p8 : p < 8 := by rcases pp with rfl | rfl | rfl | rfl <;> decide
    refine ⟨_, (pss_cons (ps_set (i := 2) sc_law_rows.nd rfl (Or.inl rfl) (pe_op op_add pe_int (pe_call (ok_law_draw T) (hr.mono (by decide)) (by rfl) T.mg_law_draw T.fn_law_draw.kp T.b_law_draw .nil pass0 (pa_cons (pv 0) (pa_cons pe_int pa_nil)))))
      (pss_cons (ps_set (i := 3) sc_law_rows.nd rfl (Or.inr rfl) (pe_op op_add pe_int (pe_call (ok_law_draw T) (hr.mono (by decide)) (by rfl) T.mg_law_draw T.fn_law_draw.kp T.b_law_draw .nil pass0 (pa_cons (pv 0) (pa_cons pe_int pa_nil)))))
      (pss_cons (ps_set (i := 4) sc_law_rows.nd rfl (Or.inl rfl) (pe_lst pa_nil))
      (pss_cons (ps_for PassesOwn.never rfl (pi_range1 (by rfl) T.no_range (pa_cons (pv 2) pa_nil)) (pg_name (i := 5) sc_law_rows.nd rfl (Or.inr rfl))
        (pss_cons (ps_set (i := 6) sc_law_rows.nd rfl (Or.inl rfl) (pe_call (ok_law_draw T) (hr.mono (by decide)) (by rfl) T.mg_law_draw T.fn_law_draw.kp T.b_law_draw .nil pass0 (pa_cons (pv 0) (pa_cons pe_int pa_nil))))
        (pss_cons (ps_setLc (i := 7) (own := [("at", 12)]) (by rfl) sc_law_rows.nd rfl rfl (sw_true rfl rfl rfl (by decide +kernel)) (pi_range1 (by rfl) T.no_range (pa_cons (pv 3) pa_nil)) (blkOk_by (own := [("at", 12)]) (N := ["box", "p", "many", "wide", "out", "k", "shape", "row", "old", "factor", "one", "two", "at", "number"]) (sc := defScope s_law_rows) (by decide +kernel)) (fun _ _ _ _ _ => pg_name (i := 12) sc_law_rows.nd rfl (Or.inl rfl)) (fun _ _ _ _ _ => pts_nil) (fun _ _ _ _ _ => (pe_call (ok_law_draw T) (hr.mono (by decide)) (by rfl) T.mg_law_draw T.fn_law_draw.kp T.b_law_draw .nil pass0 (pa_cons (pv 0) (pa_cons (pv 1) pa_nil)))))
        (pss_cons (ps_if (pt_cmpR op_eq (pv 6) pe_int (nomark _)) (pss_one (ps_setLc (i := 7) (own := [("at", 12)]) (by rfl) sc_law_rows.nd rfl rfl (sw_true rfl rfl rfl (by decide +kernel)) (pi_range1 (by rfl) T.no_range (pa_cons (pv 3) pa_nil)) (blkOk_by (own := [("at", 12)]) (N := ["box", "p", "many", "wide", "out", "k", "shape", "row", "old", "factor", "one", "two", "at", "number"]) (sc := defScope s_law_rows) (by decide +kernel)) (fun _ _ _ _ _ => pg_name (i := 12) sc_law_rows.nd rfl (Or.inl rfl)) (fun _ _ _ _ _ => pts_nil) (fun _ _ _ _ _ => (pe_op op_mul (pv 1) (pe_op op_sub (pe_call (ok_law_draw T) (hr.mono (by decide)) (by rfl) T.mg_law_draw T.fn_law_draw.kp T.b_law_draw .nil pass0 (pa_cons (pv 0) (pa_cons pe_int pa_nil))) pe_int))))) pss_nil)
        (pss_cons (ps_if (pt_cmpR op_eq (pv 6) pe_int (nomark _)) (pss_one (ps_setLc (i := 7) (own := [("at", 12)]) (by rfl) sc_law_rows.nd rfl rfl (sw_true rfl rfl rfl (by decide +kernel)) (pi_range1 (by rfl) T.no_range (pa_cons (pv 3) pa_nil)) (blkOk_by (own := [("at", 12)]) (N := ["box", "p", "many", "wide", "out", "k", "shape", "row", "old", "factor", "one", "two", "at", "number"]) (sc := defScope s_law_rows) (by decide +kernel)) (fun _ _ _ _ _ => pg_name (i := 12) sc_law_rows.nd rfl (Or.inl rfl)) (fun _ _ _ _ _ => pts_nil) (fun _ _ _ _ _ => (pe_op op_sub (pe_call (ok_law_draw T) (hr.mono (by decide)) (by rfl) T.mg_law_draw T.fn_law_draw.kp T.b_law_draw .nil pass0 (pa_cons (pv 0) (pa_cons pe_int pa_nil))) pe_int)))) pss_nil)
        (pss_cons (ps_if (pt_cmpR op_eq (pv 6) pe_int (nomark _)) (pss_one (ps_setLc (i := 7) (own := [("at", 12)]) (by rfl) sc_law_rows.nd rfl rfl (sw_true rfl rfl rfl (by decide +kernel)) (pi_range1 (by rfl) T.no_range (pa_cons (pv 3) pa_nil)) (blkOk_by (own := [("at", 12)]) (N := ["box", "p", "many", "wide", "out", "k", "shape", "row", "old", "factor", "one", "two", "at", "number"]) (sc := defScope s_law_rows) (by decide +kernel)) (fun _ _ _ _ _ => pg_name (i := 12) sc_law_rows.nd rfl (Or.inl rfl)) (fun _ _ _ _ _ => pts_nil) (fun _ _ _ _ _ => (pe_callTy call_int1 (by rfl) T.no_int (by decide +kernel) (pa_cons (pe_cmpR op_eq (pv 12) (pe_op op_mod (pe_callTy Rd.call_intI (by rfl) T.no_int (by decide +kernel) (pa_cons (pv 5) pa_nil)) (pv 3)) (nomark _)) pa_nil))))) pss_nil)
        (pss_cons (ps_if (PW.pt (pw_and (pt_cmpR op_eq (pv 6) pe_int (nomark _)) (pw_and1 (pt_cmpR op_gt (pv 5) pe_int (nomark _))))) (pss_cons (ps_set (i := 8) sc_law_rows.nd rfl (Or.inl rfl) (pe_ix Rd.ixH (pv 4) (pe_call (ok_law_draw T) (hr.mono (by decide)) (by rfl) T.mg_law_draw T.fn_law_draw.kp T.b_law_draw .nil pass0 (pa_cons (pv 0) (pa_cons (pv 5) pa_nil))) (fun _ _ => rfl)))
          (pss_cons (ps_set (i := 9) sc_law_rows.nd rfl (Or.inr rfl) (pe_op op_add pe_int (pe_call (ok_law_draw T) (hr.mono (by decide)) (by rfl) T.mg_law_draw T.fn_law_draw.kp T.b_law_draw .nil pass0 (pa_cons (pv 0) (pa_cons pe_int pa_nil)))))
          (pss_one (ps_setLc (i := 7) (own := [("number", 13)]) (by rfl) sc_law_rows.nd rfl rfl (sw_true rfl rfl rfl (by decide +kernel)) (pi_told K (pv 8)) (blkOk_by (own := [("number", 13)]) (N := ["box", "p", "many", "wide", "out", "k", "shape", "row", "old", "factor", "one", "two", "at", "number"]) (sc := defScope s_law_rows) (by decide +kernel)) (fun _ _ _ _ _ => pg_name (i := 13) sc_law_rows.nd rfl (Or.inl rfl)) (fun _ _ _ _ _ => pts_nil) (fun _ _ _ _ _ => (pe_op op_mul (pv 13) (pv 9))))))) pss_nil)
        (pss_cons (ps_if (PW.pt (pw_and (pt_cmpR op_eq (pv 6) pe_int (nomark _)) (pw_and1 (pt_cmpR op_gt (pv 5) pe_int (nomark _))))) (pss_cons (ps_set (i := 10) sc_law_rows.nd rfl (Or.inr rfl) (pe_ix Rd.ixH (pv 4) (pe_call (ok_law_draw T) (hr.mono (by decide)) (by rfl) T.mg_law_draw T.fn_law_draw.kp T.b_law_draw .nil pass0 (pa_cons (pv 0) (pa_cons (pv 5) pa_nil))) (fun _ _ => rfl)))
          (pss_cons (ps_set (i := 11) sc_law_rows.nd rfl (Or.inr rfl) (pe_ix Rd.ixH (pv 4) (pe_call (ok_law_draw T) (hr.mono (by decide)) (by rfl) T.mg_law_draw T.fn_law_draw.kp T.b_law_draw .nil pass0 (pa_cons (pv 0) (pa_cons (pv 5) pa_nil))) (fun _ _ => rfl)))
          (pss_one (ps_setLc (i := 7) (own := [("at", 12)]) (by rfl) sc_law_rows.nd rfl rfl (sw_true rfl rfl rfl (by decide +kernel)) (pi_range1 (by rfl) T.no_range (pa_cons (pv 3) pa_nil)) (blkOk_by (own := [("at", 12)]) (N := ["box", "p", "many", "wide", "out", "k", "shape", "row", "old", "factor", "one", "two", "at", "number"]) (sc := defScope s_law_rows) (by decide +kernel)) (fun _ _ _ _ _ => pg_name (i := 12) sc_law_rows.nd rfl (Or.inl rfl)) (fun _ _ _ _ _ => pts_nil) (fun _ _ _ _ _ => (pe_op op_sub (pe_op op_add (pe_ix Rd.ixH (pv 10) (pv 12) (fun _ _ => rfl)) (pe_op op_mul pe_int (pe_ix Rd.ixH (pv 11) (pv 12) (fun _ _ => rfl)))) (pv 1))))))) pss_nil)
        (pss_cons (ps_if (pt_cmpR op_eq (pv 6) pe_int (nomark _)) (pss_one (ps_setLc (i := 7) (own := [("at", 12)]) (by rfl) sc_law_rows.nd rfl rfl (sw_true rfl rfl rfl (by decide +kernel)) (pi_range1 (by rfl) T.no_range (pa_cons (pv 3) pa_nil)) (blkOk_by (own := [("at", 12)]) (N := ["box", "p", "many", "wide", "out", "k", "shape", "row", "old", "factor", "one", "two", "at", "number"]) (sc := defScope s_law_rows) (by decide +kernel)) (fun _ _ _ _ _ => pg_name (i := 12) sc_law_rows.nd rfl (Or.inl rfl)) (fun _ _ _ _ _ => pts_nil) (fun _ _ _ _ _ => (pe_callTy call_int1 (by rfl) T.no_int (by decide +kernel) (pa_cons (pe_cmpR op_eq (pe_call (ok_law_draw T) (hr.mono (by decide)) (by rfl) T.mg_law_draw T.fn_law_draw.kp T.b_law_draw .nil pass0 (pa_cons (pv 0) (pa_cons pe_int pa_nil))) pe_int (nomark _)) pa_nil))))) pss_nil)
        (pss_one (ps_expr (pe_bm PySem.F.plainAttrs_list PySem.F.slot_list_append PySem.F.type_list_append mt_append (pv 4) (pa_cons (pv 7) pa_nil)))))))))))))
      (pss_one (ps_ret (pv 4))))))), ?_⟩
    show (_ : TS) _ [some (V.ref b), some (V.int p), none, none, none, none, none, none, none, none, none, none, none, none] H
    refine cut (fun σ H' => ∃ (m wd : Nat) (out : Addr), 1 ≤ m ∧ m ≤ 6 ∧ σ = [some (V.ref b), some (V.int p), some (V.int m), none, none, none, none, none, none, none, none, none, none, none] ∧ BoxAt K H' b c ns ∧ But b H H') (fun R hR => ?_) (fun σ H1 h => ?_)
    · walk_at "rd"
      refine drw B (by decide) (by decide) fun x H1 x6 B1 e1 => ⟨_, rfl, hR _ _ ⟨1 + x, 0, 0, by omega, by omega, ?_, B1, e1⟩⟩
      rw [Int.natCast_add]
      rfl
    obtain ⟨m, _, _, m1, m6, rfl, B1, e1⟩ := h
    refine cut (fun σ H' => ∃ (wd : Nat), 1 ≤ wd ∧ wd ≤ 6 ∧ σ = [some (V.ref b), some (V.int p), some (V.int m), some (V.int wd), none, none, none, none, none, none, none, none, none, none] ∧ BoxAt K H' b c ns ∧ But b H H') (fun R hR => ?_) (fun σ H2 h => ?_)
    · walk_at "rd"
      refine drw B1 (by decide) (by decide) fun x H2 x6 B2 e2 => ⟨_, rfl, hR _ _ ⟨1 + x, by omega, by omega, ?_, B2, e1.trans e2⟩⟩
      rw [Int.natCast_add]
      rfl
    obtain ⟨wd, w1, w6, rfl, B2, e2⟩ := h
    walk_at "rd"
    refine ⟨by decide, fun out ho => ⟨by omega, by omega, ?_⟩⟩
    have ob := B2.ne_new ho
    have o0 : H out = none := e2.free ob ho
    have eP : But b H (L2.upd H2 out (.lst [])) := e2.updn o0
    rw [Int.toNat_natCast]
    refine Rd.loop_rngC (fun σ H' => ∃ o5 o6 o7 o8 o9 o10 o11 xs rows, σ = [some (V.ref b), some (V.int p), some (V.int m), some (V.int wd), some (V.ref out), o5, o6, o7, o8, o9, o10, o11, none, none] ∧ BoxAt K H' b c ns ∧ But b H H' ∧ H' out = some (.lst xs) ∧ RowsI H' xs rows ∧ rows.length = m ∧ ∀ q ∈ rows, q.length = wd)
      (fun i σ H' => ∃ o5 o6 o7 o8 o9 o10 o11 xs rows, σ = [some (V.ref b), some (V.int p), some (V.int m), some (V.int wd), some (V.ref out), o5, o6, o7, o8, o9, o10, o11, none, none] ∧ BoxAt K H' b c ns ∧ But b H H' ∧ H' out = some (.lst xs) ∧ RowsI H' xs rows ∧ rows.length = i ∧ ∀ q ∈ rows, q.length = wd)
      ⟨none, none, none, none, none, none, none, [], [], rfl, B.upd B2 ob eP, eP, upd_same, trivial, rfl, fun _ h => by cases h⟩ ?_ (fun _ _ h => h) ?_
    · rintro bk hbk i σ H3 hi ⟨o5, o6, o7, o8, o9, o10, o11, xs, rows, rfl, B3, e3, a3, R3, rl, rw3⟩
      show tSeq _ _ _ [some (V.ref b), some (V.int p), some (V.int m), some (V.int wd), some (V.ref out), some (V.int (0 + (i : Int))), o6, o7, o8, o9, o10, o11, none, none] H3
      rw [Int.zero_add]
      refine cut (fun σ H' => ∃ sh : Nat, σ = [some (V.ref b), some (V.int p), some (V.int m), some (V.int wd), some (V.ref out), some (V.int i), some (V.int sh), o7, o8, o9, o10, o11, none, none] ∧ BoxAt K H' b c ns ∧ But b H3 H') (fun R hR => ?_) (fun σ H4 h => ?_)
      · walk_at "rd"
        exact drw B3 (by decide) (by decide) fun sh H4 _ B4 e4 => hR _ _ ⟨sh, rfl, B4, e4⟩
      obtain ⟨sh, rfl, B4, e4⟩ := h
      let G : L2.St → Hp → Prop := fun σ H' => ∃ z o8 o9 o10 o11, σ = [some (V.ref b), some (V.int p), some (V.int m), some (V.int wd), some (V.ref out), some (V.int i), some (V.int sh), some (V.ref z), o8, o9, o10, o11, none, none] ∧ GR K b c ns H out xs rows wd z H'
      refine cut G (fun R hR => ?_) (fun σ H5 h => ?_)
      · walk_at "rd"
        refine ⟨by omega, by omega, Rd.lcl_rng (fun D j H6 => H4 D = none ∧ BoxAt K H6 b c ns ∧ But b H4 H6 ∧ ∃ r, H6 D = some (.lst (zv r)) ∧ r.length = j) (fun D hD => ⟨hD, B4.same (same_upd hD), Same.but (same_upd hD), [], upd_same, rfl⟩) (fun D j H6 hj ⟨n6, B6, e6, r, a6, rj⟩ => ?_) (fun D H6 _ ⟨n6, B6, e6, r, a6, rj⟩ => ?_)⟩
        · walk_at "rd"
          refine drw B6 p0 (by omega) fun d H7 dl B7 e7 => more B4 n6 e6 a6 rj (by omega) w6 B7 e7
        · refine hR _ _ ⟨D, o8, o9, o10, o11, rfl, B6, (e3.trans e4).trans e6, e6 _ _ ob (e4 _ _ ob a3), (R3.but B3 e4).but B4 e6, ⟨r, a6, by omega⟩, fun z => ?_, B4.ne_new n6⟩
          rw [z, e4 _ _ ob a3] at n6
          cases n6
      clear o7 o8 o9 o10 o11
      obtain ⟨z, o8, o9, o10, o11, rfl, g⟩ := h
      refine cut G (fun R hR => ?_) (fun σ H5 h => ?_)
      · walk_at "rd"
        refine ite2 (fun _ => ⟨by omega, by omega, Rd.lcl_rng (fun D j H6 => H5 D = none ∧ BoxAt K H6 b c ns ∧ But b H5 H6 ∧ ∃ r, H6 D = some (.lst (zv r)) ∧ r.length = j) (fun D hD => ⟨hD, g.box.same (same_upd hD), Same.but (same_upd hD), [], upd_same, rfl⟩) (fun D j H6 hj ⟨n6, B6, e6, r, a6, rj⟩ => ?_) (fun D H6 _ ⟨n6, B6, e6, r, a6, rj⟩ => hR _ _ ⟨D, _, _, _, _, rfl, g.new ob n6 B6 e6 a6 (by omega)⟩)⟩) (fun _ => hR _ _ ⟨z, o8, o9, o10, o11, rfl, g⟩)
        walk_at "rd"
        exact drw B6 (by decide) (by decide) fun d H7 dl B7 e7 => ⟨_, rfl, .inl ⟨by omega, by omega⟩, more g.box n6 e6 a6 rj (by omega) w6 B7 e7⟩
      clear g
      clear o8 o9 o10 o11
      obtain ⟨z, o8, o9, o10, o11, rfl, g⟩ := h
      refine cut G (fun R hR => ?_) (fun σ H5 h => ?_)
      · walk_at "rd"
        refine ite2 (fun _ => ⟨by omega, by omega, Rd.lcl_rng (fun D j H6 => H5 D = none ∧ BoxAt K H6 b c ns ∧ But b H5 H6 ∧ ∃ r, H6 D = some (.lst (zv r)) ∧ r.length = j) (fun D hD => ⟨hD, g.box.same (same_upd hD), Same.but (same_upd hD), [], upd_same, rfl⟩) (fun D j H6 hj ⟨n6, B6, e6, r, a6, rj⟩ => ?_) (fun D H6 _ ⟨n6, B6, e6, r, a6, rj⟩ => hR _ _ ⟨D, _, _, _, _, rfl, g.new ob n6 B6 e6 a6 (by omega)⟩)⟩) (fun _ => hR _ _ ⟨z, o8, o9, o10, o11, rfl, g⟩)
        walk_at "rd"
        exact drw B6 (by decide) (by decide) fun d H7 dl B7 e7 => ⟨_, rfl, more g.box n6 e6 a6 rj (by omega) w6 B7 e7⟩
      clear g
      clear o8 o9 o10 o11
      obtain ⟨z, o8, o9, o10, o11, rfl, g⟩ := h
      refine cut G (fun R hR => ?_) (fun σ H5 h => ?_)
      · walk_at "rd"
        refine ite2 (fun _ => ⟨by omega, by omega, Rd.lcl_rng (fun D j H6 => H5 D = none ∧ BoxAt K H6 b c ns ∧ But b H5 H6 ∧ ∃ r, H6 D = some (.lst (zv r)) ∧ r.length = j) (fun D hD => ⟨hD, g.box.same (same_upd hD), Same.but (same_upd hD), [], upd_same, rfl⟩) (fun D j H6 hj ⟨n6, B6, e6, r, a6, rj⟩ => ?_) (fun D H6 _ ⟨n6, B6, e6, r, a6, rj⟩ => hR _ _ ⟨D, _, _, _, _, rfl, g.new ob n6 B6 e6 a6 (by omega)⟩)⟩) (fun _ => hR _ _ ⟨z, o8, o9, o10, o11, rfl, g⟩)
        walk_at "rd"
        exact ⟨by omega, .inr (more g.box n6 e6 a6 rj (by omega) w6 B6 (But.refl _ _))⟩
      clear g
      clear o8 o9 o10 o11
      obtain ⟨z, o8, o9, o10, o11, rfl, g⟩ := h
      refine cut G (fun R hR => ?_) (fun σ H5 h => ?_)
      · walk_at "rd"
        refine ite3 (fun hk => drw g.box (by omega) (by omega) fun d H6 dl B6 e6 => ?_) (hR _ _ ⟨z, o8, o9, o10, o11, rfl, g⟩)
        obtain ⟨u, hu, r, hr, hau⟩ := (g.rs.but g.box e6).at (g := d) (by omega)
        have rwd := rw3 r (List.mem_of_getElem? hr)
        refine ⟨_, _, rfl, e6 _ _ ob g.at', _, atI_nat hu, ?_⟩
        refine drw B6 (by decide) (by decide) fun f H7 fl B7 e7 => ⟨_, rfl, u, rfl, true, zv r, e7 _ _ (not_boxI (l := true) B6 hau) hau, ?_⟩
        have ub := not_boxI (l := true) B6 hau
        have hau7 := e7 _ _ ub hau
        refine lcl_goes goes_seq (fun D j H8 => H7 D = none ∧ BoxAt K H8 b c ns ∧ But b H7 H8 ∧ ∃ r', H8 D = some (.lst (zv r')) ∧ r'.length = j) (fun D hD => ⟨hD, B7.same (same_upd hD), Same.but (same_upd hD), [], upd_same, rfl⟩) (fun D j H8 _ h => h.2.2.1 _ _ ub hau7) (fun D j y H8 H8' hj ⟨n8, B8, e8, r', a8, rj⟩ ⟨eq8, hy⟩ => ?_) (fun D H8 _ ⟨n8, B8, e8, r', a8, rj⟩ => hR _ _ ⟨D, _, _, _, _, rfl, ((g.go ob B6 e6).go ob B7 e7).new ob n8 B8 e8 a8 (by rw [rj, zv_len, rwd])⟩)
        subst eq8
        obtain ⟨y, _, rfl⟩ := zv_at hy
        walk_at "rd"
        exact ⟨.inr ⟨by omega, by omega⟩, more B7 n8 e8 a8 rj (by rw [zv_len] at hj; omega) w6 B8 (But.refl _ _)⟩
      clear g
      clear o8 o9 o10 o11
      obtain ⟨z, o8, o9, o10, o11, rfl, g⟩ := h
      refine cut G (fun R hR => ?_) (fun σ H5 h => ?_)
      · walk_at "rd"
        refine ite3 (fun hk => drw g.box (by omega) (by omega) fun d H6 dl B6 e6 => ?_) (hR _ _ ⟨z, o8, o9, o10, o11, rfl, g⟩)
        obtain ⟨u, hu, r, hr, hau⟩ := (g.rs.but g.box e6).at (g := d) (by omega)
        have rwd := rw3 r (List.mem_of_getElem? hr)
        refine ⟨_, _, rfl, e6 _ _ ob g.at', _, atI_nat hu, drw B6 (by omega) (by omega) fun d2 H7 dl2 B7 e7 => ?_⟩
        obtain ⟨u2, hu2, r2, hr2, hau2⟩ := ((g.rs.but g.box e6).but B6 e7).at (g := d2) (by omega)
        have rwd2 := rw3 r2 (List.mem_of_getElem? hr2)
        refine ⟨_, _, rfl, e7 _ _ ob (e6 _ _ ob g.at'), _, atI_nat hu2, ?_⟩
        have ub := not_boxI (l := true) B6 hau
        have hau7 := e7 _ _ ub hau
        have ub2 := not_boxI (l := true) B7 hau2
        refine ⟨by omega, by omega, Rd.lcl_rng (fun D j H8 => H7 D = none ∧ BoxAt K H8 b c ns ∧ But b H7 H8 ∧ ∃ r', H8 D = some (.lst (zv r')) ∧ r'.length = j) (fun D hD => ⟨hD, B7.same (same_upd hD), Same.but (same_upd hD), [], upd_same, rfl⟩) (fun D j H8 hj ⟨n8, B8, e8, r', a8, rj⟩ => ?_) (fun D H8 _ ⟨n8, B8, e8, r', a8, rj⟩ => hR _ _ ⟨D, _, _, _, _, rfl, ((g.go ob B6 e6).go ob B7 e7).new ob n8 B8 e8 a8 (by omega)⟩)⟩
        obtain ⟨v1, hv1⟩ : ∃ v1, r[j]? = some v1 := ⟨_, List.getElem?_eq_getElem (by omega)⟩
        obtain ⟨v2, hv2⟩ : ∃ v2, r2[j]? = some v2 := ⟨_, List.getElem?_eq_getElem (by omega)⟩
        have h1 := e8 _ _ ub hau7
        have h2 := e8 _ _ ub2 hau2
        walk_at "rd"
        rw [Int.zero_add]
        refine ⟨_, h1, _, zv_get hv1, ?_⟩
        exact ⟨_, h2, _, zv_get hv2, _, rfl, .inl ⟨by decide, by decide⟩, _, rfl, more B7 n8 e8 a8 rj (by omega) w6 B8 (But.refl _ _)⟩
      clear g
      clear o8 o9 o10 o11
      obtain ⟨z, o8, o9, o10, o11, rfl, g⟩ := h
      refine cut G (fun R hR => ?_) (fun σ H5 h => ?_)
      · walk_at "rd"
        refine ite2 (fun _ => ⟨by omega, by omega, Rd.lcl_rng (fun D j H6 => H5 D = none ∧ BoxAt K H6 b c ns ∧ But b H5 H6 ∧ ∃ r, H6 D = some (.lst (zv r)) ∧ r.length = j) (fun D hD => ⟨hD, g.box.same (same_upd hD), Same.but (same_upd hD), [], upd_same, rfl⟩) (fun D j H6 hj ⟨n6, B6, e6, r, a6, rj⟩ => ?_) (fun D H6 _ ⟨n6, B6, e6, r, a6, rj⟩ => hR _ _ ⟨D, _, _, _, _, rfl, g.new ob n6 B6 e6 a6 (by omega)⟩)⟩) (fun _ => hR _ _ ⟨z, o8, o9, o10, o11, rfl, g⟩)
        walk_at "rd"
        refine drw B6 (by decide) (by decide) fun d H7 dl B7 e7 => ?_
        exact ⟨rfl, .inr (more g.box n6 e6 a6 rj (by omega) w6 B7 e7)⟩
      clear g
      clear o8 o9 o10 o11
      obtain ⟨z, o8, o9, o10, o11, rfl, g⟩ := h
      walk_at "rd"
      unfold tBM
      walk_at "rd"
      obtain ⟨r, hz, rl'⟩ := g.row
      have e9 : But b H (L2.upd H5 out (.lst (xs ++ [V.ref z]))) := g.but.updn o0
      refine ⟨.inl ⟨rfl, _, SqL.of g.at'⟩, _, _, _, rfl, rfl, g.at', small (by have := g.rs.len; omega), B.upd g.box ob e9, e9, _, upd_same, rows ++ [r], RowsI.app (RowsI.upd g.at' g.rs fun _ h => h) ⟨⟨z, rfl, (upd_ne g.zo).trans hz⟩, trivial⟩, by rw [List.length_append, rl]; rfl, fun q hq => ?_⟩
      rcases List.mem_append.mp hq with h | h
      · exact rw3 q h
      · rw [List.mem_singleton.mp h]
        exact rl'
    · rintro σ H3 ⟨o5, o6, o7, o8, o9, o10, o11, xs, rows, rfl, B3, e3, a3, R3, rl, rw3⟩
      walk_at "rd"
      exact k out xs rows wd H3 B3 e3 o0 ob a3 R3 (by omega) (by omega) w1 w6 rw3
end

end K23
namespace K23
open PySem PySem.Spec PyProof.Rows L2 Own OwnSeq OwnSet OwnComb OwnSort OwnHot OwnExN OwnProj
local macro_rules | `(tactic| walk_at "rd") => `(tactic| simp only [tSeq, tAsg, tOp, tUn, tVar, gName, gSub, rIxL, rIxT, rSetL, tC, rI0, rI, rU, rEq, rNe, tCons, tNil, tCB, tLst, tTup, tIfS, tAnd, tOr, tNot, tAndV, tOrV, tNotV, tTest, tB, tIf, tRet, tDrop, tNext, tBreak, tCont, tCall, tCallS, L2.WE, tMakeS, rIsS, rIsB, tChain, gSeq, gRest, gCons, gNil, tFor_seq, tFor_enumS, tLc_seq, tLc_enumS, rAny, rAll, L2.tMeth, StX.tStar, rIn, tLstRg, tRg1, tRg2, rSetI, rSortedSet, rInDT, rInD, rNotInD, rEqD, rNeD, iComb, tFld, tMake, tMkO, sFld, tOst, tNever, tBits, clv, isB,
  Rd.tFor_rng1, Rd.tFor_rng2, Rd.tFor_list, Rd.tFor_tup, Rd.tLc_list, Rd.tLc_tup, Rd.tLc_rng1, Rd.LcTurn, tYes, wipe, Rd.rLenL, Rd.rLenT, Rd.rIntI, Rd.rIxH, rIxHT,  HO.tup.injEq, Rd.at0, Rd.at1, Rd.at2, Rd.at3, Rd.ixN40, Rd.ixN41, Rd.ixN42, Rd.ixN43, Rd.scal_ii, cxOf,
  List.length_cons, List.length_nil, List.length_map, List.map_cons, List.map_nil, upd_same, decide_eq_true_eq, decide_true, decide_false, if_true, if_false, Bool.false_eq_true, Bool.not_true, Bool.not_false, HO.lst.injEq, HO.ins.injEq, List.set_cons_zero, List.set_cons_succ, List.getElem?_cons_zero, List.getElem?_cons_succ, List.append_nil, List.nil_append, List.cons_append, Option.some.injEq, V.ref.injEq, V.int.injEq, V.bl.injEq, List.cons.injEq, exists_eq_left', exists_and_left, exists_eq_left, true_and, and_true, and_self, and_assoc, implies_true, reduceCtorEq, Nat.reduceAdd])

section
variable {P : Program} {w : World} {K : PySem.W.Frag} {mg : Str → Option Value} {base : Heap} {a : Ad}
open OwnIndep
/-- one number more in a new row, with what holds of it -/
theorem moreP {b c D : Addr} {ns : List Int} {H5 H6 H7 : Hp} {r : List Int} {x : Int} {i wd : Nat} {Pd : Nat → List Int → Prop} (B5 : BoxAt K H5 b c ns) (hD : H5 D = none) (e6 : But b H5 H6) (a6 : H6 D = some (.lst (zv r))) (rl : r.length = i) (iw : i < wd) (w6 : wd ≤ 6) (B7 : BoxAt K H7 b c ns) (e7 : But b H6 H7) (pd : Pd (i + 1) (r ++ [x])) :
    ∃ acc, H7 D = some (.lst acc) ∧ acc.length < sizeLine ∧ H5 D = none ∧ BoxAt K (L2.upd H7 D (.lst (acc ++ [V.int x]))) b c ns ∧ But b H5 (L2.upd H7 D (.lst (acc ++ [V.int x]))) ∧ ∃ r', acc ++ [V.int x] = zv r' ∧ r'.length = i + 1 ∧ Pd (i + 1) r' := by
  have nD := B5.ne_new hD
  have e8 : But b H5 (L2.upd H7 D (.lst (zv r ++ [V.int x]))) := (e6.trans e7).updn hD
  refine ⟨zv r, e7 _ _ nD a6, small (by rw [zv_len]; omega), hD, B5.upd B7 nD e8, e8, r ++ [x], ?_, by rw [List.length_append, rl]; rfl, pd⟩
  unfold zv
  rw [List.map_append]
  rfl
/-- alike modulo p at the first places -/
def Al (p : Int) (r : List Int) (i : Nat) (r' : List Int) : Prop := ∀ t, t < i → p ∣ vec r t - vec r' t
theorem Al.snoc {p : Int} {r r' : List Int} {i : Nat} {y f : Int} (h : Al p r i r') (l : r'.length = i) (hy : r[i]? = some y) (hf : p ∣ f) : Al p r (i + 1) (r' ++ [y + f]) := fun t ht => by
  by_cases e : t = i
  · subst e
    rw [vec_at hy, vec_at (r := r' ++ [y + f]) (z := y + f) (by rw [List.getElem?_append_right (by omega), l, Nat.sub_self]; rfl)]
    exact OwnIndep.dv (Int.dvd_neg.mpr hf) (by omega)
  · have lt : t < i := by omega
    have z := h t lt
    unfold vec at z ⊢
    rw [List.getD_eq_getElem?_getD (l := r' ++ [y + f]), List.getElem?_append_left (by omega), ← List.getD_eq_getElem?_getD]
    exact z
theorem Al.all {p : Int} {r r' : List Int} (h : Al p r r.length r') (l : r'.length = r.length) (j : Nat) : p ∣ vec r j - vec r' j := by
  by_cases lt : j < r.length
  · exact h j lt
  · rw [vec_out (by omega), vec_out (r := r') (by omega)]
    exact ⟨0, by simp⟩
theorem cong_snoc {p : Int} {v w : Vec} (hv : ∀ j, p ∣ v j - w j) : ∀ {L M : List Vec}, Cong p L M → Cong p (L ++ [v]) (M ++ [w])
  | [], [], _ => ⟨hv, trivial⟩
  | _ :: _, _ :: _, h => ⟨h.1, cong_snoc hv h.2⟩
  | [], _ :: _, h => h.elim
  | _ :: _, [], h => h.elim
/-! ### _law_lifted -/
def spLift (K : PySem.W.Frag) : Sp := fun vs H Q _ => ∃ (b c : Addr) (ns : List Int) (q : Addr) (p : Int) (xs : List V) (rows : List (List Int)) (n : Nat), vs = [.ref b, .ref q, .int p] ∧ PP p ∧ BoxAt K H b c ns ∧ q ≠ b ∧ H q = some (.lst xs) ∧ RowsI H xs rows ∧ rows.length ≤ 6 ∧ n ≤ 6 ∧ (∀ r ∈ rows, r.length = n) ∧
  ∀ r ys (R : List (List Int)) H', BoxAt K H' b c ns → But b H H' → H r = none → r ≠ b → H' r = some (.lst ys) → RowsI H' ys R → R.length = rows.length → (∀ q ∈ R, q.length = n) → Cong p (rows.map vec) (R.map vec) → Q (.ref r) H'
theorem sc_law_lifted : FnScope ["box", "rows", "p", "out", "row", "shape", "far", "number"] ["box", "rows", "p"] (defScope s_law_lifted) := ⟨rfl, rfl, rfl, by decide +kernel, rfl, by decide +kernel, by decide +kernel⟩
theorem ok_law_lifted (T : Txt K mg a) : FnOk P w K mg base CX0 3 a.a_law_lifted a.d_law_lifted ["box", "rows", "p"] (spLift K) := by
  refine T.fn_law_lifted.ok sc_law_lifted (fun vs H Q E h => ?_) (fun cdv A outer s H vs Q E hr h => ?_)
  · obtain ⟨b, c, ns, q, p, xs, rows, n, rfl, _⟩ := h
    rfl
  · obtain ⟨b, c, ns, q, p, xs, rows, n, rfl, pp, B, qb, hq, RI, l6, n6, rn, k⟩ := h
    have p8 : 0 < p ∧ p < 8 := by rcases pp with rfl | rfl | rfl | rfl <;> decide
    refine ⟨_, (pss_cons (ps_set (i := 3) sc_law_lifted.nd rfl (Or.inl rfl) (pe_lst pa_nil))
      (pss_cons (ps_for PassesOwn.never rfl (pi_list (pv 1)) (pg_name (i := 4) sc_law_lifted.nd rfl (Or.inl rfl))
        (pss_cons (ps_set (i := 5) sc_law_lifted.nd rfl (Or.inl rfl) (pe_call (ok_law_draw T) (hr.mono (by decide)) (by rfl) T.mg_law_draw T.fn_law_draw.kp T.b_law_draw .nil pass0 (pa_cons (pv 0) (pa_cons pe_int pa_nil))))
        (pss_one (ps_if (pt_cmpR op_eq (pv 5) pe_int (nomark _)) (pss_cons (ps_set (i := 6) sc_law_lifted.nd rfl (Or.inr rfl) (pe_op op_mul (pe_op op_mul (pe_call (ok_law_long T) (hr.mono (by decide)) (by rfl) T.mg_law_long T.fn_law_long.kp T.b_law_long .nil pass0 (pa_cons (pv 0) pa_nil)) (pv 2)) (pe_op op_sub pe_int (pe_op op_mul pe_int (pe_call (ok_law_draw T) (hr.mono (by decide)) (by rfl) T.mg_law_draw T.fn_law_draw.kp T.b_law_draw .nil pass0 (pa_cons (pv 0) (pa_cons pe_int pa_nil)))))))
          (pss_one (ps_expr (pe_bm PySem.F.plainAttrs_list PySem.F.slot_list_append PySem.F.type_list_append mt_append (pv 3) (pa_cons (pe_lc (own := [("number", 7)]) (by rfl) sc_law_lifted.nd (pi_told K (pv 4)) (blkOk_by (own := [("number", 7)]) (N := ["box", "rows", "p", "out", "row", "shape", "far", "number"]) (sc := defScope s_law_lifted) (by decide +kernel)) (fun _ _ _ _ _ => pg_name (i := 7) sc_law_lifted.nd rfl (Or.inl rfl)) (fun _ _ _ _ _ => pts_nil) (fun _ _ _ _ _ => (pe_op op_add (pv 7) (pv 6)))) pa_nil))))) (pss_one (ps_expr (pe_bm PySem.F.plainAttrs_list PySem.F.slot_list_append PySem.F.type_list_append mt_append (pv 3) (pa_cons (pe_lc (own := [("number", 7)]) (by rfl) sc_law_lifted.nd (pi_told K (pv 4)) (blkOk_by (own := [("number", 7)]) (N := ["box", "rows", "p", "out", "row", "shape", "far", "number"]) (sc := defScope s_law_lifted) (by decide +kernel)) (fun _ _ _ _ _ => pg_name (i := 7) sc_law_lifted.nd rfl (Or.inl rfl)) (fun _ _ _ _ _ => pts_nil) (fun _ _ _ _ _ => (pe_op op_add (pv 7) (pe_op op_mul (pv 2) (pe_op op_sub (pe_call (ok_law_draw T) (hr.mono (by decide)) (by rfl) T.mg_law_draw T.fn_law_draw.kp T.b_law_draw .nil pass0 (pa_cons (pv 0) (pa_cons pe_int pa_nil))) pe_int))))) pa_nil))))))))
      (pss_one (ps_ret (pv 3))))), ?_⟩
    show (_ : TS) _ [some (V.ref b), some (V.ref q), some (V.int p), none, none, none, none, none] H
    have xl := RI.len
    walk_at "rd"
    refine ⟨by decide, fun out ho => ?_⟩
    have ob := B.ne_new ho
    have eP : But b H (L2.upd H out (.lst [])) := Same.but (same_upd ho)
    refine ⟨⟨_, SqL.of (eP _ _ qb hq)⟩, ?_⟩
    refine Rd.loop_listC (xs := xs) (fun σ H' => ∃ o4 o5 o6 ys R, σ = [some (V.ref b), some (V.ref q), some (V.int p), some (V.ref out), o4, o5, o6, none] ∧ BoxAt K H' b c ns ∧ But b H H' ∧ H' out = some (.lst ys) ∧ RowsI H' ys R ∧ R.length = rows.length ∧ (∀ q ∈ R, q.length = n) ∧ Cong p (rows.map vec) (R.map vec))
      (fun i σ H' => ∃ o4 o5 o6 ys R, σ = [some (V.ref b), some (V.ref q), some (V.int p), some (V.ref out), o4, o5, o6, none] ∧ BoxAt K H' b c ns ∧ But b H H' ∧ H' out = some (.lst ys) ∧ RowsI H' ys R ∧ R.length = i ∧ (∀ q ∈ R, q.length = n) ∧ Cong p ((rows.take i).map vec) (R.map vec))
      ⟨none, none, none, [], [], rfl, B.same (same_upd ho), eP, upd_same, trivial, rfl, (fun _ h => by cases h), trivial⟩ (fun i σ H' _ ⟨_, _, _, _, _, _, _, e, _⟩ => SqL.of (e _ _ qb hq)) ?_ (fun σ H' ⟨o4, o5, o6, ys, R, q1, q2, q3, q4, q5, q6, q7, q8⟩ => ⟨o4, o5, o6, ys, R, q1, q2, q3, q4, q5, q6.trans xl, q7, by rw [xl, List.take_length] at q8; exact q8⟩) ?_
    · rintro bk hbk i x σ H3 hx ⟨o4, o5, o6, ys, R, rfl, B3, e3, a3, R3, Rl, Rn, Rc⟩
      have il : i < rows.length := by
        have := (List.getElem?_eq_some_iff.mp hx).1
        omega
      obtain ⟨u, hu, r, hr, hau⟩ := RI.at il
      rw [hx] at hu
      obtain rfl := Option.some.inj hu
      have ub := not_boxI (l := true) B hau
      have rwd := rn r (List.mem_of_getElem? hr)
      walk_at "rd"
      refine drw B3 (by decide) (by decide) fun sh H4 sh4 B4 e4 => ⟨rfl, ?_⟩
      have fin : ∀ {H5 H6 : Hp} {D : Addr} {r' : List Int}, BoxAt K H5 b c ns → But b H4 H5 → H5 D = none → BoxAt K H6 b c ns → But b H5 H6 → H6 D = some (.lst (zv r')) → r'.length = r.length → Al p r r.length r' →
          rAppend (V.ref out) [V.ref D] H6 fun _ H1 => BoxAt K H1 b c ns ∧ But b H H1 ∧ ∃ ys, H1 out = some (.lst ys) ∧ ∃ R, RowsI H1 ys R ∧ R.length = i + 1 ∧ (∀ q ∈ R, q.length = n) ∧ Cong p ((rows.take (i + 1)).map vec) (R.map vec) := fun {H5 H6 D r'} B5 e5 D0 B6 e6 aD rl al => by
        have e36 := (e4.trans e5).trans e6
        have a6 := e36 _ _ ob a3
        have Do : D ≠ out := fun z => by rw [z, (e4.trans e5) _ _ ob a3] at D0; cases D0
        have e9 : But b H (L2.upd H6 out (.lst (ys ++ [V.ref D]))) := (e3.trans e36).updn ho
        refine ⟨out, ys, _, rfl, rfl, a6, small (by have := R3.len; omega), B.upd B6 ob e9, e9, _, upd_same, R ++ [r'], RowsI.app (RowsI.upd a6 (R3.but B3 e36) fun _ h => h) ⟨⟨D, rfl, (upd_ne Do).trans aD⟩, trivial⟩, by rw [List.length_append, Rl]; rfl, fun q hq => ?_, ?_⟩
        · rcases List.mem_append.mp hq with h | h
          · exact Rn q h
          · rw [List.mem_singleton.mp h, rl, rwd]
        · rw [List.take_add_one, hr, List.map_append, List.map_append]
          exact cong_snoc (al.all rl) Rc
      unfold tBM
      walk_at "rd"
      refine ite2 (fun _ => ⟨b, c, ns, rfl, B4, fun x H5 B5 e5 => ⟨_, rfl, .inr ⟨by omega, by omega⟩, drw B5 (by decide) (by decide) fun d H6 d2 B6 e6 => ⟨_, rfl, .inl ⟨by decide, by decide⟩, .inr ⟨by omega, by omega⟩, ?_⟩⟩⟩) (fun _ => ?_)
      · have e46 := e5.trans e6
        have hu6 := e46 _ _ ub (e4 _ _ ub (e3 _ _ ub hau))
        refine ⟨.inl ⟨rfl, _, SqL.of (e46 _ _ ob (e4 _ _ ob a3))⟩, true, zv r, hu6, lcl_goes goes_seq (fun D j H7 => H6 D = none ∧ BoxAt K H7 b c ns ∧ But b H6 H7 ∧ ∃ r', H7 D = some (.lst (zv r')) ∧ r'.length = j ∧ Al p r j r') (fun D hD => ⟨hD, B6.same (same_upd hD), Same.but (same_upd hD), [], upd_same, rfl, fun _ h => absurd h (Nat.not_lt_zero _)⟩) (fun D j H7 _ h => h.2.2.1 _ _ ub hu6) (fun D j y H7 H7' hj ⟨n7, B7, e7, r', a7, rj, al⟩ ⟨eq7, hy⟩ => ?_) (fun D H7 _ ⟨n7, B7, e7, r', a7, rj, al⟩ => fin B6 (D := D) e46 n7 B7 e7 a7 (by rw [rj, zv_len]) (by rw [zv_len] at al; exact al))⟩
        subst eq7
        obtain ⟨y, hy', rfl⟩ := zv_at hy
        walk_at "rd"
        have jl := (List.getElem?_eq_some_iff.mp hy').1
        exact moreP (Pd := Al p r) B6 n7 e7 a7 rj (by rw [← rwd]; exact jl) n6 B7 (But.refl _ _) (al.snoc rj hy' (dmr _ (dml _ (Int.dvd_refl p))))
      · have hu6 := e4 _ _ ub (e3 _ _ ub hau)
        refine ⟨.inl ⟨rfl, _, SqL.of (e4 _ _ ob a3)⟩, true, zv r, hu6, lcl_goes goes_seq (fun D j H7 => H4 D = none ∧ BoxAt K H7 b c ns ∧ But b H4 H7 ∧ ∃ r', H7 D = some (.lst (zv r')) ∧ r'.length = j ∧ Al p r j r') (fun D hD => ⟨hD, B4.same (same_upd hD), Same.but (same_upd hD), [], upd_same, rfl, fun _ h => absurd h (Nat.not_lt_zero _)⟩) (fun D j H7 _ h => h.2.2.1 _ _ ub hu6) (fun D j y H7 H7' hj ⟨n7, B7, e7, r', a7, rj, al⟩ ⟨eq7, hy⟩ => ?_) (fun D H7 _ ⟨n7, B7, e7, r', a7, rj, al⟩ => fin B4 (D := D) (But.refl _ _) n7 B7 e7 a7 (by rw [rj, zv_len]) (by rw [zv_len] at al; exact al))⟩
        subst eq7
        obtain ⟨y, hy', rfl⟩ := zv_at hy
        walk_at "rd"
        have jl := (List.getElem?_eq_some_iff.mp hy').1
        refine drw B7 (by decide) (by decide) fun d H8 dl B8 e8 => ?_
        exact ⟨_, rfl, .inl ⟨by omega, by omega⟩, moreP (Pd := Al p r) B4 n7 e7 a7 rj (by rw [← rwd]; exact jl) n6 B8 e8 (al.snoc rj hy' (dmr _ (Int.dvd_refl p)))⟩
    · rintro σ H3 ⟨o4, o5, o6, ys, R, rfl, B3, e3, a3, R3, Rl, Rn, Rc⟩
      walk_at "rd"
      exact k out ys R H3 B3 e3 ho ob a3 R3 Rl Rn Rc
end

end K23
namespace K23
open PySem PySem.Spec PyProof.Rows L2 Own OwnSeq OwnSet OwnComb OwnSort OwnHot OwnExN OwnProj
local macro_rules | `(tactic| walk_at "rd") => `(tactic| simp only [tSeq, tAsg, tOp, tUn, tVar, gName, gSub, rIxL, rIxT, rSetL, tC, rI0, rI, rU, rEq, rNe, tCons, tNil, tCB, tLst, tTup, tIfS, tAnd, tOr, tNot, tAndV, tOrV, tNotV, tTest, tB, tIf, tRet, tDrop, tNext, tBreak, tCont, tCall, tCallS, L2.WE, tMakeS, rIsS, rIsB, tChain, gSeq, gRest, gCons, gNil, tFor_seq, tFor_enumS, tLc_seq, tLc_enumS, rAny, rAll, L2.tMeth, StX.tStar, rIn, tLstRg, tRg1, tRg2, rSetI, rSortedSet, rInDT, rInD, rNotInD, rEqD, rNeD, iComb, tFld, tMake, tMkO, sFld, tOst, tNever, tBits, clv, isB,
  Rd.tFor_rng1, Rd.tFor_rng2, Rd.tFor_list, Rd.tFor_tup, Rd.tLc_list, Rd.tLc_tup, Rd.tLc_rng1, Rd.LcTurn, tYes, wipe, Rd.rLenL, Rd.rLenT, Rd.rIntI, Rd.rIxH, rIxHT,  HO.tup.injEq, Rd.at0, Rd.at1, Rd.at2, Rd.at3, Rd.ixN40, Rd.ixN41, Rd.ixN42, Rd.ixN43, Rd.scal_ii, cxOf,
  List.length_cons, List.length_nil, List.length_map, List.map_cons, List.map_nil, upd_same, decide_eq_true_eq, decide_true, decide_false, if_true, if_false, Bool.false_eq_true, Bool.not_true, Bool.not_false, HO.lst.injEq, HO.ins.injEq, List.set_cons_zero, List.set_cons_succ, List.getElem?_cons_zero, List.getElem?_cons_succ, List.append_nil, List.nil_append, List.cons_append, Option.some.injEq, V.ref.injEq, V.int.injEq, V.bl.injEq, List.cons.injEq, exists_eq_left', exists_and_left, exists_eq_left, true_and, and_true, and_self, and_assoc, implies_true, reduceCtorEq, Nat.reduceAdd])

section
variable {P : Program} {w : World} {K : PySem.W.Frag} {mg : Str → Option Value} {base : Heap} {a : Ad}
open OwnIndep
/-- the pairs of a basis in the heap -/
def BasV (H : Hp) : List V → List (Nat × List Int) → Prop
  | [], [] => True
  | v :: vs, x :: X => (∃ t q, v = .ref t ∧ H t = some (.tup [.int (x.1 : Nat), .ref q]) ∧ H q = some (.lst (zv x.2))) ∧ BasV H vs X
  | _, _ => False
theorem BasV.len {H : Hp} : ∀ {vs : List V} {X : List (Nat × List Int)}, BasV H vs X → vs.length = X.length
  | [], [], _ => rfl
  | _ :: _, _ :: _, h => congrArg (· + 1) (BasV.len h.2)
  | [], _ :: _, h => h.elim
  | _ :: _, [], h => h.elim
theorem BasV.at {H : Hp} : ∀ {vs : List V} {X : List (Nat × List Int)} {g : Nat}, BasV H vs X → g < X.length → ∃ t q x, vs[g]? = some (.ref t) ∧ X[g]? = some x ∧ H t = some (.tup [.int (x.1 : Nat), .ref q]) ∧ H q = some (.lst (zv x.2))
  | [], [], _, _, h => absurd h (Nat.not_lt_zero _)
  | [], _ :: _, _, h, _ => h.elim
  | _ :: _, [], _, h, _ => h.elim
  | v :: vs, x :: X, 0, ⟨⟨t, q, e, h1, h2⟩, _⟩, _ => ⟨t, q, x, by rw [e]; rfl, rfl, h1, h2⟩
  | v :: vs, x :: X, g + 1, ⟨_, r⟩, h => BasV.at (g := g) r (Nat.lt_of_succ_lt_succ h)
def vx (x : Nat × List Int) : Nat × Vec := (x.1, vec x.2)
/-- the pairs' numbers -/
def RedX (p : Int) (n : Nat) (X : List (Nat × List Int)) : Prop := ∀ x ∈ X, x.1 < n ∧ x.2.length = n ∧ ∀ z ∈ x.2, 0 ≤ z ∧ z < p
theorem pw_take {α : Type} {R : α → α → Prop} {l : List α} {i : Nat} {x y : α} (h : l.Pairwise R) (hx : l[i]? = some x) (hy : y ∈ l.take i) : R y x := by
  have il := (List.getElem?_eq_some_iff.mp hx).1
  have e : l = l.take i ++ l.drop i := (List.take_append_drop _ _).symm
  rw [e] at h
  refine (List.pairwise_append.mp h).2.2 y hy x ?_
  rw [List.drop_eq_getElem_cons il]
  have z := (List.getElem?_eq_some_iff.mp hx).2
  rw [z]
  exact List.mem_cons_self
/-- a row less a number times another -/
def sbt (p f : Int) (v u : List Int) : List Int := (List.range v.length).map fun j => (vec v j - f * vec u j) % p
theorem sbt_len (p f : Int) (v u : List Int) : (sbt p f v u).length = v.length := by unfold sbt; rw [List.length_map, List.length_range]
theorem sbt_vec {p f : Int} {v u : List Int} (h : u.length = v.length) (j : Nat) : p ∣ vec (sbt p f v u) j - (vec v j - f * vec u j) := by
  by_cases l : j < v.length
  · rw [vec_at (r := sbt p f v u) (z := (vec v j - f * vec u j) % p) (by unfold sbt; rw [List.getElem?_map, List.getElem?_range l]; rfl)]
    exact OwnIndep.dv (Int.dvd_neg.mpr (Int.dvd_self_sub_emod (x := vec v j - f * vec u j) (m := p))) (by omega)
  · rw [vec_out (r := sbt p f v u) (by rw [sbt_len]; omega), vec_out (r := v) (j := j) (by omega), vec_out (r := u) (j := j) (by omega)]
    exact ⟨0, by simp⟩
theorem sbt_red {p f : Int} (p0 : 0 < p) {v u : List Int} : ∀ x ∈ sbt p f v u, 0 ≤ x ∧ x < p := fun x hx => by
  obtain ⟨y, _, rfl⟩ := List.mem_map.mp hx
  exact ⟨Int.emod_nonneg _ (by omega), Int.emod_lt_of_pos _ p0⟩
def tms (p f : Int) (v : List Int) : List Int := v.map fun z => (z * f) % p
theorem tms_vec {p f : Int} {v : List Int} (j : Nat) : p ∣ vec (tms p f v) j - f * vec v j := by
  cases e : v[j]? with
  | none =>
    have l := List.getElem?_eq_none_iff.mp e
    rw [vec_out l, vec_out (r := tms p f v) (by unfold tms; rw [List.length_map]; exact l)]
    exact ⟨0, by simp⟩
  | some z =>
    rw [vec_at e, vec_at (r := tms p f v) (z := (z * f) % p) (by unfold tms; rw [List.getElem?_map, e]; rfl)]
    exact OwnIndep.dv (Int.dvd_neg.mpr (Int.dvd_self_sub_emod (x := z * f) (m := p))) (by rw [Int.mul_comm f z]; omega)
theorem tms_red {p f : Int} (p0 : 0 < p) {v : List Int} : ∀ x ∈ tms p f v, 0 ≤ x ∧ x < p := fun x hx => by
  obtain ⟨y, _, rfl⟩ := List.mem_map.mp hx
  exact ⟨Int.emod_nonneg _ (by omega), Int.emod_lt_of_pos _ p0⟩
/-! ### _law_reduced -/
def spRed : Sp := fun vs H Q _ => ∃ (q s : Addr) (p : Int) (r : List Int) (ys : List V) (X : List (Nat × List Int)) (n : Nat) (L : List Vec), vs = [.ref q, .ref s, .int p] ∧ PP p ∧ H q = some (.lst (zv r)) ∧ r.length = n ∧ n ≤ 6 ∧ (∀ x ∈ r, 0 ≤ x ∧ x < p) ∧ H s = some (.lst ys) ∧ BasV H ys X ∧ X.length ≤ 6 ∧ RedX p n X ∧ Bas p L (X.map vx) ∧
  (∀ H', Same H H' → ¬ Indep p (L ++ [vec r]) → Q .non H') ∧
  ∀ t D w z H', H t = none → Same H H' → H' t = some (.tup [.int (z : Nat), .ref D]) → H' D = some (.lst (zv w)) → z < n → w.length = n → (∀ x ∈ w, 0 ≤ x ∧ x < p) → Bas p (L ++ [vec r]) (X.map vx ++ [(z, vec w)]) → Q (.ref t) H'
theorem sc_law_reduced : FnScope ["row", "basis", "p", "pair", "factor", "at", "inverse", "number"] ["row", "basis", "p"] (defScope s_law_reduced) := ⟨rfl, rfl, rfl, by decide +kernel, rfl, by decide +kernel, by decide +kernel⟩
theorem ok_law_reduced (T : Txt K mg a) : FnOk P w K mg base CX0 2 a.a_law_reduced a.d_law_reduced ["row", "basis", "p"] spRed := by
  refine T.fn_law_reduced.ok sc_law_reduced (fun vs H Q E h => ?_) (fun cdv A outer s H vs Q E hr h => ?_)
  · obtain ⟨q, s, p, r, ys, X, n, L, rfl, _⟩ := h
    rfl
  · obtain ⟨q, s, p, r, ys, X, n, L, rfl, pp, hq, rn, n6, rr, hs, BV, X6, RX, BS, k0, k1⟩ := h
    have p0 : 0 < p := by rcases pp with rfl | rfl | rfl | rfl <;> decide
    have p8 : p < 8 := by rcases pp with rfl | rfl | rfl | rfl <;> decide
    refine ⟨_, (pss_cons (ps_for PassesOwn.never rfl (pi_list (pv 1)) (pg_name (i := 3) sc_law_reduced.nd rfl (Or.inr rfl))
        (pss_cons (ps_set (i := 4) sc_law_reduced.nd rfl (Or.inr rfl) (pe_ix Rd.ixH (pv 0) (pe_ix ixHT (pv 3) pe_int (fun _ _ => rfl)) (fun _ _ => rfl)))
        (pss_one (ps_if (pt_cmpR op_ne (pv 4) pe_int (nomark _)) (pss_one (ps_set (i := 0) sc_law_reduced.nd rfl (Or.inr rfl) (pe_lc (own := [("at", 5)]) (by rfl) sc_law_reduced.nd (pi_range1 (by rfl) T.no_range (pa_cons (pe_callB (lenK K) (by rfl) T.no_len PySem.boot_len (pa_cons (pv 0) pa_nil)) pa_nil)) (blkOk_by (own := [("at", 5)]) (N := ["row", "basis", "p", "pair", "factor", "at", "inverse", "number"]) (sc := defScope s_law_reduced) (by decide +kernel)) (fun _ _ _ _ _ => pg_name (i := 5) sc_law_reduced.nd rfl (Or.inl rfl)) (fun _ _ _ _ _ => pts_nil) (fun _ _ _ _ _ => (pe_op op_mod (pe_callTy Rd.call_intI (by rfl) T.no_int (by decide +kernel) (pa_cons (pe_op op_sub (pe_ix Rd.ixH (pv 0) (pv 5) (fun _ _ => rfl)) (pe_op op_mul (pv 4) (pe_ix Rd.ixH (pe_ix ixHT (pv 3) pe_int (fun _ _ => rfl)) (pv 5) (fun _ _ => rfl)))) pa_nil)) (pv 2)))))) pss_nil))))
      (pss_cons (ps_for PassesOwn.never rfl (pi_range1 (by rfl) T.no_range (pa_cons (pe_callB (lenK K) (by rfl) T.no_len PySem.boot_len (pa_cons (pv 0) pa_nil)) pa_nil)) (pg_name (i := 5) sc_law_reduced.nd rfl (Or.inl rfl))
        (pss_one (ps_if (pt_cmpR op_ne (pe_ix Rd.ixH (pv 0) (pv 5) (fun _ _ => rfl)) pe_int (nomark _)) (pss_cons (ps_set (i := 6) sc_law_reduced.nd rfl (Or.inr rfl) (pe_call (ok_law_inverse T) (hr.mono (by decide)) (by rfl) T.mg_law_inverse T.fn_law_inverse.kp T.b_law_inverse .nil pass0 (pa_cons (pe_ix Rd.ixH (pv 0) (pv 5) (fun _ _ => rfl)) (pa_cons (pv 2) pa_nil))))
          (pss_one (ps_ret (pe_tup (pa_cons (pv 5) (pa_cons (pe_lc (own := [("number", 7)]) (by rfl) sc_law_reduced.nd (pi_told K (pv 0)) (blkOk_by (own := [("number", 7)]) (N := ["row", "basis", "p", "pair", "factor", "at", "inverse", "number"]) (sc := defScope s_law_reduced) (by decide +kernel)) (fun _ _ _ _ _ => pg_name (i := 7) sc_law_reduced.nd rfl (Or.inl rfl)) (fun _ _ _ _ _ => pts_nil) (fun _ _ _ _ _ => (pe_op op_mod (pe_callTy Rd.call_intI (by rfl) T.no_int (by decide +kernel) (pa_cons (pe_op op_mul (pv 7) (pv 6)) pa_nil)) (pv 2)))) pa_nil)))))) pss_nil)))
      (pss_one (ps_ret pe_non)))), ?_⟩
    show (_ : TS) _ [some (V.ref q), some (V.ref s), some (V.int p), none, none, none, none, none] H
    have yl := BV.len
    refine cut (fun σ H' => ∃ z v o3 o4, σ = [some (V.ref z), some (V.ref s), some (V.int p), o3, o4, none, none, none] ∧ Same H H' ∧ H' z = some (.lst (zv v)) ∧ v.length = n ∧ (∀ x ∈ v, 0 ≤ x ∧ x < p) ∧ Red p (X.map vx) (vec r) (vec v)) (fun R hR => ?_) (fun σ H1 h => ?_)
    · walk_at "rd"
      refine ⟨⟨_, SqL.of hs⟩, ?_⟩
      refine Rd.loop_listC (xs := ys) (fun σ H' => ∃ z v o3 o4, σ = [some (V.ref z), some (V.ref s), some (V.int p), o3, o4, none, none, none] ∧ Same H H' ∧ H' z = some (.lst (zv v)) ∧ v.length = n ∧ (∀ x ∈ v, 0 ≤ x ∧ x < p) ∧ Red p (X.map vx) (vec r) (vec v))
        (fun i σ H' => ∃ z v o3 o4, σ = [some (V.ref z), some (V.ref s), some (V.int p), o3, o4, none, none, none] ∧ Same H H' ∧ H' z = some (.lst (zv v)) ∧ v.length = n ∧ (∀ x ∈ v, 0 ≤ x ∧ x < p) ∧ Red p ((X.take i).map vx) (vec r) (vec v))
        ⟨q, r, none, none, rfl, fun _ _ h => h, hq, rn, rr, red_nil _ _⟩ (fun i σ H' _ ⟨_, _, _, _, _, e, _⟩ => SqL.of (e _ _ hs)) ?_ (fun σ H' ⟨z, v, o3, o4, q1, q2, q3, q4, q5, q6⟩ => ⟨z, v, o3, o4, q1, q2, q3, q4, q5, by rw [yl, List.take_length] at q6; exact q6⟩) hR
      rintro bk hbk i y σ H2 hy ⟨z, v, o3, o4, rfl, e2, hz, vn, vr, RD⟩
      have il : i < X.length := by
        have := (List.getElem?_eq_some_iff.mp hy).1
        omega
      obtain ⟨t, u, x, ht, hx, h1, h2⟩ := BV.at il
      rw [hy] at ht
      obtain rfl := Option.some.inj ht
      have h1 := e2 _ _ h1
      have h2 := e2 _ _ h2
      obtain ⟨xn, xl, xr⟩ := RX x (List.mem_of_getElem? hx)
      have hxv : (X.map vx)[i]? = some (vx x) := by rw [List.getElem?_map, hx]; rfl
      have one := BS.one (vx x) (List.mem_of_getElem? hxv)
      have low : ∀ y ∈ (X.take i).map vx, p ∣ (vx x).2 y.1 := fun y hy => pw_take (R := fun x y : Nat × Vec => p ∣ y.2 x.1) BS.tri.low hxv (by rw [List.map_take] at hy; exact hy)
      obtain ⟨f, hf⟩ : ∃ f, v[x.1]? = some f := ⟨_, List.getElem?_eq_getElem (by omega)⟩
      have fb := vr f (List.mem_of_getElem? hf)
      have nx : (X.take (i + 1)).map vx = (X.take i).map vx ++ [vx x] := by rw [List.take_add_one, hx, List.map_append]; rfl
      walk_at "rd"
      refine ⟨_, h1, _, rfl, _, (x.1 : Nat), rfl, hz, _, zv_get hf, rfl, ?_⟩
      by_cases c : f = 0
      · rw [if_neg (by rw [c]; decide)]
        refine ⟨e2, v, hz, vn, vr, ?_⟩
        rw [nx]
        refine red_step RD one low fun j => OwnIndep.dv (Int.dvd_zero p) ?_
        show (0 : Int) = vec v j - (vec v j - vec v x.1 * vec x.2 j)
        rw [vec_at hf, c]
        omega
      · rw [if_pos (by rw [decide_eq_false (by intro h; exact c (V.int.inj h))]; rfl)]
        refine ⟨_, .inl (SqL.of hz), by omega, by rw [zv_len]; omega, ?_⟩
        rw [zv_len, Int.toNat_natCast]
        refine Rd.lcl_rng (fun D j H7 => H2 D = none ∧ Same H2 H7 ∧ H7 D = some (.lst (zv ((sbt p f v x.2).take j)))) (fun D hD => ⟨hD, same_upd hD, upd_same⟩) (fun D j H7 hj ⟨n7, e7, a7⟩ => ?_) (fun D H7 _ ⟨n7, e7, a7⟩ => ?_)
        · obtain ⟨vj, hvj⟩ : ∃ vj, v[j]? = some vj := ⟨_, List.getElem?_eq_getElem hj⟩
          obtain ⟨wj, hwj⟩ : ∃ wj, x.2[j]? = some wj := ⟨_, List.getElem?_eq_getElem (by omega)⟩
          have z7 := e7 _ _ hz
          have t7 := e7 _ _ h1
          have u7 := e7 _ _ h2
          walk_at "rd"
          rw [Int.zero_add]
          refine ⟨_, z7, _, zv_get hvj, _, t7, _, rfl, u, rfl, _, u7, _, zv_get hwj, _, rfl, .inl ⟨by omega, by omega⟩, _, rfl, p0, _, a7, small (by rw [zv_len, List.length_take]; omega), n7, fun b o hb => (upd_ne (ne_of_none hb n7)).trans (e7 _ _ hb), ?_⟩
          have ce : (sbt p f v x.2)[j]? = some ((vj - f * wj) % p) := by
            unfold sbt
            rw [List.getElem?_map, List.getElem?_range hj]
            show some ((vec v j - f * vec x.2 j) % p) = _
            rw [vec_at hvj, vec_at hwj]
          rw [List.take_add_one, ce]
          unfold zv
          rw [List.map_append]
          rfl
        · rw [← sbt_len p f v x.2, List.take_length] at a7
          refine ⟨D, rfl, e2.trans e7, _, a7, by rw [sbt_len, vn], sbt_red p0, ?_⟩
          rw [nx]
          refine red_step RD one low fun j => ?_
          show p ∣ vec (sbt p f v x.2) j - (vec v j - vec v x.1 * vec x.2 j)
          rw [vec_at hf]
          exact sbt_vec (by omega) j
    obtain ⟨z, v, o3, o4, rfl, e1, hz, vn, vr, RD⟩ := h
    walk_at "rd"
    refine ⟨_, .inl (SqL.of hz), by omega, by rw [zv_len]; omega, ?_⟩
    rw [zv_len, vn, Int.toNat_natCast]
    refine Rd.loop_rngC (fun σ H' => H' = H1 ∧ ∀ x ∈ v, x = 0) (fun i σ H' => ∃ o5, σ = [some (V.ref z), some (V.ref s), some (V.int p), o3, o4, o5, none, none] ∧ H' = H1 ∧ ∀ x ∈ v.take i, x = 0)
      ⟨none, rfl, rfl, fun _ h => by cases h⟩ ?_ (fun σ H' ⟨_, _, q1, q2⟩ => ⟨q1, by rw [← vn, List.take_length] at q2; exact q2⟩) ?_
    · rintro bk hbk i σ H2 hi ⟨o5, rfl, rfl, h0⟩
      obtain ⟨f, hf⟩ : ∃ f, v[i]? = some f := ⟨_, List.getElem?_eq_getElem (by omega)⟩
      have fb := vr f (List.mem_of_getElem? hf)
      walk_at "rd"
      rw [Int.zero_add]
      refine ⟨_, hz, _, zv_get hf, rfl, ?_⟩
      by_cases c : f = 0
      · rw [if_neg (by rw [c]; decide)]
        intro x hx
        rw [List.take_add_one, hf] at hx
        rcases List.mem_append.mp hx with m | m
        · exact h0 x m
        · rw [List.mem_singleton.mp m]
          exact c
      · rw [if_pos (by rw [decide_eq_false (by intro h; exact c (V.int.inj h))]; rfl)]
        refine ⟨_, hz, _, zv_get hf, f, p, rfl, pp, by omega, fb.2, fun y hy y0 yp => ?_⟩
        refine ⟨true, zv v, hz, lcl_goes goes_seq (fun D j H7 => H2 D = none ∧ Same H2 H7 ∧ H7 D = some (.lst (zv ((tms p y v).take j)))) (fun D hD => ⟨hD, same_upd hD, upd_same⟩) (fun D j H7 _ h => h.2.1 _ _ hz) (fun D j u H7 H7' hj ⟨n7, e7, a7⟩ ⟨eq7, hu⟩ => ?_) (fun D H7 _ ⟨n7, e7, a7⟩ => ?_)⟩
        · subst eq7
          obtain ⟨g, hg, rfl⟩ := zv_at hu
          have gb := vr g (List.mem_of_getElem? hg)
          have jl := (List.getElem?_eq_some_iff.mp hg).1
          walk_at "rd"
          refine ⟨.inl ⟨by omega, by omega⟩, p0, _, a7, small (by rw [zv_len, List.length_take]; omega), n7, fun b o hb => (upd_ne (ne_of_none hb n7)).trans (e7 _ _ hb), ?_⟩
          rw [List.take_add_one, show (tms p y v)[j]? = some (g * y % p) by unfold tms; rw [List.getElem?_map, hg]; rfl]
          unfold zv
          rw [List.map_append]
          rfl
        · have tl : (tms p y v).length = v.length := by unfold tms; rw [List.length_map]
          rw [zv_len, ← tl, List.take_length] at a7
          refine ⟨by decide, fun t ht => ?_⟩
          have et := same_upd (o := .tup [.int (i : Nat), .ref D]) ht
          refine k1 t D (tms p y v) i _ ((e1.trans e7).free ht) ((e1.trans e7).trans et) upd_same (et _ _ a7) hi (by rw [tl, vn]) (tms_red p0) ?_
          refine bas_snoc (mod_pr pp) BS RD (f := y) ?_ tms_vec
          rw [vec_at hf]
          have hd := Int.dvd_self_sub_emod (x := f * y) (m := p)
          rw [hy] at hd
          exact OwnIndep.dv hd (by rw [Int.mul_comm y f])
    · rintro σ H2 ⟨rfl, h0⟩
      walk_at "rd"
      refine k0 _ e1 (bas_none (mod_pr pp) BS RD fun j => ?_)
      cases e : v[j]? with
      | none => rw [vec_out (List.getElem?_eq_none_iff.mp e)]; exact Int.dvd_zero p
      | some x =>
        rw [vec_at e, h0 x (List.mem_of_getElem? e)]
        exact Int.dvd_zero p
end

end K23
namespace K23
open PySem PySem.Spec PyProof.Rows L2 Own OwnSeq OwnSet OwnComb OwnSort OwnHot OwnExN OwnProj
local macro_rules | `(tactic| walk_at "rd") => `(tactic| simp only [tSeq, tAsg, tOp, tUn, tVar, gName, gSub, rIxL, rIxT, rSetL, tC, rI0, rI, rU, rEq, rNe, tCons, tNil, tCB, tLst, tTup, tIfS, tAnd, tOr, tNot, tAndV, tOrV, tNotV, tTest, tB, tIf, tRet, tDrop, tNext, tBreak, tCont, tCall, tCallS, L2.WE, tMakeS, rIsS, rIsB, tChain, gSeq, gRest, gCons, gNil, tFor_seq, tFor_enumS, tLc_seq, tLc_enumS, rAny, rAll, L2.tMeth, StX.tStar, rIn, tLstRg, tRg1, tRg2, rSetI, rSortedSet, rInDT, rInD, rNotInD, rEqD, rNeD, iComb, tFld, tMake, tMkO, sFld, tOst, tNever, tBits, clv, isB,
  Rd.tFor_rng1, Rd.tFor_rng2, Rd.tFor_list, Rd.tFor_tup, Rd.tLc_list, Rd.tLc_tup, Rd.tLc_rng1, Rd.LcTurn, tYes, wipe, Rd.rLenL, Rd.rLenT, Rd.rIntI, Rd.rIxH, rIxHT,  HO.tup.injEq, Rd.at0, Rd.at1, Rd.at2, Rd.at3, Rd.ixN40, Rd.ixN41, Rd.ixN42, Rd.ixN43, Rd.scal_ii, cxOf,
  List.length_cons, List.length_nil, List.length_map, List.map_cons, List.map_nil, upd_same, decide_eq_true_eq, decide_true, decide_false, if_true, if_false, Bool.false_eq_true, Bool.not_true, Bool.not_false, HO.lst.injEq, HO.ins.injEq, List.set_cons_zero, List.set_cons_succ, List.getElem?_cons_zero, List.getElem?_cons_succ, List.append_nil, List.nil_append, List.cons_append, Option.some.injEq, V.ref.injEq, V.int.injEq, V.bl.injEq, List.cons.injEq, exists_eq_left', exists_and_left, exists_eq_left, true_and, and_true, and_self, and_assoc, implies_true, reduceCtorEq, Nat.reduceAdd])

section
variable {P : Program} {w : World} {K : PySem.W.Frag} {mg : Str → Option Value} {base : Heap} {a : Ad}
open OwnIndep
theorem last_all : ((List.range 64).all fun m => decide (m = 0) || (List.range 6).any fun t => decide (bits m = bits (m - 2 ^ t) ++ [t] ∧ m - 2 ^ t < m ∧ 2 ^ t ≤ m ∧ atI (iv (bits m)) (-1) = some (V.int (t : Nat)))) = true := by decide +kernel
theorem last_at {m : Nat} (h : m < 64) (h0 : m ≠ 0) : ∃ t, bits m = bits (m - 2 ^ t) ++ [t] ∧ m - 2 ^ t < m ∧ 2 ^ t ≤ m ∧ atI (iv (bits m)) (-1) = some (V.int (t : Nat)) := by
  have z := List.all_eq_true.mp last_all m (List.mem_range.mpr h)
  rw [Bool.or_eq_true] at z
  rcases z with z | z
  · exact absurd (of_decide_eq_true z) h0
  · obtain ⟨t, _, ht⟩ := List.any_eq_true.mp z
    exact ⟨t, of_decide_eq_true ht⟩
theorem BasV.keep {H H' : Hp} (k1 : ∀ q l, H q = some (.tup l) → H' q = some (.tup l)) (k2 : ∀ q (s : List Int), H q = some (.lst (zv s)) → H' q = some (.lst (zv s))) : ∀ {vs : List V} {X : List (Nat × List Int)}, BasV H vs X → BasV H' vs X
  | [], [], _ => trivial
  | _ :: _, _ :: _, ⟨⟨t, q, e, h1, h2⟩, r⟩ => ⟨⟨t, q, e, k1 _ _ h1, k2 _ _ h2⟩, BasV.keep k1 k2 r⟩
  | [], _ :: _, h => h.elim
  | _ :: _, [], h => h.elim
theorem BasV.app {H : Hp} : ∀ {vs us : List V} {X Y : List (Nat × List Int)}, BasV H vs X → BasV H us Y → BasV H (vs ++ us) (X ++ Y)
  | [], _, [], _, _, h => h
  | _ :: _, _, _ :: _, _, ⟨x, r⟩, h => ⟨x, BasV.app r h⟩
  | [], _, _ :: _, _, h, _ => h.elim
  | _ :: _, _, [], _, h, _ => h.elim
theorem rowsV_cong {p : Int} {rows : List (List Int)} : ∀ s : List Nat, (∀ g ∈ s, g < rows.length) → Cong p (rowsV rows s) (rowsV (rows.map (modR p)) s)
  | [], _ => trivial
  | g :: s, h => ⟨fun j => by
      have gl := h g List.mem_cons_self
      show p ∣ vec (rows.getD g []) j - vec ((rows.map (modR p)).getD g []) j
      rw [show (rows.map (modR p)).getD g [] = modR p (rows.getD g []) by simp [List.getD_eq_getElem?_getD, List.getElem?_map, List.getElem?_eq_getElem gl]]
      exact (mod_cong [rows.getD g []]).1 j, rowsV_cong s fun q hq => h q (List.mem_cons_of_mem _ hq)⟩
/-- what stands for a mask -/
def BaseAt (p : Int) (n : Nat) (sm : List (List Int)) (Db : Addr) (H : Hp) (m : Nat) (v : V) : Prop :=
  (v = .non ∧ ¬ Indep p (rowsV sm (bits m))) ∨ ∃ s ys X, v = .ref s ∧ s ≠ Db ∧ H s = some (.lst ys) ∧ BasV H ys X ∧ RedX p n X ∧ Bas p (rowsV sm (bits m)) (X.map vx) ∧ X.length ≤ (bits m).length
theorem BaseAt.keep {p : Int} {n : Nat} {sm : List (List Int)} {Db : Addr} {H H' : Hp} {m : Nat} {v : V} (k : ∀ q o, q ≠ Db → H q = some o → H' q = some o) (k1 : ∀ l, H Db ≠ some (.tup l)) (k2 : ∀ s, H Db ≠ some (.lst (zv s))) : BaseAt p n sm Db H m v → BaseAt p n sm Db H' m v
  | .inl h => .inl h
  | .inr ⟨s, ys, X, a, b, c, d, e⟩ => .inr ⟨s, ys, X, a, b, k _ _ b c, d.keep (fun q l h => k _ _ (fun z => k1 l (z ▸ h)) h) (fun q s h => k _ _ (fun z => k2 s (z ▸ h)) h), e⟩
theorem BaseAt.iff {p : Int} (pp : PP p) {n : Nat} {sm : List (List Int)} {Db : Addr} {H : Hp} {m : Nat} {v : V} (h : BaseAt p n sm Db H m v) : v ≠ .non ↔ Indep p (rowsV sm (bits m)) := by
  rcases h with ⟨rfl, h⟩ | ⟨s, ys, X, rfl, _, _, _, _, B, _⟩
  · exact ⟨fun z => absurd rfl z, fun z => absurd z h⟩
  · exact ⟨fun _ => B.indep (mod_pr pp), fun _ z => by cases z⟩
/-! ### _law_inside -/
def spInside : Sp := fun vs H Q _ => ∃ (q : Addr) (p : Int) (xs : List V) (rows : List (List Int)) (n : Nat), vs = [.ref q, .int p] ∧ PP p ∧ H q = some (.lst xs) ∧ RowsI H xs rows ∧ 1 ≤ rows.length ∧ rows.length ≤ 6 ∧ n ≤ 6 ∧ (∀ r ∈ rows, r.length = n) ∧
  ∀ o (S : List Bool) H', H o = none → Same H H' → H' o = some (.lst (S.map V.bl)) → S.length = 2 ^ rows.length → (∀ m, m < 2 ^ rows.length → (In S m = true ↔ Indep p (rowsV rows (bits m)))) → Q (.ref o) H'
theorem sc_law_inside : FnScope ["rows", "p", "small", "bases", "mask", "thing", "before", "found", "row", "number", "basis"] ["rows", "p"] (defScope s_law_inside) := ⟨rfl, rfl, rfl, by decide +kernel, rfl, by decide +kernel, by decide +kernel⟩
theorem ok_law_inside (T : Txt K mg a) : FnOk P w K mg base CX0 3 a.a_law_inside a.d_law_inside ["rows", "p"] spInside := by
  refine T.fn_law_inside.ok sc_law_inside (fun vs H Q E h => ?_) (fun cdv A outer s H vs Q E hr h => ?_)
  · obtain ⟨q, p, xs, rows, n, rfl, _⟩ := h
    rfl
  · obtain ⟨q, p, xs, rows, n, rfl, pp, hq, RI, l1, l6, n6, rn, k⟩ := h
    have p0 : 0 < p := by rcases pp with rfl | rfl | rfl | rfl <;> decide
    refine ⟨_, (pss_cons (ps_setLc (i := 2) (own := [("row", 8)]) (by rfl) sc_law_inside.nd rfl rfl (sw_true rfl rfl rfl (by decide +kernel)) (pi_told K (pv 0)) (blkOk_by (own := [("row", 8)]) (N := ["rows", "p", "small", "bases", "mask", "thing", "before", "found", "row", "number", "basis"]) (sc := defScope s_law_inside) (by decide +kernel)) (fun _ _ _ _ _ => pg_name (i := 8) sc_law_inside.nd rfl (Or.inl rfl)) (fun _ _ _ _ _ => pts_nil) (fun _ _ _ _ _ => (pe_lc (own := [("number", 9)]) (by rfl) sc_law_inside.nd (pi_told K (pv 8)) (blkOk_by (own := [("number", 9)]) (N := ["rows", "p", "small", "bases", "mask", "thing", "before", "found", "row", "number", "basis"]) (sc := { kind := .function, names := [(Str.ofString ".0", .local), (Str.ofString "row", .local), (Str.ofString "p", .cell)], isGenerator := false, isCoroutine := false }) (by decide +kernel)) (fun _ _ _ _ _ => pg_name (i := 9) sc_law_inside.nd rfl (Or.inl rfl)) (fun _ _ _ _ _ => pts_nil) (fun _ _ _ _ _ => (pe_op op_mod (pe_callTy Rd.call_intI (by rfl) T.no_int (by decide +kernel) (pa_cons (pv 9) pa_nil)) (pv 1))))))
      (pss_cons (ps_set (i := 3) sc_law_inside.nd rfl (Or.inl rfl) (pe_lst (pa_cons (pe_lst pa_nil) pa_nil)))
      (pss_cons (ps_for PassesOwn.never rfl (pi_range2 (by rfl) T.no_range (pa_cons pe_int (pa_cons (pe_op op_shl pe_int (pe_callB Rd.call_lenL (by rfl) T.no_len PySem.boot_len (pa_cons (pv 0) pa_nil))) pa_nil))) (pg_name (i := 4) sc_law_inside.nd rfl (Or.inl rfl))
        (pss_cons (ps_set (i := 5) sc_law_inside.nd rfl (Or.inl rfl) (pe_ix ixHT (pe_call (ok_law_things T) (hr.mono (by decide)) (by rfl) T.mg_law_things T.fn_law_things.kp T.b_law_things .nil pass0 (pa_cons (pv 4) pa_nil)) (pe_un un_neg pe_int) (fun _ _ => rfl)))
        (pss_cons (ps_set (i := 6) sc_law_inside.nd rfl (Or.inl rfl) (pe_ix Rd.ixH (pv 3) (pe_op op_sub (pv 4) (pe_op op_shl pe_int (pv 5))) (fun _ _ => rfl)))
        (pss_cons (ps_set (i := 7) sc_law_inside.nd rfl (Or.inl rfl) pe_non)
        (pss_cons (ps_if (pt_cmpR op_notN (pv 6) pe_non (nomark _)) (pss_one (ps_set (i := 7) sc_law_inside.nd rfl (Or.inl rfl) (pe_call (ok_law_reduced T) (hr.mono (by decide)) (by rfl) T.mg_law_reduced T.fn_law_reduced.kp T.b_law_reduced .nil pass0 (pa_cons (pe_ix Rd.ixH (pv 2) (pv 5) (fun _ _ => rfl)) (pa_cons (pv 6) (pa_cons (pv 1) pa_nil)))))) pss_nil)
        (pss_one (ps_if (pt_cmpR op_isN (pv 7) pe_non (nomark _)) (pss_one (ps_expr (pe_bm PySem.F.plainAttrs_list PySem.F.slot_list_append PySem.F.type_list_append mt_append (pv 3) (pa_cons pe_non pa_nil)))) (pss_one (ps_expr (pe_bm PySem.F.plainAttrs_list PySem.F.slot_list_append PySem.F.type_list_append mt_append (pv 3) (pa_cons (pe_op op_cat (pv 6) (pe_lst (pa_cons (pv 7) pa_nil))) pa_nil)))))))))))
      (pss_one (ps_ret (pe_lc (own := [("basis", 10)]) (by rfl) sc_law_inside.nd (pi_told K (pv 3)) (blkOk_by (own := [("basis", 10)]) (N := ["rows", "p", "small", "bases", "mask", "thing", "before", "found", "row", "number", "basis"]) (sc := defScope s_law_inside) (by decide +kernel)) (fun _ _ _ _ _ => pg_name (i := 10) sc_law_inside.nd rfl (Or.inl rfl)) (fun _ _ _ _ _ => pts_nil) (fun _ _ _ _ _ => (pe_cmpR op_notN (pv 10) pe_non (nomark _))))))))), ?_⟩
    show (_ : TS) _ [some (V.ref q), some (V.int p), none, none, none, none, none, none, none, none, none] H
    have xl := RI.len
    walk_at "rd"
    refine ⟨true, xs, hq, lcl_goes goes_seq (fun D i H5 => H D = none ∧ Same H H5 ∧ ∃ zs, H5 D = some (.lst zs) ∧ RowsI H5 zs ((rows.take i).map (modR p))) (fun D hD => ⟨hD, same_upd hD, [], upd_same, trivial⟩) (fun D i H5 _ h => h.2.1 _ _ hq) (fun D i x H5 H5' hi ⟨n5, e5, zs, a5, R5⟩ ⟨eq5, hx⟩ => ?_) (fun D H5 _ ⟨n5, e5, zs, a5, R5⟩ => ?_)⟩
    · subst eq5
      have il : i < rows.length := by omega
      obtain ⟨u, hu, r, hr', hau⟩ := RI.at il
      rw [hx] at hu
      obtain rfl := Option.some.inj hu
      have ru := rn r (List.mem_of_getElem? hr')
      walk_at "rd"
      refine ⟨true, zv r, e5 _ _ hau, lcl_goes goes_seq (fun C j H7 => H5' C = none ∧ Same H5' H7 ∧ H7 C = some (.lst (zv ((modR p r).take j)))) (fun C hC => ⟨hC, same_upd hC, upd_same⟩) (fun C j H7 _ h => h.2.1 _ _ (e5 _ _ hau)) (fun C j y H7 H7' hj ⟨n7, e7, a7⟩ ⟨eq7, hy⟩ => ?_) (fun C H7 _ ⟨n7, e7, a7⟩ => ?_)⟩
      · subst eq7
        obtain ⟨z, hz, rfl⟩ := zv_at hy
        walk_at "rd"
        have jl := (List.getElem?_eq_some_iff.mp hz).1
        refine ⟨p0, _, a7, small (by rw [zv_len, List.length_take]; omega), n7, fun b o hb => (upd_ne (ne_of_none hb n7)).trans (e7 _ _ hb), ?_⟩
        rw [List.take_add_one, show (modR p r)[j]? = some (z % p) by unfold modR; rw [List.getElem?_map, hz]; rfl]
        unfold zv
        rw [List.map_append]
        rfl
      · have ml : (modR p r).length = r.length := by unfold modR; rw [List.length_map]
        rw [zv_len, ← ml, List.take_length] at a7
        have CD : C ≠ D := fun z => by rw [z, a5] at n7; cases n7
        have a8 := e7 _ _ a5
        refine ⟨zs, a8, small (by have := R5.len; rw [List.length_map, List.length_take] at this; omega), n5, fun b o hb => (upd_ne (ne_of_none hb n5)).trans (e7 _ _ (e5 _ _ hb)), ?_⟩
        rw [List.take_add_one, hr', List.map_append]
        exact RowsI.app (RowsI.upd a8 (R5.same e7) fun _ h => h) ⟨⟨C, rfl, (upd_ne CD).trans a7⟩, trivial⟩
    · rw [xl, List.take_length] at R5
      have smr := mod_red p0 rn
      have smc := mod_cong (p := p) rows
      have sml : (rows.map (modR p)).length = rows.length := List.length_map ..
      have cm : ∀ s : List Nat, (∀ g ∈ s, g < rows.length) → (Indep p (rowsV rows s) ↔ Indep p (rowsV (rows.map (modR p)) s)) := fun s hs => (rowsV_cong s hs).indep
      generalize rows.map (modR p) = sm at R5 smr smc sml cm
      refine ⟨by decide, fun e0 he0 => ⟨by decide, fun Db hDb => ?_⟩⟩
      have s0 := same_upd (o := .lst []) he0
      have s1 := same_upd (o := .lst [V.ref e0]) hDb
      have Db0 : H Db = none := (e5.trans s0).free hDb
      have e0D : e0 ≠ Db := fun z => by rw [z, upd_same] at hDb; cases hDb
      have e7 := (e5.trans s0).trans s1
      refine ⟨xs, SqL.of (e7 _ _ hq), ?_⟩
      rw [xl]
      have p64 := pow64 l6
      refine ⟨cpw (by omega), by decide, by decide, (pbd l6).1, (pbd l6).2.1, ?_⟩
      rw [(pbd l6).2.2.2]
      refine Rd.loop_rngC (fun σ H' => ∃ o4 o5 o6 o7 bs, σ = [some (V.ref q), some (V.int p), some (V.ref D), some (V.ref Db), o4, o5, o6, o7, none, none, none] ∧ Same H H' ∧ H' Db = some (.lst bs) ∧ bs.length = 2 ^ rows.length ∧ ∀ m, m < 2 ^ rows.length → ∃ v, bs[m]? = some v ∧ BaseAt p n sm Db H' m v)
        (fun i σ H' => ∃ o4 o5 o6 o7 bs, σ = [some (V.ref q), some (V.int p), some (V.ref D), some (V.ref Db), o4, o5, o6, o7, none, none, none] ∧ Same H5 H' ∧ H' Db = some (.lst bs) ∧ bs.length = i + 1 ∧ bs[0]? = some (.ref e0) ∧ ∀ m, m < i + 1 → ∃ v, bs[m]? = some v ∧ BaseAt p n sm Db H' m v)
        ⟨none, none, none, none, [V.ref e0], rfl, s0.trans s1, upd_same, rfl, rfl, fun m hm => ?_⟩ ?_ ?_ ?_
      · obtain rfl : m = 0 := by omega
        refine ⟨_, rfl, .inr ⟨e0, [], [], rfl, e0D, s1 _ _ upd_same, trivial, fun _ h => (by cases h), ?_, Nat.zero_le _⟩⟩
        rw [show bits 0 = [] by decide]
        exact bas_nil p
      · rintro bk hbk i σ H6 hi ⟨o4, o5, o6, o7, bs, rfl, e6, aB, bl, b0, ba⟩
        have i64 : i + 1 < 64 := by omega
        obtain ⟨t, b1, b2, b3, b4⟩ := last_at i64 (Nat.succ_ne_zero i)
        have bin := (bits_in l6 (show i + 1 < 2 ^ rows.length by omega)).2
        have tl := (allS_at bin l6).2.2.1 t (by rw [b1]; exact List.mem_append_right _ List.mem_cons_self)
        have nk : ∀ s, bs ≠ zv s := fun s z => by
          rw [z] at b0
          obtain ⟨_, _, w⟩ := zv_at b0
          cases w
        have k2 : ∀ {H' : Hp}, H' Db = some (.lst bs) → ∀ s, H' Db ≠ some (.lst (zv s)) := fun h s z => nk s (HO.lst.inj (Option.some.inj (h.symm.trans z)))
        have k1 : ∀ {H' : Hp}, H' Db = some (.lst bs) → ∀ l, H' Db ≠ some (.tup l) := fun h l z => by rw [h] at z; cases z
        have Rsm : ∀ {H' : Hp}, Same H5 H' → RowsI H' zs sm := fun e => R5.same e
        have aD : ∀ {H' : Hp}, Same H5 H' → H' D = some (.lst zs) := fun e => e _ _ a5
        have Db5 : H5 Db = none := by
          cases z : H5 Db with
          | none => rfl
          | some o => rw [s0 _ _ z] at hDb; cases hDb
        obtain ⟨vb, hvb, bB⟩ := ba (i + 1 - 2 ^ t) (by omega)
        have rb : rowsV sm (bits (i + 1)) = rowsV sm (bits (i + 1 - 2 ^ t)) ++ [vec (sm.getD t [])] := by
          rw [b1]
          unfold rowsV
          rw [List.map_append]
          rfl
        show tSeq _ _ _ [some (V.ref q), some (V.int p), some (V.ref D), some (V.ref Db), some (V.int (1 + (i : Int))), o5, o6, o7, none, none, none] H6
        rw [show (1 : Int) + (i : Int) = ((i + 1 : Nat) : Int) by omega]
        refine cut (fun σ H' => σ = [some (V.ref q), some (V.int p), some (V.ref D), some (V.ref Db), some (V.int (i + 1 : Nat)), some (V.int (t : Nat)), o6, o7, none, none, none] ∧ Same H6 H') (fun R hR => ?_) (fun σ H7 h => ?_)
        · walk_at "rd"
          exact ⟨i + 1, rfl, fun u H7 u0 e7 a7 => ⟨u, rfl, _, a7, _, b4, hR _ _ ⟨rfl, e7⟩⟩⟩
        obtain ⟨rfl, e67⟩ := h
        have aB7 := e67 _ _ aB
        have e57 := e6.trans e67
        have bB7 : BaseAt p n sm Db H7 (i + 1 - 2 ^ t) vb := BaseAt.keep (H := H6) (fun q o _ h => e67 _ _ h) (k1 aB) (k2 aB) bB
        refine cut (fun σ H' => σ = [some (V.ref q), some (V.int p), some (V.ref D), some (V.ref Db), some (V.int (i + 1 : Nat)), some (V.int (t : Nat)), some vb, o7, none, none, none] ∧ H7 = H') (fun R hR => ?_) (fun σ H' h => ?_)
        · walk_at "rd"
          refine ⟨cpw (by omega), _, aB7, vb, ?_, hR _ _ ⟨rfl, rfl⟩⟩
          rw [pow_cast, ← Int.natCast_sub b3]
          exact atI_nat hvb
        obtain ⟨rfl, rfl⟩ := h
        have down : ¬ Indep p (rowsV sm (bits (i + 1 - 2 ^ t))) → ¬ Indep p (rowsV sm (bits (i + 1))) := fun h k => h (by
          rw [rb] at k
          exact k.sublist (List.sublist_append_left _ _))
        have bits6 : (bits (i + 1)).length ≤ 6 := Nat.le_trans (allS_at bin l6).2.2.2.1 l6
        have bl1 : (bits (i + 1)).length = (bits (i + 1 - 2 ^ t)).length + 1 := by rw [b1, List.length_append]; rfl
        obtain ⟨u, hu, r, hr, hau⟩ := (Rsm e57).at (g := t) (by rw [sml]; exact tl)
        have rr := smr r (List.mem_of_getElem? hr)
        have gr : sm.getD t [] = r := by rw [List.getD_eq_getElem?_getD, hr]; rfl
        /- what found is -/
        refine cut (fun σ H' => ∃ fv, σ = [some (V.ref q), some (V.int p), some (V.ref D), some (V.ref Db), some (V.int (i + 1 : Nat)), some (V.int (t : Nat)), some vb, some fv, none, none, none] ∧ Same H7 H' ∧ fv = .non) (fun R hR => ?_) (fun σ H' h => ?_)
        · walk_at "rd"
          exact hR _ _ ⟨_, rfl, fun _ _ h => h, rfl⟩
        obtain ⟨_, rfl, e78, rfl⟩ := h
        refine cut (fun σ H9 => ∃ fv, σ = [some (V.ref q), some (V.int p), some (V.ref D), some (V.ref Db), some (V.int (i + 1 : Nat)), some (V.int (t : Nat)), some vb, some fv, none, none, none] ∧ Same H7 H9 ∧
          ((fv = .non ∧ ¬ Indep p (rowsV sm (bits (i + 1)))) ∨ ∃ s ys X t' E w z, vb = .ref s ∧ s ≠ Db ∧ H9 s = some (.lst ys) ∧ BasV H9 ys X ∧ RedX p n X ∧ X.length ≤ (bits (i + 1 - 2 ^ t)).length ∧ fv = .ref t' ∧ H9 t' = some (.tup [.int (z : Nat), .ref E]) ∧ H9 E = some (.lst (zv w)) ∧ z < n ∧ w.length = n ∧ (∀ x ∈ w, 0 ≤ x ∧ x < p) ∧ Bas p (rowsV sm (bits (i + 1))) (X.map vx ++ [(z, vec w)]))) (fun R hR => ?_) (fun σ H9 h => ?_)
        · walk_at "rd"
          rcases bB7 with ⟨rfl, nB⟩ | ⟨s, ys, X, rfl, sD, hs, BV, RX, BS, XL⟩
          · rw [if_neg (by decide)]
            exact hR _ _ ⟨_, rfl, e78, .inl ⟨rfl, down nB⟩⟩
          · rw [if_pos (by rw [decide_eq_false (by intro z; cases z)]; rfl)]
            have z8 := e57.trans e78
            refine ⟨_, aD z8, _, atI_nat hu, u, s, p, r, ys, X, n, rowsV sm (bits (i + 1 - 2 ^ t)), rfl, pp, e78 _ _ hau, rr.1, n6, rr.2, e78 _ _ hs, BV.keep (fun q l h => e78 _ _ h) (fun q s h => e78 _ _ h), (by have := XL; omega), RX, BS, fun H9 e9 ni => hR _ _ ⟨_, rfl, e78.trans e9, .inl ⟨rfl, by rw [rb, gr]; exact ni⟩⟩, fun t' E w z H9 t0 e9 h1 h2 zn wl wr Bn => hR _ _ ⟨_, rfl, e78.trans e9, .inr ⟨s, ys, X, t', E, w, z, rfl, sD, e9 _ _ (e78 _ _ hs), (BV.keep (fun q l h => e78 _ _ h) (fun q s h => e78 _ _ h)).keep (fun q l h => e9 _ _ h) (fun q s h => e9 _ _ h), RX, XL, rfl, h1, h2, zn, wl, wr, by rw [rb, gr]; exact Bn⟩⟩⟩
        obtain ⟨fv, rfl, e79, hf⟩ := h
        have fin : ∀ {H10 : Hp} (v : V), Same H7 H10 → BaseAt p n sm Db H10 (i + 1) v → rAppend (V.ref Db) [v] H10 fun _ H11 => Same H5 H11 ∧ ∃ bs, H11 Db = some (.lst bs) ∧ bs.length = i + 1 + 1 ∧ bs[0]? = some (V.ref e0) ∧ ∀ m, m < i + 1 + 1 → ∃ v, bs[m]? = some v ∧ BaseAt p n sm Db H11 m v := fun {H10} v e10 bv => by
          have a10 := e10 _ _ aB7
          refine ⟨Db, bs, v, rfl, rfl, a10, small (by omega), fun b o hb => (upd_ne (ne_of_none hb Db5)).trans (e10 _ _ (e57 _ _ hb)), bs ++ [v], upd_same, by rw [List.length_append, bl]; rfl, by rw [List.getElem?_append_left (by omega)]; exact b0, fun m hm => ?_⟩
          by_cases em : m = i + 1
          · subst em
            exact ⟨v, by rw [List.getElem?_append_right (by omega), bl, Nat.sub_self]; rfl, bv.keep (fun q o ne h => (upd_ne ne).trans h) (k1 a10) (k2 a10)⟩
          · obtain ⟨v', hv', bv'⟩ := ba m (by omega)
            exact ⟨v', by rw [List.getElem?_append_left (by omega)]; exact hv', BaseAt.keep (H := H6) (fun q o ne h => (upd_ne ne).trans (e10 _ _ (e67 _ _ h))) (k1 aB) (k2 aB) bv'⟩
        walk_at "rd"
        rcases hf with ⟨rfl, nf⟩ | ⟨s, ys, X, t', E', w, z, rfl, sD, hs, BV, RX, XL, rfl, h1, h2, zn, wl, wr, Bn⟩
        · rw [if_pos rfl]
          unfold tBM
          walk_at "rd"
          exact ⟨.inl ⟨rfl, _, SqL.of (e79 _ _ aB7)⟩, fin _ e79 (.inl ⟨rfl, nf⟩)⟩
        · rw [if_neg (by intro z; cases z)]
          unfold tBM
          walk_at "rd"
          refine ⟨.inl ⟨rfl, _, SqL.of (e79 _ _ aB7)⟩, by decide, fun pl hpl => ?_⟩
          have epl := same_upd (o := .lst [V.ref t']) hpl
          refine ⟨s, pl, ys, [V.ref t'], rfl, rfl, epl _ _ hs, upd_same, Nat.le_of_lt (small (by have := BV.len; simp only [List.length_singleton]; omega)), fun nl hnl => ?_⟩
          have enl := same_upd (o := .lst (ys ++ [V.ref t'])) hnl
          have e9 := epl.trans enl
          have nD : nl ≠ Db := fun z => by rw [z, epl _ _ (e79 _ _ aB7)] at hnl; cases hnl
          refine fin _ (e79.trans e9) (.inr ⟨nl, ys ++ [V.ref t'], X ++ [(z, w)], rfl, nD, upd_same, BasV.app (BV.keep (fun q l h => e9 _ _ h) (fun q s h => e9 _ _ h)) ⟨⟨t', E', rfl, e9 _ _ h1, e9 _ _ h2⟩, trivial⟩, fun x hx => ?_, ?_, ?_⟩)
          · rcases List.mem_append.mp hx with h | h
            · exact RX x h
            · rw [List.mem_singleton.mp h]
              exact ⟨zn, wl, wr⟩
          · rw [List.map_append]
            exact Bn
          · rw [List.length_append, bl1]
            exact Nat.succ_le_succ XL
      · rintro σ H6 ⟨o4, o5, o6, o7, bs, q1, q2, q3, q4, q5, q6⟩
        have e : 2 ^ rows.length - 1 + 1 = 2 ^ rows.length := by have : 0 < 2 ^ rows.length := Nat.pow_pos (by decide); omega
        rw [e] at q4 q6
        exact ⟨o4, o5, o6, o7, bs, q1, e5.trans q2, q3, q4, q6⟩
      · rintro σ H6 ⟨o4, o5, o6, o7, bs, rfl, e6, aB, bl, ba⟩
        walk_at "rd"
        have Db0' := Db0
        refine ⟨true, bs, aB, lcl_goes goes_seq (fun C j H7 => H6 C = none ∧ Same H6 H7 ∧ H7 C = some (.lst ((bs.take j).map fun v => V.bl (!decide (v = V.non))))) (fun C hC => ⟨hC, same_upd hC, upd_same⟩) (fun C j H7 _ h => h.2.1 _ _ aB) (fun C j y H7 H7' hj ⟨n7, e7, a7⟩ ⟨eq7, hy⟩ => ?_) (fun C H7 _ ⟨n7, e7, a7⟩ => ?_)⟩
        · subst eq7
          walk_at "rd"
          refine ⟨_, a7, small (by rw [List.length_map, List.length_take]; omega), n7, fun b o hb => (upd_ne (ne_of_none hb n7)).trans (e7 _ _ hb), ?_⟩
          rw [List.take_add_one, hy, List.map_append]
          rfl
        · rw [List.take_length] at a7
          refine k C (bs.map fun v => !decide (v = V.non)) H7 (e6.free n7) (e6.trans e7) (by rw [a7, List.map_map]; rfl) (by rw [List.length_map, bl]) fun m hm => ?_
          obtain ⟨v, hv, bv⟩ := ba m hm
          have ins : In (bs.map fun v => !decide (v = V.non)) m = !decide (v = V.non) := by
            unfold In
            rw [List.getD_eq_getElem?_getD, List.getElem?_map, hv]
            rfl
          rw [ins, cm (bits m) (allS_at (bits_in l6 hm).2 l6).2.2.1, ← bv.iff pp, Bool.not_eq_true', decide_eq_false_iff_not]
end

end K23
namespace K23
open PySem PySem.Spec PyProof.Rows L2 Own OwnSeq OwnSet OwnComb OwnSort OwnHot OwnExN OwnProj
local macro_rules | `(tactic| walk_at "rd") => `(tactic| simp only [tSeq, tAsg, tOp, tUn, tVar, gName, gSub, rIxL, rIxT, rSetL, tC, rI0, rI, rU, rEq, rNe, tCons, tNil, tCB, tLst, tTup, tIfS, tAnd, tOr, tNot, tAndV, tOrV, tNotV, tTest, tB, tIf, tRet, tDrop, tNext, tBreak, tCont, tCall, tCallS, L2.WE, tMakeS, rIsS, rIsB, tChain, gSeq, gRest, gCons, gNil, tFor_seq, tFor_enumS, tLc_seq, tLc_enumS, rAny, rAll, L2.tMeth, StX.tStar, rIn, tLstRg, tRg1, tRg2, rSetI, rSortedSet, rInDT, rInD, rNotInD, rEqD, rNeD, iComb, tFld, tMake, tMkO, sFld, tOst, tNever, tBits, clv, isB,
  Rd.tFor_rng1, Rd.tFor_rng2, Rd.tFor_list, Rd.tFor_tup, Rd.tLc_list, Rd.tLc_tup, Rd.tLc_rng1, Rd.LcTurn, tYes, wipe, Rd.rLenL, Rd.rLenT, Rd.rIntI, Rd.rIxH, rIxHT,  HO.tup.injEq, Rd.at0, Rd.at1, Rd.at2, Rd.at3, Rd.ixN40, Rd.ixN41, Rd.ixN42, Rd.ixN43, Rd.scal_ii, cxOf,
  List.length_cons, List.length_nil, List.length_map, List.map_cons, List.map_nil, upd_same, decide_eq_true_eq, decide_true, decide_false, if_true, if_false, Bool.false_eq_true, Bool.not_true, Bool.not_false, HO.lst.injEq, HO.ins.injEq, List.set_cons_zero, List.set_cons_succ, List.getElem?_cons_zero, List.getElem?_cons_succ, List.append_nil, List.nil_append, List.cons_append, Option.some.injEq, V.ref.injEq, V.int.injEq, V.bl.injEq, List.cons.injEq, exists_eq_left', exists_and_left, exists_eq_left, true_and, and_true, and_self, and_assoc, implies_true, reduceCtorEq, Nat.reduceAdd])

/-- f(k = v): a def whose parameters are all called by their names -/
def swp {α : Type} : List α → List α
  | [x, y] => [y, x]
  | l => l
theorem swp_vals : ∀ {zs : List V} {ws : List Value}, Vals zs ws → Vals (swp zs) (swp ws)
  | _, _, .nil => .nil
  | _, _, .cons r .nil => .cons r .nil
  | _, _, .cons r (.cons q .nil) => .cons q (.cons r .nil)
  | _, _, .cons r (.cons q (.cons p t)) => .cons r (.cons q (.cons p t))
def tCallN0 (n : Nat) (sp : Sp) (E : XK) (tk : TA) : TE := fun σ H Q => tk σ H fun zs H2 => zs.length = n ∧ sp (swp zs) H2 Q E
theorem pe_callN0 {X : Cx} {CX : CXT} {k : Nat} {f : Addr} {fd : FuncData} {ps ks : List Str} {sp : Sp} {E : XK} {x : Str} {p pos : Pos} {kws : List Keyword} {tk : TA}
    (F : FnOk X.prog X.w X.K X.mg X.base CX k f fd ps sp) (hr : Room k X.A) (hg : Gl X x) (hm : X.mg x = some (.ref f)) (hk : PySem.W.keepIn X.K (.ref f) = true) (hb : KBn X.K fd ps 0 ks (fun _ ws => swp ws) (fun _ zs => swp zs)) (hx : Passes CX X E) (hkw : PK X kws tk)
    (hall : (backToKw pos (keywordEach kws X.env)).all (·.1.isSome) = true := by rfl) (hks : (backToKw pos (keywordEach kws X.env)).filterMap (·.1) = ks := by rfl) (hdb : (x == ("__debug__" : Str)) = false := by decide)
    (hpl : ((backTo pos (starEach [] X.env)).any (·.1) || (backToKw pos (keywordEach kws X.env)).any (·.1.isNone)) = false := by rfl) :
    PE X (.Call (.Name x p) [] kws pos) (tCallN0 ks.length sp E tk) := by
  refine ⟨fun pins s σ H Q I h => wpAny_Call_Name_kw (ld_glob I hg hm (PySem.W.callWith_KW0 (h₀ := X.base) I.ok.mod.kin hk hall (thn (hkw.run pos pins s σ H _ I h) fun ws s2 ⟨zs, H2, I2, rz, l2, q2⟩ => ⟨I2.kIn, ?_⟩) hpl) hdb)⟩
  rw [hks]
  exact run_fnN (us := []) (vs := []) F hr hb hx I2 .nil rz rfl l2 q2
/-- a def called by names behind its first parameters -/
theorem kbs_of {K : PySem.W.Frag} {x qual : Str} {st : Stmt} {f : Addr} {fd : FuncData} {ps : List Str} (ks : List Str) (F : Fun K x qual st f fd)
    (h : ∀ (kV doc pm : Value) (an : Option Addr) (cdv ct : Value) (us ws : List Value), us.length = 0 → ws.length = ks.length → bindArgs (PySem.W.fnOf x qual (defArgs st) (defBody st) (defScope st) .none kV doc pm an cdv ct) ⟨us, ks.zip ws⟩ = pure (ps.zip (swp ws))) :
    KBn K fd ps 0 ks (fun _ ws => swp ws) (fun _ zs => swp zs) :=
  match F.ex with
  | ⟨_, _, kV, doc, pm, an, cdv, ct, _, e, _, _⟩ => ⟨fun s us ws _ l1 l2 => .of_eq (by rw [e]; exact h kV doc pm an cdv ct us ws l1 l2), fun _ r2 => swp_vals r2⟩
/-- all that is no list stands -/
def Kp (H H' : Hp) : Prop := ∀ q o, H q = some o → (∀ l, o ≠ .lst l) → H' q = some o
theorem Kp.trans {H H1 H2 : Hp} (x : Kp H H1) (y : Kp H1 H2) : Kp H H2 := fun q o h n => y q o (x q o h n) n
theorem Kp.same {H H' : Hp} (e : Same H H') : Kp H H' := fun q o h _ => e q o h
theorem Kp.but {b : Addr} {H H' : Hp} {l : List V} (e : But b H H') (h : H b = some (.lst l)) : Kp H H' := fun q o hq n => e q o (fun z => by rw [z, h] at hq; exact n l (Option.some.inj hq).symm) hq
theorem Kp.upd {p : Addr} {H : Hp} {l : List V} {o : HO} (h : H p = some (.lst l)) : Kp H (L2.upd H p o) := fun q o hq n => (upd_ne fun z => by rw [z, h] at hq; exact n l (Option.some.inj hq).symm).trans hq
theorem FamV.kp {C : Addr} {H H' : Hp} {f n : Nat} {S : List Bool} (e : Kp H H') (F : FamV C H f n S) : FamV C H' f n S :=
  let ⟨dx, t, ys, a, b, c⟩ := F.ob
  ⟨F.fam, dx, t, ys, e _ _ a (fun _ z => by cases z), e _ _ b (fun _ z => by cases z), Tups.keep (fun q l h => e q _ h (fun _ z => by cases z)) c⟩
section
variable {P : Program} {w : World} {K : PySem.W.Frag} {mg : Str → Option Value} {base : Heap} {a : Ad}
open LamX OwnLam
/-- what stood stands, but for b and the tables -/
def Kb (b : Addr) (H H' : Hp) : Prop := ∀ q o, q ≠ b → H q = some o → (∀ ps, o ≠ .tbl ps) → H' q = some o
theorem Kb.refl (b : Addr) (H : Hp) : Kb b H H := fun _ _ _ h _ => h
theorem Kb.trans {b : Addr} {H H1 H2 : Hp} (x : Kb b H H1) (y : Kb b H1 H2) : Kb b H H2 := fun q o n h t => y q o n (x q o n h t) t
theorem But.kb {b : Addr} {H H1 : Hp} (e : But b H H1) : Kb b H H1 := fun q o n h _ => e q o n h
theorem kb_same {b : Addr} {H H1 : Hp} (e : Same H H1) : Kb b H H1 := fun q o _ h _ => e q o h
theorem kb_ext {b : Addr} {H H1 : Hp} (e : ExtN H H1) : Kb b H H1 := fun q o _ h t => e q o h t
theorem Kb.updn {b p : Addr} {o : HO} {H H' : Hp} (e : Kb b H H') (h : H p = none) : Kb b H (upd H' p o) := fun q u n z t => (upd_ne (ne_of_none z h)).trans (e q u n z t)
theorem BoxAt.extN {H H' : Hp} {b c : Addr} {ns : List Int} (B : BoxAt K H b c ns) (e : ExtN H H') : BoxAt K H' b c ns :=
  let ⟨n1, n2, n3, h, p, q⟩ := B.ob
  ⟨B.ne, B.len, ⟨n1, n2, n3, e _ _ h (fun _ z => by cases z), p, q⟩, by
    rcases B.cells with (h | ⟨o, h⟩) | h
    · exact .inl (.inl (e _ _ h (fun _ z => by cases z)))
    · exact .inl (.inr ⟨o, e _ _ h (fun _ z => by cases z)⟩)
    · exact .inr h⟩
theorem tabS_but {b : Addr} {H H' : Hp} {P0 : Addr} {q : Str} {l : List V} (t : LamX.TabS H P0 q) (e : But b H H') (hb : H b = some (.lst l)) : LamX.TabS H' P0 q := by
  obtain ⟨ps, h1, h2, h3⟩ := t
  refine ⟨ps, e _ _ (fun z => by rw [z, hb] at h1; cases h1) h1, h2, fun pos cv hc => ?_⟩
  obtain ⟨c, e1, e2⟩ := h3 pos cv hc
  exact ⟨c, e1, e _ _ (fun z => by rw [z, hb] at e2; unfold CodeO at e2; cases e2) e2⟩
theorem FamV.kb {C b : Addr} {H H' : Hp} {f n : Nat} {S : List Bool} {l : List V} (e : Kb b H H') (hb : H b = some (.lst l)) (F : FamV C H f n S) : FamV C H' f n S :=
  let ⟨dx, t, ys, h1, h2, h3⟩ := F.ob
  ⟨F.fam, dx, t, ys, e _ _ (fun z => by rw [z, hb] at h1; cases h1) h1 (fun _ z => by cases z), e _ _ (fun z => by rw [z, hb] at h2; cases h2) h2 (fun _ z => by cases z), Tups.keep (fun q l h => e _ _ (fun z => by rw [z, hb] at h; cases h) h (fun _ z => by cases z)) h3⟩
theorem kb_independent_rows (T : Txt K mg a) : KBn K a.d_independent_rows ["p", "rows"] 0 ["rows", "p"] (fun _ ws => swp ws) (fun _ zs => swp zs) :=
  kbs_of ["rows", "p"] T.fn_independent_rows fun kV doc pm an cdv ct us ws hu hw => match us, ws, hu, hw with | [], [_, _], _, _ => by first | rfl | with_unfolding_all rfl | kernel_rfl
theorem neD_at {X : Cx} (K : PySem.W.Frag) (hu : X.A.units + 64 < cLine) (hK : X.K = K := by rfl) : OpR X (compareOp .NotEq) (rNeD K) := by
  subst hK
  exact op_neD hu
theorem listK {X : Cx} (K : PySem.W.Frag) (hK : X.K = K := by rfl) : CallR X (.type "list") fun xs H Q => ∃ p ys, xs = [V.ref p] ∧ (SqL K H p ys ∨ SqT K H p ys) ∧ ∀ l, H l = none → Q (.ref l) (L2.upd H l (.lst ys)) := by
  subst hK
  exact call_list_of
/-! ### rows of whole numbers as data -/
def dI (s : List Int) : PyData := .list (s.map PyData.int)
theorem dp_is {H : Hp} : ∀ s : List Int, DpAll K H (zv s) (s.map PyData.int)
  | [] => .nil
  | x :: s => .cons (.int x) (dp_is s)
theorem dp_rows {H : Hp} : ∀ {vs : List V} {ss : List (List Int)}, RowsI H vs ss → DpAll K H vs (ss.map dI)
  | [], [], _ => .nil
  | _ :: _, s :: _, ⟨⟨q, e, h⟩, r⟩ => e ▸ .cons (.lst (SqL.of h) (dp_is s)) (dp_rows r)
  | [], _ :: _, h => h.elim
  | _ :: _, [], h => h.elim
theorem lay_is : ∀ s : List Int, PyData.canLayAll0 (s.map PyData.int) = true ∧ PyData.depthAll (s.map PyData.int) = 0
  | [] => ⟨by simp [PyData.canLayAll0], by simp [PyData.depthAll]⟩
  | g :: s => by
    obtain ⟨a, b⟩ := lay_is s
    refine ⟨?_, ?_⟩
    · simp only [List.map_cons, PyData.canLayAll0, PyData.canLay0, a, Bool.and_self]
    · simp only [List.map_cons, PyData.depthAll, PyData.depth, b, Nat.max_self]
theorem lay_row (s : List Int) : (dI s).canLay0 = true ∧ (dI s).depth = 1 := by
  obtain ⟨a, b⟩ := lay_is s
  unfold dI
  exact ⟨by simp only [PyData.canLay0, a], by simp only [PyData.depth, b]⟩
theorem lay_rows : ∀ ss : List (List Int), PyData.canLayAll0 (ss.map dI) = true ∧ PyData.depthAll (ss.map dI) ≤ 1
  | [] => ⟨by simp [PyData.canLayAll0], by simp [PyData.depthAll]⟩
  | s :: ss => by
    obtain ⟨a, b⟩ := lay_rows ss
    obtain ⟨c, d⟩ := lay_row s
    refine ⟨?_, ?_⟩
    · simp only [List.map_cons, PyData.canLayAll0, a, c, Bool.and_self]
    · simp only [List.map_cons, PyData.depthAll, d]
      omega
theorem sh_rows (ss : List (List Int)) : SeqAt.shaped (.list (ss.map dI)) = true := by
  have := (lay_rows ss).2
  unfold SeqAt.shaped
  rw [show (PyData.list (ss.map dI)).canLay0 = PyData.canLayAll0 (ss.map dI) by simp only [PyData.canLay0], (lay_rows ss).1]
  simp only [PyData.depth, Bool.true_and]
  exact decide_eq_true (by omega)
theorem eqv_is : ∀ s : List Int, PyData.eqvAll (s.map PyData.int) (s.map PyData.int) = true
  | [] => by simp [PyData.eqvAll]
  | x :: s => by
    rw [List.map_cons]
    simp only [PyData.eqvAll, PyData.eqv, eqv_is s, Bool.and_true]
    exact beq_self_eq_true x
theorem eqv_rowsA : ∀ ss : List (List Int), PyData.eqvAll (ss.map dI) (ss.map dI) = true
  | [] => by simp [PyData.eqvAll]
  | s :: ss => by
    have z : PyData.eqv (dI s) (dI s) = true := by
      unfold dI
      simp only [PyData.eqv, eqv_is s]
    rw [List.map_cons]
    simp only [PyData.eqvAll, z, eqv_rowsA ss, Bool.and_self]
theorem eqv_rows (ss : List (List Int)) : PyData.eqv (.list (ss.map dI)) (.list (ss.map dI)) = true := by
  simp only [PyData.eqv]
  exact eqv_rowsA ss
/-! ### the rows as passed: lists are new -/
def RowsN (H0 H : Hp) : List V → List (List Int) → Prop
  | [], [] => True
  | v :: vs, e :: es => (∃ q l, v = .ref q ∧ H q = some (sq l (zv e)) ∧ (l = true → H0 q = none)) ∧ RowsN H0 H vs es
  | _, _ => False
theorem RowsN.rows {H0 H : Hp} : ∀ {vs : List V} {es : List (List Int)}, RowsN H0 H vs es → RowsZ H vs es
  | [], [], _ => trivial
  | _ :: _, _ :: _, ⟨⟨q, l, a, b, _⟩, r⟩ => ⟨⟨q, l, a, b⟩, RowsN.rows r⟩
  | [], _ :: _, h => h.elim
  | _ :: _, [], h => h.elim
theorem RowsN.len {H0 H : Hp} {vs : List V} {es : List (List Int)} (h : RowsN H0 H vs es) : vs.length = es.length := h.rows.len
theorem RowsN.keep {H0 H H' : Hp} (k : ∀ q l (s : List Int), H q = some (sq l (zv s)) → H' q = some (sq l (zv s))) : ∀ {vs : List V} {es : List (List Int)}, RowsN H0 H vs es → RowsN H0 H' vs es
  | [], [], _ => trivial
  | _ :: _, _ :: _, ⟨⟨q, l, a, b, c⟩, r⟩ => ⟨⟨q, l, a, k _ _ _ b, c⟩, RowsN.keep k r⟩
  | [], _ :: _, h => h.elim
  | _ :: _, [], h => h.elim
theorem RowsN.app {H0 H : Hp} : ∀ {vs ws : List V} {es fs : List (List Int)}, RowsN H0 H vs es → RowsN H0 H ws fs → RowsN H0 H (vs ++ ws) (es ++ fs)
  | [], _, [], _, _, h => h
  | _ :: _, _, _ :: _, _, ⟨a, r⟩, h => ⟨a, RowsN.app r h⟩
  | [], _, _ :: _, _, h, _ => h.elim
  | _ :: _, _, [], _, h, _ => h.elim
/-- under a change of the list that holds the rows' addresses -/
theorem RowsN.upd {H0 H : Hp} {p : Addr} {o : HO} {xs : List V} (hp : H p = some (.lst xs)) : ∀ {vs : List V} {ss : List (List Int)}, RowsN H0 H vs ss → (∀ v ∈ vs, v ∈ xs) → RowsN H0 (L2.upd H p o) vs ss
  | [], [], _, _ => trivial
  | _ :: _, _ :: _, ⟨⟨q, l, e, h, n⟩, r⟩, m => ⟨⟨q, l, e, (upd_ne fun z => by
      rw [z, hp] at h
      cases l with
      | false => cases h
      | true =>
        have y := HO.lst.inj (Option.some.inj h)
        have := m _ List.mem_cons_self
        rw [y, e] at this
        obtain ⟨_, _, w⟩ := List.mem_map.mp this
        cases w).trans h, n⟩, RowsN.upd hp r fun v hv => m v (List.mem_cons_of_mem _ hv)⟩
  | [], _ :: _, h, _ => h.elim
  | _ :: _, [], h, _ => h.elim
theorem RowsN.no {H0 H : Hp} {s : List Int} : ∀ {vs : List V} {es : List (List Int)}, RowsN H0 H vs es → 1 ≤ es.length → vs ≠ zv s
  | [], [], _, h => absurd h (by decide)
  | _ :: _, _ :: _, ⟨⟨q, l, a, _⟩, _⟩, _ => fun z => by
    rw [a] at z
    cases s with
    | nil => cases z
    | cons x r => cases (List.cons.inj z).1
  | [], _ :: _, h, _ => h.elim
  | _ :: _, [], h, _ => h.elim
def RowsM (H0 H : Hp) (n : Nat) (xs : List V) : Prop := ∀ v ∈ xs, ∃ q l, ∃ s : List Int, v = .ref q ∧ H q = some (sq l (zv s)) ∧ s.length ≤ n ∧ (l = true → H0 q = none)
theorem RowsN.m {H0 H : Hp} {n : Nat} : ∀ {vs : List V} {es : List (List Int)}, RowsN H0 H vs es → (∀ e ∈ es, e.length ≤ n) → RowsM H0 H n vs
  | [], _, _, _ => fun _ h => by cases h
  | _ :: _, s :: _, ⟨⟨q, l, a, b, c⟩, r⟩, hn => fun v hv => by
    rcases List.mem_cons.mp hv with rfl | m
    · exact ⟨q, l, s, a, b, hn s List.mem_cons_self, c⟩
    · exact RowsN.m r (fun e he => hn e (List.mem_cons_of_mem _ he)) v m
  | _ :: _, [], h, _ => h.elim
theorem tabS_kp {H H' : Hp} {P0 : Addr} {q : Str} (t : LamX.TabS H P0 q) (e : Kp H H') : LamX.TabS H' P0 q := by
  obtain ⟨ps, h1, h2, h3⟩ := t
  refine ⟨ps, e _ _ h1 (fun _ z => by cases z), h2, fun pos cv hc => ?_⟩
  obtain ⟨c, e1, e2⟩ := h3 pos cv hc
  exact ⟨c, e1, e _ _ e2 (fun _ z => by unfold CodeO at z; cases z)⟩
theorem box_updn {H0 H : Hp} {b c z : Addr} {ns : List Int} {o : HO} (B0 : BoxAt K H0 b c ns) (B : BoxAt K H b c ns) (hz : H0 z = none) (e : Kb b H0 (upd H z o)) : BoxAt K (upd H z o) b c ns :=
  let ⟨n1, n2, n3, h, u, v⟩ := B.ob
  ⟨B.ne, B.len, ⟨n1, n2, n3, (upd_ne (Ne.symm (B0.ne_new hz))).trans h, u, v⟩, by
    rcases B0.cells with (h | ⟨o, h⟩) | h
    · exact .inl (.inl (e _ _ B.ne h (fun _ z => by cases z)))
    · exact .inl (.inr ⟨o, e _ _ B.ne h (fun _ z => by cases z)⟩)
    · exact .inr h⟩
/-! ### independent rows, alike modulo p -/
open OwnIndep
noncomputable def SI (p : Int) (rows : List (List Int)) : List Bool := (List.range (2 ^ rows.length)).map fun m => fitI p rows (bits m)
theorem SI_in {p : Int} {rows : List (List Int)} {m : Nat} (h : m < 2 ^ rows.length) : In (SI p rows) m = fitI p rows (bits m) := by
  unfold In SI
  rw [List.getD_eq_getElem?_getD, List.getElem?_map, List.getElem?_range h]
  rfl
theorem SI_eq {p : Int} {rows : List (List Int)} {S : List Bool} (l : S.length = 2 ^ rows.length) (h : ∀ m, m < 2 ^ rows.length → (In S m = true ↔ Indep p (rowsV rows (bits m)))) : S = SI p rows := by
  refine List.ext_getElem (by rw [l]; unfold SI; rw [List.length_map, List.length_range]) fun m h1 h2 => ?_
  have m2 : m < 2 ^ rows.length := l ▸ h1
  have a : In S m = S[m] := by unfold In; rw [List.getD_eq_getElem?_getD, List.getElem?_eq_getElem h1]; rfl
  have b : In (SI p rows) m = (SI p rows)[m] := by unfold In; rw [List.getD_eq_getElem?_getD, List.getElem?_eq_getElem h2]; rfl
  rw [← a, ← b, SI_in m2, Bool.eq_iff_iff, h m m2, fitI_iff]
theorem rest_sub (s t : List Nat) : (restL s t).Sublist s := List.filter_sublist
theorem SI_fit {p : Int} {rows : List (List Int)} (h6 : rows.length ≤ 6) {s : List Nat} (hs : s ∈ allS rows.length) : In (SI p rows) (mk s) = true ↔ fitI p rows s = true ∧ ∀ g ∈ s, In (SI p rows) (mk (restL s [g])) = true := by
  obtain ⟨b1, b2, _⟩ := allS_at hs h6
  rw [SI_in b2, b1]
  refine ⟨fun h => ⟨h, fun g hg => ?_⟩, fun h => h.1⟩
  have c := chain_at h6 hs hg
  obtain ⟨d1, d2, _⟩ := allS_at c.2.1 h6
  rw [SI_in d2, d1, fitI_iff]
  exact (fitI_iff.mp h).sublist ((rest_sub s [g]).map _)
theorem SI_fam {p : Int} {rows : List (List Int)} (h1 : 1 ≤ rows.length) (h6 : rows.length ≤ 6) : Fam rows.length (SI p rows) := by
  refine fam_by h1 h6 (by unfold SI; rw [List.length_map, List.length_range]) ?_ (fun s hs hi => ((SI_fit h6 hs).mp hi).2)
  rw [SI_in (Nat.pow_pos (by decide)), show bits 0 = [] by decide, fitI_iff]
  exact indep_nil p
theorem cong_get {p : Int} : ∀ {rows R : List (List Int)}, Cong p (rows.map vec) (R.map vec) → ∀ g, g < rows.length → ∀ j, p ∣ vec (rows.getD g []) j - vec (R.getD g []) j
  | [], [], _, _, h, _ => absurd h (Nat.not_lt_zero _)
  | r :: rows, s :: R, h, 0, _, j => h.1 j
  | r :: rows, s :: R, h, g + 1, l, j => cong_get (rows := rows) (R := R) h.2 g (Nat.lt_of_succ_lt_succ l) j
  | [], _ :: _, h, _, _, _ => h.elim
  | _ :: _, [], h, _, _, _ => h.elim
theorem rowsV_cong2 {p : Int} {rows R : List (List Int)} (h : ∀ g, g < rows.length → ∀ j, p ∣ vec (rows.getD g []) j - vec (R.getD g []) j) : ∀ s : List Nat, (∀ g ∈ s, g < rows.length) → Cong p (rowsV rows s) (rowsV R s)
  | [], _ => trivial
  | g :: s, hs => ⟨h g (hs g List.mem_cons_self), rowsV_cong2 h s fun q hq => hs q (List.mem_cons_of_mem _ hq)⟩
theorem use_ind {C P0 r : Addr} {p : Int} {l : Bool} {xs : List V} {R rows : List (List Int)} {m : Nat} {H : Hp} {Q : VK} {X : XK} (pp : PP p) (h1 : 1 ≤ rows.length) (h6 : rows.length ≤ 6) (hl : R.length = rows.length) (hc : ∀ g, g < rows.length → ∀ j, p ∣ vec (rows.getD g []) j - vec (R.getD g []) j) (hr : H r = some (sq l xs)) (rv : RowsZ H xs R) (m6 : m ≤ 6) (rm : ∀ q ∈ R, q.length = m) (t : TabS H P0 nmF)
    (k : ∀ g H', ExtN H H' → TabS H' P0 nmF → FamV C H' g rows.length (SI p rows) → Q (.ref g) H') : spInd C P0 [.int p, .ref r] H Q X := by
  refine ⟨p, r, l, xs, R, m, SI p rows, rfl, pp, hr, rv, m6, rm, hl ▸ SI_fam h1 h6, fun s hs => ?_, t, fun g H' e t' F => k g H' e t' (hl ▸ F)⟩
  rw [hl] at hs
  rw [SI_fit h6 hs, fitI_iff, fitI_iff, (rowsV_cong2 hc s (allS_at hs h6).2.2.1).indep]
end

end K23
namespace K23
open PySem PySem.Spec PyProof.Rows L2 Own OwnSeq OwnSet OwnComb OwnSort OwnHot OwnExN OwnProj
local macro_rules | `(tactic| walk_at "rd") => `(tactic| simp only [tSeq, tAsg, tOp, tUn, tVar, gName, gSub, rIxL, rIxT, rSetL, tC, rI0, rI, rU, rEq, rNe, tCons, tNil, tCB, tLst, tTup, tIfS, tAnd, tOr, tNot, tAndV, tOrV, tNotV, tTest, tB, tIf, tRet, tDrop, tNext, tBreak, tCont, tCall, tCallS, L2.WE, tMakeS, rIsS, rIsB, tChain, gSeq, gRest, gCons, gNil, tFor_seq, tFor_enumS, tLc_seq, tLc_enumS, rAny, rAll, L2.tMeth, StX.tStar, rIn, tLstRg, tRg1, tRg2, rSetI, rSortedSet, rInDT, rInD, rNotInD, rEqD, rNeD, iComb, tFld, tMake, tMkO, sFld, tOst, tNever, tBits, clv, isB,
  Rd.tFor_rng1, Rd.tFor_rng2, Rd.tFor_list, Rd.tFor_tup, Rd.tLc_list, Rd.tLc_tup, Rd.tLc_rng1, Rd.LcTurn, tYes, wipe, Rd.rLenL, Rd.rLenT, Rd.rIntI, Rd.rIxH, rIxHT,  HO.tup.injEq, Rd.at0, Rd.at1, Rd.at2, Rd.at3, Rd.ixN40, Rd.ixN41, Rd.ixN42, Rd.ixN43, Rd.scal_ii, cxOf,
  List.length_cons, List.length_nil, List.length_map, List.map_cons, List.map_nil, upd_same, decide_eq_true_eq, decide_true, decide_false, if_true, if_false, Bool.false_eq_true, Bool.not_true, Bool.not_false, HO.lst.injEq, HO.ins.injEq, List.set_cons_zero, List.set_cons_succ, List.getElem?_cons_zero, List.getElem?_cons_succ, List.append_nil, List.nil_append, List.cons_append, Option.some.injEq, V.ref.injEq, V.int.injEq, V.bl.injEq, List.cons.injEq, exists_eq_left', exists_and_left, exists_eq_left, true_and, and_true, and_self, and_assoc, implies_true, reduceCtorEq, Nat.reduceAdd])

section
variable {P : Program} {w : World} {K : PySem.W.Frag} {mg : Str → Option Value} {base : Heap} {a : Ad}
open LamX OwnLam
theorem tupK {X : Cx} (K : PySem.W.Frag) (hK : X.K = K := by rfl) : CallR X (.type "tuple") fun xs H Q => ∃ p ys, xs = [V.ref p] ∧ ((SqL K H p ys ∧ ∀ l, H l = none → Q (.ref l) (L2.upd H l (.tup ys))) ∨ SqT K H p ys ∧ Q (.ref p) H) := by
  subst hK
  exact call_tuple_of
open OwnIndep
def RowsK (H0 H : Hp) (xs : List V) : Prop := ∀ v ∈ xs, ∃ q l, ∃ s : List Int, v = .ref q ∧ H q = some (sq l (zv s)) ∧ 1 ≤ s.length ∧ (l = true → H0 q = none)
theorem RowsN.k {H0 H : Hp} : ∀ {vs : List V} {es : List (List Int)}, RowsN H0 H vs es → (∀ e ∈ es, 1 ≤ e.length) → RowsK H0 H vs
  | [], _, _, _ => fun _ h => by cases h
  | _ :: _, s :: _, ⟨⟨q, l, a, b, c⟩, r⟩, hn => fun v hv => by
    rcases List.mem_cons.mp hv with rfl | m
    · exact ⟨q, l, s, a, b, hn s List.mem_cons_self, c⟩
    · exact RowsN.k r (fun e he => hn e (List.mem_cons_of_mem _ he)) v m
  | _ :: _, [], h, _ => h.elim
/-! ### _law_all -/
def spLawAll (K : PySem.W.Frag) (P0 : Addr) : Sp := fun vs H Q _ => ∃ (s : Addr) (ns : List Int), vs = [.ref s] ∧ SqL K H s (ns.map V.int) ∧ ns.length ≤ 63 ∧ TabS H P0 nmF ∧ ∀ H', Q (.bl true) H'
theorem sc_law_all : FnScope ["script", "box", "p", "rows", "sets", "row", "passed", "family", "lifted", "other", "same", "more", "again"] ["script"] (defScope s_law_all) := ⟨rfl, rfl, rfl, by decide +kernel, rfl, by decide +kernel, by decide +kernel⟩
theorem ok_law_all (T : Txt K mg a) (TB : TabB base mg a.co_independent_rows a.tb_independent_rows) : FnOk P w K mg base CX0 12 a.a_law_all a.d_law_all ["script"] (spLawAll K a.tb_independent_rows) := by
  refine T.fn_law_all.ok sc_law_all (fun vs H Q E h => ?_) (fun cdv A outer s H vs Q E hr h => ?_)
  · obtain ⟨p, ns, rfl, _⟩ := h
    rfl
  · obtain ⟨p, ns, rfl, hs, hl, hT, k⟩ := h
    refine ⟨_, (pss_cons (ps_set (i := 1) sc_law_all.nd rfl (Or.inr rfl) (pe_call (ok_law_box T) (hr.mono (by decide)) (by rfl) T.mg_law_box T.fn_law_box.kp T.b_law_box .nil pass0 (pa_cons (pv 0) pa_nil)))
      (pss_cons (ps_set (i := 2) sc_law_all.nd rfl (Or.inl rfl) (pe_ix Rd.ixH (pe_lst (pa_cons pe_int (pa_cons pe_int (pa_cons pe_int (pa_cons pe_int pa_nil))))) (pe_call (ok_law_draw T) (hr.mono (by decide)) (by rfl) T.mg_law_draw T.fn_law_draw.kp T.b_law_draw .nil pass0 (pa_cons (pv 1) (pa_cons pe_int pa_nil))) (fun _ _ => rfl)))
      (pss_cons (ps_set (i := 3) sc_law_all.nd rfl (Or.inl rfl) (pe_call (ok_law_rows T) (hr.mono (by decide)) (by rfl) T.mg_law_rows T.fn_law_rows.kp T.b_law_rows .nil pass0 (pa_cons (pv 1) (pa_cons (pv 2) pa_nil))))
      (pss_cons (ps_set (i := 4) sc_law_all.nd rfl (Or.inl rfl) (pe_call (ok_law_ordered T) (hr.mono (by decide)) (by rfl) T.mg_law_ordered T.fn_law_ordered.kp T.b_law_ordered .nil pass0 (pa_cons (pe_call (ok_law_inside T) (hr.mono (by decide)) (by rfl) T.mg_law_inside T.fn_law_inside.kp T.b_law_inside .nil pass0 (pa_cons (pv 3) (pa_cons (pv 2) pa_nil))) pa_nil)))
      (pss_cons (ps_set (i := 6) sc_law_all.nd rfl (Or.inl rfl) (pe_call (ok_law_shape T) (hr.mono (by decide)) (by rfl) T.mg_law_shape T.fn_law_shape.kp T.b_law_shape .nil pass0 (pa_cons (pv 1) (pa_cons (pe_lc (own := [("row", 5)]) (by rfl) sc_law_all.nd (pi_list (pv 3)) (blkOk_by (own := [("row", 5)]) (N := ["script", "box", "p", "rows", "sets", "row", "passed", "family", "lifted", "other", "same", "more", "again"]) (sc := defScope s_law_all) (by decide +kernel)) (fun _ _ _ _ _ => pg_name (i := 5) sc_law_all.nd rfl (Or.inl rfl)) (fun _ _ _ _ _ => pts_nil) (fun _ _ _ _ _ => (pe_call (ok_law_shape T) (hr.mono (by decide)) (by rfl) T.mg_law_shape T.fn_law_shape.kp T.b_law_shape .nil pass0 (pa_cons (pv 1) (pa_cons (pv 5) pa_nil))))) pa_nil))))
      (pss_cons (ps_set (i := 7) sc_law_all.nd rfl (Or.inl rfl) (pe_call (ok_independent_rows T TB) (hr.mono (by decide)) (by rfl) T.mg_independent_rows T.fn_independent_rows.kp T.b_independent_rows .nil pass0 (pa_cons (pv 2) (pa_cons (pv 6) pa_nil))))
      (pss_cons (ps_if (PW.pt (pw_or (pt_not (pt_val (pe_call (ok_law_is T) (hr.mono (by decide)) (by rfl) T.mg_law_is T.fn_law_is.kp T.b_law_is .nil pass0 (pa_cons (pv 7) (pa_cons (pe_callB (lenK K) (by rfl) T.no_len PySem.boot_len (pa_cons (pv 3) pa_nil)) (pa_cons (pv 4) pa_nil)))))) (pw_or1 (pt_cmpR (neD_at K hr.units) (pe_lc (own := [("row", 5)]) (by rfl) sc_law_all.nd (pi_seq (pv 6)) (blkOk_by (own := [("row", 5)]) (N := ["script", "box", "p", "rows", "sets", "row", "passed", "family", "lifted", "other", "same", "more", "again"]) (sc := defScope s_law_all) (by decide +kernel)) (fun _ _ _ _ _ => pg_name (i := 5) sc_law_all.nd rfl (Or.inl rfl)) (fun _ _ _ _ _ => pts_nil) (fun _ _ _ _ _ => (pe_callTy (listK K) (by rfl) T.no_list (by decide +kernel) (pa_cons (pv 5) pa_nil)))) (pv 3) (nomark _))))) (pss_one (ps_ret pe_bl)) pss_nil)
      (pss_cons (ps_for PassesOwn.never rfl (pi_seq (pv 6)) (pg_name (i := 5) sc_law_all.nd rfl (Or.inl rfl))
        (pss_one (ps_if (pt_val (pe_callB (call_isB .lst) (by rfl) T.no_isinstance (by decide +kernel) (pa_cons (pv 5) (pa_cons (pe_bltn (v := .ty "list") (u := .type "list") (by rfl) T.no_list (by decide +kernel) rfl) pa_nil)))) (pss_one (ps_asg (pe_op op_add (pe_ix Rd.ixH (pv 5) pe_int (fun _ _ => rfl)) pe_int) (pg_sub (pv 5) pe_int set_list))) pss_nil)))
      (pss_cons (ps_if (pt_val (pe_callB (call_isB .lst) (by rfl) T.no_isinstance (by decide +kernel) (pa_cons (pv 6) (pa_cons (pe_bltn (v := .ty "list") (u := .type "list") (by rfl) T.no_list (by decide +kernel) rfl) pa_nil)))) (pss_one (ps_expr (pe_bm PySem.F.plainAttrs_list PySem.F.slot_list_append PySem.F.type_list_append mt_append (pv 6) (pa_cons (pe_ix Rd.ixH (pv 6) pe_int (fun _ _ => rfl)) pa_nil)))) pss_nil)
      (pss_cons (ps_set (i := 8) sc_law_all.nd rfl (Or.inl rfl) (pe_call (ok_law_lifted T) (hr.mono (by decide)) (by rfl) T.mg_law_lifted T.fn_law_lifted.kp T.b_law_lifted .nil pass0 (pa_cons (pv 1) (pa_cons (pv 3) (pa_cons (pv 2) pa_nil)))))
      (pss_cons (ps_set (i := 9) sc_law_all.nd rfl (Or.inl rfl) (pe_callN0 (ok_independent_rows T TB) (hr.mono (by decide)) (by rfl) T.mg_independent_rows T.fn_independent_rows.kp (kb_independent_rows T) pass0 (pk_cons (pe_callTy call_tuple_of (by rfl) T.no_tuple (by decide +kernel) (pa_cons (pv 8) pa_nil)) (pk_cons (pv 2) pk_nil))))
      (pss_cons (ps_if (PW.pt (pw_or (pt_not (pt_val (pe_call (ok_law_is T) (hr.mono (by decide)) (by rfl) T.mg_law_is T.fn_law_is.kp T.b_law_is .nil pass0 (pa_cons (pv 9) (pa_cons (pe_callB (lenK K) (by rfl) T.no_len PySem.boot_len (pa_cons (pv 3) pa_nil)) (pa_cons (pv 4) pa_nil)))))) (pw_or1 (pt_not (pt_val (pe_call (ok_law_is T) (hr.mono (by decide)) (by rfl) T.mg_law_is T.fn_law_is.kp T.b_law_is .nil pass0 (pa_cons (pv 7) (pa_cons (pe_callB (lenK K) (by rfl) T.no_len PySem.boot_len (pa_cons (pv 3) pa_nil)) (pa_cons (pv 4) pa_nil))))))))) (pss_one (ps_ret pe_bl)) pss_nil)
      (pss_cons (ps_set (i := 10) sc_law_all.nd rfl (Or.inl rfl) (pe_cmpR (op_eqOwn (ok_Family_eq T) (hr.mono (by decide)) T.mt_Family_eq.at_ T.mt_Family_eq.fn T.b_Family_eq pass0) (pv 7) (pv 9) (nomark _)))
      (pss_cons (ps_if (PW.pt (pw_or (pt_not (pt_val (pe_callB (call_isB .bl) (by rfl) T.no_isinstance (by decide +kernel) (pa_cons (pv 10) (pa_cons (pe_bltn (v := .ty "bool") (u := .type "bool") (by rfl) T.no_bool (by decide +kernel) rfl) pa_nil))))) (pw_or1 (pt_not (pt_val (pv 10)))))) (pss_one (ps_ret pe_bl)) pss_nil)
      (pss_cons (ps_set (i := 11) sc_law_all.nd rfl (Or.inl rfl) (pe_ix Rd.ixH (pe_lst (pa_cons pe_int (pa_cons pe_int (pa_cons pe_int (pa_cons pe_int pa_nil))))) (pe_call (ok_law_draw T) (hr.mono (by decide)) (by rfl) T.mg_law_draw T.fn_law_draw.kp T.b_law_draw .nil pass0 (pa_cons (pv 1) (pa_cons pe_int pa_nil))) (fun _ _ => rfl)))
      (pss_cons (ps_set (i := 12) sc_law_all.nd rfl (Or.inl rfl) (pe_call (ok_independent_rows T TB) (hr.mono (by decide)) (by rfl) T.mg_independent_rows T.fn_independent_rows.kp T.b_independent_rows .nil pass0 (pa_cons (pv 11) (pa_cons (pe_lc (own := [("row", 5)]) (by rfl) sc_law_all.nd (pi_list (pv 3)) (blkOk_by (own := [("row", 5)]) (N := ["script", "box", "p", "rows", "sets", "row", "passed", "family", "lifted", "other", "same", "more", "again"]) (sc := defScope s_law_all) (by decide +kernel)) (fun _ _ _ _ _ => pg_name (i := 5) sc_law_all.nd rfl (Or.inl rfl)) (fun _ _ _ _ _ => pts_nil) (fun _ _ _ _ _ => (pe_callTy (tupK K) (by rfl) T.no_tuple (by decide +kernel) (pa_cons (pv 5) pa_nil)))) pa_nil))))
      (pss_one (ps_ret (pe_call (ok_law_is T) (hr.mono (by decide)) (by rfl) T.mg_law_is T.fn_law_is.kp T.b_law_is .nil pass0 (pa_cons (pv 12) (pa_cons (pe_callB (lenK K) (by rfl) T.no_len PySem.boot_len (pa_cons (pv 3) pa_nil)) (pa_cons (pe_call (ok_law_ordered T) (hr.mono (by decide)) (by rfl) T.mg_law_ordered T.fn_law_ordered.kp T.b_law_ordered .nil pass0 (pa_cons (pe_call (ok_law_inside T) (hr.mono (by decide)) (by rfl) T.mg_law_inside T.fn_law_inside.kp T.b_law_inside .nil pass0 (pa_cons (pv 3) (pa_cons (pv 11) pa_nil))) pa_nil)) pa_nil)))))))))))))))))))))), ?_⟩
    show (_ : TS) _ [some (V.ref p), none, none, none, none, none, none, none, none, none, none, none, none] H
    have tb : ∀ {H H' : Hp} {b c : Addr}, BoxAt K H b c ns → TabS H a.tb_independent_rows nmF → But b H H' → TabS H' a.tb_independent_rows nmF := fun B t e => by
      obtain ⟨_, _, _, hb, _⟩ := B.ob
      exact tabS_but t e hb
    have prime : ∀ d : Nat, d < 4 → ∃ q : Int, PP q ∧ atI [V.int 2, V.int 3, V.int 5, V.int 7] (d : Nat) = some (V.int q) := fun d hd => by
      rcases (show d = 0 ∨ d = 1 ∨ d = 2 ∨ d = 3 by omega) with rfl | rfl | rfl | rfl
      · exact ⟨2, .inl rfl, rfl⟩
      · exact ⟨3, .inr (.inl rfl), rfl⟩
      · exact ⟨5, .inr (.inr (.inl rfl)), rfl⟩
      · exact ⟨7, .inr (.inr (.inr rfl)), rfl⟩
    refine cut (fun σ H' => ∃ b c, σ = [some (V.ref p), some (V.ref b), none, none, none, none, none, none, none, none, none, none, none] ∧ BoxAt K H' b c ns ∧ TabS H' a.tb_independent_rows nmF) (fun R hR => ?_) (fun σ H2 h => ?_)
    · walk_at "rd"
      exact ⟨p, ns, rfl, hs, hl, fun b c H1 B1 e1 b0 => hR _ _ ⟨b, c, rfl, B1, hT.ext e1⟩⟩
    obtain ⟨b, c, rfl, B2, T2⟩ := h
    refine cut (fun σ H' => ∃ pr, PP pr ∧ σ = [some (V.ref p), some (V.ref b), some (V.int pr), none, none, none, none, none, none, none, none, none, none] ∧ BoxAt K H' b c ns ∧ TabS H' a.tb_independent_rows nmF) (fun R hR => ?_) (fun σ H3 h => ?_)
    · walk_at "rd"
      refine ⟨by decide, fun l hl => ?_⟩
      have el := same_upd (o := .lst [V.int 2, V.int 3, V.int 5, V.int 7]) hl
      have lb := B2.ne_new hl
      refine drw (B2.same el) (by decide) (by decide) fun d H3 d4 B3 e3 => ?_
      obtain ⟨pr, pp, hpr⟩ := prime d (by omega)
      refine ⟨_, _, rfl, e3 _ _ lb upd_same, _, hpr, hR _ _ ⟨pr, pp, rfl, B3, tb (B2.same el) (T2.ext el) e3⟩⟩
    obtain ⟨pr, pp, rfl, B3, T3⟩ := h
    refine cut (fun σ H' => ∃ er ys, ∃ rows : List (List Int), ∃ n : Nat, σ = [some (V.ref p), some (V.ref b), some (V.int pr), some (V.ref er), none, none, none, none, none, none, none, none, none] ∧ BoxAt K H' b c ns ∧ TabS H' a.tb_independent_rows nmF ∧ H' er = some (.lst ys) ∧ er ≠ b ∧ RowsI H' ys rows ∧ 1 ≤ rows.length ∧ rows.length ≤ 6 ∧ 1 ≤ n ∧ n ≤ 6 ∧ ∀ q ∈ rows, q.length = n) (fun R hR => ?_) (fun σ H4 h => ?_)
    · walk_at "rd"
      exact ⟨b, c, ns, pr, rfl, pp, B3, fun er ys rows n H' B' e' er0 erb her rl h1 h6 n1 n6 rn => hR _ _ ⟨er, ys, rows, n, rfl, B', tb B3 T3 e', her, erb, rl, h1, h6, n1, n6, rn⟩⟩
    obtain ⟨er, ys, rows, n, rfl, B4, T4, her, erb, pr', E1, E6, n1, n6, rnn⟩ := h
    refine cut (fun σ H' => ∃ sr us, σ = [some (V.ref p), some (V.ref b), some (V.int pr), some (V.ref er), some (V.ref sr), none, none, none, none, none, none, none, none] ∧ Same H4 H' ∧ H' sr = some (.lst us) ∧ sr ≠ b ∧ Tups H' us (famL rows.length (SI pr rows))) (fun R hR => ?_) (fun σ H5 h => ?_)
    · walk_at "rd"
      refine ⟨er, pr, ys, rows, n, rfl, pp, her, pr', E1, E6, n6, rnn, fun o S H' o0 e' ho Sl Si => ?_⟩
      obtain rfl := SI_eq Sl Si
      exact ⟨o, rows.length, _, rfl, ho, SI_fam E1 E6, fun sr us H'' s0 e'' hs tu => hR _ _ ⟨sr, us, rfl, e'.trans e'', hs, (B4.same e').ne_new s0, tu⟩⟩
    obtain ⟨sr, us, rfl, e5, hsr, srb, tu⟩ := h
    have B5 := B4.same e5
    have T5 := T4.ext e5
    have her5 := e5 _ _ her
    have pr5 : RowsI H5 ys rows := pr'.keep fun q s h => e5 _ _ h
    have yl := pr'.len
    clear her pr' B4 T4 e5
    refine cut (fun σ H' => ∃ o5 q l xs, σ = [some (V.ref p), some (V.ref b), some (V.int pr), some (V.ref er), some (V.ref sr), o5, some (V.ref q), none, none, none, none, none, none] ∧ BoxAt K H' b c ns ∧ But b H5 H' ∧ H' q = some (sq l xs) ∧ (l = true → H5 q = none) ∧ RowsN H5 H' xs rows) (fun R hR => ?_) (fun σ H6 h => ?_)
    · walk_at "rd"
      refine ⟨⟨_, SqL.of her5⟩, Rd.lcl_list (xs := ys) (fun D i H' => H5 D = none ∧ D ≠ b ∧ BoxAt K H' b c ns ∧ But b H5 H' ∧ ∃ xs, H' D = some (.lst xs) ∧ RowsN H5 H' xs (rows.take i)) (fun D hD => ?_) (fun D i H' _ p => SqL.of (p.2.2.2.1 _ _ erb her5)) (fun D i x H6 hx ⟨D0, Db, B6, e6, xs, hD, rn⟩ => ?_) (fun D H6 _ ⟨D0, Db, B6, e6, xs, hD, rn⟩ => ?_)⟩
      · have Db := B5.ne_new hD
        have e := (But.refl b H5).updn (o := .lst []) hD
        exact ⟨hD, Db, B5.upd B5 Db e, e, [], upd_same, trivial⟩
      · have il : i < rows.length := by
          have := (List.getElem?_eq_some_iff.mp hx).1
          omega
        have he := List.getElem?_eq_getElem il
        obtain ⟨q, hq1, _, hr', hq2⟩ := pr5.at il
        obtain rfl := Option.some.inj (he.symm.trans hr')
        rw [hx] at hq1
        obtain rfl := Option.some.inj hq1
        have qb : q ≠ b := not_boxI (l := true) B5 hq2
        have l4 := rnn _ (List.getElem_mem il)
        walk_at "rd"
        refine ⟨b, c, q, ns, true, _, rfl, B6, qb, e6 _ _ qb hq2, by rw [zv_len]; omega, fun q' l' H7 B7 e7 qb' hq' qn' => ?_⟩
        have hD7 := e7 _ _ Db hD
        have rn7 := rn.keep fun z l s h => e7 _ _ (not_boxI B6 h) h
        have ez := (e6.trans e7).updn (o := .lst (xs ++ [V.ref q'])) D0
        refine ⟨_, hD7, small (by have := rn.len; rw [List.length_take] at this; omega), D0, Db, B5.upd B7 Db ez, ez, ?_⟩
        have q'D : q' ≠ D := fun z => by
          cases l' with
          | true =>
            have := qn' rfl
            rw [z, hD] at this
            cases this
          | false =>
            rw [z, hD7] at hq'
            cases hq'
        rw [List.take_add_one, he]
        exact RowsN.app (RowsN.upd hD7 rn7 fun _ h => h) ⟨⟨q', l', rfl, (upd_ne q'D).trans hq', fun h => e6.free qb' (qn' h)⟩, trivial⟩
      · rw [yl, List.take_length] at rn
        refine ⟨b, c, D, ns, true, xs, rfl, B6, Db, hD, by rw [rn.len]; exact E6, fun q l' H7 B7 e7 qb hq qn => hR _ _ ⟨_, q, l', xs, rfl, B7, e6.trans e7, hq, fun h => e6.free qb (qn h), rn.keep fun z l s h => e7 _ _ (not_boxI B6 h) h⟩⟩
    obtain ⟨o5', q, l, xs, rfl, B6, e6, hq, qn, rn⟩ := h
    have T6 := tb B5 T5 e6
    have k6 : Kb b H5 H6 := e6.kb
    have nt : ∀ (l : List V) (ps : Array Value), HO.lst l ≠ .tbl ps := fun _ _ z => by cases z
    have nq : ∀ (l : List V) (ps : Array Value), HO.tup l ≠ .tbl ps := fun _ _ z => by cases z
    obtain ⟨_, _, _, hb5, _⟩ := B5.ob
    have kbt : ∀ {H' : Hp} {q : Addr} {l : List V}, Kb b H5 H' → H5 q = some (.tup l) → H' q = some (.tup l) := fun e h => e _ _ (fun z => by rw [z, hb5] at h; cases h) h (nq _)
    have E5 : ∀ {H' : Hp}, Kb b H5 H' → H' er = some (.lst ys) ∧ H' sr = some (.lst us) ∧ RowsI H' ys rows ∧ Tups H' us (famL rows.length (SI pr rows)) := fun e =>
      ⟨e _ _ erb her5 (nt _), e _ _ srb hsr (nt _), pr5.keep fun q s h => e _ _ (not_boxI (l := true) B5 h) h (nt _), Tups.keep (fun q l h => kbt e h) tu⟩
    refine cut (fun σ H' => ∃ o5 f l xs, σ = [some (V.ref p), some (V.ref b), some (V.int pr), some (V.ref er), some (V.ref sr), o5, some (V.ref q), some (V.ref f), none, none, none, none, none] ∧ BoxAt K H' b c ns ∧ TabS H' a.tb_independent_rows nmF ∧ Kb b H5 H' ∧ H' q = some (sq l xs) ∧ (l = true → H5 q = none) ∧ RowsN H5 H' xs rows ∧ FamV a.C_Family H' f rows.length (SI pr rows)) (fun R hR => ?_) (fun σ H7 h => ?_)
    · walk_at "rd"
      exact use_ind pp E1 E6 rfl (fun _ _ _ => ⟨0, by omega⟩) hq rn.rows n6 rnn T6 fun g H7 e7 T7 F7 => hR _ _ ⟨_, g, l, xs, rfl, B6.extN e7, T7, k6.trans (kb_ext e7), e7 _ _ hq (sq_ntab), qn, rn.keep fun q l s h => e7 _ _ h sq_ntab, F7⟩
    clear T6 k6 hq qn rn B6 e6
    obtain ⟨o5', f, l, xs, rfl, B7, T7, k7, hq, qn, rn, F7⟩ := h
    refine cut (fun σ H' => ∃ o5, σ = [some (V.ref p), some (V.ref b), some (V.int pr), some (V.ref er), some (V.ref sr), o5, some (V.ref q), some (V.ref f), none, none, none, none, none] ∧ Same H7 H') (fun R hR => ?_) (fun σ H8 h => ?_)
    · walk_at "rd"
      obtain ⟨a1, a2, a3, a4⟩ := E5 k7
      refine ⟨ys, .inl (SqL.of a1), f, sr, rows.length, _, us, ?_, F7, a2, a4, fun H8 e8 => ⟨_, rfl, ?_⟩⟩
      · rw [yl]
      rw [if_neg (by decide)]
      have hq8 := e8 _ _ hq
      have rn8 := rn.keep fun _ _ _ h => e8 _ _ h
      have xl := rn8.len
      refine ⟨l, xs, hq8, lcl_goes goes_seq (fun D i H' => H8 D = none ∧ Same H8 H' ∧ ∃ zs, H' D = some (.lst zs) ∧ RowsI H' zs (rows.take i)) (fun D hD => ⟨hD, same_upd hD, [], upd_same, trivial⟩) (fun D i H' _ h => h.2.1 _ _ hq8) (fun D i x H9 H9' hi ⟨n9, e9, zs, a9, R9⟩ ⟨eq9, hx⟩ => ?_) (fun D H9 _ ⟨n9, e9, zs, a9, R9⟩ => ?_)⟩
      · subst eq9
        have il : i < rows.length := by omega
        obtain ⟨v, lv, hv, rw', hrw, av⟩ := rn8.rows.at il
        rw [hx] at hv
        obtain rfl := Option.some.inj hv
        have av := e9 _ _ av
        walk_at "rd"
        refine ⟨_, seqOr av, fun z hz => ?_⟩
        have ez := same_upd (o := .lst (zv rw')) hz
        have zD : z ≠ D := fun h => by rw [h, a9] at hz; cases hz
        have a10 := ez _ _ a9
        refine ⟨zs, a10, small (by have := R9.len; rw [List.length_take] at this; omega), n9, fun b o hb => (upd_ne (ne_of_none hb n9)).trans (ez _ _ (e9 _ _ hb)), ?_⟩
        rw [List.take_add_one, hrw]
        refine RowsI.app (RowsI.upd a10 (R9.keep fun q s h => ez _ _ h) fun _ h => h) ⟨⟨z, rfl, (upd_ne zD).trans ?_⟩, trivial⟩
        rw [upd_same]
      · rw [xl, List.take_length] at R9
        refine ⟨_, .lst (SqL.of a9) (dp_rows R9), _, .lst (SqL.of (e9 _ _ (e8 _ _ a1))) (dp_rows (a3.keep fun q s h => e9 _ _ (e8 _ _ h))), sh_rows rows, sh_rows rows, ?_⟩
        rw [eqv_rows, if_neg (by decide)]
        exact hR _ _ ⟨_, rfl, e8.trans e9⟩
    clear o5'
    obtain ⟨o5', rfl, e8⟩ := h
    have B8 := B7.same e8
    have T8 := T7.ext e8
    have k8 : Kb b H5 H8 := k7.trans (kb_same e8)
    have hq8 := e8 _ _ hq
    have F8 := F7.same e8
    have rm8 : RowsK H5 H8 xs := RowsN.k (rn.keep fun _ _ _ h => e8 _ _ h) fun e he => by rw [rnn e he]; exact n1
    have xl : xs.length ≤ 6 := by rw [rn.len]; exact E6
    have xn : 1 ≤ xs.length := by rw [rn.len]; exact E1
    have xno : ∀ s : List Int, xs ≠ zv s := fun s => rn.no E1
    clear B7 T7 k7 hq rn F7 e8
    refine cut (fun σ H' => ∃ o5, σ = [some (V.ref p), some (V.ref b), some (V.int pr), some (V.ref er), some (V.ref sr), o5, some (V.ref q), some (V.ref f), none, none, none, none, none] ∧ BoxAt K H' b c ns ∧ TabS H' a.tb_independent_rows nmF ∧ Kb b H5 H' ∧ H' q = some (sq l xs) ∧ FamV a.C_Family H' f rows.length (SI pr rows)) (fun R hR => ?_) (fun σ H9 h => ?_)
    · walk_at "rd"
      refine ⟨l, xs, hq8, loop_goes goes_seq (fun σ H' => ∃ o5, σ = [some (V.ref p), some (V.ref b), some (V.int pr), some (V.ref er), some (V.ref sr), o5, some (V.ref q), some (V.ref f), none, none, none, none, none] ∧ BoxAt K H' b c ns ∧ TabS H' a.tb_independent_rows nmF ∧ Kb b H5 H' ∧ H' q = some (sq l xs) ∧ FamV a.C_Family H' f rows.length (SI pr rows))
        (fun j σ H' => ∃ o5, σ = [some (V.ref p), some (V.ref b), some (V.int pr), some (V.ref er), some (V.ref sr), o5, some (V.ref q), some (V.ref f), none, none, none, none, none] ∧ BoxAt K H' b c ns ∧ TabS H' a.tb_independent_rows nmF ∧ Kb b H5 H' ∧ H' q = some (sq l xs) ∧ FamV a.C_Family H' f rows.length (SI pr rows) ∧ RowsK H5 H' xs)
        ⟨_, rfl, B8, T8, k8, hq8, F8, rm8⟩ (fun _ σ H' _ ⟨_, _, _, _, _, h, _⟩ => h) ?_ (fun σ H' ⟨o5, q1, q2, q3, q4, q5, q6, _⟩ => ⟨o5, q1, q2, q3, q4, q5, q6⟩) (fun σ H' h => hR _ _ h)⟩
      rintro bk hbk j x σ H9 H9' hj ⟨o5, rfl, B9, T9, k9, hq9, F9, rm9⟩ ⟨rfl, hx⟩
      obtain ⟨z, lz, s, rfl, hz, sl, zn⟩ := rm9 x (List.mem_of_getElem? hx)
      walk_at "rd"
      cases lz with
      | false =>
        refine ⟨.tup, .tup hz, ?_⟩
        rw [if_neg (by decide)]
        exact ⟨B9, T9, k9, hq9, F9, rm9⟩
      | true =>
        refine ⟨.lst, .lst hz, ?_⟩
        rw [if_pos rfl]
        have z0 := zn rfl
        have hz : H9' z = some (.lst (zv s)) := hz
        have zq : q ≠ z := fun e => by
          rw [e, hz] at hq9
          cases l with
          | true => exact xno s (HO.lst.inj (Option.some.inj hq9)).symm
          | false => cases hq9
        obtain ⟨y, s', rfl⟩ : ∃ y s', s = y :: s' := by
          cases s with
          | nil => exact absurd sl (by decide)
          | cons y s' => exact ⟨y, s', rfl⟩
        have ez := k9.updn (o := .lst (zv ((y + 1) :: s'))) z0
        have kz := Kp.upd (o := .lst (zv ((y + 1) :: s'))) hz
        have put : BoxAt K (L2.upd H9' z (.lst (zv ((y + 1) :: s')))) b c ns ∧ TabS (L2.upd H9' z (.lst (zv ((y + 1) :: s')))) a.tb_independent_rows nmF ∧ Kb b H5 (L2.upd H9' z (.lst (zv ((y + 1) :: s')))) ∧ L2.upd H9' z (.lst (zv ((y + 1) :: s'))) q = some (sq l xs) ∧ FamV a.C_Family (L2.upd H9' z (.lst (zv ((y + 1) :: s')))) f rows.length (SI pr rows) ∧ RowsK H5 (L2.upd H9' z (.lst (zv ((y + 1) :: s')))) xs := by
          refine ⟨box_updn B5 B9 z0 ez, tabS_kp T9 kz, ez, (upd_ne zq).trans hq9, F9.kp kz, fun u hu => ?_⟩
          obtain ⟨q', l', s2, rfl, h', n', m'⟩ := rm9 u hu
          by_cases eq : q' = z
          · subst eq
            exact ⟨_, true, (y + 1) :: s', rfl, upd_same, Nat.succ_le_succ (Nat.zero_le _), fun _ => z0⟩
          · exact ⟨_, l', s2, rfl, (upd_ne eq).trans h', n', m'⟩
        exact ⟨_, hz, _, atI_nat (j := 0) rfl, y, rfl, _, hz, 0, ixN_of (t := 0) (by rw [zv_len]; exact Nat.succ_pos _), put⟩
    clear B8 T8 k8 hq8 rm8 F8 o5'
    obtain ⟨o5', rfl, B9, T9, k9, hq9, F9⟩ := h
    refine cut (fun σ H' => σ = [some (V.ref p), some (V.ref b), some (V.int pr), some (V.ref er), some (V.ref sr), o5', some (V.ref q), some (V.ref f), none, none, none, none, none] ∧ BoxAt K H' b c ns ∧ TabS H' a.tb_independent_rows nmF ∧ Kb b H5 H' ∧ FamV a.C_Family H' f rows.length (SI pr rows)) (fun R hR => ?_) (fun σ H10 h => ?_)
    · walk_at "rd"
      cases l with
      | false =>
        refine ⟨.tup, .tup hq9, ?_⟩
        rw [if_neg (by decide)]
        exact hR _ _ ⟨rfl, B9, T9, k9, F9⟩
      | true =>
        refine ⟨.lst, .lst hq9, ?_⟩
        rw [if_pos rfl]
        have q0 := qn rfl
        have hq9 : H9 q = some (.lst xs) := hq9
        obtain ⟨x0, xr, rfl⟩ : ∃ x0 xr, xs = x0 :: xr := by
          cases xs with
          | nil => exact absurd xn (by decide)
          | cons x0 xr => exact ⟨x0, xr, rfl⟩
        unfold tBM
        walk_at "rd"
        have ez := k9.updn (o := .lst ((x0 :: xr) ++ [x0])) q0
        have kz := Kp.upd (o := .lst ((x0 :: xr) ++ [x0])) hq9
        exact ⟨.inl ⟨rfl, _, SqL.of hq9⟩, _, hq9, x0, atI_nat (j := 0) rfl, _, _, _, rfl, rfl, hq9, small (by omega), hR _ _ ⟨rfl, box_updn B5 B9 q0 ez, tabS_kp T9 kz, ez, F9.kp kz⟩⟩
    obtain ⟨rfl, BA, TA, kA, FA⟩ := h
    clear B9 T9 k9 hq9 F9 xno qn
    obtain ⟨herA, hsrA, prA, tuA⟩ := E5 kA
    refine cut (fun σ H' => ∃ va zs R, σ = [some (V.ref p), some (V.ref b), some (V.int pr), some (V.ref er), some (V.ref sr), o5', some (V.ref q), some (V.ref f), some (V.ref va), none, none, none, none] ∧ BoxAt K H' b c ns ∧ But b H10 H' ∧ H' va = some (.lst zs) ∧ RowsI H' zs R ∧ R.length = rows.length ∧ (∀ r ∈ R, r.length = n) ∧ Cong pr (rows.map vec) (R.map vec)) (fun R hR => ?_) (fun σ H11 h => ?_)
    · walk_at "rd"
      exact ⟨b, c, ns, er, pr, ys, rows, n, rfl, pp, BA, erb, herA, prA, E6, n6, rnn, fun va zs R H' B' e' va0 vb hva RR Rl Rn Rc => hR _ _ ⟨va, zs, R, rfl, B', e', hva, RR, Rl, Rn, Rc⟩⟩
    obtain ⟨va, zs, R, rfl, BB, eB, hva, RT, Rl, Rn, Rc⟩ := h
    have TB1 := tb BA TA eB
    have kB : Kb b H5 H11 := kA.trans eB.kb
    obtain ⟨_, _, _, hb10, _⟩ := BA.ob
    have FB := FA.kb eB.kb hb10
    refine cut (fun σ H' => ∃ ot, σ = [some (V.ref p), some (V.ref b), some (V.int pr), some (V.ref er), some (V.ref sr), o5', some (V.ref q), some (V.ref f), some (V.ref va), some (V.ref ot), none, none, none] ∧ BoxAt K H' b c ns ∧ TabS H' a.tb_independent_rows nmF ∧ Kb b H5 H' ∧ FamV a.C_Family H' f rows.length (SI pr rows) ∧ FamV a.C_Family H' ot rows.length (SI pr rows)) (fun R' hR' => ?_) (fun σ H12 h => ?_)
    · walk_at "rd"
      simp only [tCallN0]
      walk_at "rd"
      refine ⟨_, .inl ⟨SqL.of hva, fun u hu => ?_⟩⟩
      have eu := same_upd (o := .tup zs) hu
      refine use_ind (l := false) pp E1 E6 Rl (cong_get Rc) upd_same ((RT.same eu).z) n6 Rn (TB1.ext eu) fun g H' e' T' F' => ?_
      obtain ⟨_, _, _, hb11, _⟩ := (BB.same eu).ob
      exact hR' _ _ ⟨g, rfl, (BB.same eu).extN e', T', (kB.trans (kb_same eu)).trans (kb_ext e'), (FB.same eu).kb (kb_ext e') hb11, F'⟩
    obtain ⟨ot, rfl, BC, TC, kC, FC, FO⟩ := h
    refine cut (fun σ H' => σ = [some (V.ref p), some (V.ref b), some (V.int pr), some (V.ref er), some (V.ref sr), o5', some (V.ref q), some (V.ref f), some (V.ref va), some (V.ref ot), none, none, none] ∧ Same H12 H') (fun R' hR' => ?_) (fun σ H13 h => ?_)
    · walk_at "rd"
      obtain ⟨a1, a2, a3, a4⟩ := E5 kC
      refine ⟨ys, .inl (SqL.of a1), ot, sr, rows.length, _, us, by rw [yl], FO, a2, a4, fun H'' e'' => ⟨_, rfl, ?_⟩⟩
      rw [if_neg (by decide)]
      refine ⟨ys, .inl (SqL.of (e'' _ _ a1)), f, sr, rows.length, _, us, by rw [yl], FC.same e'', e'' _ _ a2, a4.same e'', fun H3 e3 => ⟨_, rfl, ?_⟩⟩
      rw [if_neg (by decide)]
      exact hR' _ _ ⟨rfl, e''.trans e3⟩
    obtain ⟨rfl, e13⟩ := h
    have FC3 := FC.same e13
    have FO3 := FO.same e13
    refine cut (fun σ H' => ∃ o10, σ = [some (V.ref p), some (V.ref b), some (V.int pr), some (V.ref er), some (V.ref sr), o5', some (V.ref q), some (V.ref f), some (V.ref va), some (V.ref ot), some o10, none, none] ∧ Same H13 H' ∧ o10 = V.bl true) (fun R' hR' => ?_) (fun σ H14 h => ?_)
    · walk_at "rd"
      obtain ⟨dx, t, zs', hf, _⟩ := FC3.ob
      obtain ⟨dy, t2, zs2, hg, _⟩ := FO3.ob
      refine ⟨f, dx, _, .ref a.C_Family, rfl, hf, .base (.ins hg T.cl_Family T.cg_Family T.cget T.ctk T.mr_Family), T.nf_Fam, f, ot, rows.length, _, rfl, FC3, FO3, fun H16 e16 => hR' _ _ ⟨_, rfl, e16, rfl⟩⟩
    obtain ⟨_, rfl, e14, rfl⟩ := h
    have B14 := (BC.same e13).same e14
    have T14 := (TC.ext e13).ext e14
    have k14 := (kC.trans (kb_same e13)).trans (kb_same e14)
    refine cut (fun σ H' => σ = [some (V.ref p), some (V.ref b), some (V.int pr), some (V.ref er), some (V.ref sr), o5', some (V.ref q), some (V.ref f), some (V.ref va), some (V.ref ot), some (V.bl true), none, none] ∧ H14 = H') (fun R' hR' => ?_) (fun σ H' h => ?_)
    · walk_at "rd"
      refine ⟨.bl, .bl _, ?_⟩
      rw [if_neg (by decide)]
      exact hR' _ _ ⟨rfl, rfl⟩
    obtain ⟨rfl, rfl⟩ := h
    refine cut (fun σ H' => ∃ pm, PP pm ∧ σ = [some (V.ref p), some (V.ref b), some (V.int pr), some (V.ref er), some (V.ref sr), o5', some (V.ref q), some (V.ref f), some (V.ref va), some (V.ref ot), some (V.bl true), some (V.int pm), none] ∧ BoxAt K H' b c ns ∧ TabS H' a.tb_independent_rows nmF ∧ Kb b H5 H') (fun R' hR' => ?_) (fun σ H15 h => ?_)
    · walk_at "rd"
      refine ⟨by decide, fun l hl => ?_⟩
      have el := same_upd (o := .lst [V.int 2, V.int 3, V.int 5, V.int 7]) hl
      have lb := B14.ne_new hl
      refine drw (B14.same el) (by decide) (by decide) fun d H3 d4 B3 e3 => ?_
      obtain ⟨pm, pq, hpr⟩ := prime d (by omega)
      exact ⟨_, _, rfl, e3 _ _ lb upd_same, _, hpr, hR' _ _ ⟨pm, pq, rfl, B3, tb (B14.same el) (T14.ext el) e3, (k14.trans (kb_same el)).trans e3.kb⟩⟩
    obtain ⟨pm, pq, rfl, BF, TF, kF⟩ := h
    obtain ⟨herF, hsrF, prF, tuF⟩ := E5 kF
    refine cut (fun σ H' => ∃ ag, σ = [some (V.ref p), some (V.ref b), some (V.int pr), some (V.ref er), some (V.ref sr), o5', some (V.ref q), some (V.ref f), some (V.ref va), some (V.ref ot), some (V.bl true), some (V.int pm), some (V.ref ag)] ∧ Kb b H5 H' ∧ FamV a.C_Family H' ag rows.length (SI pm rows)) (fun R' hR' => ?_) (fun σ H16 h => ?_)
    · walk_at "rd"
      refine ⟨⟨_, SqL.of herF⟩, Rd.lcl_list (xs := ys) (fun D i H' => H15 D = none ∧ Same H15 H' ∧ ∃ zs, H' D = some (.lst zs) ∧ RowsZ H' zs (rows.take i)) (fun D hD => ⟨hD, same_upd hD, [], upd_same, trivial⟩) (fun D i H' _ h => SqL.of (h.2.1 _ _ herF)) (fun D i x H6 hx ⟨D0, e6, zs, hD, rz⟩ => ?_) (fun D H6 _ ⟨D0, e6, zs, hD, rz⟩ => ?_)⟩
      · have il : i < rows.length := by
          have := (List.getElem?_eq_some_iff.mp hx).1
          omega
        obtain ⟨u, hu, r, hr', hau⟩ := prF.at il
        rw [hx] at hu
        obtain rfl := Option.some.inj hu
        walk_at "rd"
        refine ⟨_, .inl ⟨SqL.of (e6 _ _ hau), fun l hl => ?_⟩⟩
        have el := same_upd (o := .tup (zv r)) hl
        have lD : l ≠ D := fun z => by rw [z, hD] at hl; cases hl
        refine ⟨zs, el _ _ hD, small (by have := rz.len; rw [List.length_take] at this; omega), D0, fun b o hb => (upd_ne (ne_of_none hb D0)).trans (el _ _ (e6 _ _ hb)), ?_⟩
        rw [List.take_add_one, hr']
        exact RowsZ.app (RowsZ.upd (el _ _ hD) (rz.keep fun _ _ _ h => el _ _ h) fun _ h => h) ⟨⟨l, false, rfl, (upd_ne lD).trans upd_same⟩, trivial⟩
      · rw [yl, List.take_length] at rz
        exact use_ind (l := true) pq E1 E6 rfl (fun _ _ _ => ⟨0, by omega⟩) hD rz n6 rnn (TF.ext e6) fun g H' e' T' F' => hR' _ _ ⟨g, rfl, (kF.trans (kb_same e6)).trans (kb_ext e'), F'⟩
    obtain ⟨ag, rfl, kG, FG⟩ := h
    obtain ⟨a1, a2, a3, a4⟩ := E5 kG
    walk_at "rd"
    refine ⟨ys, .inl (SqL.of a1), er, pm, ys, rows, n, rfl, pq, a1, a3, E1, E6, n6, rnn, fun o S H' o0 e' ho Sl Si => ?_⟩
    obtain rfl := SI_eq Sl Si
    exact ⟨o, rows.length, _, rfl, ho, SI_fam E1 E6, fun sr' us' H'' s0 e'' hs tu => ⟨ag, sr', rows.length, _, us', by rw [yl], (FG.same e').same e'', hs, tu, fun H3 _ => k H3⟩⟩
end

end K23
namespace K23
open PySem PySem.Spec PyProof.Rows L2 Own OwnSeq OwnSet OwnComb OwnSort OwnHot OwnExN OwnProj
local macro_rules | `(tactic| walk_at "rd") => `(tactic| simp only [tSeq, tAsg, tOp, tUn, tVar, gName, gSub, rIxL, rIxT, rSetL, tC, rI0, rI, rU, rEq, rNe, tCons, tNil, tCB, tLst, tTup, tIfS, tAnd, tOr, tNot, tAndV, tOrV, tNotV, tTest, tB, tIf, tRet, tDrop, tNext, tBreak, tCont, tCall, tCallS, L2.WE, tMakeS, rIsS, rIsB, tChain, gSeq, gRest, gCons, gNil, tFor_seq, tFor_enumS, tLc_seq, tLc_enumS, rAny, rAll, L2.tMeth, StX.tStar, rIn, tLstRg, tRg1, tRg2, rSetI, rSortedSet, rInDT, rInD, rNotInD, rEqD, rNeD, iComb, tFld, tMake, tMkO, sFld, tOst, tNever, tBits, clv, isB,
  Rd.tFor_rng1, Rd.tFor_rng2, Rd.tFor_list, Rd.tFor_tup, Rd.tLc_list, Rd.tLc_tup, Rd.tLc_rng1, Rd.LcTurn, tYes, wipe, Rd.rLenL, Rd.rLenT, Rd.rIntI, Rd.rIxH, rIxHT,  HO.tup.injEq, Rd.at0, Rd.at1, Rd.at2, Rd.at3, Rd.ixN40, Rd.ixN41, Rd.ixN42, Rd.ixN43, Rd.scal_ii, cxOf,
  List.length_cons, List.length_nil, List.length_map, List.map_cons, List.map_nil, upd_same, decide_eq_true_eq, decide_true, decide_false, if_true, if_false, Bool.false_eq_true, Bool.not_true, Bool.not_false, HO.lst.injEq, HO.ins.injEq, List.set_cons_zero, List.set_cons_succ, List.getElem?_cons_zero, List.getElem?_cons_succ, List.append_nil, List.nil_append, List.cons_append, Option.some.injEq, V.ref.injEq, V.int.injEq, V.bl.injEq, List.cons.injEq, exists_eq_left', exists_and_left, exists_eq_left, true_and, and_true, and_self, and_assoc, implies_true, reduceCtorEq, Nat.reduceAdd])

section
variable {P : Program} {w : World} {K : PySem.W.Frag} {mg : Str → Option Value} {base : Heap} {a : Ad}
/-! ### law -/
def spLaw (K : PySem.W.Frag) (P0 : Addr) : Sp := fun vs H Q _ => ∃ (a : Addr) (ns : List Int), vs = [.ref a] ∧ SqL K H a (ns.map V.int) ∧ ns.length ≤ 63 ∧ LamX.TabS H P0 nmF ∧ ∀ H', Q (.bl true) H'
theorem sc_law : FnScope ["script"] ["script"] (defScope s_law) := ⟨rfl, rfl, rfl, by decide +kernel, rfl, by decide +kernel, by decide +kernel⟩
theorem ok_law (T : Txt K mg a) (TB : LamX.TabB base mg a.co_independent_rows a.tb_independent_rows) : FnOk P w K mg base CX0 13 a.a_law a.d_law ["script"] (spLaw K a.tb_independent_rows) := by
  refine T.fn_law.ok sc_law (fun vs H Q E h => ?_) (fun cdv A outer s H vs Q E hr h => ?_)
  · obtain ⟨p, ns, rfl, _⟩ := h
    rfl
  · obtain ⟨p0, ns, rfl, hs, hl, ht, k⟩ := h
    refine ⟨_, (pss_one (ps_try_thru0 (pss_one (ps_ret (pe_call (ok_law_all T TB) (hr.mono (by decide)) (by rfl) T.mg_law_all T.fn_law_all.kp T.b_law_all .nil pass0 (pa_cons (pv 0) pa_nil)))))), ?_⟩
    show (_ : TS) _ [some (V.ref p0)] H
    walk_at "rd"
    exact ⟨p0, ns, rfl, hs, hl, ht, k⟩
end

end K23
namespace K23
open PySem PySem.Spec PyProof.Rows L2
theorem kit_self {K : PySem.W.Frag} {C : Addr} : PySem.W.kitOne K (.ref C) (.ref C) = some true := by
  unfold PySem.W.kitOne
  rw [if_pos (beq_self_eq_true _)]
theorem kit_own {K : PySem.W.Frag} {C : Addr} {t : String} {b : Bool} (h1 : PySem.W.isClsIn K C = true) (h2 : PySem.W.typeIn K (.ref C) = some (.type "type")) (h3 : PySem.W.subIn K (.type t) (.ref C) = some b) : PySem.W.kitOne K (.type t) (.ref C) = some b := by
  have e : (PySem.W.clsIn K C).isSome = true := h1
  unfold PySem.W.kitOne PySem.W.kitCls
  rw [if_neg (fun q => by cases beq_iff_eq.mp q)]
  simp only [e, h2, h3]
  rfl
theorem kit_bi {K : PySem.W.Frag} {C : Addr} {t : String} {b : Bool} (h : PySem.W.subIn K (.ref C) (.type t) = some b) (h1 : PySem.W.kitMeta t = true) : PySem.W.kitOne K (.ref C) (.type t) = some b := by
  unfold PySem.W.kitOne PySem.W.kitCls
  rw [if_neg (fun q => by cases beq_iff_eq.mp q)]
  simp only [h1, if_true, h]
theorem exm_of {K : PySem.W.Frag} {E S : Addr} {b : Bool} (h1 : PySem.W.subIn K (.ref S) (.type "BaseException") = some true) (h2 : PySem.W.isClsIn K S = true) (h3 : PySem.W.typeIn K (.ref S) = some (.type "type")) (h4 : PySem.W.subIn K (.ref E) (.ref S) = some b) :
    PySem.W.exmOne K (.ref E) (.ref S) = some b := by
  have e : (PySem.W.clsIn K S).isSome = true := h2
  unfold PySem.W.exmOne PySem.W.kitCls
  simp only [h1, e, h3, h4]
  rfl
theorem exm_self {K : PySem.W.Frag} {S : Addr} (h1 : PySem.W.subIn K (.ref S) (.type "BaseException") = some true) (h2 : PySem.W.isClsIn K S = true) (h3 : PySem.W.typeIn K (.ref S) = some (.type "type")) (h4 : PySem.W.subIn K (.ref S) (.ref S) = some true) :
    PySem.W.exmOne K (.ref S) (.ref S) = some true := by
  have e : (PySem.W.clsIn K S).isSome = true := h2
  unfold PySem.W.exmOne PySem.W.kitCls
  simp only [h1, e, h3, h4]
  rfl
theorem txt_mk {K : PySem.W.Frag} {h : Heap} {mg : Str → Option Value} {C_Family a_parts_of a_all_sets a_is_part a_rest_of a_smaller_by_one a_is_whole a_is_within a_is_ascending a_clean_sets a_closed_sets a_Family_init a_Family_eq a_family_of a_independent_rows a_is_independent a_first_above_0 a_law_box a_law_draw a_law_things a_law_shape a_law_long a_law_rows a_law_lifted a_law_inverse a_law_reduced a_law_inside a_law_ordered a_law_integer a_law_is a_law_all a_law co_independent_rows tb_independent_rows : Addr} (X : K.In h) (G : h.Ns mainGlobals mg)
    {od_parts_of an_parts_of od_all_sets an_all_sets od_is_part an_is_part od_rest_of an_rest_of od_smaller_by_one an_smaller_by_one od_is_whole an_is_whole od_is_within an_is_within od_is_ascending an_is_ascending od_clean_sets an_clean_sets od_closed_sets an_closed_sets od_Family_init an_Family_init od_Family_eq an_Family_eq od_family_of an_family_of od_independent_rows an_independent_rows od_is_independent an_is_independent od_first_above_0 an_first_above_0 od_law_box an_law_box od_law_draw an_law_draw od_law_things an_law_things od_law_shape an_law_shape od_law_long an_law_long od_law_rows an_law_rows od_law_lifted an_law_lifted od_law_inverse an_law_inverse od_law_reduced an_law_reduced od_law_inside an_law_inside od_law_ordered an_law_ordered od_law_integer an_law_integer od_law_is an_law_is od_law_all an_law_all od_law an_law : Option Addr} {sl_parts_of sl_all_sets sl_is_part sl_rest_of sl_smaller_by_one sl_is_whole sl_is_within sl_is_ascending sl_clean_sets sl_closed_sets sl_Family_init sl_Family_eq sl_family_of sl_independent_rows sl_is_independent sl_first_above_0 sl_law_box sl_law_draw sl_law_things sl_law_shape sl_law_long sl_law_rows sl_law_lifted sl_law_inverse sl_law_reduced sl_law_inside sl_law_ordered sl_law_integer sl_law_is sl_law_all sl_law : Array (Option Value)} {oc_parts_of kV_parts_of dc_parts_of pm_parts_of cd_parts_of ct_parts_of oc_all_sets kV_all_sets dc_all_sets pm_all_sets cd_all_sets ct_all_sets oc_is_part kV_is_part dc_is_part pm_is_part cd_is_part ct_is_part oc_rest_of kV_rest_of dc_rest_of pm_rest_of cd_rest_of ct_rest_of oc_smaller_by_one kV_smaller_by_one dc_smaller_by_one pm_smaller_by_one cd_smaller_by_one ct_smaller_by_one oc_is_whole kV_is_whole dc_is_whole pm_is_whole cd_is_whole ct_is_whole oc_is_within kV_is_within dc_is_within pm_is_within cd_is_within ct_is_within oc_is_ascending kV_is_ascending dc_is_ascending pm_is_ascending cd_is_ascending ct_is_ascending oc_clean_sets kV_clean_sets dc_clean_sets pm_clean_sets cd_clean_sets ct_clean_sets oc_closed_sets kV_closed_sets dc_closed_sets pm_closed_sets cd_closed_sets ct_closed_sets oc_Family_init kV_Family_init dc_Family_init pm_Family_init cd_Family_init ct_Family_init oc_Family_eq kV_Family_eq dc_Family_eq pm_Family_eq cd_Family_eq ct_Family_eq oc_family_of kV_family_of dc_family_of pm_family_of cd_family_of ct_family_of oc_independent_rows kV_independent_rows dc_independent_rows pm_independent_rows ct_independent_rows oc_is_independent kV_is_independent dc_is_independent pm_is_independent cd_is_independent ct_is_independent oc_first_above_0 kV_first_above_0 dc_first_above_0 pm_first_above_0 cd_first_above_0 ct_first_above_0 oc_law_box kV_law_box dc_law_box pm_law_box cd_law_box ct_law_box oc_law_draw kV_law_draw dc_law_draw pm_law_draw cd_law_draw ct_law_draw oc_law_things kV_law_things dc_law_things pm_law_things cd_law_things ct_law_things oc_law_shape kV_law_shape dc_law_shape pm_law_shape cd_law_shape ct_law_shape oc_law_long kV_law_long dc_law_long pm_law_long cd_law_long ct_law_long oc_law_rows kV_law_rows dc_law_rows pm_law_rows cd_law_rows ct_law_rows oc_law_lifted kV_law_lifted dc_law_lifted pm_law_lifted cd_law_lifted ct_law_lifted oc_law_inverse kV_law_inverse dc_law_inverse pm_law_inverse cd_law_inverse ct_law_inverse oc_law_reduced kV_law_reduced dc_law_reduced pm_law_reduced cd_law_reduced ct_law_reduced oc_law_inside kV_law_inside dc_law_inside pm_law_inside cd_law_inside ct_law_inside oc_law_ordered kV_law_ordered dc_law_ordered pm_law_ordered cd_law_ordered ct_law_ordered oc_law_integer kV_law_integer dc_law_integer pm_law_integer cd_law_integer ct_law_integer oc_law_is kV_law_is dc_law_is pm_law_is cd_law_is ct_law_is oc_law_all kV_law_all dc_law_all pm_law_all cd_law_all ct_law_all oc_law kV_law dc_law pm_law cd_law ct_law : Value}
    {ce_independent_rows : Value} {cdd_independent_rows : Option Addr} {cv_independent_rows : Array Value} {csl_independent_rows : Array (Option Value)}
    {t_MOST_THINGS : Tok}
    (hC_Family : PySem.W.nsIn K mainGlobals "Family" = some (some (.ref C_Family)))
    (pg_Family : PySem.W.plainGet K C_Family Str.empty = true)
    (hd_Family : PySem.W.hasDictIn K C_Family = true)
    (po_Family : PySem.W.plainOver K C_Family = true)
    (sa_Family : PySem.W.findIn K (.ref C_Family) "__setattr__" = some (some (.builtin "object.__setattr__")))
    (mk_Family : PySem.W.makesIn K C_Family = true)
    (kc_Family : PySem.W.keepIn K (.ref C_Family) = true)
    (na_Family_sets : PySem.W.findIn K (.ref C_Family) "sets" = some none)
    (na_Family_size : PySem.W.findIn K (.ref C_Family) "size" = some none)
    (cg_Family : PySem.W.findIn K (.ref C_Family) "__class__" = some (some (.builtin "object.__class__")))
    (mr_Family : PySem.W.mroIn K C_Family (.type "object") = some true)
    (cget : PySem.W.specialIn K (.builtin "object.__class__") "__get__" = some (some (.builtin "getset_descriptor.__get__")))
    (ctk : PySem.W.takesIn K (.builtin "object.__class__") = some true)
    (n_parts_of : PySem.W.nsIn K mainGlobals "parts_of" = some (some (.ref a_parts_of)))
    (l_parts_of : K.lookup a_parts_of = some ⟨oc_parts_of, od_parts_of, .func (PySem.W.fnOf "parts_of" "parts_of" (defArgs s_parts_of) (defBody s_parts_of) (defScope s_parts_of) .none kV_parts_of dc_parts_of pm_parts_of an_parts_of cd_parts_of ct_parts_of), sl_parts_of⟩)
    (c_parts_of : PySem.W.codeIn K cd_parts_of "parts_of" = true)
    (k_parts_of : PySem.W.keepIn K (.ref a_parts_of) = true)
    (n_all_sets : PySem.W.nsIn K mainGlobals "all_sets" = some (some (.ref a_all_sets)))
    (l_all_sets : K.lookup a_all_sets = some ⟨oc_all_sets, od_all_sets, .func (PySem.W.fnOf "all_sets" "all_sets" (defArgs s_all_sets) (defBody s_all_sets) (defScope s_all_sets) .none kV_all_sets dc_all_sets pm_all_sets an_all_sets cd_all_sets ct_all_sets), sl_all_sets⟩)
    (c_all_sets : PySem.W.codeIn K cd_all_sets "all_sets" = true)
    (k_all_sets : PySem.W.keepIn K (.ref a_all_sets) = true)
    (n_is_part : PySem.W.nsIn K mainGlobals "is_part" = some (some (.ref a_is_part)))
    (l_is_part : K.lookup a_is_part = some ⟨oc_is_part, od_is_part, .func (PySem.W.fnOf "is_part" "is_part" (defArgs s_is_part) (defBody s_is_part) (defScope s_is_part) .none kV_is_part dc_is_part pm_is_part an_is_part cd_is_part ct_is_part), sl_is_part⟩)
    (c_is_part : PySem.W.codeIn K cd_is_part "is_part" = true)
    (k_is_part : PySem.W.keepIn K (.ref a_is_part) = true)
    (n_rest_of : PySem.W.nsIn K mainGlobals "rest_of" = some (some (.ref a_rest_of)))
    (l_rest_of : K.lookup a_rest_of = some ⟨oc_rest_of, od_rest_of, .func (PySem.W.fnOf "rest_of" "rest_of" (defArgs s_rest_of) (defBody s_rest_of) (defScope s_rest_of) .none kV_rest_of dc_rest_of pm_rest_of an_rest_of cd_rest_of ct_rest_of), sl_rest_of⟩)
    (c_rest_of : PySem.W.codeIn K cd_rest_of "rest_of" = true)
    (k_rest_of : PySem.W.keepIn K (.ref a_rest_of) = true)
    (n_smaller_by_one : PySem.W.nsIn K mainGlobals "smaller_by_one" = some (some (.ref a_smaller_by_one)))
    (l_smaller_by_one : K.lookup a_smaller_by_one = some ⟨oc_smaller_by_one, od_smaller_by_one, .func (PySem.W.fnOf "smaller_by_one" "smaller_by_one" (defArgs s_smaller_by_one) (defBody s_smaller_by_one) (defScope s_smaller_by_one) .none kV_smaller_by_one dc_smaller_by_one pm_smaller_by_one an_smaller_by_one cd_smaller_by_one ct_smaller_by_one), sl_smaller_by_one⟩)
    (c_smaller_by_one : PySem.W.codeIn K cd_smaller_by_one "smaller_by_one" = true)
    (k_smaller_by_one : PySem.W.keepIn K (.ref a_smaller_by_one) = true)
    (n_is_whole : PySem.W.nsIn K mainGlobals "is_whole" = some (some (.ref a_is_whole)))
    (l_is_whole : K.lookup a_is_whole = some ⟨oc_is_whole, od_is_whole, .func (PySem.W.fnOf "is_whole" "is_whole" (defArgs s_is_whole) (defBody s_is_whole) (defScope s_is_whole) .none kV_is_whole dc_is_whole pm_is_whole an_is_whole cd_is_whole ct_is_whole), sl_is_whole⟩)
    (c_is_whole : PySem.W.codeIn K cd_is_whole "is_whole" = true)
    (k_is_whole : PySem.W.keepIn K (.ref a_is_whole) = true)
    (n_is_within : PySem.W.nsIn K mainGlobals "is_within" = some (some (.ref a_is_within)))
    (l_is_within : K.lookup a_is_within = some ⟨oc_is_within, od_is_within, .func (PySem.W.fnOf "is_within" "is_within" (defArgs s_is_within) (defBody s_is_within) (defScope s_is_within) .none kV_is_within dc_is_within pm_is_within an_is_within cd_is_within ct_is_within), sl_is_within⟩)
    (c_is_within : PySem.W.codeIn K cd_is_within "is_within" = true)
    (k_is_within : PySem.W.keepIn K (.ref a_is_within) = true)
    (n_is_ascending : PySem.W.nsIn K mainGlobals "is_ascending" = some (some (.ref a_is_ascending)))
    (l_is_ascending : K.lookup a_is_ascending = some ⟨oc_is_ascending, od_is_ascending, .func (PySem.W.fnOf "is_ascending" "is_ascending" (defArgs s_is_ascending) (defBody s_is_ascending) (defScope s_is_ascending) .none kV_is_ascending dc_is_ascending pm_is_ascending an_is_ascending cd_is_ascending ct_is_ascending), sl_is_ascending⟩)
    (c_is_ascending : PySem.W.codeIn K cd_is_ascending "is_ascending" = true)
    (k_is_ascending : PySem.W.keepIn K (.ref a_is_ascending) = true)
    (n_clean_sets : PySem.W.nsIn K mainGlobals "clean_sets" = some (some (.ref a_clean_sets)))
    (l_clean_sets : K.lookup a_clean_sets = some ⟨oc_clean_sets, od_clean_sets, .func (PySem.W.fnOf "clean_sets" "clean_sets" (defArgs s_clean_sets) (defBody s_clean_sets) (defScope s_clean_sets) .none kV_clean_sets dc_clean_sets pm_clean_sets an_clean_sets cd_clean_sets ct_clean_sets), sl_clean_sets⟩)
    (c_clean_sets : PySem.W.codeIn K cd_clean_sets "clean_sets" = true)
    (k_clean_sets : PySem.W.keepIn K (.ref a_clean_sets) = true)
    (n_closed_sets : PySem.W.nsIn K mainGlobals "closed_sets" = some (some (.ref a_closed_sets)))
    (l_closed_sets : K.lookup a_closed_sets = some ⟨oc_closed_sets, od_closed_sets, .func (PySem.W.fnOf "closed_sets" "closed_sets" (defArgs s_closed_sets) (defBody s_closed_sets) (defScope s_closed_sets) .none kV_closed_sets dc_closed_sets pm_closed_sets an_closed_sets cd_closed_sets ct_closed_sets), sl_closed_sets⟩)
    (c_closed_sets : PySem.W.codeIn K cd_closed_sets "closed_sets" = true)
    (k_closed_sets : PySem.W.keepIn K (.ref a_closed_sets) = true)
    (f_Family_init : PySem.W.findIn K (.ref C_Family) "__init__" = some (some (.ref a_Family_init)))
    (i_Family_init : PySem.W.isFn K (.ref a_Family_init) = true)
    (l_Family_init : K.lookup a_Family_init = some ⟨oc_Family_init, od_Family_init, .func (PySem.W.fnOf "__init__" "Family.__init__" (defArgs s_Family_init) (defBody s_Family_init) (defScope s_Family_init) .none kV_Family_init dc_Family_init pm_Family_init an_Family_init cd_Family_init ct_Family_init), sl_Family_init⟩)
    (c_Family_init : PySem.W.codeIn K cd_Family_init "Family.__init__" = true)
    (k_Family_init : PySem.W.keepIn K (.ref a_Family_init) = true)
    (f_Family_eq : PySem.W.findIn K (.ref C_Family) "__eq__" = some (some (.ref a_Family_eq)))
    (i_Family_eq : PySem.W.isFn K (.ref a_Family_eq) = true)
    (l_Family_eq : K.lookup a_Family_eq = some ⟨oc_Family_eq, od_Family_eq, .func (PySem.W.fnOf "__eq__" "Family.__eq__" (defArgs s_Family_eq) (defBody s_Family_eq) (defScope s_Family_eq) .none kV_Family_eq dc_Family_eq pm_Family_eq an_Family_eq cd_Family_eq ct_Family_eq), sl_Family_eq⟩)
    (c_Family_eq : PySem.W.codeIn K cd_Family_eq "Family.__eq__" = true)
    (k_Family_eq : PySem.W.keepIn K (.ref a_Family_eq) = true)
    (n_family_of : PySem.W.nsIn K mainGlobals "family_of" = some (some (.ref a_family_of)))
    (l_family_of : K.lookup a_family_of = some ⟨oc_family_of, od_family_of, .func (PySem.W.fnOf "family_of" "family_of" (defArgs s_family_of) (defBody s_family_of) (defScope s_family_of) .none kV_family_of dc_family_of pm_family_of an_family_of cd_family_of ct_family_of), sl_family_of⟩)
    (c_family_of : PySem.W.codeIn K cd_family_of "family_of" = true)
    (k_family_of : PySem.W.keepIn K (.ref a_family_of) = true)
    (n_independent_rows : PySem.W.nsIn K mainGlobals "independent_rows" = some (some (.ref a_independent_rows)))
    (l_independent_rows : K.lookup a_independent_rows = some ⟨oc_independent_rows, od_independent_rows, .func (PySem.W.fnOf "independent_rows" "independent_rows" (defArgs s_independent_rows) (defBody s_independent_rows) (defScope s_independent_rows) .none kV_independent_rows dc_independent_rows pm_independent_rows an_independent_rows (.ref co_independent_rows) ct_independent_rows), sl_independent_rows⟩)
    (c_independent_rows : PySem.W.codeIn K (.ref co_independent_rows) "independent_rows" = true)
    (k_independent_rows : PySem.W.keepIn K (.ref a_independent_rows) = true)
    (n_is_independent : PySem.W.nsIn K mainGlobals "is_independent" = some (some (.ref a_is_independent)))
    (l_is_independent : K.lookup a_is_independent = some ⟨oc_is_independent, od_is_independent, .func (PySem.W.fnOf "is_independent" "is_independent" (defArgs s_is_independent) (defBody s_is_independent) (defScope s_is_independent) .none kV_is_independent dc_is_independent pm_is_independent an_is_independent cd_is_independent ct_is_independent), sl_is_independent⟩)
    (c_is_independent : PySem.W.codeIn K cd_is_independent "is_independent" = true)
    (k_is_independent : PySem.W.keepIn K (.ref a_is_independent) = true)
    (n_first_above_0 : PySem.W.nsIn K mainGlobals "first_above_0" = some (some (.ref a_first_above_0)))
    (l_first_above_0 : K.lookup a_first_above_0 = some ⟨oc_first_above_0, od_first_above_0, .func (PySem.W.fnOf "first_above_0" "first_above_0" (defArgs s_first_above_0) (defBody s_first_above_0) (defScope s_first_above_0) .none kV_first_above_0 dc_first_above_0 pm_first_above_0 an_first_above_0 cd_first_above_0 ct_first_above_0), sl_first_above_0⟩)
    (c_first_above_0 : PySem.W.codeIn K cd_first_above_0 "first_above_0" = true)
    (k_first_above_0 : PySem.W.keepIn K (.ref a_first_above_0) = true)
    (n_law_box : PySem.W.nsIn K mainGlobals "_law_box" = some (some (.ref a_law_box)))
    (l_law_box : K.lookup a_law_box = some ⟨oc_law_box, od_law_box, .func (PySem.W.fnOf "_law_box" "_law_box" (defArgs s_law_box) (defBody s_law_box) (defScope s_law_box) .none kV_law_box dc_law_box pm_law_box an_law_box cd_law_box ct_law_box), sl_law_box⟩)
    (c_law_box : PySem.W.codeIn K cd_law_box "_law_box" = true)
    (k_law_box : PySem.W.keepIn K (.ref a_law_box) = true)
    (n_law_draw : PySem.W.nsIn K mainGlobals "_law_draw" = some (some (.ref a_law_draw)))
    (l_law_draw : K.lookup a_law_draw = some ⟨oc_law_draw, od_law_draw, .func (PySem.W.fnOf "_law_draw" "_law_draw" (defArgs s_law_draw) (defBody s_law_draw) (defScope s_law_draw) .none kV_law_draw dc_law_draw pm_law_draw an_law_draw cd_law_draw ct_law_draw), sl_law_draw⟩)
    (c_law_draw : PySem.W.codeIn K cd_law_draw "_law_draw" = true)
    (k_law_draw : PySem.W.keepIn K (.ref a_law_draw) = true)
    (n_law_things : PySem.W.nsIn K mainGlobals "_law_things" = some (some (.ref a_law_things)))
    (l_law_things : K.lookup a_law_things = some ⟨oc_law_things, od_law_things, .func (PySem.W.fnOf "_law_things" "_law_things" (defArgs s_law_things) (defBody s_law_things) (defScope s_law_things) .none kV_law_things dc_law_things pm_law_things an_law_things cd_law_things ct_law_things), sl_law_things⟩)
    (c_law_things : PySem.W.codeIn K cd_law_things "_law_things" = true)
    (k_law_things : PySem.W.keepIn K (.ref a_law_things) = true)
    (n_law_shape : PySem.W.nsIn K mainGlobals "_law_shape" = some (some (.ref a_law_shape)))
    (l_law_shape : K.lookup a_law_shape = some ⟨oc_law_shape, od_law_shape, .func (PySem.W.fnOf "_law_shape" "_law_shape" (defArgs s_law_shape) (defBody s_law_shape) (defScope s_law_shape) .none kV_law_shape dc_law_shape pm_law_shape an_law_shape cd_law_shape ct_law_shape), sl_law_shape⟩)
    (c_law_shape : PySem.W.codeIn K cd_law_shape "_law_shape" = true)
    (k_law_shape : PySem.W.keepIn K (.ref a_law_shape) = true)
    (n_law_long : PySem.W.nsIn K mainGlobals "_law_long" = some (some (.ref a_law_long)))
    (l_law_long : K.lookup a_law_long = some ⟨oc_law_long, od_law_long, .func (PySem.W.fnOf "_law_long" "_law_long" (defArgs s_law_long) (defBody s_law_long) (defScope s_law_long) .none kV_law_long dc_law_long pm_law_long an_law_long cd_law_long ct_law_long), sl_law_long⟩)
    (c_law_long : PySem.W.codeIn K cd_law_long "_law_long" = true)
    (k_law_long : PySem.W.keepIn K (.ref a_law_long) = true)
    (n_law_rows : PySem.W.nsIn K mainGlobals "_law_rows" = some (some (.ref a_law_rows)))
    (l_law_rows : K.lookup a_law_rows = some ⟨oc_law_rows, od_law_rows, .func (PySem.W.fnOf "_law_rows" "_law_rows" (defArgs s_law_rows) (defBody s_law_rows) (defScope s_law_rows) .none kV_law_rows dc_law_rows pm_law_rows an_law_rows cd_law_rows ct_law_rows), sl_law_rows⟩)
    (c_law_rows : PySem.W.codeIn K cd_law_rows "_law_rows" = true)
    (k_law_rows : PySem.W.keepIn K (.ref a_law_rows) = true)
    (n_law_lifted : PySem.W.nsIn K mainGlobals "_law_lifted" = some (some (.ref a_law_lifted)))
    (l_law_lifted : K.lookup a_law_lifted = some ⟨oc_law_lifted, od_law_lifted, .func (PySem.W.fnOf "_law_lifted" "_law_lifted" (defArgs s_law_lifted) (defBody s_law_lifted) (defScope s_law_lifted) .none kV_law_lifted dc_law_lifted pm_law_lifted an_law_lifted cd_law_lifted ct_law_lifted), sl_law_lifted⟩)
    (c_law_lifted : PySem.W.codeIn K cd_law_lifted "_law_lifted" = true)
    (k_law_lifted : PySem.W.keepIn K (.ref a_law_lifted) = true)
    (n_law_inverse : PySem.W.nsIn K mainGlobals "_law_inverse" = some (some (.ref a_law_inverse)))
    (l_law_inverse : K.lookup a_law_inverse = some ⟨oc_law_inverse, od_law_inverse, .func (PySem.W.fnOf "_law_inverse" "_law_inverse" (defArgs s_law_inverse) (defBody s_law_inverse) (defScope s_law_inverse) .none kV_law_inverse dc_law_inverse pm_law_inverse an_law_inverse cd_law_inverse ct_law_inverse), sl_law_inverse⟩)
    (c_law_inverse : PySem.W.codeIn K cd_law_inverse "_law_inverse" = true)
    (k_law_inverse : PySem.W.keepIn K (.ref a_law_inverse) = true)
    (n_law_reduced : PySem.W.nsIn K mainGlobals "_law_reduced" = some (some (.ref a_law_reduced)))
    (l_law_reduced : K.lookup a_law_reduced = some ⟨oc_law_reduced, od_law_reduced, .func (PySem.W.fnOf "_law_reduced" "_law_reduced" (defArgs s_law_reduced) (defBody s_law_reduced) (defScope s_law_reduced) .none kV_law_reduced dc_law_reduced pm_law_reduced an_law_reduced cd_law_reduced ct_law_reduced), sl_law_reduced⟩)
    (c_law_reduced : PySem.W.codeIn K cd_law_reduced "_law_reduced" = true)
    (k_law_reduced : PySem.W.keepIn K (.ref a_law_reduced) = true)
    (n_law_inside : PySem.W.nsIn K mainGlobals "_law_inside" = some (some (.ref a_law_inside)))
    (l_law_inside : K.lookup a_law_inside = some ⟨oc_law_inside, od_law_inside, .func (PySem.W.fnOf "_law_inside" "_law_inside" (defArgs s_law_inside) (defBody s_law_inside) (defScope s_law_inside) .none kV_law_inside dc_law_inside pm_law_inside an_law_inside cd_law_inside ct_law_inside), sl_law_inside⟩)
    (c_law_inside : PySem.W.codeIn K cd_law_inside "_law_inside" = true)
    (k_law_inside : PySem.W.keepIn K (.ref a_law_inside) = true)
    (n_law_ordered : PySem.W.nsIn K mainGlobals "_law_ordered" = some (some (.ref a_law_ordered)))
    (l_law_ordered : K.lookup a_law_ordered = some ⟨oc_law_ordered, od_law_ordered, .func (PySem.W.fnOf "_law_ordered" "_law_ordered" (defArgs s_law_ordered) (defBody s_law_ordered) (defScope s_law_ordered) .none kV_law_ordered dc_law_ordered pm_law_ordered an_law_ordered cd_law_ordered ct_law_ordered), sl_law_ordered⟩)
    (c_law_ordered : PySem.W.codeIn K cd_law_ordered "_law_ordered" = true)
    (k_law_ordered : PySem.W.keepIn K (.ref a_law_ordered) = true)
    (n_law_integer : PySem.W.nsIn K mainGlobals "_law_integer" = some (some (.ref a_law_integer)))
    (l_law_integer : K.lookup a_law_integer = some ⟨oc_law_integer, od_law_integer, .func (PySem.W.fnOf "_law_integer" "_law_integer" (defArgs s_law_integer) (defBody s_law_integer) (defScope s_law_integer) .none kV_law_integer dc_law_integer pm_law_integer an_law_integer cd_law_integer ct_law_integer), sl_law_integer⟩)
    (c_law_integer : PySem.W.codeIn K cd_law_integer "_law_integer" = true)
    (k_law_integer : PySem.W.keepIn K (.ref a_law_integer) = true)
    (n_law_is : PySem.W.nsIn K mainGlobals "_law_is" = some (some (.ref a_law_is)))
    (l_law_is : K.lookup a_law_is = some ⟨oc_law_is, od_law_is, .func (PySem.W.fnOf "_law_is" "_law_is" (defArgs s_law_is) (defBody s_law_is) (defScope s_law_is) .none kV_law_is dc_law_is pm_law_is an_law_is cd_law_is ct_law_is), sl_law_is⟩)
    (c_law_is : PySem.W.codeIn K cd_law_is "_law_is" = true)
    (k_law_is : PySem.W.keepIn K (.ref a_law_is) = true)
    (n_law_all : PySem.W.nsIn K mainGlobals "_law_all" = some (some (.ref a_law_all)))
    (l_law_all : K.lookup a_law_all = some ⟨oc_law_all, od_law_all, .func (PySem.W.fnOf "_law_all" "_law_all" (defArgs s_law_all) (defBody s_law_all) (defScope s_law_all) .none kV_law_all dc_law_all pm_law_all an_law_all cd_law_all ct_law_all), sl_law_all⟩)
    (c_law_all : PySem.W.codeIn K cd_law_all "_law_all" = true)
    (k_law_all : PySem.W.keepIn K (.ref a_law_all) = true)
    (n_law : PySem.W.nsIn K mainGlobals "law" = some (some (.ref a_law)))
    (l_law : K.lookup a_law = some ⟨oc_law, od_law, .func (PySem.W.fnOf "law" "law" (defArgs s_law) (defBody s_law) (defScope s_law) .none kV_law dc_law pm_law an_law cd_law ct_law), sl_law⟩)
    (c_law : PySem.W.codeIn K cd_law "law" = true)
    (k_law : PySem.W.keepIn K (.ref a_law) = true)
    (cl_independent_rows : K.lookup co_independent_rows = some ⟨ce_independent_rows, cdd_independent_rows, .fields cv_independent_rows, csl_independent_rows⟩)
    (cp_independent_rows : cv_independent_rows[11]? = some (.ref tb_independent_rows))
    (ch_independent_rows : PySem.W.codeHdIn K co_independent_rows tb_independent_rows = true)
    (cn_independent_rows : K.lookup tb_independent_rows = none)
    (z_isinstance : PySem.W.nsIn K mainGlobals "isinstance" = some none)
    (z_int : PySem.W.nsIn K mainGlobals "int" = some none)
    (z_bool : PySem.W.nsIn K mainGlobals "bool" = some none)
    (z_range : PySem.W.nsIn K mainGlobals "range" = some none)
    (z_len : PySem.W.nsIn K mainGlobals "len" = some none)
    (z_abs : PySem.W.nsIn K mainGlobals "abs" = some none)
    (z_str : PySem.W.nsIn K mainGlobals "str" = some none)
    (z_list : PySem.W.nsIn K mainGlobals "list" = some none)
    (z_tuple : PySem.W.nsIn K mainGlobals "tuple" = some none)
    (z_enumerate : PySem.W.nsIn K mainGlobals "enumerate" = some none)
    (z_any : PySem.W.nsIn K mainGlobals "any" = some none)
    (z_all : PySem.W.nsIn K mainGlobals "all" = some none)
    (z_sum : PySem.W.nsIn K mainGlobals "sum" = some none)
    (z_sorted : PySem.W.nsIn K mainGlobals "sorted" = some none)
    (z_set : PySem.W.nsIn K mainGlobals "set" = some none)
    (v_MOST_THINGS : PySem.W.nsIn K mainGlobals "MOST_THINGS" = some (some (.int 6 t_MOST_THINGS)))
    (v_combinations : PySem.W.nsIn K mainGlobals "combinations" = some (some (.type "itertools.combinations")))
    (nf_Fam : PySem.W.notFirst K C_Family (.ref C_Family) = true)
    : Txt K mg ⟨C_Family, a_parts_of, a_all_sets, a_is_part, a_rest_of, a_smaller_by_one, a_is_whole, a_is_within, a_is_ascending, a_clean_sets, a_closed_sets, a_Family_init, a_Family_eq, a_family_of, a_independent_rows, a_is_independent, a_first_above_0, a_law_box, a_law_draw, a_law_things, a_law_shape, a_law_long, a_law_rows, a_law_lifted, a_law_inverse, a_law_reduced, a_law_inside, a_law_ordered, a_law_integer, a_law_is, a_law_all, a_law, co_independent_rows, tb_independent_rows, PySem.W.fnOf "parts_of" "parts_of" (defArgs s_parts_of) (defBody s_parts_of) (defScope s_parts_of) .none kV_parts_of dc_parts_of pm_parts_of an_parts_of cd_parts_of ct_parts_of, PySem.W.fnOf "all_sets" "all_sets" (defArgs s_all_sets) (defBody s_all_sets) (defScope s_all_sets) .none kV_all_sets dc_all_sets pm_all_sets an_all_sets cd_all_sets ct_all_sets, PySem.W.fnOf "is_part" "is_part" (defArgs s_is_part) (defBody s_is_part) (defScope s_is_part) .none kV_is_part dc_is_part pm_is_part an_is_part cd_is_part ct_is_part, PySem.W.fnOf "rest_of" "rest_of" (defArgs s_rest_of) (defBody s_rest_of) (defScope s_rest_of) .none kV_rest_of dc_rest_of pm_rest_of an_rest_of cd_rest_of ct_rest_of, PySem.W.fnOf "smaller_by_one" "smaller_by_one" (defArgs s_smaller_by_one) (defBody s_smaller_by_one) (defScope s_smaller_by_one) .none kV_smaller_by_one dc_smaller_by_one pm_smaller_by_one an_smaller_by_one cd_smaller_by_one ct_smaller_by_one, PySem.W.fnOf "is_whole" "is_whole" (defArgs s_is_whole) (defBody s_is_whole) (defScope s_is_whole) .none kV_is_whole dc_is_whole pm_is_whole an_is_whole cd_is_whole ct_is_whole, PySem.W.fnOf "is_within" "is_within" (defArgs s_is_within) (defBody s_is_within) (defScope s_is_within) .none kV_is_within dc_is_within pm_is_within an_is_within cd_is_within ct_is_within, PySem.W.fnOf "is_ascending" "is_ascending" (defArgs s_is_ascending) (defBody s_is_ascending) (defScope s_is_ascending) .none kV_is_ascending dc_is_ascending pm_is_ascending an_is_ascending cd_is_ascending ct_is_ascending, PySem.W.fnOf "clean_sets" "clean_sets" (defArgs s_clean_sets) (defBody s_clean_sets) (defScope s_clean_sets) .none kV_clean_sets dc_clean_sets pm_clean_sets an_clean_sets cd_clean_sets ct_clean_sets, PySem.W.fnOf "closed_sets" "closed_sets" (defArgs s_closed_sets) (defBody s_closed_sets) (defScope s_closed_sets) .none kV_closed_sets dc_closed_sets pm_closed_sets an_closed_sets cd_closed_sets ct_closed_sets, PySem.W.fnOf "__init__" "Family.__init__" (defArgs s_Family_init) (defBody s_Family_init) (defScope s_Family_init) .none kV_Family_init dc_Family_init pm_Family_init an_Family_init cd_Family_init ct_Family_init, PySem.W.fnOf "__eq__" "Family.__eq__" (defArgs s_Family_eq) (defBody s_Family_eq) (defScope s_Family_eq) .none kV_Family_eq dc_Family_eq pm_Family_eq an_Family_eq cd_Family_eq ct_Family_eq, PySem.W.fnOf "family_of" "family_of" (defArgs s_family_of) (defBody s_family_of) (defScope s_family_of) .none kV_family_of dc_family_of pm_family_of an_family_of cd_family_of ct_family_of, PySem.W.fnOf "independent_rows" "independent_rows" (defArgs s_independent_rows) (defBody s_independent_rows) (defScope s_independent_rows) .none kV_independent_rows dc_independent_rows pm_independent_rows an_independent_rows (.ref co_independent_rows) ct_independent_rows, PySem.W.fnOf "is_independent" "is_independent" (defArgs s_is_independent) (defBody s_is_independent) (defScope s_is_independent) .none kV_is_independent dc_is_independent pm_is_independent an_is_independent cd_is_independent ct_is_independent, PySem.W.fnOf "first_above_0" "first_above_0" (defArgs s_first_above_0) (defBody s_first_above_0) (defScope s_first_above_0) .none kV_first_above_0 dc_first_above_0 pm_first_above_0 an_first_above_0 cd_first_above_0 ct_first_above_0, PySem.W.fnOf "_law_box" "_law_box" (defArgs s_law_box) (defBody s_law_box) (defScope s_law_box) .none kV_law_box dc_law_box pm_law_box an_law_box cd_law_box ct_law_box, PySem.W.fnOf "_law_draw" "_law_draw" (defArgs s_law_draw) (defBody s_law_draw) (defScope s_law_draw) .none kV_law_draw dc_law_draw pm_law_draw an_law_draw cd_law_draw ct_law_draw, PySem.W.fnOf "_law_things" "_law_things" (defArgs s_law_things) (defBody s_law_things) (defScope s_law_things) .none kV_law_things dc_law_things pm_law_things an_law_things cd_law_things ct_law_things, PySem.W.fnOf "_law_shape" "_law_shape" (defArgs s_law_shape) (defBody s_law_shape) (defScope s_law_shape) .none kV_law_shape dc_law_shape pm_law_shape an_law_shape cd_law_shape ct_law_shape, PySem.W.fnOf "_law_long" "_law_long" (defArgs s_law_long) (defBody s_law_long) (defScope s_law_long) .none kV_law_long dc_law_long pm_law_long an_law_long cd_law_long ct_law_long, PySem.W.fnOf "_law_rows" "_law_rows" (defArgs s_law_rows) (defBody s_law_rows) (defScope s_law_rows) .none kV_law_rows dc_law_rows pm_law_rows an_law_rows cd_law_rows ct_law_rows, PySem.W.fnOf "_law_lifted" "_law_lifted" (defArgs s_law_lifted) (defBody s_law_lifted) (defScope s_law_lifted) .none kV_law_lifted dc_law_lifted pm_law_lifted an_law_lifted cd_law_lifted ct_law_lifted, PySem.W.fnOf "_law_inverse" "_law_inverse" (defArgs s_law_inverse) (defBody s_law_inverse) (defScope s_law_inverse) .none kV_law_inverse dc_law_inverse pm_law_inverse an_law_inverse cd_law_inverse ct_law_inverse, PySem.W.fnOf "_law_reduced" "_law_reduced" (defArgs s_law_reduced) (defBody s_law_reduced) (defScope s_law_reduced) .none kV_law_reduced dc_law_reduced pm_law_reduced an_law_reduced cd_law_reduced ct_law_reduced, PySem.W.fnOf "_law_inside" "_law_inside" (defArgs s_law_inside) (defBody s_law_inside) (defScope s_law_inside) .none kV_law_inside dc_law_inside pm_law_inside an_law_inside cd_law_inside ct_law_inside, PySem.W.fnOf "_law_ordered" "_law_ordered" (defArgs s_law_ordered) (defBody s_law_ordered) (defScope s_law_ordered) .none kV_law_ordered dc_law_ordered pm_law_ordered an_law_ordered cd_law_ordered ct_law_ordered, PySem.W.fnOf "_law_integer" "_law_integer" (defArgs s_law_integer) (defBody s_law_integer) (defScope s_law_integer) .none kV_law_integer dc_law_integer pm_law_integer an_law_integer cd_law_integer ct_law_integer, PySem.W.fnOf "_law_is" "_law_is" (defArgs s_law_is) (defBody s_law_is) (defScope s_law_is) .none kV_law_is dc_law_is pm_law_is an_law_is cd_law_is ct_law_is, PySem.W.fnOf "_law_all" "_law_all" (defArgs s_law_all) (defBody s_law_all) (defScope s_law_all) .none kV_law_all dc_law_all pm_law_all an_law_all cd_law_all ct_law_all, PySem.W.fnOf "law" "law" (defArgs s_law) (defBody s_law) (defScope s_law) .none kV_law dc_law pm_law an_law cd_law ct_law⟩ :=
  { mg_Family := PySem.W.mg_of X G hC_Family
    cl_Family := ⟨pg_Family, hd_Family, po_Family, sa_Family⟩
    na_Family_sets := na_Family_sets
    na_Family_size := na_Family_size
    cg_Family := cg_Family
    mr_Family := mr_Family
    cget := cget
    ctk := ctk
    mg_parts_of := PySem.W.mg_of X G n_parts_of
    fn_parts_of := fun_mk (st := s_parts_of) l_parts_of c_parts_of k_parts_of
    b_parts_of := (fun_mk (st := s_parts_of) l_parts_of c_parts_of k_parts_of).binds (ps := ["things"]) fun _ _ _ _ _ _ us hl => match us, hl with | [_], _ => rfl
    mg_all_sets := PySem.W.mg_of X G n_all_sets
    fn_all_sets := fun_mk (st := s_all_sets) l_all_sets c_all_sets k_all_sets
    b_all_sets := (fun_mk (st := s_all_sets) l_all_sets c_all_sets k_all_sets).binds (ps := ["size"]) fun _ _ _ _ _ _ us hl => match us, hl with | [_], _ => rfl
    mg_is_part := PySem.W.mg_of X G n_is_part
    fn_is_part := fun_mk (st := s_is_part) l_is_part c_is_part k_is_part
    b_is_part := (fun_mk (st := s_is_part) l_is_part c_is_part k_is_part).binds (ps := ["part", "things"]) fun _ _ _ _ _ _ us hl => match us, hl with | [_, _], _ => rfl
    mg_rest_of := PySem.W.mg_of X G n_rest_of
    fn_rest_of := fun_mk (st := s_rest_of) l_rest_of c_rest_of k_rest_of
    b_rest_of := (fun_mk (st := s_rest_of) l_rest_of c_rest_of k_rest_of).binds (ps := ["things", "out"]) fun _ _ _ _ _ _ us hl => match us, hl with | [_, _], _ => rfl
    mg_smaller_by_one := PySem.W.mg_of X G n_smaller_by_one
    fn_smaller_by_one := fun_mk (st := s_smaller_by_one) l_smaller_by_one c_smaller_by_one k_smaller_by_one
    b_smaller_by_one := (fun_mk (st := s_smaller_by_one) l_smaller_by_one c_smaller_by_one k_smaller_by_one).binds (ps := ["things"]) fun _ _ _ _ _ _ us hl => match us, hl with | [_], _ => rfl
    mg_is_whole := PySem.W.mg_of X G n_is_whole
    fn_is_whole := fun_mk (st := s_is_whole) l_is_whole c_is_whole k_is_whole
    b_is_whole := (fun_mk (st := s_is_whole) l_is_whole c_is_whole k_is_whole).binds (ps := ["value"]) fun _ _ _ _ _ _ us hl => match us, hl with | [_], _ => rfl
    mg_is_within := PySem.W.mg_of X G n_is_within
    fn_is_within := fun_mk (st := s_is_within) l_is_within c_is_within k_is_within
    b_is_within := (fun_mk (st := s_is_within) l_is_within c_is_within k_is_within).binds (ps := ["value", "least", "most"]) fun _ _ _ _ _ _ us hl => match us, hl with | [_, _, _], _ => rfl
    mg_is_ascending := PySem.W.mg_of X G n_is_ascending
    fn_is_ascending := fun_mk (st := s_is_ascending) l_is_ascending c_is_ascending k_is_ascending
    b_is_ascending := (fun_mk (st := s_is_ascending) l_is_ascending c_is_ascending k_is_ascending).binds (ps := ["value", "size"]) fun _ _ _ _ _ _ us hl => match us, hl with | [_, _], _ => rfl
    mg_clean_sets := PySem.W.mg_of X G n_clean_sets
    fn_clean_sets := fun_mk (st := s_clean_sets) l_clean_sets c_clean_sets k_clean_sets
    b_clean_sets := (fun_mk (st := s_clean_sets) l_clean_sets c_clean_sets k_clean_sets).binds (ps := ["size", "sets"]) fun _ _ _ _ _ _ us hl => match us, hl with | [_, _], _ => rfl
    mg_closed_sets := PySem.W.mg_of X G n_closed_sets
    fn_closed_sets := fun_mk (st := s_closed_sets) l_closed_sets c_closed_sets k_closed_sets
    b_closed_sets := (fun_mk (st := s_closed_sets) l_closed_sets c_closed_sets k_closed_sets).binds (ps := ["size", "sets"]) fun _ _ _ _ _ _ us hl => match us, hl with | [_, _], _ => rfl
    fn_Family_init := fun_mk (st := s_Family_init) l_Family_init c_Family_init k_Family_init
    b_Family_init := (fun_mk (st := s_Family_init) l_Family_init c_Family_init k_Family_init).binds (ps := ["self", "size", "sets"]) fun _ _ _ _ _ _ us hl => match us, hl with | [_, _, _], _ => rfl
    mt_Family_init := ⟨f_Family_init, i_Family_init, k_Family_init⟩
    fn_Family_eq := fun_mk (st := s_Family_eq) l_Family_eq c_Family_eq k_Family_eq
    b_Family_eq := (fun_mk (st := s_Family_eq) l_Family_eq c_Family_eq k_Family_eq).binds (ps := ["self", "other"]) fun _ _ _ _ _ _ us hl => match us, hl with | [_, _], _ => rfl
    mt_Family_eq := ⟨f_Family_eq, i_Family_eq, k_Family_eq⟩
    mg_family_of := PySem.W.mg_of X G n_family_of
    fn_family_of := fun_mk (st := s_family_of) l_family_of c_family_of k_family_of
    b_family_of := (fun_mk (st := s_family_of) l_family_of c_family_of k_family_of).binds (ps := ["size", "fits"]) fun _ _ _ _ _ _ us hl => match us, hl with | [_, _], _ => rfl
    mg_independent_rows := PySem.W.mg_of X G n_independent_rows
    fn_independent_rows := fun_mk (st := s_independent_rows) l_independent_rows c_independent_rows k_independent_rows
    b_independent_rows := (fun_mk (st := s_independent_rows) l_independent_rows c_independent_rows k_independent_rows).binds (ps := ["p", "rows"]) fun _ _ _ _ _ _ us hl => match us, hl with | [_, _], _ => rfl
    mg_is_independent := PySem.W.mg_of X G n_is_independent
    fn_is_independent := fun_mk (st := s_is_independent) l_is_independent c_is_independent k_is_independent
    b_is_independent := (fun_mk (st := s_is_independent) l_is_independent c_is_independent k_is_independent).binds (ps := ["p", "rows"]) fun _ _ _ _ _ _ us hl => match us, hl with | [_, _], _ => rfl
    mg_first_above_0 := PySem.W.mg_of X G n_first_above_0
    fn_first_above_0 := fun_mk (st := s_first_above_0) l_first_above_0 c_first_above_0 k_first_above_0
    b_first_above_0 := (fun_mk (st := s_first_above_0) l_first_above_0 c_first_above_0 k_first_above_0).binds (ps := ["row"]) fun _ _ _ _ _ _ us hl => match us, hl with | [_], _ => rfl
    mg_law_box := PySem.W.mg_of X G n_law_box
    fn_law_box := fun_mk (st := s_law_box) l_law_box c_law_box k_law_box
    b_law_box := (fun_mk (st := s_law_box) l_law_box c_law_box k_law_box).binds (ps := ["script"]) fun _ _ _ _ _ _ us hl => match us, hl with | [_], _ => rfl
    mg_law_draw := PySem.W.mg_of X G n_law_draw
    fn_law_draw := fun_mk (st := s_law_draw) l_law_draw c_law_draw k_law_draw
    b_law_draw := (fun_mk (st := s_law_draw) l_law_draw c_law_draw k_law_draw).binds (ps := ["box", "limit"]) fun _ _ _ _ _ _ us hl => match us, hl with | [_, _], _ => rfl
    mg_law_things := PySem.W.mg_of X G n_law_things
    fn_law_things := fun_mk (st := s_law_things) l_law_things c_law_things k_law_things
    b_law_things := (fun_mk (st := s_law_things) l_law_things c_law_things k_law_things).binds (ps := ["mask"]) fun _ _ _ _ _ _ us hl => match us, hl with | [_], _ => rfl
    mg_law_shape := PySem.W.mg_of X G n_law_shape
    fn_law_shape := fun_mk (st := s_law_shape) l_law_shape c_law_shape k_law_shape
    b_law_shape := (fun_mk (st := s_law_shape) l_law_shape c_law_shape k_law_shape).binds (ps := ["box", "parts"]) fun _ _ _ _ _ _ us hl => match us, hl with | [_, _], _ => rfl
    mg_law_long := PySem.W.mg_of X G n_law_long
    fn_law_long := fun_mk (st := s_law_long) l_law_long c_law_long k_law_long
    b_law_long := (fun_mk (st := s_law_long) l_law_long c_law_long k_law_long).binds (ps := ["box"]) fun _ _ _ _ _ _ us hl => match us, hl with | [_], _ => rfl
    mg_law_rows := PySem.W.mg_of X G n_law_rows
    fn_law_rows := fun_mk (st := s_law_rows) l_law_rows c_law_rows k_law_rows
    b_law_rows := (fun_mk (st := s_law_rows) l_law_rows c_law_rows k_law_rows).binds (ps := ["box", "p"]) fun _ _ _ _ _ _ us hl => match us, hl with | [_, _], _ => rfl
    mg_law_lifted := PySem.W.mg_of X G n_law_lifted
    fn_law_lifted := fun_mk (st := s_law_lifted) l_law_lifted c_law_lifted k_law_lifted
    b_law_lifted := (fun_mk (st := s_law_lifted) l_law_lifted c_law_lifted k_law_lifted).binds (ps := ["box", "rows", "p"]) fun _ _ _ _ _ _ us hl => match us, hl with | [_, _, _], _ => rfl
    mg_law_inverse := PySem.W.mg_of X G n_law_inverse
    fn_law_inverse := fun_mk (st := s_law_inverse) l_law_inverse c_law_inverse k_law_inverse
    b_law_inverse := (fun_mk (st := s_law_inverse) l_law_inverse c_law_inverse k_law_inverse).binds (ps := ["number", "p"]) fun _ _ _ _ _ _ us hl => match us, hl with | [_, _], _ => rfl
    mg_law_reduced := PySem.W.mg_of X G n_law_reduced
    fn_law_reduced := fun_mk (st := s_law_reduced) l_law_reduced c_law_reduced k_law_reduced
    b_law_reduced := (fun_mk (st := s_law_reduced) l_law_reduced c_law_reduced k_law_reduced).binds (ps := ["row", "basis", "p"]) fun _ _ _ _ _ _ us hl => match us, hl with | [_, _, _], _ => rfl
    mg_law_inside := PySem.W.mg_of X G n_law_inside
    fn_law_inside := fun_mk (st := s_law_inside) l_law_inside c_law_inside k_law_inside
    b_law_inside := (fun_mk (st := s_law_inside) l_law_inside c_law_inside k_law_inside).binds (ps := ["rows", "p"]) fun _ _ _ _ _ _ us hl => match us, hl with | [_, _], _ => rfl
    mg_law_ordered := PySem.W.mg_of X G n_law_ordered
    fn_law_ordered := fun_mk (st := s_law_ordered) l_law_ordered c_law_ordered k_law_ordered
    b_law_ordered := (fun_mk (st := s_law_ordered) l_law_ordered c_law_ordered k_law_ordered).binds (ps := ["inside"]) fun _ _ _ _ _ _ us hl => match us, hl with | [_], _ => rfl
    mg_law_integer := PySem.W.mg_of X G n_law_integer
    fn_law_integer := fun_mk (st := s_law_integer) l_law_integer c_law_integer k_law_integer
    b_law_integer := (fun_mk (st := s_law_integer) l_law_integer c_law_integer k_law_integer).binds (ps := ["value"]) fun _ _ _ _ _ _ us hl => match us, hl with | [_], _ => rfl
    mg_law_is := PySem.W.mg_of X G n_law_is
    fn_law_is := fun_mk (st := s_law_is) l_law_is c_law_is k_law_is
    b_law_is := (fun_mk (st := s_law_is) l_law_is c_law_is k_law_is).binds (ps := ["family", "size", "sets"]) fun _ _ _ _ _ _ us hl => match us, hl with | [_, _, _], _ => rfl
    mg_law_all := PySem.W.mg_of X G n_law_all
    fn_law_all := fun_mk (st := s_law_all) l_law_all c_law_all k_law_all
    b_law_all := (fun_mk (st := s_law_all) l_law_all c_law_all k_law_all).binds (ps := ["script"]) fun _ _ _ _ _ _ us hl => match us, hl with | [_], _ => rfl
    mg_law := PySem.W.mg_of X G n_law
    fn_law := fun_mk (st := s_law) l_law c_law k_law
    b_law := (fun_mk (st := s_law) l_law c_law k_law).binds (ps := ["script"]) fun _ _ _ _ _ _ us hl => match us, hl with | [_], _ => rfl
    cd_independent_rows := rfl
    cl_independent_rows := ⟨_, _, _, _, cl_independent_rows, cp_independent_rows⟩
    ch_independent_rows := ch_independent_rows
    cn_independent_rows := cn_independent_rows
    mk_Family := ⟨mk_Family, f_Family_init, i_Family_init, kc_Family⟩
    no_isinstance := PySem.W.mg_none_of X G z_isinstance
    no_int := PySem.W.mg_none_of X G z_int
    no_bool := PySem.W.mg_none_of X G z_bool
    no_range := PySem.W.mg_none_of X G z_range
    no_len := PySem.W.mg_none_of X G z_len
    no_abs := PySem.W.mg_none_of X G z_abs
    no_str := PySem.W.mg_none_of X G z_str
    no_list := PySem.W.mg_none_of X G z_list
    no_tuple := PySem.W.mg_none_of X G z_tuple
    no_enumerate := PySem.W.mg_none_of X G z_enumerate
    no_any := PySem.W.mg_none_of X G z_any
    no_all := PySem.W.mg_none_of X G z_all
    no_sum := PySem.W.mg_none_of X G z_sum
    no_sorted := PySem.W.mg_none_of X G z_sorted
    no_set := PySem.W.mg_none_of X G z_set
    mg_MOST_THINGS := ⟨_, PySem.W.mg_of X G v_MOST_THINGS⟩
    mg_combinations := PySem.W.mg_of X G v_combinations
    nf_Fam := nf_Fam }
end K23
namespace K23
open PySem PySem.Spec PyProof.Rows L2
open LamX in
theorem all_mk {l : PySem.W.OpenLaw} {w : World} {K : PySem.W.Frag} {mg : Str → Option Value} {h : Heap} {fa : Addr} {a : Ad} (T : Txt K mg a) (X : K.In h) (hfa : mg "law" = some (.ref fa)) (hd : ∀ (s : Shared) (v : Value), BindsTo s a.d_law ⟨[v], []⟩ [("script", v)])
    (own_independent_rows : h.get? a.tb_independent_rows = some { cls := .none, data := .fields #[] }) : LawAtS l w K CX0 13 63 "script" mg fa h := by
  have e := hfa.symm.trans T.mg_law
  cases e
  refine ⟨a.d_law, [(a.co_independent_rows, a.tb_independent_rows)], spLaw K a.tb_independent_rows, ?_, ?_, ?_, hd, ?_, ?_⟩
  · intro p hp
    simp only [List.mem_cons, List.not_mem_nil, or_false] at hp
    subst hp
    · exact own_independent_rows
  · intro p hp
    simp only [List.mem_cons, List.not_mem_nil, or_false] at hp
    subst hp
    · exact T.cn_independent_rows
  · intro p hp
    simp only [List.mem_cons, List.not_mem_nil, or_false] at hp
    subst hp
    · exact PySem.W.codeHd_of_K X T.ch_independent_rows
  · intro H b ns hl _ hT hS
    exact ⟨b, ns, rfl, hS, hl, TabS.nil (hT (a.co_independent_rows, a.tb_independent_rows) (by simp)), fun _ => rfl⟩
  · intro base _ _ hB
    exact ok_law T (hB (a.co_independent_rows, a.tb_independent_rows) (by simp))
open LamX in
theorem walk {l : PySem.W.OpenLaw} {q : Program} {loose : List Str} {XP : (Str → Option Value) → Heap → Prop} {YP : World → Heap → Prop} {d : DefRec} {K : Params → PySem.W.Frag} (hn : l.most = some 63) (hdf : d.params.defaults = [])
    (hY : ∀ (w : World) (h : Heap), YP w h → (K w.params).In h)
    (F : ∀ (w : World) (mg : Str → Option Value) (fa : Addr) (h : Heap), YP w h → (K w.params).In h → h.Ns mainGlobals mg → mg d.name = some (.ref fa) → LawAtS l w (K w.params) CX0 13 63 "script" mg fa h) :
    PySem.W.WalkO q loose XP YP l.row.toRowW d [] (fun f vs => PySem.call f vs) :=
  walk_ofTs (CX := fun _ => CX0) hn (by decide) hdf ⟨rfl, by decide, by decide⟩ hY F fun _ _ _ _ _ z => z
end K23
open PySem PySem.W PyProof.Rows
set_option maxRecDepth 100000 in
set_option maxHeartbeats 0 in
theorem PySem.Challenge.cw_greatestnext_k23_independent_rows_holds : PySem.Challenge.rw_greatestnext_k23_independent_rows.Holds := by
  w_on; o_law; k_head; (case hw => w_witness2)
  k_fill
  refine K23.walk (l := PySem.Challenge.rw_greatestnext_k23_independent_rows) rfl rfl (fun w h Y => PySem.W.km_in_of Y) ?F
  case F =>
    intro w mg fa h Y KX G hmg
    refine' K23.all_mk (K23.txt_mk KX G ?hC_Family ?pg_Family ?hd_Family ?po_Family ?sa_Family ?mk_Family ?kc_Family ?na_Family_sets ?na_Family_size ?cg_Family ?mr_Family ?cget ?ctk ?n_parts_of ?l_parts_of ?c_parts_of ?k_parts_of ?n_all_sets ?l_all_sets ?c_all_sets ?k_all_sets ?n_is_part ?l_is_part ?c_is_part ?k_is_part ?n_rest_of ?l_rest_of ?c_rest_of ?k_rest_of ?n_smaller_by_one ?l_smaller_by_one ?c_smaller_by_one ?k_smaller_by_one ?n_is_whole ?l_is_whole ?c_is_whole ?k_is_whole ?n_is_within ?l_is_within ?c_is_within ?k_is_within ?n_is_ascending ?l_is_ascending ?c_is_ascending ?k_is_ascending ?n_clean_sets ?l_clean_sets ?c_clean_sets ?k_clean_sets ?n_closed_sets ?l_closed_sets ?c_closed_sets ?k_closed_sets ?f_Family_init ?i_Family_init ?l_Family_init ?c_Family_init ?k_Family_init ?f_Family_eq ?i_Family_eq ?l_Family_eq ?c_Family_eq ?k_Family_eq ?n_family_of ?l_family_of ?c_family_of ?k_family_of ?n_independent_rows ?l_independent_rows ?c_independent_rows ?k_independent_rows ?n_is_independent ?l_is_independent ?c_is_independent ?k_is_independent ?n_first_above_0 ?l_first_above_0 ?c_first_above_0 ?k_first_above_0 ?n_law_box ?l_law_box ?c_law_box ?k_law_box ?n_law_draw ?l_law_draw ?c_law_draw ?k_law_draw ?n_law_things ?l_law_things ?c_law_things ?k_law_things ?n_law_shape ?l_law_shape ?c_law_shape ?k_law_shape ?n_law_long ?l_law_long ?c_law_long ?k_law_long ?n_law_rows ?l_law_rows ?c_law_rows ?k_law_rows ?n_law_lifted ?l_law_lifted ?c_law_lifted ?k_law_lifted ?n_law_inverse ?l_law_inverse ?c_law_inverse ?k_law_inverse ?n_law_reduced ?l_law_reduced ?c_law_reduced ?k_law_reduced ?n_law_inside ?l_law_inside ?c_law_inside ?k_law_inside ?n_law_ordered ?l_law_ordered ?c_law_ordered ?k_law_ordered ?n_law_integer ?l_law_integer ?c_law_integer ?k_law_integer ?n_law_is ?l_law_is ?c_law_is ?k_law_is ?n_law_all ?l_law_all ?c_law_all ?k_law_all ?n_law ?l_law ?c_law ?k_law ?cl_independent_rows ?cp_independent_rows ?ch_independent_rows ?cn_independent_rows ?z_isinstance ?z_int ?z_bool ?z_range ?z_len ?z_abs ?z_str ?z_list ?z_tuple ?z_enumerate ?z_any ?z_all ?z_sum ?z_sorted ?z_set ?v_MOST_THINGS ?v_combinations ?nf_Fam) KX hmg (fun s v => .of_eq rfl) ?own_independent_rows
    (case hC_Family => k_is)
    (case pg_Family => k_is)
    (case hd_Family => k_is)
    (case po_Family => k_is)
    (case sa_Family => k_is)
    (case mk_Family => k_is)
    (case kc_Family => k_is)
    (case na_Family_sets => k_is)
    (case na_Family_size => k_is)
    (case cg_Family => k_is)
    (case mr_Family => k_is)
    (case cget => k_is)
    (case ctk => k_is)
    (case n_parts_of => k_is)
    (case l_parts_of => k_is)
    (case c_parts_of => k_is)
    (case k_parts_of => k_is)
    (case n_all_sets => k_is)
    (case l_all_sets => k_is)
    (case c_all_sets => k_is)
    (case k_all_sets => k_is)
    (case n_is_part => k_is)
    (case l_is_part => k_is)
    (case c_is_part => k_is)
    (case k_is_part => k_is)
    (case n_rest_of => k_is)
    (case l_rest_of => k_is)
    (case c_rest_of => k_is)
    (case k_rest_of => k_is)
    (case n_smaller_by_one => k_is)
    (case l_smaller_by_one => k_is)
    (case c_smaller_by_one => k_is)
    (case k_smaller_by_one => k_is)
    (case n_is_whole => k_is)
    (case l_is_whole => k_is)
    (case c_is_whole => k_is)
    (case k_is_whole => k_is)
    (case n_is_within => k_is)
    (case l_is_within => k_is)
    (case c_is_within => k_is)
    (case k_is_within => k_is)
    (case n_is_ascending => k_is)
    (case l_is_ascending => k_is)
    (case c_is_ascending => k_is)
    (case k_is_ascending => k_is)
    (case n_clean_sets => k_is)
    (case l_clean_sets => k_is)
    (case c_clean_sets => k_is)
    (case k_clean_sets => k_is)
    (case n_closed_sets => k_is)
    (case l_closed_sets => k_is)
    (case c_closed_sets => k_is)
    (case k_closed_sets => k_is)
    (case f_Family_init => k_is)
    (case i_Family_init => k_is)
    (case l_Family_init => k_is)
    (case c_Family_init => k_is)
    (case k_Family_init => k_is)
    (case f_Family_eq => k_is)
    (case i_Family_eq => k_is)
    (case l_Family_eq => k_is)
    (case c_Family_eq => k_is)
    (case k_Family_eq => k_is)
    (case n_family_of => k_is)
    (case l_family_of => k_is)
    (case c_family_of => k_is)
    (case k_family_of => k_is)
    (case n_independent_rows => k_is)
    (case l_independent_rows => k_is)
    (case c_independent_rows => k_is)
    (case k_independent_rows => k_is)
    (case n_is_independent => k_is)
    (case l_is_independent => k_is)
    (case c_is_independent => k_is)
    (case k_is_independent => k_is)
    (case n_first_above_0 => k_is)
    (case l_first_above_0 => k_is)
    (case c_first_above_0 => k_is)
    (case k_first_above_0 => k_is)
    (case n_law_box => k_is)
    (case l_law_box => k_is)
    (case c_law_box => k_is)
    (case k_law_box => k_is)
    (case n_law_draw => k_is)
    (case l_law_draw => k_is)
    (case c_law_draw => k_is)
    (case k_law_draw => k_is)
    (case n_law_things => k_is)
    (case l_law_things => k_is)
    (case c_law_things => k_is)
    (case k_law_things => k_is)
    (case n_law_shape => k_is)
    (case l_law_shape => k_is)
    (case c_law_shape => k_is)
    (case k_law_shape => k_is)
    (case n_law_long => k_is)
    (case l_law_long => k_is)
    (case c_law_long => k_is)
    (case k_law_long => k_is)
    (case n_law_rows => k_is)
    (case l_law_rows => k_is)
    (case c_law_rows => k_is)
    (case k_law_rows => k_is)
    (case n_law_lifted => k_is)
    (case l_law_lifted => k_is)
    (case c_law_lifted => k_is)
    (case k_law_lifted => k_is)
    (case n_law_inverse => k_is)
    (case l_law_inverse => k_is)
    (case c_law_inverse => k_is)
    (case k_law_inverse => k_is)
    (case n_law_reduced => k_is)
    (case l_law_reduced => k_is)
    (case c_law_reduced => k_is)
    (case k_law_reduced => k_is)
    (case n_law_inside => k_is)
    (case l_law_inside => k_is)
    (case c_law_inside => k_is)
    (case k_law_inside => k_is)
    (case n_law_ordered => k_is)
    (case l_law_ordered => k_is)
    (case c_law_ordered => k_is)
    (case k_law_ordered => k_is)
    (case n_law_integer => k_is)
    (case l_law_integer => k_is)
    (case c_law_integer => k_is)
    (case k_law_integer => k_is)
    (case n_law_is => k_is)
    (case l_law_is => k_is)
    (case c_law_is => k_is)
    (case k_law_is => k_is)
    (case n_law_all => k_is)
    (case l_law_all => k_is)
    (case c_law_all => k_is)
    (case k_law_all => k_is)
    (case n_law => k_is)
    (case l_law => k_is)
    (case c_law => k_is)
    (case k_law => k_is)
    (case cl_independent_rows => k_is)
    (case cp_independent_rows => first | rfl | kernel_rfl | k_is)
    (case ch_independent_rows => first | kernel_rfl | rfl | decide +kernel)
    (case cn_independent_rows => first | kernel_rfl | rfl | k_is)
    (case z_isinstance => k_is)
    (case z_int => k_is)
    (case z_bool => k_is)
    (case z_range => k_is)
    (case z_len => k_is)
    (case z_abs => k_is)
    (case z_str => k_is)
    (case z_list => k_is)
    (case z_tuple => k_is)
    (case z_enumerate => k_is)
    (case z_any => k_is)
    (case z_all => k_is)
    (case z_sum => k_is)
    (case z_sorted => k_is)
    (case z_set => k_is)
    (case v_MOST_THINGS => k_is)
    (case v_combinations => k_is)
    (case nf_Fam => k_is)
    (case own_independent_rows => exact PySem.W.km_tabs_of Y _ (by decide))
