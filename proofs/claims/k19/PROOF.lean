import PyProof.Rows.All
import Wide.All
import OpenK.AllK
import Wide.FinOn
import HandS.ForMost
import HandS.IsInst
import HandS.SortRule
import KE.SortData
import HandS.RepeatKit
import HandS.Iter
import PyProof.Rows.SortShell
import HandS.SetFor
import HandS.Strs
import HandS.Exc
import HandS.TryOnly
import HandS.ExcOwn
import HandS.WordsExc
import HandS.CallSlots
import HandS.Defaults
import HandS.MakeKw
import HandS.MakeKwOnly
import HandS.Wide
import HandS.WideBits
import HandS.Gcd
import HandS.HotCalls
import HandS.ExcInit
import HandS.ExcField
import HandS.OwnEq
import HandS.TupAny
import HandS.Style
import HandS.NoneIn
import PyProof.EnumMake
import KE.GoesMore
import KE.KUnpackStar
import HandS.Hot
import HandS.ExcCtx
import HandS.Base
import HandS.Call
import HandS.List
import HandS.AnyAll
import HandS.Deep
import HandS.Star
import HandS.Conv
import HandS.More
import HandS.TupSets
import HandS.EndOwn
import PySem.Challenge.RW_greatestnext_k19_families_and_faults
set_option Elab.async false
set_option linter.all false
set_option maxRecDepth 100000
set_option maxHeartbeats 4000000
set_option maxHeartbeats 2000000
set_option exponentiation.threshold 5000
/-! Readings brought to a plain form: loops folded, calls by kinds. -/
namespace Rd
open PySem PySem.Spec PyProof.Rows L2
/-- a loop whose iterator has come -/
def Loop (J : It) (g : TG) (tb : TS) (D : Ends) (σ : L2.St) (H : Hp) : Prop := tFor (fun _ H1 R => R J H1) g tb D σ H
theorem tFor_rng1 {ta : TA} {g : TG} {tb : TS} {D : Ends} {σ : L2.St} {H : Hp} : tFor (iRng1 ta) g tb D σ H = ta σ H (fun vs H1 => ∃ j : Int, vs = [.int j] ∧ -(2 ^ 62) ≤ j ∧ j < 2 ^ 62 ∧ Loop (Itr 0 j.toNat) g tb D σ H1) := rfl
theorem tFor_rng2 {ta : TA} {g : TG} {tb : TS} {D : Ends} {σ : L2.St} {H : Hp} : tFor (iRng2 ta) g tb D σ H = ta σ H (fun vs H1 => ∃ i j : Int, vs = [.int i, .int j] ∧ (-(2 ^ 62) ≤ i ∧ i < 2 ^ 62 ∧ -(2 ^ 62) ≤ j ∧ j < 2 ^ 62) ∧ Loop (Itr i (j - i).toNat) g tb D σ H1) := rfl
theorem tFor_list {K : PySem.W.Frag} {tl : TE} {g : TG} {tb : TS} {D : Ends} {σ : L2.St} {H : Hp} : tFor (iList K tl) g tb D σ H = tl σ H (fun x H1 => ∃ a, x = .ref a ∧ (∃ xs, SqL K H1 a xs) ∧ Loop (Itl K a) g tb D σ H1) := rfl
theorem tFor_tup {K : PySem.W.Frag} {tl : TE} {g : TG} {tb : TS} {D : Ends} {σ : L2.St} {H : Hp} : tFor (iTup K tl) g tb D σ H = tl σ H (fun x H1 => ∃ a, x = .ref a ∧ (∃ xs, SqT K H1 a xs) ∧ Loop (Itt K a) g tb D σ H1) := rfl
theorem loop_rng {lo : Int} {n : Nat} {g : TG} {tb : TS} {D : Ends} {σ : L2.St} {H : Hp} (Pv : Nat → L2.St → Hp → Prop) (h0 : Pv 0 σ H)
    (hs : ∀ i σ H, i < n → Pv i σ H → g (.int (lo + i)) σ H fun σ2 H2 => tb { D with nx := Pv (i + 1), ct := Pv (i + 1), bk := D.nx } σ2 H2) (hd : ∀ σ H, Pv n σ H → D.nx σ H) : Loop (Itr lo n) g tb D σ H := for_range Pv h0 hs hd
theorem loop_list {K : PySem.W.Frag} {a : Addr} {xs : List V} {g : TG} {tb : TS} {D : Ends} {σ : L2.St} {H : Hp} (Pv : Nat → L2.St → Hp → Prop) (h0 : Pv 0 σ H) (hl : ∀ i σ H, i ≤ xs.length → Pv i σ H → SqL K H a xs)
    (hs : ∀ i x σ H, xs[i]? = some x → Pv i σ H → g x σ H fun σ2 H2 => tb { D with nx := Pv (i + 1), ct := Pv (i + 1), bk := D.nx } σ2 H2) (hd : ∀ σ H, Pv xs.length σ H → D.nx σ H) : Loop (Itl K a) g tb D σ H := for_list Pv h0 hl hs hd
/-- a comprehension whose iterator has come -/
def LcL (J : It) (g : TG) (tt : TT) (te : TE) (vs : List Nat) (σ : L2.St) (H : Hp) (Q : VK) : Prop := tLc (fun _ H1 R => R J H1) g tt te vs σ H Q
theorem tLc_list {K : PySem.W.Frag} {tl : TE} {g : TG} {tt : TT} {te : TE} {vs : List Nat} {σ : L2.St} {H : Hp} {Q : VK} : tLc (iList K tl) g tt te vs σ H Q = tl σ H (fun x H1 => ∃ a, x = .ref a ∧ (∃ xs, SqL K H1 a xs) ∧ LcL (Itl K a) g tt te vs σ H1 Q) := rfl
theorem tLc_tup {K : PySem.W.Frag} {tl : TE} {g : TG} {tt : TT} {te : TE} {vs : List Nat} {σ : L2.St} {H : Hp} {Q : VK} : tLc (iTup K tl) g tt te vs σ H Q = tl σ H (fun x H1 => ∃ a, x = .ref a ∧ (∃ xs, SqT K H1 a xs) ∧ LcL (Itt K a) g tt te vs σ H1 Q) := rfl
theorem tLc_rng1 {ta : TA} {g : TG} {tt : TT} {te : TE} {vs : List Nat} {σ : L2.St} {H : Hp} {Q : VK} : tLc (iRng1 ta) g tt te vs σ H Q = ta σ H (fun ws H1 => ∃ j : Int, ws = [.int j] ∧ -(2 ^ 62) ≤ j ∧ j < 2 ^ 62 ∧ LcL (Itr 0 j.toNat) g tt te vs σ H1 Q) := rfl
/-- a turn of a comprehension: the element's value is appended at D -/
def LcTurn (te : TE) (tt : TT) (D : Addr) (σw σ2 : L2.St) (vs : List Nat) (H2 : Hp) (R : Hp → Prop) : Prop := wipe σ2 vs = σw ∧ tt σ2 H2 fun b H3 =>
  if b = true then te σ2 H3 fun y H4 => ∃ acc, H4 D = some (.lst acc) ∧ acc.length < sizeLine ∧ R (upd H4 D (.lst (acc ++ [y]))) else R H3
theorem lcl_list {K : PySem.W.Frag} {a : Addr} {xs : List V} {g : TG} {tt : TT} {te : TE} {vs : List Nat} {σ : L2.St} {H : Hp} {Q : VK} (Pv : Addr → Nat → Hp → Prop) (h0 : ∀ D, H D = none → Pv D 0 (upd H D (.lst []))) (hl : ∀ D i H1, i ≤ xs.length → Pv D i H1 → SqL K H1 a xs)
    (hs : ∀ D i x H1, xs[i]? = some x → Pv D i H1 → g x (wipe σ vs) H1 fun σ2 H2 => LcTurn te tt D (wipe σ vs) σ2 vs H2 (Pv D (i + 1))) (hd : ∀ D H1, H D = none → Pv D xs.length H1 → Q (.ref D) H1) : LcL (Itl K a) g tt te vs σ H Q :=
  fun D hD => lc_list (Pv D) (h0 D hD) (hl D) (hs D) fun H1 p => hd D H1 hD p
theorem lcl_rng {lo : Int} {n : Nat} {g : TG} {tt : TT} {te : TE} {vs : List Nat} {σ : L2.St} {H : Hp} {Q : VK} (Pv : Addr → Nat → Hp → Prop) (h0 : ∀ D, H D = none → Pv D 0 (upd H D (.lst [])))
    (hs : ∀ D i H1, i < n → Pv D i H1 → g (.int (lo + i)) (wipe σ vs) H1 fun σ2 H2 => LcTurn te tt D (wipe σ vs) σ2 vs H2 (Pv D (i + 1))) (hd : ∀ D H1, H D = none → Pv D n H1 → Q (.ref D) H1) : LcL (Itr lo n) g tt te vs σ H Q :=
  fun D hD => lc_range (Pv D) (h0 D hD) (hs D) fun H1 p => hd D H1 hD p
section
variable {X : Cx}
theorem CallR.imp {f : Value} {r r' : List V → Hp → VK → Prop} (h : CallR X f r) (i : ∀ xs H Q, r' xs H Q → r xs H Q) : CallR X f r' := fun pins s σ H xs us Q I v q => h pins s σ H xs us Q I v (i _ _ _ q)
def rLenL (K : PySem.W.Frag) : List V → Hp → VK → Prop := fun xs H Q => ∃ p ys, xs = [.ref p] ∧ SqL K H p ys ∧ Q (.int ys.length) H
def rLenT (K : PySem.W.Frag) : List V → Hp → VK → Prop := fun xs H Q => ∃ p ys, xs = [.ref p] ∧ SqT K H p ys ∧ Q (.int ys.length) H
def rIntI : List V → Hp → VK → Prop := fun xs H Q => ∃ i, xs = [.int i] ∧ Q (.int i) H
theorem call_lenL : CallR X (.builtin "len") (rLenL X.K) := CallR.imp call_len_seq fun xs H Q ⟨p, ys, e, h, q⟩ => ⟨p, ys, e, .inl h, q⟩
theorem call_lenT : CallR X (.builtin "len") (rLenT X.K) := CallR.imp call_len_seq fun xs H Q ⟨p, ys, e, h, q⟩ => ⟨p, ys, e, .inr h, q⟩
theorem call_intI : CallR X (.type "int") rIntI := CallR.imp call_int1 fun xs H Q ⟨i, e, q⟩ => .inl ⟨i, e, q⟩
end
/-- an item of a list that stands in H by itself -/
def rIxH : R2 := fun x y H Q => ∃ p xs i v, x = .ref p ∧ y = .int i ∧ H p = some (.lst xs) ∧ atI xs i = some v ∧ Q v H
theorem ixH {X : Cx} : IxR X rIxH := fun value slice pins s σ H x y v u Q I rx ry ⟨p, xs, i, z, e1, e2, h, e3, q⟩ hs => ix_list value slice pins s σ H x y v u Q I rx ry ⟨p, xs, i, z, e1, e2, SqL.of h, e3, q⟩ hs
theorem at0 {α : Type} {x : α} {xs : List α} : atI (x :: xs) 0 = some x := atI_nat (j := 0) rfl
theorem at1 {α : Type} {x y : α} {xs : List α} : atI (x :: y :: xs) 1 = some y := atI_nat (j := 1) rfl
theorem at2 {α : Type} {x y z : α} {xs : List α} : atI (x :: y :: z :: xs) 2 = some z := atI_nat (j := 2) rfl
theorem at3 {α : Type} {x y z u : α} {xs : List α} : atI (x :: y :: z :: u :: xs) 3 = some u := atI_nat (j := 3) rfl
theorem ixN40 : ixN 4 0 = some 0 := rfl
theorem ixN41 : ixN 4 1 = some 1 := rfl
theorem ixN42 : ixN 4 2 = some 2 := rfl
theorem ixN43 : ixN 4 3 = some 3 := rfl
theorem scal_ii (a b : Int) : scal (V.int a) (V.int b) = true := rfl
/-- a loop over a range whose break and end meet in Pe -/
theorem loop_rngC {lo : Int} {n : Nat} {g : TG} {tb : TS} {D : Ends} {σ : L2.St} {H : Hp} (Pe : L2.St → Hp → Prop) (Pv : Nat → L2.St → Hp → Prop) (h0 : Pv 0 σ H)
    (hs : ∀ (bk : L2.St → Hp → Prop), (∀ σ H, Pe σ H → bk σ H) → ∀ i σ H, i < n → Pv i σ H → g (.int (lo + i)) σ H fun σ2 H2 => tb { D with nx := Pv (i + 1), ct := Pv (i + 1), bk := bk } σ2 H2)
    (hd : ∀ σ H, Pv n σ H → Pe σ H) (he : ∀ σ H, Pe σ H → D.nx σ H) : Loop (Itr lo n) g tb D σ H := loop_rng Pv h0 (hs D.nx he) fun σ H p => he σ H (hd σ H p)
theorem loop_listC {K : PySem.W.Frag} {a : Addr} {xs : List V} {g : TG} {tb : TS} {D : Ends} {σ : L2.St} {H : Hp} (Pe : L2.St → Hp → Prop) (Pv : Nat → L2.St → Hp → Prop) (h0 : Pv 0 σ H) (hl : ∀ i σ H, i ≤ xs.length → Pv i σ H → SqL K H a xs)
    (hs : ∀ (bk : L2.St → Hp → Prop), (∀ σ H, Pe σ H → bk σ H) → ∀ i x σ H, xs[i]? = some x → Pv i σ H → g x σ H fun σ2 H2 => tb { D with nx := Pv (i + 1), ct := Pv (i + 1), bk := bk } σ2 H2)
    (hd : ∀ σ H, Pv xs.length σ H → Pe σ H) (he : ∀ σ H, Pe σ H → D.nx σ H) : Loop (Itl K a) g tb D σ H := loop_list Pv h0 hl (hs D.nx he) fun σ H p => he σ H (hd σ H p)
theorem ite_true_of {c : Bool} {A B : Prop} (hc : c = true) (h : A) : if c = true then A else B := by
  rw [if_pos hc]; exact h
theorem ite_false_of {c : Bool} {A B : Prop} (hc : c = false) (h : B) : if c = true then A else B := by
  rw [hc, if_neg Bool.false_ne_true]; exact h
end Rd
/-! A rule of our own: sorted(xs) of a list of tuples that read as alike data, of any length. -/
namespace OwnSort
open PySem PySem.Spec PyProof.Rows L2
abbrev Rw := Addr × PyData
def rSortedD (K : PySem.W.Frag) : List V → Hp → VK → Prop := fun vs H Q => ∃ (a : Addr) (bs : List Rw), vs = [.ref a] ∧ SqL K H a (bs.map fun b => V.ref b.1) ∧ (∀ b ∈ bs, Dp K H (.ref b.1) b.2) ∧ PySem.W.AllAlike (bs.map (·.2)) ∧ PySem.W.Sortable (bs.map (·.2)) ∧ (∀ b ∈ bs, b.2.depth ≤ 60) ∧ bs.length ≤ sizeLine ∧
  ∀ p, H p = none → Q (.ref p) (upd H p (.lst ((bs.mergeSort (PySem.W.dataLe false (·.2))).map fun b => V.ref b.1)))
theorem each_of {bs : List Rw} {us : List Value} (h : Vals (bs.map fun b => V.ref b.1) us) : PySem.W.EachIs (fun v (b : Rw) => v = Value.ref b.1) us bs := by
  induction bs generalizing us with
  | nil => cases h; exact .nil
  | cons b bs ih =>
    cases h with
    | cons r rs => exact .cons r (ih rs)
theorem vals_of {bs : List Rw} {us : List Value} (h : PySem.W.EachIs (fun v (b : Rw) => v = Value.ref b.1) us bs) : Vals (bs.map fun b => V.ref b.1) us := by
  induction h with
  | nil => exact .nil
  | cons r _ ih => exact .cons r ih
theorem each_reads {X : Cx} {pins : List (Addr × Obj)} {σ : L2.St} {H : Hp} {s : Shared} (I : Inv X pins σ H s) : ∀ {bs : List Rw} {us : List Value}, PySem.W.EachIs (fun v (b : Rw) => v = Value.ref b.1) us bs → (∀ b ∈ bs, Dp X.K H (.ref b.1) b.2) → PySem.W.EachIs (fun v (b : Rw) => ∃ as, Reads s.heap v b.2 as) us bs
  | _, _, .nil, _ => .nil
  | _, _, .cons (b := b) r rs, h => .cons (Dp.reads I b.2 (.ref b.1) _ (h b List.mem_cons_self) r) (each_reads I rs fun b hb => h b (List.mem_cons_of_mem _ hb))
theorem cr_sortedD {X : Cx} (hu : X.A.units + 64 < cLine) : CallR X (.builtin "sorted") (rSortedD X.K) := by
  intro pins s σ H vs us Q I r h
  obtain ⟨a, bs, rfl, hs, hd, hal, hk, hdep, hlen, q⟩ := h
  obtain ⟨its, rv, hl, hz⟩ := I.list hs
  obtain ⟨u, rfl, ru⟩ := vals1 r
  obtain rfl : u = Value.ref a := ru
  have e := each_of rv
  refine PySem.W.sorted_data (enc := fun b : Rw => b.2) hl.isList e (each_reads I e hd) hal hk hlen (fun b hb => ?_) fun out ho eo => ?_
  · have := hdep b hb
    omega
  · obtain ⟨c, hc⟩ := sortedAll_at s.heap its out.toArray
    refine ⟨.ref (s.heap.objs.size + 1), upd H (s.heap.objs.size + 1) (.lst ((bs.mergeSort (PySem.W.dataLe false (·.2))).map fun b => V.ref b.1)), I.laid (t' := s.toks) (fun _ _ => sortedAll_old) (Nat.le_succ _) ⟨?_, out, c, vals_of eo, hc⟩, rfl, q _ (I.hok.fresh (Nat.le_succ _))⟩
    rw [List.length_map, List.length_mergeSort]
    exact hlen
end OwnSort
/-! Rules of our own: itertools.combinations of a list. -/
namespace OwnComb
open PySem PySem.Spec PyProof.Rows L2
open Sem (wp)
abbrev T : String := "itertools.combinations"
theorem c_mro : mroOf (.type T) = pure [.type T, .type "object"] := by rw [mroOf_type]; kernel_rfl
theorem c_new : typeLookup (.type T) "__new__" = pure (some (.builtin "itertools.combinations.__new__")) := by rw [typeLookup_type, builtinLookup_eq_fast]; kernel_rfl
theorem c_init : Slot T "__init__" "object.__init__" :=
  .of (owner := "object") (n := "__init__") (by rw [typeLookup_type, builtinLookup_eq_fast]; kernel_rfl) (by decide +kernel) (by decide +kernel) (by decide +kernel)
    (by first | exact .inl (by decide +kernel) | exact .inr (by decide +kernel)) (by rw [isSubtype_type]; kernel_rfl)
theorem c_sub : isSubtype (.type T) (.type T) = pure true := by rw [isSubtype_type]; kernel_rfl
theorem c_called : TypeCalled T "itertools.combinations.__new__" "object.__init__" :=
  ⟨by decide +kernel, by decide +kernel, ⟨_, _, c_mro⟩, madeBy_type c_mro c_new (by decide +kernel), by decide +kernel, c_sub, c_init⟩
theorem c_tcall (a b : Value) : checkTypeCall T ⟨[a, b], []⟩ = pure () := by kernel_rfl
theorem c_ncall (a b : Value) : checkBuiltinCall "itertools.combinations.__new__" ⟨[.type T, a, b], []⟩ = pure () := by kernel_rfl
theorem c_enew : entryFor table "itertools.combinations.__new__" = some Builtin.«itertools.combinations.__new__» := entryFor_of_tree (by kernel_rfl)
theorem c_siter : Slot T "__iter__" "itertools.combinations.__iter__" :=
  .of (owner := T) (n := "__iter__") (by rw [typeLookup_type, builtinLookup_eq_fast]; kernel_rfl) (by decide +kernel) (by decide +kernel) (by decide +kernel)
    (by first | exact .inl (by decide +kernel) | exact .inr (by decide +kernel)) c_sub
theorem c_snext : Slot T "__next__" "itertools.combinations.__next__" :=
  .of (owner := T) (n := "__next__") (by rw [typeLookup_type, builtinLookup_eq_fast]; kernel_rfl) (by decide +kernel) (by decide +kernel) (by decide +kernel)
    (by first | exact .inl (by decide +kernel) | exact .inr (by decide +kernel)) c_sub
theorem c_eiter : entryFor table "itertools.combinations.__iter__" = some Builtin.«dict_keyiterator.__iter__» :=
  entryFor_alias (id' := "dict_keyiterator.__iter__") (by kernel_rfl) (by first | rfl | decide +kernel | (unfold String.splitOn; simp +decide [String.splitOnAux])) (by decide +kernel) (by kernel_rfl)
theorem c_enext : entryFor table "itertools.combinations.__next__" = some Builtin.«itertools.combinations.__next__» := entryFor_of_tree (by kernel_rfl)
theorem c_owner : Manifest.owners.lookup (String.ofList ['s', 'n', 'o', 'i', 't', 'a', 'n', 'i', 'b', 'm', 'o', 'c', '.', 's', 'l', 'o', 'o', 't', 'r', 'e', 't', 'i'].reverse) = some Manifest.sig_itertools_combinations := by kernel_rfl
theorem c_noDict : typeHasDict (.type T) = false := by decide +kernel
theorem c_aiter (a : Value) : argsOk "itertools.combinations.__iter__" ⟨[a], []⟩ := by
  unfold argsOk; rw [signature?_of (id := "itertools.combinations.__iter__") (n := ['_', '_', 'r', 'e', 't', 'i', '_', '_']) (o := ['s', 'n', 'o', 'i', 't', 'a', 'n', 'i', 'b', 'm', 'o', 'c', '.', 's', 'l', 'o', 'o', 't', 'r', 'e', 't', 'i']) (by kernel_rfl) c_owner]; kernel_rfl
theorem c_anext (a : Value) : argsOk "itertools.combinations.__next__" ⟨[a], []⟩ := by
  unfold argsOk; rw [signature?_of (id := "itertools.combinations.__next__") (n := ['_', '_', 't', 'x', 'e', 'n', '_', '_']) (o := ['s', 'n', 'o', 'i', 't', 'a', 'n', 'i', 'b', 'm', 'o', 'c', '.', 's', 'l', 'o', 'o', 't', 'r', 'e', 't', 'i']) (by kernel_rfl) c_owner]; kernel_rfl
end OwnComb
/-! Rules of our own: itertools.combinations of a list. -/
namespace OwnComb
open PySem PySem.Spec PyProof.Rows L2
open Sem (wp)
/-- a combinations object: its pool, how far it is, what it gave last, its places -/
def IsComb (h : Heap) (it pool : Addr) (st : Int) (last : Value) (idx : List Nat) : Prop := h.get? it = some { cls := .type T, dict := none, data := .fields ([.ref pool, rawInt st, last] ++ idx.map fun (i : Nat) => rawInt i).toArray, slots := #[] }
section
variable {prog : Program} {w : World} {A : Around} {E : Value → Shared → Prop} {s : Shared}
theorem k_class {a b : Value} {Q : Value × List Value → Shared → Prop} (h : Q (.type T, [a, b]) s) : wpAny (model prog w) A (Builtin.Itertools.itClassAndRest "combinations" ⟨[.type T, a, b], []⟩) Q E s := by
  have hsub := c_sub
  have e : ("itertools." ++ "combinations" : String) = T := by decide +kernel
  unfold Builtin.Itertools.itClassAndRest
  rw [e]
  repeat (first | wp_step | exact h)
theorem k_named {a b : Value} {Q : List (Option Value) → Shared → Prop} (h : Q [some a, some b] s) : wpAny (model prog w) A (Builtin.Itertools.itBindNamed "combinations" ["iterable", "r"] 2 2 [a, b] []) Q E s := by
  unfold Builtin.Itertools.itBindNamed
  repeat (first | wp_step | exact h | simp only [List.head?_cons, Option.some_or, List.getElem?_cons_succ, List.getElem?_cons_zero, List.length_cons, List.length_nil, List.forIn_nil])
theorem k_ssize {r : Nat} {t : Tok} {Q : Int → Shared → Prop} (hr : r < 1000) (h : Q r s) : wpAny (model prog w) A (Builtin.Itertools.itSsizeArg (.int r t)) Q E s := by
  have hn : ¬ ((!(decide (-(2 ^ 63 : Int) ≤ (r : Int)) && decide ((r : Int) < (2 ^ 63 : Int)))) = true) := by
    have a : decide (-(2 ^ 63 : Int) ≤ (r : Int)) = true := decide_eq_true (by omega)
    have b : decide ((r : Int) < (2 ^ 63 : Int)) = true := decide_eq_true (by omega)
    rw [a, b]
    decide
  have a1 : (decide ((r : Int) < -2 ^ 63) || decide ((r : Int) ≥ 2 ^ 63)) = false := by
    rw [decide_eq_false (by omega), decide_eq_false (by omega)]
    rfl
  unfold Builtin.Itertools.itSsizeArg
  refine wpAny_bind ?_
  repeat wp_step
  rw [a1]
  exact wpAny_ite_false (by decide) (wpAny_pure h)
end
theorem comb_new (l : Addr) (vs : List Value) (r : Nat) (t : Tok) (hr : r < 1000) (hv : vs.length < 1000) :
    Meets (Builtin.«itertools.combinations.__new__» ⟨[.type T, .ref l, .int r t], []⟩)
      (fun _ R s => s.heap.IsList l vs.toArray ∧ ∀ h' it pool, (∀ b o, s.heap.get? b = some o → h'.get? b = some o) → s.heap.objs.size ≤ it → s.heap.objs.size ≤ pool → pool ≠ it → h'.IsTuple pool vs.toArray → IsComb h' it pool (if r > vs.length then 2 else 0) .none (List.range r) → R (.ok (.ret (.ref it))) { s with heap := h' }) :=
  .of_wp fun prog w A R s ⟨hL, h⟩ => by
    obtain ⟨hp, g, dd, tk, os⟩ := s
    have hsub := c_sub
    have hd := c_noDict
    unfold Builtin.«itertools.combinations.__new__»
    refine wpAny_bind ?_
    show wpAny _ _ (_ >>= _) _ _ _
    refine wpAny_bind (k_class ?_)
    show wpAny _ _ (_ >>= _) _ _ _
    refine wpAny_bind (k_named ?_)
    show wpAny _ _ (_ >>= _) _ _ _
    refine wpAny_bind (k_ssize hr ?_)
    refine wpAny_bind (collect_list (s := ⟨hp, g, dd, tk, os⟩) hL ?_ (Nat.le_trans (Nat.le_of_lt hv) (by decide)))
    dsimp only
    refine wpAny_ite_false (by simp) ?_
    refine wpAny_ite_false ?_ ?_
    · unfold Builtin.Itertools.itTooMany
      simp
      omega
    refine wpAny_bind (wpAny_newTuple ?_ (Nat.le_trans (Nat.le_of_lt hv) (by decide)))
    refine wpAny_pure ?_
    have sz : ((hp.push (seqObj "list" #[] 0)).update hp.objs.size (Obj.mapSeq fun x => x ++ vs.toArray)).objs.size = hp.objs.size + 1 := by
      rw [Heap.size_update, size_push']
    have k0 : ∀ b o, hp.get? b = some o → ((hp.push (seqObj "list" #[] 0)).update hp.objs.size (Obj.mapSeq fun x => x ++ vs.toArray)).get? b = some o := fun b o e => by
      rw [Heap.get?_update_ne _ _ _ _ (Nat.ne_of_lt (Heap.lt_size e))]
      exact Heap.get?_push_of_some _ e
    dsimp only
    generalize (hp.push (seqObj "list" #[] 0)).update hp.objs.size (Obj.mapSeq fun x => x ++ vs.toArray) = h1 at sz k0
    refine wpAny_bind ?_
    unfold Builtin.Itertools.itNewRecord
    rw [hd]
    refine wpAny_ite_true rfl ?_
    refine wpAny_newObj_type ?_ ?_
    · refine wpAny_pure ⟨_, rfl, ?_⟩
      have e1 : ((r : Nat) : Int).toNat = r := Int.toNat_natCast r
      rw [e1]
      have szt : (h1.push { cls := Value.type "tuple", data := Data.seq vs.toArray }).objs.size = hp.objs.size + 2 := by
        rw [Heap.size_push, sz]
      have pt : (h1.push { cls := Value.type "tuple", data := Data.seq vs.toArray }).get? h1.objs.size = some { cls := Value.type "tuple", data := Data.seq vs.toArray } := Heap.get?_push_size _ rfl
      refine h _ _ h1.objs.size (fun b o e => Heap.get?_push_of_some _ (Heap.get?_push_of_some _ (k0 b o e))) ?_ ?_ ?_ ?_ ?_
      · show hp.objs.size ≤ (h1.push _).objs.size
        rw [szt]
        exact Nat.le_add_right _ _
      · show hp.objs.size ≤ h1.objs.size
        rw [sz]
        exact Nat.le_succ _
      · show h1.objs.size ≠ (h1.push _).objs.size
        rw [szt, sz]
        exact Nat.ne_of_lt (Nat.lt_succ_self _)
      · exact ⟨_, Heap.get?_push_of_some _ pt, rfl, _, rfl⟩
      · exact Heap.get?_push_size _ rfl
    · show _ ≤ _
      rw [List.size_toArray, List.length_append, List.length_map, List.length_range, Int.toNat_natCast]
      exact Nat.le_trans (show 3 + r ≤ 1003 by omega) (by decide)
section
variable {prog : Program} {w : World} {A : Around} {E : Value → Shared → Prop} {s : Shared}
theorem call_comb {l : Addr} {vs : List Value} {r : Nat} {t : Tok} {Q : Value → Shared → Prop} (hL : s.heap.IsList l vs.toArray) (hr : r < 1000) (hv : vs.length < 1000)
    (h : ∀ h' it pool, (∀ b o, s.heap.get? b = some o → h'.get? b = some o) → s.heap.objs.size ≤ it → s.heap.objs.size ≤ pool → pool ≠ it → h'.IsTuple pool vs.toArray → IsComb h' it pool (if r > vs.length then 2 else 0) .none (List.range r) → Q (.ref it) { s with heap := h' }) :
    wpAny (model prog w) A (call (.type T) [.ref l, .int r t]) Q E s := by
  refine callType_new c_called (by decide +kernel) (c_tcall _ _) (c_ncall _ _) (fun obj => F.args_object_init_3 obj _ _) c_enew (comb_new l vs r t hr hv) ?_
  refine ⟨hL, fun h' it pool k a b c d e => ?_⟩
  show _ ∧ _
  exact ⟨⟨_, e, rfl⟩, h h' it pool k a b c d e⟩
theorem iter_comb {it pool : Addr} {st : Int} {last : Value} {idx : List Nat} {Q : Value → Shared → Prop} (hit : IsComb s.heap it pool st last idx) (h : Q (.ref it) s) : wpAny (model prog w) A (pyIter (.ref it)) Q E s := by
  have hT : s.TypeIs (.ref it) T := ⟨_, hit, rfl⟩
  refine wpAny_pyIter_slot hT c_siter (wpAny_call_entry c_siter hT c_eiter ?_ (c_aiter _))
  show wpAny _ _ (ret (.ref it)) _ _ s
  exact wpAny_pure ⟨_, rfl, T, _, hT, c_snext.lookup, h⟩
/-- the next places -/
def nxt (n : Nat) (js : List Nat) : Option (List Nat) :=
  match (List.range js.length).reverse.find? fun k => js.getD k 0 != k + n - js.length with
  | none => none
  | some k => some (js.take k ++ (List.range (js.length - k)).map (js.getD k 0 + 1 + ·))
theorem size3 (a b c : Value) (idx : List Nat) : ([a, b, c] ++ idx.map fun (i : Nat) => rawInt i).toArray.size = 3 + idx.length := by
  rw [List.size_toArray, List.length_append, List.length_map]
  rfl
theorem IsComb.set1 {h : Heap} {it pool : Addr} {st x : Int} {last : Value} {idx : List Nat} (hit : IsComb h it pool st last idx) : IsComb (h.update it (Obj.mapFields fun v => v.setIfInBounds 1 (rawInt x))) it pool x last idx := by
  refine (Heap.get?_update_self _ hit rfl).trans ?_
  simp [Obj.mapFields]
theorem IsComb.set2 {h : Heap} {it pool : Addr} {st : Int} {last x : Value} {idx : List Nat} (hit : IsComb h it pool st last idx) : IsComb (h.update it (Obj.mapFields fun v => v.setIfInBounds 2 x)) it pool st x idx := by
  refine (Heap.get?_update_self _ hit rfl).trans ?_
  simp [Obj.mapFields]
theorem IsComb.setN {h : Heap} {it pool : Addr} {st : Int} {last : Value} {idx js : List Nat} (hit : IsComb h it pool st last idx) : IsComb (h.update it (Obj.mapFields fun v => v.extract 0 3 ++ (js.map fun (n : Nat) => rawInt n).toArray)) it pool st last js := by
  refine (Heap.get?_update_self _ hit rfl).trans ?_
  simp [Obj.mapFields]
theorem k_nums {it pool : Addr} {st : Int} {last : Value} {idx : List Nat} {Q : List Nat → Shared → Prop} (hit : IsComb s.heap it pool st last idx) (h : Q idx s) : wpAny (model prog w) A (Builtin.Itertools.itNumbersFrom (.ref it) 3) Q E s := by
  unfold Builtin.Itertools.itNumbersFrom
  refine wpAny_bind (wpAny_load hit ?_)
  refine wpAny_pure ?_
  have e : ∀ l : List Nat, (l.map fun (i : Nat) => rawInt i).map (fun v => match v with | .int n _ => n.toNat | _ => 0) = l := fun l => by
    rw [List.map_map]
    exact (List.map_congr_left (g := id) fun x _ => Int.toNat_natCast x).trans (List.map_id l)
  have e2 := e idx
  show Q (((([Value.ref pool, rawInt st, last] ++ idx.map fun (i : Nat) => rawInt i).toArray.toList.drop 3).map _)) s
  rw [show (([Value.ref pool, rawInt st, last] ++ idx.map fun (i : Nat) => rawInt i).toArray.toList.drop 3) = idx.map fun (i : Nat) => rawInt i from rfl]
  exact e2.symm ▸ h
theorem k_int {it pool : Addr} {st : Int} {last : Value} {idx : List Nat} {Q : Int → Shared → Prop} (hit : IsComb s.heap it pool st last idx) (h : Q st s) : wpAny (model prog w) A (Builtin.Itertools.itIntField (.ref it) 1) Q E s := by
  unfold Builtin.Itertools.itIntField
  exact wpAny_bind (wpAny_field hit rfl (x := rawInt st) rfl (wpAny_pure h))
theorem k_pool {pool : Addr} {items : Array Value} {Q : Array Value → Shared → Prop} (hp : s.heap.IsTuple pool items) (h : Q items s) : wpAny (model prog w) A (Builtin.Itertools.itPoolItems (.ref pool)) Q E s := by
  obtain ⟨op, hop, _, np, hdp⟩ := hp
  unfold Builtin.Itertools.itPoolItems
  exact wpAny_bind (wpAny_seqItems hop hdp (wpAny_pure h))
theorem k_out {it pool : Addr} {st : Int} {last : Value} {idx : List Nat} {items : List Value} {Q : PySem.Fin → Shared → Prop} (hit : IsComb s.heap it pool st last idx) (hl : items.length < 1000)
    (hQ : ∀ h', IsComb h' it pool st (.ref s.heap.objs.size) idx → (∀ b o, b ≠ it → s.heap.get? b = some o → h'.get? b = some o) → h'.IsTuple s.heap.objs.size items.toArray → Q (.done (.ret (.ref s.heap.objs.size))) { s with heap := h' }) :
    wpAny (model prog w) A (newTuple items) (fun x s' => wpAny (model prog w) A (do
      let b ← field (.ref it) 2
      setField (.ref it) 2 x
      letGo [b] [x]
      ret x) Q E s') E s := by
  refine wpAny_newTuple ?_ (Nat.le_trans (Nat.le_of_lt hl) (by decide))
  have hit1 : IsComb (s.heap.push { cls := .type "tuple", data := .seq items.toArray }) it pool st last idx := Heap.get?_push_of_some _ hit
  have ne : s.heap.objs.size ≠ it := Ne.symm (Nat.ne_of_lt (Heap.lt_size hit))
  have pt : (s.heap.push { cls := .type "tuple", data := .seq items.toArray }).get? s.heap.objs.size = some { cls := .type "tuple", data := .seq items.toArray } := Heap.get?_push_size _ rfl
  have k1 : ∀ b o, s.heap.get? b = some o → (s.heap.push { cls := .type "tuple", data := .seq items.toArray }).get? b = some o := fun b o e => Heap.get?_push_of_some _ e
  generalize s.heap.push { cls := .type "tuple", data := .seq items.toArray } = h1 at hit1 pt k1
  refine wpAny_bind (wpAny_field hit1 rfl (x := last) rfl ?_)
  refine wpAny_bind (wpAny_setField hit1 rfl (by rw [size3]; omega) ?_)
  refine wpAny_bind (wpAny_letGo ?_)
  exact wpAny_pure (hQ _ hit1.set2 (fun b o hb e => (Heap.get?_update_ne _ _ _ _ hb).trans (k1 b o e)) ⟨_, (Heap.get?_update_ne _ _ _ _ ne).trans pt, rfl, _, rfl⟩)
theorem comb_first {it pool : Addr} {vs : List Value} {last : Value} {idx : List Nat} {Q : Option Value → Shared → Prop} (hit : IsComb s.heap it pool 0 last idx) (hp : s.heap.IsTuple pool vs.toArray) (hne : pool ≠ it) (hl : idx.length < 1000)
    (hQ : ∀ h', IsComb h' it pool 1 (.ref s.heap.objs.size) idx → (∀ b o, b ≠ it → s.heap.get? b = some o → h'.get? b = some o) → h'.IsTuple s.heap.objs.size (idx.map fun i => vs.toArray.getD i .none).toArray → Q (some (.ref s.heap.objs.size)) { s with heap := h' }) :
    wpAny (model prog w) A (pyNext (.ref it)) Q E s := by
  have hT : s.TypeIs (.ref it) T := ⟨_, hit, rfl⟩
  unfold pyNext
  refine wpAny_bind (wpAny_attempt (wpAny_callSpecial?_slot (name := Str.ofString "__next__") hT c_snext (wpAny_call_entry c_snext hT c_enext ?_ (c_anext _))))
  show wpAny _ _ (field (.ref it) 0 >>= _) _ _ s
  refine wpAny_bind (wpAny_field hit rfl (x := .ref pool) rfl ?_)
  show wpAny _ _ (Builtin.Itertools.itNumbersFrom (.ref it) 3 >>= _) _ _ s
  refine wpAny_bind (k_nums hit ?_)
  show wpAny _ _ (Builtin.Itertools.itIntField (.ref it) 1 >>= _) _ _ s
  refine wpAny_bind (k_int hit ?_)
  show wpAny _ _ (setField (.ref it) 1 (rawInt 1) >>= _) _ _ s
  refine wpAny_bind (wpAny_setField hit rfl (by rw [size3]; omega) ?_)
  have hit1 := hit.set1 (x := 1)
  have k1 : ∀ b o, b ≠ it → s.heap.get? b = some o → (s.heap.update it (Obj.mapFields fun v => v.setIfInBounds 1 (rawInt 1))).get? b = some o := fun b o hb e => (Heap.get?_update_ne _ _ _ _ hb).trans e
  have sz1 : (s.heap.update it (Obj.mapFields fun v => v.setIfInBounds 1 (rawInt 1))).objs.size = s.heap.objs.size := Heap.size_update ..
  generalize s.heap.update it (Obj.mapFields fun v => v.setIfInBounds 1 (rawInt 1)) = h1 at hit1 k1 sz1
  show wpAny _ _ (_ >>= _) _ _ _
  refine wpAny_bind ?_
  show wpAny _ _ (Builtin.Itertools.itPoolItems (.ref pool) >>= _) _ _ _
  refine wpAny_bind (k_pool (items := vs.toArray) ?_ ?_)
  · obtain ⟨op, hop, c, d⟩ := hp
    exact ⟨op, k1 _ _ hne hop, c, d⟩
  refine k_out (s := { s with heap := h1 }) hit1 (by rw [List.length_map]; exact hl) fun h' a b c => ⟨_, rfl, wpAny_pure ?_⟩
  have e : ({ s with heap := h1 } : Shared).heap.objs.size = s.heap.objs.size := sz1
  rw [e] at a c ⊢
  exact hQ h' a (fun b' o hb e => b b' o hb (k1 b' o hb e)) c
theorem comb_more {it pool : Addr} {vs : List Value} {last : Value} {idx js : List Nat} {Q : Option Value → Shared → Prop} (hit : IsComb s.heap it pool 1 last idx) (hp : s.heap.IsTuple pool vs.toArray) (hne : pool ≠ it) (hn : nxt vs.length idx = some js) (hl : js.length < 1000)
    (hQ : ∀ h', IsComb h' it pool 1 (.ref s.heap.objs.size) js → (∀ b o, b ≠ it → s.heap.get? b = some o → h'.get? b = some o) → h'.IsTuple s.heap.objs.size (js.map fun i => vs.toArray.getD i .none).toArray → Q (some (.ref s.heap.objs.size)) { s with heap := h' }) :
    wpAny (model prog w) A (pyNext (.ref it)) Q E s := by
  have hT : s.TypeIs (.ref it) T := ⟨_, hit, rfl⟩
  unfold pyNext
  refine wpAny_bind (wpAny_attempt (wpAny_callSpecial?_slot (name := Str.ofString "__next__") hT c_snext (wpAny_call_entry c_snext hT c_enext ?_ (c_anext _))))
  show wpAny _ _ (field (.ref it) 0 >>= _) _ _ s
  refine wpAny_bind (wpAny_field hit rfl (x := .ref pool) rfl ?_)
  show wpAny _ _ (Builtin.Itertools.itNumbersFrom (.ref it) 3 >>= _) _ _ s
  refine wpAny_bind (k_nums hit ?_)
  show wpAny _ _ (Builtin.Itertools.itIntField (.ref it) 1 >>= _) _ _ s
  refine wpAny_bind (k_int hit ?_)
  show wpAny _ _ (Builtin.Itertools.itPoolItems (.ref pool) >>= _) _ _ s
  refine wpAny_bind (k_pool hp ?_)
  have hn' : nxt vs.toArray.size idx = some js := by rw [List.size_toArray]; exact hn
  split
  case h_2 heq =>
    have z : nxt vs.toArray.size idx = none := heq
    rw [hn'] at z
    cases z
  rename_i next heq
  have z : nxt vs.toArray.size idx = some next := heq
  rw [hn'] at z
  cases z
  show wpAny _ _ (Builtin.Itertools.itSetNumbersFrom (.ref it) 3 js >>= _) _ _ s
  refine wpAny_bind ?_
  unfold Builtin.Itertools.itSetNumbersFrom
  refine wpAny_updateFields hit rfl ?_ ?_
  · have hit1 := hit.setN (js := js)
    have k1 : ∀ b o, b ≠ it → s.heap.get? b = some o → (s.heap.update it (Obj.mapFields fun v => v.extract 0 3 ++ (js.map fun (n : Nat) => rawInt n).toArray)).get? b = some o := fun b o hb e => (Heap.get?_update_ne _ _ _ _ hb).trans e
    have sz1 : (s.heap.update it (Obj.mapFields fun v => v.extract 0 3 ++ (js.map fun (n : Nat) => rawInt n).toArray)).objs.size = s.heap.objs.size := Heap.size_update ..
    generalize s.heap.update it (Obj.mapFields fun v => v.extract 0 3 ++ (js.map fun (n : Nat) => rawInt n).toArray) = h1 at hit1 k1 sz1
    show wpAny _ _ (_ >>= _) _ _ _
    refine wpAny_bind ?_
    show wpAny _ _ (Builtin.Itertools.itPoolItems (.ref pool) >>= _) _ _ _
    refine wpAny_bind (k_pool (items := vs.toArray) ?_ ?_)
    · obtain ⟨op, hop, c, d⟩ := hp
      exact ⟨op, k1 _ _ hne hop, c, d⟩
    refine k_out (s := { s with heap := h1 }) hit1 (by rw [List.length_map]; exact hl) fun h' a b c => ⟨_, rfl, wpAny_pure ?_⟩
    have e : ({ s with heap := h1 } : Shared).heap.objs.size = s.heap.objs.size := sz1
    rw [e] at a c ⊢
    exact hQ h' a (fun b' o hb e => b b' o hb (k1 b' o hb e)) c
  · have e1 : (js.map fun (n : Nat) => rawInt n).toArray.size = js.length := by rw [List.size_toArray, List.length_map]
    have e2 : (([Value.ref pool, rawInt 1, last] ++ idx.map fun (i : Nat) => rawInt i).toArray.extract 0 3).size ≤ 3 := by rw [Array.size_extract]; omega
    rw [Array.size_append, e1]
    exact Nat.le_trans (show _ + js.length ≤ 1003 by omega) (by decide)
/-- the end's exception within pyNext -/
theorem k_stop {it : Addr} {F : PySem.Fin → Shared → Prop} {G : Value → Shared → Prop} (hh : A.handled = none)
    (hQ : ∀ e h', CpRep.StopE e h' → Heap.ExtBut it s.heap h' → G e { s with heap := h' }) : wpAny (model prog w) A (Builtin.Itertools.itStop : Sem PySem.Fin) F G s := by
  unfold Builtin.Itertools.itStop
  refine wpAny_bind ?_
  simp only [newExc, newTuple]
  refine wpAny_bind (wpAny_newObj_type ?_ (by size_fits))
  refine wpAny_bind (m := firstArgMember _ _) (wpAny_of_eq (a := Value.none) (by first | rfl | (simp only [firstArgMember]; rfl)) ?_)
  refine wpAny_newObj_type ?_ (by size_fits)
  simp only [raiseNew]
  refine wpAny_bind (wpAny_handled ?_)
  rw [hh]
  refine wpAny_bind (wpAny_pure (wpAny_throw ?_))
  exact hQ _ _ ⟨_, _, _, rfl, Heap.get?_push_size _ rfl, rfl, rfl, rfl⟩ (((Heap.ExtBut.refl it s.heap).push _).push _)
theorem stop_is {e : Value} (h : CpRep.StopE e s.heap) {Q : Option Value → Shared → Prop} (hQ : Q none s) : wpAny (model prog w) A (do if ← isInstance e (.type "StopIteration") then pure none else throw e : Sem (Option Value)) Q E s := by
  obtain ⟨a, o, vs, rfl, ho, hc, _⟩ := h
  refine wpAny_bind (wpAny_isInstance (T := "StopIteration") (b := true) ⟨_, ho, hc⟩ isSubtype_stop ?_)
  exact wpAny_pure hQ
theorem comb_done {it pool : Addr} {vs : List Value} {last : Value} {idx : List Nat} {Q : Option Value → Shared → Prop} (hh : A.handled = none) (hit : IsComb s.heap it pool 1 last idx) (hp : s.heap.IsTuple pool vs.toArray) (hn : nxt vs.length idx = none)
    (hQ : ∀ h', Heap.ExtBut it s.heap h' → Q none { s with heap := h' }) : wpAny (model prog w) A (pyNext (.ref it)) Q E s := by
  have hT : s.TypeIs (.ref it) T := ⟨_, hit, rfl⟩
  unfold pyNext
  refine wpAny_bind (wpAny_attempt (wpAny_callSpecial?_slot (name := Str.ofString "__next__") hT c_snext (wpAny_call_entry c_snext hT c_enext ?_ (c_anext _))))
  show wpAny _ _ (field (.ref it) 0 >>= _) _ _ s
  refine wpAny_bind (wpAny_field hit rfl (x := .ref pool) rfl ?_)
  show wpAny _ _ (Builtin.Itertools.itNumbersFrom (.ref it) 3 >>= _) _ _ s
  refine wpAny_bind (k_nums hit ?_)
  show wpAny _ _ (Builtin.Itertools.itIntField (.ref it) 1 >>= _) _ _ s
  refine wpAny_bind (k_int hit ?_)
  show wpAny _ _ (Builtin.Itertools.itPoolItems (.ref pool) >>= _) _ _ s
  refine wpAny_bind (k_pool hp ?_)
  have hn' : nxt vs.toArray.size idx = none := by rw [List.size_toArray]; exact hn
  split
  case h_1 heq =>
    have z : nxt vs.toArray.size idx = some _ := heq
    rw [hn'] at z
    cases z
  show wpAny _ _ (setField (.ref it) 1 (rawInt 2) >>= _) _ _ s
  refine wpAny_bind (wpAny_setField hit rfl (by rw [size3]; omega) ?_)
  refine k_stop (it := it) hh fun e h' st eb => ?_
  exact stop_is (s := { s with heap := h' }) st (hQ h' ((Heap.SameBut.extBut (Heap.SameBut.update ..)).trans eb))
theorem comb_none {it pool : Addr} {last : Value} {idx : List Nat} {Q : Option Value → Shared → Prop} (hh : A.handled = none) (hit : IsComb s.heap it pool 2 last idx)
    (hQ : ∀ h', Heap.ExtBut it s.heap h' → Q none { s with heap := h' }) : wpAny (model prog w) A (pyNext (.ref it)) Q E s := by
  have hT : s.TypeIs (.ref it) T := ⟨_, hit, rfl⟩
  unfold pyNext
  refine wpAny_bind (wpAny_attempt (wpAny_callSpecial?_slot (name := Str.ofString "__next__") hT c_snext (wpAny_call_entry c_snext hT c_enext ?_ (c_anext _))))
  show wpAny _ _ (field (.ref it) 0 >>= _) _ _ s
  refine wpAny_bind (wpAny_field hit rfl (x := .ref pool) rfl ?_)
  show wpAny _ _ (Builtin.Itertools.itNumbersFrom (.ref it) 3 >>= _) _ _ s
  refine wpAny_bind (k_nums hit ?_)
  show wpAny _ _ (Builtin.Itertools.itIntField (.ref it) 1 >>= _) _ _ s
  refine wpAny_bind (k_int hit ?_)
  refine wpAny_bind (wpAny_rule ?_)
  refine k_stop (it := it) hh fun e h' st eb => ?_
  exact stop_is (s := { s with heap := h' }) st (hQ h' eb)
end
end OwnComb
namespace OwnComb
open PySem PySem.Spec PyProof.Rows L2
/-- the places in their order: begin, go on, end -/
structure Chain (n r : Nat) (L : List (List Nat)) : Prop where
  some : ¬ r > n → L[0]? = some (List.range r)
  none : r > n → L = []
  step : ∀ i js, L[i]? = Option.some js → nxt n js = L[i + 1]?
  small : ∀ js ∈ L, js.length < 1000
  inn : ∀ js ∈ L, ∀ j ∈ js, j < n
/-- the parts of what stood in the pool, each a new tuple -/
def IteC (xs : List V) (L : List (List Nat)) : It :=
  ⟨fun i _ => i < L.length, fun i H v H' => ∃ T js, L[i]? = some js ∧ v = .ref T ∧ H T = none ∧ H' = upd H T (.tup (js.map fun j => xs.getD j .non)), fun i _ => i = L.length⟩
theorem vals_getD {xs : List V} {us : List Value} (h : Vals xs us) {j : Nat} (hj : j < xs.length) : RelV (xs.getD j .non) (us.toArray.getD j .none) := by
  have e := h.length
  obtain ⟨u, hu, ru⟩ := h.get (List.getElem?_eq_getElem hj)
  rw [List.getD_eq_getElem?_getD, List.getElem?_eq_getElem hj]
  have z : us.toArray.getD j .none = u := by
    rw [Array.getD_eq_getD_getElem?, List.getElem?_toArray, hu]
    rfl
  rw [z]
  exact ru
theorem vals_pick {xs : List V} {us : List Value} (h : Vals xs us) : ∀ {js : List Nat}, (∀ j ∈ js, j < xs.length) → Vals (js.map fun j => xs.getD j .non) (js.map fun j => us.toArray.getD j .none)
  | [], _ => .nil
  | j :: js, hj => .cons (vals_getD h (hj j List.mem_cons_self)) (vals_pick h fun k hk => hj k (List.mem_cons_of_mem _ hk))
def CSt (it pool : Addr) (us : List Value) (L : List (List Nat)) (i : Nat) (h : Heap) : Prop :=
  h.IsTuple pool us.toArray ∧ pool ≠ it ∧ ∃ st last idx, IsComb h it pool st last idx ∧ ((i = 0 ∧ ((st = 0 ∧ L[0]? = some idx) ∨ (st = 2 ∧ L = []))) ∨ (0 < i ∧ st = 1 ∧ L[i - 1]? = some idx))
theorem turn_comb {P : Program} {w : World} {K : PySem.W.Frag} {tg : Expr} {r : Nat} {xs : List V} {us : List Value} {L : List (List Nat)} (it pool : Addr) (hv : Vals xs us) (C : Chain xs.length r L) : Turn P w K tg (IteC xs L) [it, pool] it (CSt it pool us L) where
  mem := List.mem_cons_self
  obj := fun i h ⟨⟨o, ho, hc, n, hd⟩, _, st, last, idx, hi, _⟩ b hb => by
    rcases List.mem_cons.mp hb with rfl | hb
    · exact ⟨_, hi, fun v q => nomatch q⟩
    · rw [List.mem_singleton.mp hb]
      exact ⟨o, ho, fun v q => by rw [hd] at q; cases q⟩
  keep := fun i h h' ⟨⟨o, ho, hc⟩, ne, st, last, idx, hi, z⟩ k => ⟨⟨o, k pool (by simp) _ ho, hc⟩, ne, st, last, idx, k it (by simp) _ hi, z⟩
  item := by
    intro X hP hw hK hc i pins s σ H E I hf st hg
    subst hP hw hK
    obtain ⟨hp, hne, st, last, idx, hit, hcase⟩ := st
    have hl : i < L.length := hg
    have lens : xs.length = us.length := hv.length
    have old1 : it < s.heap.objs.size := Heap.lt_size hit
    have old2 : pool < s.heap.objs.size := let ⟨_, q, _⟩ := hp; Heap.lt_size q
    -- what a turn leaves
    have fin : ∀ (js : List Nat) (h' : Heap) (lst : Value), L[i]? = some js → IsComb h' it pool 1 lst js → (∀ b o, b ≠ it → s.heap.get? b = some o → h'.get? b = some o) → h'.IsTuple s.heap.objs.size (js.map fun i => us.toArray.getD i .none).toArray →
        ∃ u, some (Value.ref s.heap.objs.size) = some u ∧ wpAny (model X.prog X.w) X.A (letOwnedTupleGo tg (.ref it) u) (fun _ s2 => ∃ x H', Inv X pins σ H' s2 ∧ RelV x u ∧ (IteC xs L).yld i H x H' ∧ CSt it pool us L (i + 1) s2.heap ∧ ∀ b ∈ [it, pool], H' b = none) E { s with heap := h' } := fun js h' lst hj hi' kk ht => by
      have mem := List.mem_of_getElem? hj
      obtain ⟨ot, hot, hct, nt, hdt⟩ := ht
      have new : ObjOk X.prog X.w (upd H s.heap.objs.size (.tup (js.map fun j => xs.getD j .non))) h' s.heap.objs.size (.tup (js.map fun j => xs.getD j .non)) :=
        ⟨by rw [List.length_map]; exact Nat.le_trans (Nat.le_of_lt (C.small js mem)) (by decide), _, vals_pick hv (C.inn js mem), ⟨ot, hot, hct, nt, hdt⟩⟩
      have I1 : Inv X pins σ (upd H s.heap.objs.size (.tup (js.map fun j => xs.getD j .non))) { s with heap := h' } :=
        I.turnedNew (t' := s.toks) (ch := [it, pool]) (fun b ob hb q => kk b ob (fun z => hb (by simp [z])) q) hf (Nat.le_refl _) new
      obtain ⟨op, hop, cp⟩ := hp
      refine ⟨_, rfl, go_of (s := { s with heap := h' }) hi' rfl rfl (by decide) ⟨.ref s.heap.objs.size, _, I1, rfl, ⟨_, js, hj, rfl, I.hok.fresh (Nat.le_refl _), rfl⟩, ⟨⟨op, kk _ _ hne hop, cp⟩, hne, 1, lst, js, hi', .inr ⟨Nat.succ_pos _, rfl, hj⟩⟩, fun b hb => ?_⟩⟩
      have hb' : b < s.heap.objs.size := by
        rcases List.mem_cons.mp hb with rfl | hb
        · exact old1
        · rw [List.mem_singleton.mp hb]; exact old2
      rw [upd_ne (Nat.ne_of_lt hb')]
      exact (hf b hb).1
    rcases hcase with ⟨rfl, ⟨rfl, h0⟩ | ⟨rfl, h0⟩⟩ | ⟨i0, rfl, h0⟩
    · exact comb_first hit hp hne (C.small _ (List.mem_of_getElem? h0)) fun h' a b c => fin idx h' _ h0 a b c
    · rw [h0] at hl; cases hl
    · have e := C.step _ _ h0
      rw [show i - 1 + 1 = i by omega, List.getElem?_eq_getElem hl] at e
      exact comb_more hit hp hne (by rw [← lens]; exact e) (C.small _ (List.getElem_mem hl)) fun h' a b c => fin _ h' _ (List.getElem?_eq_getElem hl) a b c
  done := by
    intro X hP hw hK hc i pins s σ H E I hf st hg
    subst hP hw hK
    obtain ⟨hp, hne, st, last, idx, hit, hcase⟩ := st
    have hl : i = L.length := hg
    have lens : xs.length = us.length := hv.length
    obtain ⟨f0, f1, f2, f3, f4, f5⟩ := hf it (by simp)
    rcases hcase with ⟨rfl, ⟨rfl, h0⟩ | ⟨rfl, h0⟩⟩ | ⟨i0, rfl, h0⟩
    · have := (List.getElem?_eq_some_iff.mp h0).1
      omega
    · exact comb_none (I.ok.hd hc) hit fun h' eb => ⟨rfl, I.turned (t' := s.toks) (fun b o hb e => eb b o hb e) f0 f1 f3 f4 f5⟩
    · have e := C.step _ _ h0
      rw [show i - 1 + 1 = i by omega, hl, List.getElem?_eq_none (Nat.le_refl _)] at e
      exact comb_done (I.ok.hd hc) hit hp (by rw [← lens]; exact e) fun h' eb => ⟨rfl, I.turned (t' := s.toks) (fun b o hb e => eb b o hb e) f0 f1 f3 f4 f5⟩
  self := fun A i s Q E ⟨_, _, st, last, idx, hit, _⟩ h => iter_comb hit h
def iComb (K : PySem.W.Frag) (ta : TA) : TI := fun σ H R => ta σ H fun vs H1 => ∃ (a : Addr) (r : Nat) (xs : List V) (L : List (List Nat)), vs = [.ref a, .int r] ∧ SqL K H1 a xs ∧ r < 1000 ∧ xs.length < 1000 ∧ Chain xs.length r L ∧ R (IteC xs L) H1
theorem pi_comb {X : Cx} {tg e e2 : Expr} {ta : TA} {x : Str} {p pos : Pos} (hg : Gl X x) (hm : X.mg x = some (.type T)) (ha : PA X [e, e2] ta) (hdb : (x == ("__debug__" : Str)) = false := by decide)
    (hs : starEach [e, e2] X.env = (false, eval e X.env) :: starEach [e2] X.env := by rfl) (hpl : (backTo pos (starEach [e2] X.env)).any (·.1) = false := by rfl) :
    PI X tg (.Call (.Name x p) [e, e2] [] pos) (iComb X.K ta) := by
  refine ⟨fun pins s σ H R I h => ?_⟩
  refine Call_ (ld_glob I hg hm (PyProof.Rows.callWith_type1 (thn (ha.run pos pins s σ H _ I h) fun us s1 ⟨vs, H1, I1, r1, q1⟩ => ?_) hs hpl) hdb)
  obtain ⟨a, r, xs, L, ex, hq, hr, hx, C, q⟩ := q1
  subst ex
  cases r1 with
  | cons ra rr =>
    cases rr with
    | cons rb rr =>
      cases rr
      cases ra
      obtain ⟨t, rfl⟩ := rb
      obtain ⟨its, rv, p1, _⟩ := I1.list hq
      have lens : xs.length = its.length := rv.length
      refine call_comb p1.isList hr (by rw [← lens]; exact hx) fun h' it pool k o1 o2 ne tp hi => iter_comb hi ?_
      refine ⟨it, [it, pool], _, _, H1, rfl, I1.kept (t' := s1.toks) k, turn_comb it pool rv C, ⟨tp, ne, _, _, _, hi, .inl ⟨rfl, ?_⟩⟩, fun b hb => ?_, q⟩
      · rw [← lens]
        by_cases z : r > xs.length
        · rw [if_pos z]
          exact .inr ⟨rfl, C.none z⟩
        · rw [if_neg z]
          exact .inl ⟨rfl, C.some z⟩
      · have le : s1.heap.objs.size ≤ b := by
          rcases List.mem_cons.mp hb with rfl | hb
          · exact o1
          · rw [List.mem_singleton.mp hb]; exact o2
        exact I1.fpOk le (I1.hok.fresh le)
/-! ### the chains, by reckoning -/
def runC (n : Nat) : Nat → List Nat → List (List Nat)
  | 0, js => [js]
  | f + 1, js => js :: match nxt n js with
    | none => []
    | some ks => runC n f ks
def combs (n r : Nat) : List (List Nat) := if r > n then [] else runC n 64 (List.range r)
def okC (n r : Nat) : Bool := (decide (r > n) && decide (combs n r = [])) || (!decide (r > n) && decide ((combs n r)[0]? = some (List.range r)) &&
  (List.range (combs n r).length).all fun i => decide (nxt n ((combs n r).getD i []) = (combs n r)[i + 1]?) && decide (((combs n r).getD i []).length < 1000) && ((combs n r).getD i []).all fun j => decide (j < n))
theorem chain_of {n r : Nat} (h : okC n r = true) : Chain n r (combs n r) := by
  unfold okC at h
  rcases Bool.or_eq_true_iff.mp h with h | h
  · obtain ⟨a, b⟩ := Bool.and_eq_true_iff.mp h
    have b : combs n r = [] := of_decide_eq_true b
    have a := of_decide_eq_true a
    rw [b]
    exact ⟨(fun z => absurd a z), (fun _ => rfl), (fun i js e => nomatch e), (fun js m => nomatch m), (fun js m => nomatch m)⟩
  · obtain ⟨ab, c⟩ := Bool.and_eq_true_iff.mp h
    obtain ⟨a, b⟩ := Bool.and_eq_true_iff.mp ab
    have b := of_decide_eq_true b
    have a : ¬ r > n := by simpa using a
    have all : ∀ i js, (combs n r)[i]? = some js → nxt n js = (combs n r)[i + 1]? ∧ js.length < 1000 ∧ ∀ j ∈ js, j < n := fun i js e => by
      have il := (List.getElem?_eq_some_iff.mp e).1
      have z := List.all_eq_true.mp c i (List.mem_range.mpr il)
      rw [List.getD_eq_getElem?_getD, e] at z
      obtain ⟨z1, z2⟩ := Bool.and_eq_true_iff.mp z
      obtain ⟨z0, z1⟩ := Bool.and_eq_true_iff.mp z1
      exact ⟨of_decide_eq_true z0, of_decide_eq_true z1, fun j hj => of_decide_eq_true (List.all_eq_true.mp z2 j hj)⟩
    exact ⟨(fun _ => b), (fun z => absurd z a), (fun i js e => (all i js e).1), (fun js m => let ⟨i, e⟩ := List.mem_iff_getElem?.mp m; (all i js e).2.1), (fun js m => let ⟨i, e⟩ := List.mem_iff_getElem?.mp m; (all i js e).2.2)⟩
theorem ok7 : ((List.range 7).all fun n => (List.range 8).all fun r => okC n r) = true := by decide +kernel
theorem chain6 {n r : Nat} (hn : n ≤ 6) (hr : r ≤ 7) : Chain n r (combs n r) :=
  chain_of (List.all_eq_true.mp (List.all_eq_true.mp ok7 n (List.mem_range.mpr (by omega))) r (List.mem_range.mpr (by omega)))
end OwnComb
/-! A rule of our own: set(xs) of a list of ints, so that it can be walked and sorted. -/
namespace OwnSet
open PySem PySem.Spec PyProof.Rows L2
section
variable {P : Program} {w : World} {A : Around} {E : Value → Shared → Prop} {s : Shared}
/-- a built-in class is called: its making and its beginning, each by itself -/
theorem made_then {T newId initId : String} {args : List Value} {Q Q1 : Value → Shared → Prop} (ft : TypeCalled T newId initId) (hct : checkTypeCall T ⟨args, []⟩ = pure ())
    (hnew : codeAny (model P w) A.in1 (.call (.builtin newId) ⟨.type T :: args, []⟩) (wants Q1 E) s)
    (hinit : ∀ obj s1, Q1 obj s1 → s1.TypeIs obj T ∧ codeAny (model P w) A.in1 (.call (.builtin initId) ⟨obj :: args, []⟩) (wants (fun r s2 => r = .none ∧ Q obj s2) E) s1) :
    wpAny (model P w) A (call (.type T) args) Q E s := by
  obtain ⟨c, tl, mro⟩ := ft.mro
  have u1 := ft.made; have u2 := ft.sub; have u3 := ft.notType; have u4 := ft.canCreate
  refine wpAny_call (codeAny_of_tree (show wpAny _ _ (callAny (.type T) _) _ _ _ from wpAny_pure ⟨Code.quiet_builtin _ (by decide +kernel), codeAny_builtin F.entry_type_call ?_⟩))
  rw [Around.under_plain (weight_type_call_type T args []) rfl]
  repeat any_goals first | assumption | wp_step
  refine codeAny_mono hnew fun r s1 hr => ?_
  match r, hr with
  | .ok (.ret obj), hr =>
    obtain ⟨hT, hi⟩ := hinit _ _ hr
    have v1 := ft.init.lookup; have v2 := ft.init.bind obj
    repeat any_goals first | assumption | wp_step
    refine codeAny_mono hi fun r2 s2 h2 => ?_
    match r2, h2 with
    | .ok (.ret r3), h2 =>
      obtain ⟨rfl, hq⟩ := h2
      repeat any_goals first | assumption | wp_step
    | .error e, h2 => exact h2
  | .error e, hr => exact hr
/-- a fresh set and a list of ints: the set's beginning -/
theorem set_begins {S l : Addr} {items : Array Value} {ns : List Int} {Q : Value → Shared → Prop} (hh : A.handled = none) (hl : s.heap.IsList l items) (hit : IntsAre items.toList ns) (hb : ns.length + 1 < scanBound) (ne : l ≠ S)
    (hS : s.heap.get? S = some { cls := .type "set", dict := none, data := .set #[] 0 (.fresh 0 0 (!w.params.followText "set-order")) })
    (h : ∀ (h' : Heap) (tk c : Nat), SetR w h' S (fun j => decide (j ∈ ns)) c → c ≤ ns.length → (∀ b o, b ≠ S → s.heap.get? b = some o → h'.get? b = some o) → Q .none { s with heap := h', toks := tk }) :
    codeAny (model P w) A (.call (.builtin "set.__init__") ⟨[.ref S, .ref l], []⟩) (wants Q E) s := by
  have hT : s.TypeIs (.ref S) "set" := ⟨_, hS, rfl⟩
  have hsz : items.size = ns.length := (Array.length_toList (xs := items)).symm.trans hit.length
  refine codeAny_call_builtin F.called_set.init.plain F.entry_set_init (check_set_init_1 hT ?_)
  obtain ⟨ol, hol, hcl, nl, hdl⟩ := id hl
  obtain ⟨ocls, odict, odata, oslots⟩ := ol
  obtain rfl : ocls = _ := hcl
  obtain rfl : odata = _ := hdl
  have c1 := F.sub_list_set; have c2 := F.sub_list_frozenset
  have c3 : (Value.type "list" == Value.type "dict") = false := by decide
  unfold Builtin.«set.__init__» noKeywords Builtin.Frozenset.updateFrom
  generalize hPI : pyIter = PI
  wp_walk
  subst hPI
  have lS : S < s.heap.objs.size := Heap.lt_size hS
  have ll : l < s.heap.objs.size := Heap.lt_size hol
  refine wpAny_pyIter_list (s := ⟨s.heap, s.gens, s.drawn, s.toks, s.os⟩) hl (wpAny_bind (wpAny_runValue ?_))
  have h3 : A.in1.in1.handled = none := hh
  have val : ∀ (i : Nat) (v : Value), items[i]? = some v → ∃ k t, ns[i]? = some k ∧ v = .int k t := fun i v hv => by
    have il : i < ns.length := by rw [← hsz]; exact (Array.getElem?_eq_some_iff.mp hv).1
    obtain ⟨t, e⟩ := IntsAre.int_at hit i v (by rw [Array.getElem?_toList]; exact hv)
    exact ⟨ns[i], t, List.getElem?_eq_getElem il, by rw [e, List.getD_eq_getElem?_getD, List.getElem?_eq_getElem il]; rfl⟩
  refine set_update_ints ((Walks.list h3 s.heap.objs.size l (Nat.ne_of_lt ll) items).toS) S ?_ ns hsz hb val (items.size - 0) 0 _ (by omega) (Nat.zero_le _) ⟨⟨_, Heap.get?_push_size _ rfl, rfl, rfl⟩, hl.push _⟩ ⟨0, Nat.le_refl 0, setR_new_at (Heap.get?_push_of_some _ hS)⟩ fun s2 c hm hc hR => ?_
  · intro z
    rcases List.mem_cons.mp z with z | z
    · exact Nat.ne_of_lt lS z
    · exact ne (List.mem_singleton.mp z).symm
  · obtain ⟨h2, g2, d2, t2, o2⟩ := s2
    obtain rfl : g2 = s.gens := hm.gens
    obtain rfl : d2 = s.drawn := hm.drawn
    obtain rfl : o2 = s.os := hm.os
    rw [hsz] at hc
    have fin : Q .none { s with heap := h2, toks := t2 } := h h2 t2 c hR hc fun b o hb e => hm.heap b o (by
      intro z
      rcases List.mem_cons.mp z with z | z
      · exact hb z
      · exact Nat.ne_of_lt (Heap.lt_size e) (List.mem_singleton.mp z)) (Heap.get?_push_of_some _ e)
    exact wpAny_pure (wpAny_pure fin)
theorem call_set_listI {l : Addr} {items : Array Value} {ns : List Int} {Q : Value → Shared → Prop} (hh : A.handled = none) (hl : s.heap.IsList l items) (hit : IntsAre items.toList ns) (hb : ns.length + 1 < scanBound)
    (h : ∀ (h' : Heap) (tk c : Nat), SetR w h' s.heap.objs.size (fun j => decide (j ∈ ns)) c → c ≤ ns.length → (∀ b o, s.heap.get? b = some o → h'.get? b = some o) → Q (.ref s.heap.objs.size) { s with heap := h', toks := tk }) :
    wpAny (model P w) A (call (.type "set") [.ref l]) Q E s := by
  have ll : l < s.heap.objs.size := let ⟨o, e, _⟩ := hl; Heap.lt_size e
  refine made_then (Q1 := fun obj s1 => obj = .ref s.heap.objs.size ∧ s1 = { s with heap := s.heap.push { cls := .type "set", dict := none, data := .set #[] 0 (.fresh 0 0 (!w.params.followText "set-order")) } }) F.called_set (F.typeCall_set_1 (.ref l)) (code_set_led1 (.ref l) ⟨rfl, rfl⟩) ?_
  rintro obj s1 ⟨rfl, rfl⟩
  have hS := Heap.get?_push_size s.heap (o := { cls := .type "set", dict := none, data := .set #[] 0 (.fresh 0 0 (!w.params.followText "set-order")) }) rfl
  refine ⟨⟨_, hS, rfl⟩, set_begins (ns := ns) (Q := fun r s2 => r = .none ∧ Q (.ref s.heap.objs.size) s2) hh (hl.push _) hit hb (Nat.ne_of_lt ll) hS fun h' tk c R hc k => ⟨rfl, h h' tk c R hc fun b o e => k b o (Nat.ne_of_lt (Heap.lt_size e)) (Heap.get?_push_of_some _ e)⟩⟩
end
def rSetI (K : PySem.W.Frag) (w : World) : List V → Hp → VK → Prop := fun vs H Q => ∃ (l : Addr) (ns : List Int), vs = [.ref l] ∧ SqL K H l (ns.map V.int) ∧ ns.length ≤ 1000 ∧ ∀ p n, H p = none → n ≤ ns.length → Q (.ref p) (upd H p (SetO w p (fun j => decide (j ∈ ns)) n))
theorem cr_setI {X : Cx} (hc : X.calm = true) : CallR X (.type "set") (rSetI X.K X.w) := by
  intro pins s σ H vs us Q I r h
  obtain ⟨l, ns, rfl, hl, hn, q⟩ := h
  obtain ⟨u, rfl, ru⟩ := vals1 r
  obtain rfl : u = Value.ref l := ru
  obtain ⟨its, rv, pl, hz⟩ := I.list hl
  refine call_set_listI (I.ok.hd hc) pl.isList (ns := ns) (by simpa using rv.ints) (by unfold scanBound; omega) fun h' tk c R hc k => ?_
  exact ⟨.ref s.heap.objs.size, upd H s.heap.objs.size (SetO X.w s.heap.objs.size (fun j => decide (j ∈ ns)) c), I.laid (t' := tk) k (Nat.le_refl _) (setO_new R), rfl, q _ c (I.hok.fresh (Nat.le_refl _)) hc⟩
/-! ### x in a tuple, deep -/
def rInDT (K : PySem.W.Frag) : R2 := fun x y H Q => ∃ d ds, Dp K H x d ∧ Dp K H y (.tuple ds) ∧ SeqAt.shaped d = true ∧ SeqAt.shaped (.tuple ds) = true ∧ Q (.bl (ds.any fun z => PyData.eqv z d)) H
theorem op_inDT {X : Cx} (hu : X.A.units + 65 < cLine) : OpR X (compareOp .In) (rInDT X.K) := by
  intro pins s σ H x y v u Q I rx ry h
  obtain ⟨d, ds, hd, he, sd, se, q⟩ := h
  obtain ⟨as, r1⟩ := Dp.reads I d x v hd rx
  obtain ⟨bs, r2⟩ := Dp.reads I (.tuple ds) y u he ry
  exact SeqAt.in_tuple_reads r2 r1 (SeqAt.canLay_of_shaped se) (SeqAt.canLay_of_shaped sd) (room_in_shaped sd hu) ⟨.bl _, H, I, rfl, q⟩
end OwnSet
/-! Rules of our own over the hand layer: an own operator, an own ==, // by any divisor, classes made within a try, a method called by keywords. -/
namespace Own
open PySem PySem.Spec PyProof.Rows L2
abbrev St := L2.St
section
variable {X : Cx} {CX : CXT} {k n : Nat} {f C : Addr} {fd : FuncData} {ps : List Str} {sp : Sp}
/-- // by a divisor of any sign below 2 ^ 9000 in size -/
def CDivM (_ j : Int) : Prop := j ≠ 0 ∧ j.natAbs.log2 < 9000
theorem op_fdivWN : OpR X (binaryOp .FloorDiv) (rI CDivM fun i j => .int (i.fdiv j)) := opI fun i j _ _ _ _ _ hc q =>
  floordiv_int hc.1 q (.inl (PyProof.noPylong_of_log2 hc.2))
/-- x op y by the class's own method: x and y are instances of the class at C -/
def rOwn (C : Addr) (sp : Sp) (E : XK) : R2 := fun x y H Q => ∃ a b dx dy fs gs, x = .ref a ∧ y = .ref b ∧ H a = some (.ins C dx fs) ∧ H b = some (.ins C dy gs) ∧ sp [.ref a, .ref b] H Q E
theorem op_own {op : Operator} {E : XK} (F : FnOk X.prog X.w X.K X.mg X.base CX n f fd ps sp) (hr : Room n X.A) (hsf : PySem.W.selfFirst X.K C = true) (hs : PySem.W.findIn X.K (.ref C) (PySem.dunder op.info.2) = some (some (.ref f)))
    (hf : PySem.W.isFn X.K (.ref f) = true) (hb : Binds X.K fd ps []) (hx : Passes CX X E) : OpR X (binaryOp op) (rOwn C sp E) := by
  intro pins s σ H x y u v Q I rx ry h
  obtain ⟨a, b, dx, dy, fs, gs, rfl, rfl, ha, hb', hq⟩ := h
  cases rx
  cases ry
  obtain ⟨mA, J, _⟩ := ins_get I.hok ha
  obtain ⟨mB, J', _⟩ := ins_get I.hok hb'
  obtain ⟨od, J, _⟩ := J.look
  obtain ⟨od', J', _⟩ := J'.look
  obtain ⟨m, hF⟩ := I.fr
  refine PySem.W.binop_K hF I.ok.mod.kin J J'.type hsf hs hf ?_
  refine wpAny_mono (run_fn (us := [.ref a, .ref b]) (vs := [.ref a, .ref b]) F hr hb .nil hx I (.cons rfl (.cons rfl .nil)) (by rw [List.append_nil]; exact hq)) (fun u s' z => ?_) fun _ _ e => e
  obtain ⟨v', H', I', rv, q⟩ := id z
  cases u <;> first
    | exact z
    | (exfalso; cases v' <;> first | (cases rv; done) | (obtain ⟨_, rv⟩ := rv; cases rv))
/-- x == y by the class's own method: x is an instance of the class at C, y of any type that is not below it -/
def rOwnEq (K : PySem.W.Frag) (C : Addr) (sp : Sp) (E : XK) : R2 := fun x y H Q => ∃ a dx fs t, x = .ref a ∧ H a = some (.ins C dx fs) ∧ TyX K H y t ∧ PySem.W.notFirst K C t = true ∧ sp [.ref a, y] H Q E
theorem op_eqOwn {E : XK} (F : FnOk X.prog X.w X.K X.mg X.base CX n f fd ps sp) (hr : Room n X.A) (hs : PySem.W.findIn X.K (.ref C) "__eq__" = some (some (.ref f)))
    (hf : PySem.W.isFn X.K (.ref f) = true) (hb : Binds X.K fd ps []) (hx : Passes CX X E) : OpR X (compareOp .Eq) (rOwnEq X.K C sp E) := by
  intro pins s σ H x y u v Q I rx ry h
  obtain ⟨a, dx, fs, t, rfl, ha, ty, hn, hq⟩ := h
  cases rx
  obtain ⟨mA, J, _⟩ := ins_get I.hok ha
  obtain ⟨od, J, _⟩ := J.look
  obtain ⟨m, hF⟩ := I.fr
  obtain ⟨P, Z, p, hne⟩ := kit_of I ry ty
  refine PySem.W.cmp_K (op := .Eq) hr.units0 hF I.ok.mod.kin J (Z.ty _ _ I.kIn p) hn hs hf ?_
  refine wpAny_mono (run_fn (us := [.ref a, v]) (vs := [.ref a, y]) F hr hb .nil hx I (.cons rfl (.cons ry .nil)) (by rw [List.append_nil]; exact hq)) (fun u s' z => ?_) fun _ _ e => e
  obtain ⟨v', H', I', rv, q⟩ := id z
  cases u <;> first
    | exact z
    | (exfalso; cases v' <;> first | (cases rv; done) | (obtain ⟨_, rv⟩ := rv; cases rv))
end

/-! ### within a try: what is raised is wished for at the slots -/
/-- a new instance of C, its __init__ a def of one promise (ws: its values behind self, as they are bound) -/
theorem made_at {X : Cx} {CX : CXT} {k : Nat} {f C : Addr} {fd : FuncData} {ps : List Str} {sp : Sp} {E : XK} {pins : List (Addr × Obj)} {σ : St} {H : Hp} {s : Shared} {Q : VK} {us rest : List Value} {kw : List (Str × Value)} {zs : List V} (M : Mk X.K C f) (F : FnOk X.prog X.w X.K X.mg X.base CX k f fd ps sp) (hr : Room (k + 1) X.A)
    (hx : PassesAt CX X σ E) (I : Inv X pins σ H s) (r : Vals zs rest) (bd : ∀ (s' : Shared) (y : Value), X.K.In s'.heap → (y :: rest).length = ps.length → BindsTo s' fd ⟨y :: us, kw⟩ (ps.zip (y :: rest)))
    (h : ∀ x dx, H x = none → H dx = none → dx ≠ x → sp (.ref x :: zs) (upd (upd H dx (.own x)) x (.ins C dx [])) (fun v H2 => v = .non ∧ Q (.ref x) H2) E) :
    wpAny (model X.prog X.w) X.A (call (.ref C) us kw) (EP X pins σ Q) X.xe s := by
  have at1 := I.hok.fresh (Nat.le_succ s.heap.objs.size)
  have q := h (s.heap.objs.size + 1) s.heap.objs.size at1 (I.hok.fresh (Nat.le_refl _)) (Nat.ne_of_lt (Nat.lt_succ_self _))
  have J := Inv.made (C := C) I
  have args : Vals (V.ref (s.heap.objs.size + 1) :: zs) (Value.ref (s.heap.objs.size + 1) :: rest) := .cons rfl r
  have b := bd _ (Value.ref (s.heap.objs.size + 1)) J.kIn (args.length.symm.trans (F.len _ _ _ _ q))
  refine wpAny_call (make_map (f := f) I.kIn M.makes M.init (beq_iff_eq.mp M.fn) (codeAny_mono (F.run _ X.stack _ _ ⟨Value.ref (s.heap.objs.size + 1) :: us, kw⟩ _ _ _ E (hr.make C us kw) (J.env0.make C us kw) b args q) ?_))
  rintro (e | fl) s' z
  · exact hx pins _ _ e s' J z
  · cases fl with
    | ret u =>
      obtain ⟨v, H', I3, rv, ev, q3⟩ := J.after z
      subst ev
      exact ⟨rv, V.ref (s.heap.objs.size + 1), H', I3, rfl, q3⟩
    | next => exact z.elim
    | brk => exact z.elim
    | cont => exact z.elim
section
variable {X : Cx} {CX : CXT} {k : Nat} {f C : Addr} {fd : FuncData} {ps ks : List Str} {sp : Sp} {E : St → XK} {dvs : List V} {ds : List Value} {x m : Str} {p pos apos : Pos} {e o : Expr} {es : List Expr} {kws : List Keyword} {ta : TE} {t tk : TA}
/-- C(e, ..) -/
def tMakeS (C : Addr) (sp : Sp) (dvs : List V) (E : St → XK) (t : TA) : TE := fun σ H Q => t σ H fun vs H1 => ∀ x dx, H1 x = none → H1 dx = none → dx ≠ x →
  sp (.ref x :: (vs ++ dvs)) (upd (upd H1 dx (.own x)) x (.ins C dx [])) (fun v H2 => v = .non ∧ Q (.ref x) H2) (E σ)
theorem pe_makeS (M : Mk X.K C f) (F : FnOk X.prog X.w X.K X.mg X.base CX k f fd ps sp) (hr : Room (k + 1) X.A) (hg : Gl X x) (hm : X.mg x = some (.ref C)) (hb : Binds X.K fd ps ds) (hd : Vals dvs ds) (hx : ∀ σ, PassesAt CX X σ (E σ))
    (ha : PA X (e :: es) t) (hdb : (x == ("__debug__" : Str)) = false := by decide) (he : starEach (e :: es) X.env = (false, eval e X.env) :: starEach es X.env := by rfl) (hpl : (backTo pos (starEach es X.env)).any (·.1) = false := by rfl) :
    PE X (.Call (.Name x p) (e :: es) [] pos) (tMakeS C sp dvs E t) :=
  ⟨fun pins s σ H Q I h => wpAny_Call_Name_kw (ld_glob I hg hm (PySem.W.callWith_K (h₀ := X.base) I.ok.mod.kin M.kp (thn (ha.run pos pins s σ H _ I h) fun us s1 ⟨vs, H1, I1, r, q⟩ =>
    ⟨I1.kIn, made_at M F hr (hx σ) I1 (r.append hd) (fun s' y X' l => hb s' (y :: us) X' l) q⟩) he hpl) hdb)⟩
/-- C(k = v, ..) -/
def tMakeKS (C : Addr) (m : Nat) (sp : Sp) (gV : List V → List V → List V) (E : St → XK) (tk : TA) : TE := fun σ H Q => tk σ H fun zs H2 => zs.length = m ∧ ∀ x dx, H2 x = none → H2 dx = none → dx ≠ x →
  sp (gV [.ref x] zs) (upd (upd H2 dx (.own x)) x (.ins C dx [])) (fun v H3 => v = .non ∧ Q (.ref x) H3) (E σ)
/-- the keywords' order is told by g: self stands first -/
theorem pe_makeKS {g : List Value → List Value → List Value} {gV : List V → List V → List V} {g' : List Value → List Value} {gV' : List V → List V} (M : Mk X.K C f) (F : FnOk X.prog X.w X.K X.mg X.base CX k f fd ps sp) (hr : Room (k + 1) X.A) (hg : Gl X x) (hm : X.mg x = some (.ref C)) (hb : KBn X.K fd ps 1 ks g gV)
    (hg1 : ∀ y ws, g [y] ws = y :: g' ws) (hg2 : ∀ y zs, gV [y] zs = y :: gV' zs) (hx : ∀ σ, PassesAt CX X σ (E σ)) (hkw : PK X kws tk)
    (hall : (backToKw pos (keywordEach kws X.env)).all (·.1.isSome) = true := by rfl) (hks : (backToKw pos (keywordEach kws X.env)).filterMap (·.1) = ks := by rfl) (hdb : (x == ("__debug__" : Str)) = false := by decide)
    (hpl : ((backTo pos (starEach [] X.env)).any (·.1) || (backToKw pos (keywordEach kws X.env)).any (·.1.isNone)) = false := by rfl) :
    PE X (.Call (.Name x p) [] kws pos) (tMakeKS C ks.length sp gV E tk) := by
  refine ⟨fun pins s σ H Q I h => wpAny_Call_Name_kw (ld_glob I hg hm (PySem.W.callWith_KW0 (h₀ := X.base) I.ok.mod.kin M.kp hall (thn (hkw.run pos pins s σ H _ I h) ?_) hpl) hdb)⟩
  rintro ws s2 ⟨zs, H2, I2, rz, lz, q⟩
  rw [hks]
  have rr := hb.rel (vs := [V.non]) (us := [Value.none]) (.cons rfl .nil) rz
  rw [hg1, hg2] at rr
  cases rr with
  | cons _ rest =>
    refine ⟨I2.kIn, made_at (us := []) M F hr (hx σ) I2 rest (fun s' y X' _ => ?_) fun x dx a b c => ?_⟩
    · have z := hb.to s' [y] ws X' rfl (rz.length.symm.trans lz)
      rwa [hg1] at z
    · have z := q x dx a b c
      rwa [hg2] at z
/-- o.m(e, ..) -/
def tMethS (C : Addr) (m : Str) (sp : Sp) (E : St → XK) (ta : TE) (t : TA) : TE := fun σ H Q => ta σ H fun x H1 => ∃ a dx fs, x = .ref a ∧ H1 a = some (.ins C dx fs) ∧ fs.lookup m = none ∧ t σ H1 fun vs H2 => sp (x :: vs) H2 Q (E σ)
theorem pe_methS {pl : Sem Bool} (he : PE X o ta) (c : Cls X.K C) (hm : Meth X.K C m f) (F : FnOk X.prog X.w X.K X.mg X.base CX k f fd ps sp) (hr : Room k X.A) (hb : Binds X.K fd ps []) (hx : ∀ σ, PassesAt CX X σ (E σ)) (ha : PA X (e :: es) t)
    (hst : starEach (e :: es) X.env = (false, eval e X.env) :: starEach es X.env := by rfl) (hpl : (backTo pos (starEach es X.env)).any (·.1) = false := by rfl)
    (ht : eval (.Call (.Attribute o m apos) (e :: es) [] pos) X.env = (do
      let ov ← eval o X.env
      standAt apos.atName
      let (f, first) ← holding [ov] (getMethod ov m pl)
      callWith pos f first (backTo pos (starEach (e :: es) X.env)) (backToKw pos (keywordEach [] X.env))) := by rfl) :
    PE X (.Call (.Attribute o m apos) (e :: es) [] pos) (tMethS C m sp E ta t) := by
  refine ⟨fun pins s σ H Q I h => PySem.W.methodCall_KW (pl := pl) (thn (he.run pins s σ H _ I h) ?_) ht⟩
  rintro u s1 ⟨x, H1, I1, rx, a, dx, fs, rfl, ea, l, q⟩
  obtain rfl : u = Value.ref a := rx
  refine getmeth_ok I1 ea c hm l (PySem.W.callWith_K (first := [.ref a]) (h₀ := X.base) I.ok.mod.kin hm.kp (thn (ha.run pos pins s1 σ H1 _ I1 q) ?_) hst hpl)
  rintro us s2 ⟨vs, H2, I2, r, q2⟩
  exact ⟨I2.kIn, run_fnS (us := .ref a :: us) (vs := .ref a :: vs) F hr hb (hx σ) I2 (.cons rfl r) q2⟩
end
end Own
/-! Rules of our own for what may be a list or a tuple: walked, taken apart, enumerated. -/
namespace OwnSeq
open PySem PySem.Spec PyProof.Rows L2
/-! ### enumerate of a tuple -/
theorem enum_made (t : Addr) (items : Array Value) :
    Meets (Builtin.«enumerate.__new__» ⟨[.type "enumerate", .ref t], []⟩) (fun _ R s => s.heap.IsTuple t items ∧
      R (.ok (.ret (.ref (s.heap.push { cls := .type "tuple_iterator", data := .fields #[.ref t, .int 0 0] }).objs.size)))
        { s with heap := (s.heap.push { cls := .type "tuple_iterator", data := .fields #[.ref t, .int 0 0] }).push { cls := .type "enumerate", data := .fields #[.none, .bool false, .ref s.heap.objs.size, rawInt 0, .none, .none] } }) :=
  .of_wp fun prog w A R s ⟨hL, h⟩ => by
    cases s with | mk hp g d tk os =>
    have below := sub_enumerate
    wp_walk
    refine wpAny_stack_any fun st => wpAny_pure ?_
    split
    · rename_i c _ _ _ _ _
      cases (c == Value.type "enumerate") <;> (wp_walk using wpAny_pyIter_tuple hL; exact ⟨_, rfl, h⟩)
    · wp_walk using wpAny_pyIter_tuple hL
      exact ⟨_, rfl, h⟩
theorem enum_tuple {prog : Program} {w : World} {A : Around} {E : Value → Shared → Prop} {s : Shared} {t : Addr} {items : Array Value} {Q : Value → Shared → Prop} (hL : s.heap.IsTuple t items)
    (h : ∀ h', IsEnum h' (s.heap.objs.size + 1) s.heap.objs.size 0 .none → h'.IsTupleIter s.heap.objs.size t 0 → (∀ b o, s.heap.get? b = some o → h'.get? b = some o) → Q (.ref (s.heap.objs.size + 1)) { s with heap := h' }) :
    wpAny (model prog w) A (call (.type "enumerate") [.ref t]) Q E s := by
  refine callType_new F.called_enumerate (by decide) (F.typeCall_enumerate_1 _) (F.newCall_enumerate_1 _) (fun obj => F.args_object_init_2 obj _) F.entry_enumerate_new (enum_made t items) ⟨hL, ?_⟩
  have grown : (s.heap.push { cls := .type "tuple_iterator", data := .fields #[.ref t, .int 0 0] }).objs.size = s.heap.objs.size + 1 := Heap.size_push ..
  have at2 := Heap.get?_push_size (s.heap.push { cls := .type "tuple_iterator", data := .fields #[.ref t, .int 0 0] }) (o := { cls := .type "enumerate", data := .fields #[.none, .bool false, .ref s.heap.objs.size, rawInt 0, .none, .none] }) rfl
  rw [grown] at at2
  show _ ∧ _
  rw [grown]
  exact ⟨⟨_, at2, rfl⟩, h _ at2 ⟨_, Heap.get?_push_of_some _ (Heap.get?_push_size _ rfl), rfl, rfl⟩ fun b o x => Heap.get?_push_of_some _ (Heap.get?_push_of_some _ x)⟩
/-- the tuple at a as it stands at each turn, each item in a new pair -/
def IteT (K : PySem.W.Frag) (a : Addr) : It :=
  ⟨fun i H => ∃ (xs : List V) (x : V), SqT K H a xs ∧ xs[i]? = some x, fun i H v H' => ∃ T x, v = .ref T ∧ H T = none ∧ H' = upd H T (.tup [.int (i : Nat), x]) ∧ ∀ xs, SqT K H a xs → xs[i]? = some x, fun i H => ∃ xs : List V, SqT K H a xs ∧ xs.length = i⟩
theorem turn_enumT {P : Program} {w : World} {K : PySem.W.Frag} {elts : List Expr} {kk : Nat} {tpos : Pos} (a e it : Addr) :
    Turn P w K (.Tuple elts kk tpos) (IteT K a) [e, it] e (fun i h => (∃ old, IsEnum h e it ((i : Nat) : Int) old) ∧ h.IsTupleIter it a i ∧ e ≠ it) where
  mem := List.mem_cons_self
  obj := fun i h ⟨⟨old, he⟩, ⟨o, ho, hc, hd⟩, _⟩ b hb => by
    rcases List.mem_cons.mp hb with rfl | hb
    · exact ⟨_, he, fun v q => nomatch q⟩
    · rw [List.mem_singleton.mp hb]
      exact ⟨o, ho, fun v q => by rw [hd] at q; cases q⟩
  keep := fun i h h' ⟨⟨old, he⟩, hi, hne⟩ k => ⟨⟨old, k e (by simp) _ he⟩, hi.at fun o q => k it (by simp) o q, hne⟩
  item := fun X hP hw hK hc i pins s σ H E I hf ⟨⟨old, he⟩, hit, hne⟩ ⟨xs, x, hq, hx⟩ => by
    subst hP hw hK
    obtain ⟨its, rv, p, hz⟩ := I.tuple hq
    obtain ⟨u, hu, ru⟩ := rv.get hx
    have p : s.heap.IsTuple a its.toArray := p
    have old1 : e < s.heap.objs.size := Heap.lt_size he
    have old2 : it < s.heap.objs.size := let ⟨_, q, _⟩ := hit; Heap.lt_size q
    have ai : a ≠ it := fun z => by
      obtain ⟨o1, g1, c1, _⟩ := hit
      obtain ⟨o2, g2, c2, _⟩ := p
      rw [z, g1] at g2
      cases g2
      exact absurd (Value.type.inj (c1.symm.trans c2)) (by decide)
    have ae : e ≠ a := fun z => by
      obtain ⟨o2, g2, c2, _⟩ := p
      have he : s.heap.get? e = some _ := he
      rw [← z, he] at g2
      cases g2
      exact absurd (Value.type.inj c2) (by decide)
    have li : i < its.toArray.size := by
      have z := (List.getElem?_eq_some_iff.mp hu).1
      simpa using z
    refine wpAny_pyNext_enum_itemD (Draws.tuple (show X.A.in1.handled = none from I.ok.hd hc) it a ai its.toArray) he ⟨hit, p⟩ li hne (by simp [hne, ae]) fun y h' tk hy ho st' hT hsz hk => ?_
    obtain rfl : y = u := by
      have z : its.toArray[i]? = some u := by simpa using hu
      rw [z] at hy
      exact (Option.some.inj hy).symm
    refine ⟨_, rfl, wpAny_letOwnedTupleGo_enum (s := { s with heap := h', toks := tk + 1 }) ho fun h'' he' sb => ?_⟩
    have hT2 : h''.get? s.heap.objs.size = some { cls := .type "tuple", data := .seq #[.int i tk, y] } := (sb.2 _ (Nat.ne_of_gt old1)).trans hT
    have new : ObjOk X.prog X.w (upd H s.heap.objs.size (.tup [.int (i : Nat), x])) h'' s.heap.objs.size (.tup [.int (i : Nat), x]) :=
      ⟨by show 2 ≤ sizeLine; decide, [.int i tk, y], .cons ⟨_, rfl⟩ (.cons ru .nil), ⟨_, hT2, rfl, _, rfl⟩⟩
    have I1 : Inv X pins σ (upd H s.heap.objs.size (.tup [.int (i : Nat), x])) { s with heap := h'', toks := tk + 1 } :=
      I.turnedNew (ch := [e, it]) (fun b ob hb q => (sb.2 b (fun z => hb (by simp [z]))).trans (hk b ob (fun z => hb (by simp [z])) (fun z => hb (by simp [z])) q)) hf (Nat.le_refl _) new
    refine ⟨.ref s.heap.objs.size, _, I1, rfl, ⟨_, x, rfl, I.hok.fresh (Nat.le_refl _), rfl, fun ys hy => by rw [I.tuple_inj hy hq]; exact hx⟩, ⟨⟨y, ?_⟩, st'.1.at fun o q => (sb.2 it (Ne.symm hne)).trans q, hne⟩, fun b hb => ?_⟩
    · rw [show ((i + 1 : Nat) : Int) = (i : Int) + 1 by omega]
      exact he'
    · have hb' : b < s.heap.objs.size := by
        rcases List.mem_cons.mp hb with rfl | hb
        · exact old1
        · rw [List.mem_singleton.mp hb]; exact old2
      rw [upd_ne (Nat.ne_of_lt hb')]
      exact (hf b hb).1
  done := fun X hP hw hK hc i pins s σ H E I hf ⟨⟨old, he⟩, hit, hne⟩ ⟨xs, hq, hx⟩ => by
    subst hP hw hK
    obtain ⟨its, rv, p, hz⟩ := I.tuple hq
    have p : s.heap.IsTuple a its.toArray := p
    obtain ⟨f0, f1, f2, f3, f4, f5⟩ := hf it (by simp)
    have hl := rv.length
    have ai : a ≠ it := fun z => by
      obtain ⟨o1, g1, c1, _⟩ := hit
      obtain ⟨o2, g2, c2, _⟩ := p
      rw [z, g1] at g2
      cases g2
      exact absurd (Value.type.inj (c1.symm.trans c2)) (by decide)
    have e' : i = its.toArray.size := by rw [List.size_toArray, ← hl, hx]
    exact wpAny_pyNext_enum_endD (Draws.tuple (show X.A.in1.handled = none from I.ok.hd hc) it a ai its.toArray) he ⟨by rw [← e']; exact hit, p⟩ fun h' eb => ⟨rfl, I.turned (t' := s.toks) (fun b o hb q => eb b o hb q) f0 f1 f3 f4 f5⟩
  self := fun A i s Q E ⟨⟨_, he⟩, _⟩ h => wpAny_pyIter_enum he h
def iEnumT (K : PySem.W.Frag) (ta : TA) : TI := fun σ H R => ta σ H fun vs H1 => ∃ a xs, vs = [.ref a] ∧ SqT K H1 a xs ∧ R (IteT K a) H1
section
variable {X : Cx} {e tg : Expr} {te : TE} {ta : TA} {p pos tpos : Pos} {elts : List Expr} {kk : Nat}
theorem pi_enumT (hg : Gl X "enumerate") (hm : X.mg "enumerate" = none) (ha : PA X [e] ta) (hs : starEach [e] X.env = [(false, eval e X.env)] := by rfl) : PI X (.Tuple elts kk tpos) (.Call (.Name "enumerate" p) [e] [] pos) (iEnumT X.K ta) :=
  ⟨fun pins s σ H R I h => Call_ (ld_blt I hg hm boot_enumerate (PyProof.Rows.callWith_type1 (thn (ha.run pos pins s σ H _ I h) fun us s1 ⟨vs, H1, I1, r1, a, xs, ex, hq, q⟩ => by
    subst ex
    cases r1 with
    | cons r rr =>
      cases rr
      cases r
      obtain ⟨its, rv, p', hz⟩ := I1.tuple hq
      refine enum_tuple (show s1.heap.IsTuple a its.toArray from p') fun h' he hit hk => wpAny_pyIter_enum he ?_
      refine ⟨s1.heap.objs.size + 1, [s1.heap.objs.size + 1, s1.heap.objs.size], _, _, H1, rfl, I1.kept (t' := s1.toks) hk, turn_enumT a (s1.heap.objs.size + 1) s1.heap.objs.size, ⟨⟨.none, he⟩, hit, Nat.succ_ne_self _⟩, fun b hb => ?_, q⟩
      have le : s1.heap.objs.size ≤ b := by
        rcases List.mem_cons.mp hb with rfl | hb
        · exact Nat.le_succ _
        · exact Nat.le_of_eq (List.mem_singleton.mp hb).symm
      exact I1.fpOk le (I1.hok.fresh le)) hs rfl))⟩
/-! ### a list or a tuple -/
theorem PI.or {w1 w2 : TI} {it : Expr} (a : PI X tg it w1) (b : PI X tg it w2) : PI X tg it (fun σ H R => w1 σ H R ∨ w2 σ H R) := ⟨fun pins s σ H R I h => h.elim (a.run pins s σ H R I) (b.run pins s σ H R I)⟩
theorem PG.or {g1 g2 : TG} (a : PG X tg g1) (b : PG X tg g2) : PG X tg (fun v σ H Q => g1 v σ H Q ∨ g2 v σ H Q) := ⟨fun pins s σ H v u Q I r h => h.elim (a.run pins s σ H v u Q I r) (b.run pins s σ H v u Q I r)⟩
/-- l: a list; else a tuple -/
def sq (l : Bool) (xs : List V) : HO := if l = true then .lst xs else .tup xs
theorem sq_l {K : PySem.W.Frag} {H : Hp} {a : Addr} {xs : List V} (h : H a = some (sq true xs)) : SqL K H a xs := SqL.of h
theorem sq_t {K : PySem.W.Frag} {H : Hp} {a : Addr} {xs : List V} (h : H a = some (sq false xs)) : SqT K H a xs := SqT.of h
def iSeq (K : PySem.W.Frag) (te : TE) : TI := fun σ H R => te σ H fun x H1 => ∃ a l xs, x = .ref a ∧ H1 a = some (sq l xs) ∧ R (if l = true then Itl K a else Itt K a) H1
theorem pi_seq (he : PE X e te) : PI X tg e (iSeq X.K te) := ⟨fun pins s σ H R I h => thn (he.run pins s σ H _ I h) fun v s1 ⟨x, H1, I1, rx, a, l, xs, ex, hx, q⟩ => by
  subst ex
  cases rx
  cases l with
  | true =>
    obtain ⟨its, rv, p, _⟩ := I1.list (SqL.of hx)
    exact wpAny_pyIter_list p.isList ⟨s1.heap.objs.size, [s1.heap.objs.size], _, _, H1, rfl, I1.kept (t' := s1.toks) fun b o e => Heap.get?_push_of_some _ e, turn_list a _, ⟨_, Heap.get?_push_size _ rfl, rfl, rfl⟩, fun b hb => by
      rw [List.mem_singleton.mp hb]
      exact I1.fpOk (Nat.le_refl _) (I1.hok.fresh (Nat.le_refl _)), q⟩
  | false =>
    obtain ⟨its, rv, p, _⟩ := I1.tuple (SqT.of hx)
    exact wpAny_pyIter_tuple (show s1.heap.IsTuple a its.toArray from p) ⟨s1.heap.objs.size, [s1.heap.objs.size], _, _, H1, rfl, I1.kept (t' := s1.toks) fun b o e => Heap.get?_push_of_some _ e, turn_tuple a _, ⟨_, Heap.get?_push_size _ rfl, rfl, rfl⟩, fun b hb => by
      rw [List.mem_singleton.mp hb]
      exact I1.fpOk (Nat.le_refl _) (I1.hok.fresh (Nat.le_refl _)), q⟩⟩
def iEnumS (K : PySem.W.Frag) (ta : TA) : TI := fun σ H R => ta σ H fun vs H1 => ∃ a l xs, vs = [.ref a] ∧ H1 a = some (sq l xs) ∧ R (if l = true then Ite K a else IteT K a) H1
theorem pi_enumS (hg : Gl X "enumerate") (hm : X.mg "enumerate" = none) (ha : PA X [e] ta) (hs : starEach [e] X.env = [(false, eval e X.env)] := by rfl) : PI X (.Tuple elts kk tpos) (.Call (.Name "enumerate" p) [e] [] pos) (iEnumS X.K ta) :=
  ⟨fun pins s σ H R I h => Call_ (ld_blt I hg hm boot_enumerate (PyProof.Rows.callWith_type1 (thn (ha.run pos pins s σ H _ I h) fun us s1 ⟨vs, H1, I1, r1, a, l, xs, ex, hq, q⟩ => by
    subst ex
    have young : ∀ b ∈ [s1.heap.objs.size + 1, s1.heap.objs.size], FpOk X pins H1 b := fun b hb => by
      have le : s1.heap.objs.size ≤ b := by
        rcases List.mem_cons.mp hb with rfl | hb
        · exact Nat.le_succ _
        · exact Nat.le_of_eq (List.mem_singleton.mp hb).symm
      exact I1.fpOk le (I1.hok.fresh le)
    cases r1 with
    | cons r rr =>
      cases rr
      cases r
      cases l with
      | true =>
        obtain ⟨its, rv, p', hz⟩ := I1.list (SqL.of hq)
        exact call_enumerate_list p'.isList fun h' he hit hsz hk => wpAny_pyIter_enum he ⟨_, _, _, _, H1, rfl, I1.kept (t' := s1.toks) hk, turn_enum a (s1.heap.objs.size + 1) s1.heap.objs.size, ⟨⟨.none, he⟩, hit, Nat.succ_ne_self _⟩, young, q⟩
      | false =>
        obtain ⟨its, rv, p', hz⟩ := I1.tuple (SqT.of hq)
        exact enum_tuple (show s1.heap.IsTuple a its.toArray from p') fun h' he hit hk => wpAny_pyIter_enum he ⟨_, _, _, _, H1, rfl, I1.kept (t' := s1.toks) hk, turn_enumT a (s1.heap.objs.size + 1) s1.heap.objs.size, ⟨⟨.none, he⟩, hit, Nat.succ_ne_self _⟩, young, q⟩) hs rfl))⟩
end
/-! ### loops over what walks n items -/
structure Goes (J : It) (S : Hp → Prop) (n : Nat) (y : Nat → Hp → V → Hp → Prop) : Prop where
  go : ∀ i H, i < n → S H → J.go i H
  stop : ∀ H, S H → J.stop n H
  yld : ∀ i H x H', S H → J.yld i H x H' → y i H x H'
theorem goes_seq {K : PySem.W.Frag} {a : Addr} {l : Bool} {xs : List V} : Goes (if l = true then Itl K a else Itt K a) (fun H => H a = some (sq l xs)) xs.length (fun i H x H' => H' = H ∧ xs[i]? = some x) := by
  cases l with
  | true => exact ⟨fun i H hi h => ⟨xs, xs[i], SqL.of h, by simp [hi]⟩, fun H h => ⟨xs, SqL.of h, Nat.le_refl _⟩, fun i H x H' h y => ⟨y.1, y.2 xs (SqL.of h)⟩⟩
  | false => exact ⟨fun i H hi h => ⟨xs, xs[i], SqT.of h, by simp [hi]⟩, fun H h => ⟨xs, SqT.of h, Nat.le_refl _⟩, fun i H x H' h y => ⟨y.1, y.2 xs (SqT.of h)⟩⟩
theorem goes_enum {K : PySem.W.Frag} {a : Addr} {l : Bool} {xs : List V} : Goes (if l = true then Ite K a else IteT K a) (fun H => H a = some (sq l xs)) xs.length (fun i H x H' => ∃ T z, x = .ref T ∧ H T = none ∧ H' = upd H T (.tup [.int (i : Nat), z]) ∧ xs[i]? = some z) := by
  cases l with
  | true => exact ⟨fun i H hi h => ⟨xs, xs[i], SqL.of h, by simp [hi]⟩, fun H h => ⟨xs, SqL.of h, Nat.le_refl _⟩, fun i H x H' h ⟨T, z, a, b, c, d⟩ => ⟨T, z, a, b, c, d xs (SqL.of h)⟩⟩
  | false => exact ⟨fun i H hi h => ⟨xs, xs[i], SqT.of h, by simp [hi]⟩, fun H h => ⟨xs, SqT.of h, rfl⟩, fun i H x H' h ⟨T, z, a, b, c, d⟩ => ⟨T, z, a, b, c, d xs (SqT.of h)⟩⟩
theorem loop_goes {J : It} {S : Hp → Prop} {n : Nat} {y : Nat → Hp → V → Hp → Prop} {g : TG} {tb : TS} {D : Ends} {σ : L2.St} {H : Hp} (G : Goes J S n y) (Pe : L2.St → Hp → Prop) (Pv : Nat → L2.St → Hp → Prop) (h0 : Pv 0 σ H) (hl : ∀ i σ H, i ≤ n → Pv i σ H → S H)
    (hs : ∀ (bk : L2.St → Hp → Prop), (∀ σ H, Pe σ H → bk σ H) → ∀ i x σ H H', i < n → Pv i σ H → y i H x H' → g x σ H' fun σ2 H2 => tb { D with nx := Pv (i + 1), ct := Pv (i + 1), bk := bk } σ2 H2)
    (hd : ∀ σ H, Pv n σ H → Pe σ H) (he : ∀ σ H, Pe σ H → D.nx σ H) : Rd.Loop J g tb D σ H :=
  ⟨fun i m σ H => m = n - i ∧ i ≤ n ∧ Pv i σ H, ⟨n, rfl, Nat.zero_le _, h0⟩, fun i m σ H ⟨e, hi, p⟩ => by
    subst e
    have q := hl i σ H hi p
    rcases Nat.lt_or_eq_of_le hi with lt | eq
    · exact .inr ⟨G.go i H lt q, Pv (i + 1), fun σ' H' p' => ⟨n - (i + 1), by omega, rfl, lt, p'⟩, fun x H' z => hs D.nx he i x σ H H' lt p (G.yld i H x H' q z)⟩
    · subst eq
      exact .inl ⟨G.stop H q, he σ H (hd σ H p)⟩⟩
theorem lcl_goes {J : It} {S : Hp → Prop} {n : Nat} {y : Nat → Hp → V → Hp → Prop} {g : TG} {tt : TT} {te : TE} {vs : List Nat} {σ : L2.St} {H : Hp} {Q : VK} (G : Goes J S n y) (Pv : Addr → Nat → Hp → Prop) (h0 : ∀ D, H D = none → Pv D 0 (upd H D (.lst []))) (hl : ∀ D i H1, i ≤ n → Pv D i H1 → S H1)
    (hs : ∀ D i x H1 H', i < n → Pv D i H1 → y i H1 x H' → g x (wipe σ vs) H' fun σ2 H2 => Rd.LcTurn te tt D (wipe σ vs) σ2 vs H2 (Pv D (i + 1))) (hd : ∀ D H1, H D = none → Pv D n H1 → Q (.ref D) H1) : Rd.LcL J g tt te vs σ H Q := fun D hD =>
  ⟨fun i m H => m = n - i ∧ i ≤ n ∧ Pv D i H, ⟨n, rfl, Nat.zero_le _, h0 D hD⟩, fun i m H1 ⟨e, hi, p⟩ => by
    subst e
    have q := hl D i H1 hi p
    rcases Nat.lt_or_eq_of_le hi with lt | eq
    · exact .inr ⟨G.go i H1 lt q, Pv D (i + 1), fun H' p' => ⟨n - (i + 1), by omega, rfl, lt, p'⟩, fun x H' z => hs D i x H1 H' lt p (G.yld i H1 x H' q z)⟩
    · subst eq
      exact .inl ⟨G.stop H1 q, hd D H1 hD p⟩⟩
theorem tFor_seq {K : PySem.W.Frag} {te : TE} {g : TG} {tb : TS} {D : Ends} {σ : L2.St} {H : Hp} : tFor (iSeq K te) g tb D σ H = te σ H (fun x H1 => ∃ a l xs, x = .ref a ∧ H1 a = some (sq l xs) ∧ Rd.Loop (if l = true then Itl K a else Itt K a) g tb D σ H1) := rfl
theorem tFor_enumS {K : PySem.W.Frag} {ta : TA} {g : TG} {tb : TS} {D : Ends} {σ : L2.St} {H : Hp} : tFor (iEnumS K ta) g tb D σ H = ta σ H (fun vs H1 => ∃ a l xs, vs = [.ref a] ∧ H1 a = some (sq l xs) ∧ Rd.Loop (if l = true then Ite K a else IteT K a) g tb D σ H1) := rfl
theorem tLc_seq {K : PySem.W.Frag} {te0 : TE} {g : TG} {tt : TT} {te : TE} {vs : List Nat} {σ : L2.St} {H : Hp} {Q : VK} : tLc (iSeq K te0) g tt te vs σ H Q = te0 σ H (fun x H1 => ∃ a l xs, x = .ref a ∧ H1 a = some (sq l xs) ∧ Rd.LcL (if l = true then Itl K a else Itt K a) g tt te vs σ H1 Q) := rfl
theorem tLc_enumS {K : PySem.W.Frag} {ta : TA} {g : TG} {tt : TT} {te : TE} {vs : List Nat} {σ : L2.St} {H : Hp} {Q : VK} : tLc (iEnumS K ta) g tt te vs σ H Q = ta σ H (fun ws H1 => ∃ a l xs, ws = [.ref a] ∧ H1 a = some (sq l xs) ∧ Rd.LcL (if l = true then Ite K a else IteT K a) g tt te vs σ H1 Q) := rfl
/-! ### x, *rest = a list or a tuple -/
section
variable {prog : Program} {w : World} {A : Around} {E : Value → Shared → Prop} {s : Shared}
theorem rest_list {l : Addr} {x : Value} {xs : List Value} {Q : List Value → Shared → Prop} (hl : s.heap.IsList l (x :: xs).toArray) (hh : A.handled = none) (hz : xs.length ≤ 1000)
    (h : ∀ (h' : Heap) (tk : Nat), (∀ b o, s.heap.get? b = some o → h'.get? b = some o) → Q [x, .ref h'.objs.size] { s with heap := h'.push { cls := .type "list", data := .seq xs.toArray }, toks := tk }) : wpAny (model prog w) A (unpackItems (.ref l) 2 (some 1)) Q E s := by
  have ne : l ≠ s.heap.objs.size := let ⟨_, g, _⟩ := hl; Nat.ne_of_lt (Heap.lt_size g)
  unfold unpackItems notIterableAtAll
  refine wpAny_bind (wpAny_bind (wpAny_specialOf hl.typeIs slot_list_iter.lookup (wpAny_pure ?_)))
  simp only [Bool.false_eq_true, if_false]
  refine wpAny_bind (wpAny_holding (wpAny_pyIter_list hl (wpAny_bind (wpAny_holding (PySem.W.kun_draw ne 1 0 _ _ ⟨_, Heap.get?_push_size _ rfl, rfl, rfl⟩ (hl.push _) (by simp) fun h1 it1 sb1 => ?_)))))
  have e1 : ((x :: xs).toArray.toList.drop 0).take 1 = [x] := rfl
  rw [e1]
  have it1 : h1.IsListIter s.heap.objs.size l 1 := it1
  have l1 : h1.IsList l (x :: xs).toArray := (hl.push _).extBut sb1.extBut ne
  have lt1 : s.heap.objs.size < h1.objs.size := let ⟨_, g, _⟩ := it1; Heap.lt_size g
  have lt2 : l < h1.objs.size := let ⟨_, g, _⟩ := l1; Heap.lt_size g
  rw [if_neg (show ¬ ([x] : List Value).length < 1 from Nat.lt_irrefl 1)]
  refine wpAny_bind (wpAny_holding (PySem.W.kun_collect (s := { s with heap := h1 }) (T := "list_iterator") (.inr (.inr (.inl rfl))) (Walks.list (A := A.in1) hh s.heap.objs.size l ne (x :: xs).toArray) (fun j u st => st.1.typeIs) (k := 1) (by simp) ⟨it1, l1⟩ lt1 lt2 (fun h2 tk k2 => ?_) (by simp; exact Nat.le_trans (Nat.succ_le_succ hz) (by decide))))
  rw [if_neg (Nat.not_lt_zero _)]
  have e2 : (x :: xs).toArray.toList.drop 1 = xs := rfl
  have e3 : xs.take (xs.length - (2 - 1 - 1)) = xs := List.take_length
  have e4 : xs.drop (xs.length - (2 - 1 - 1)) = [] := List.drop_length
  rw [e2, e3, e4]
  exact wpAny_bind (wpAny_newList (wpAny_pure (h h2 tk fun b o g => k2 b o (Nat.ne_of_lt (Heap.lt_size g)) (sb1.extBut b o (Nat.ne_of_lt (Heap.lt_size g)) (Heap.get?_push_of_some _ g)))) (Nat.le_trans hz (by decide)))
theorem rest_tuple {l : Addr} {x : Value} {xs : List Value} {Q : List Value → Shared → Prop} (hl : s.heap.IsTuple l (x :: xs).toArray) (hh : A.handled = none) (hz : xs.length ≤ 1000)
    (h : ∀ (h' : Heap) (tk : Nat), (∀ b o, s.heap.get? b = some o → h'.get? b = some o) → Q [x, .ref h'.objs.size] { s with heap := h'.push { cls := .type "list", data := .seq xs.toArray }, toks := tk }) : wpAny (model prog w) A (unpackItems (.ref l) 2 (some 1)) Q E s := by
  have ne : l ≠ s.heap.objs.size := let ⟨_, g, _⟩ := hl; Nat.ne_of_lt (Heap.lt_size g)
  unfold unpackItems notIterableAtAll
  refine wpAny_bind (wpAny_bind (wpAny_specialOf hl.typeIs slot_tuple_iter.lookup (wpAny_pure ?_)))
  simp only [Bool.false_eq_true, if_false]
  refine wpAny_bind (wpAny_holding (wpAny_pyIter_tuple hl (wpAny_bind (wpAny_holding (wpAny_draw_tuple ne 1 0 _ _ ⟨_, Heap.get?_push_size _ rfl, rfl, rfl⟩ (hl.push _) (by simp) fun h1 it1 sb1 => ?_)))))
  have e1 : ((x :: xs).toArray.toList.drop 0).take 1 = [x] := rfl
  rw [e1]
  have it1 : h1.IsTupleIter s.heap.objs.size l 1 := it1
  have l1 : h1.IsTuple l (x :: xs).toArray := (hl.push _).extBut sb1.extBut ne
  have lt1 : s.heap.objs.size < h1.objs.size := let ⟨_, g, _⟩ := it1; Heap.lt_size g
  have lt2 : l < h1.objs.size := let ⟨_, g, _⟩ := l1; Heap.lt_size g
  rw [if_neg (show ¬ ([x] : List Value).length < 1 from Nat.lt_irrefl 1)]
  refine wpAny_bind (wpAny_holding (PySem.W.kun_collect (s := { s with heap := h1 }) (T := "tuple_iterator") (.inr (.inr (.inr rfl))) (Walks.tuple (A := A.in1) hh s.heap.objs.size l ne (x :: xs).toArray) (fun j u st => st.1.typeIs) (k := 1) (by simp) ⟨it1, l1⟩ lt1 lt2 (fun h2 tk k2 => ?_) (by simp; exact Nat.le_trans (Nat.succ_le_succ hz) (by decide))))
  rw [if_neg (Nat.not_lt_zero _)]
  have e2 : (x :: xs).toArray.toList.drop 1 = xs := rfl
  have e3 : xs.take (xs.length - (2 - 1 - 1)) = xs := List.take_length
  have e4 : xs.drop (xs.length - (2 - 1 - 1)) = [] := List.drop_length
  rw [e2, e3, e4]
  exact wpAny_bind (wpAny_newList (wpAny_pure (h h2 tk fun b o g => k2 b o (Nat.ne_of_lt (Heap.lt_size g)) (sb1.extBut b o (Nat.ne_of_lt (Heap.lt_size g)) (Heap.get?_push_of_some _ g)))) (Nat.le_trans hz (by decide)))
end
def gRest (t : TGs) : TG := fun v σ H Q => ∃ a l x xs, v = .ref a ∧ H a = some (sq l (x :: xs)) ∧ xs.length ≤ 1000 ∧ ∀ D, H D = none → t [x, .ref D] σ (upd H D (.lst xs)) Q
theorem pg_rest {X : Cx} {t1 t2 : Expr} {p pos : Pos} {k : Nat} {t : TGs} (hc : X.calm = true) (h : PGs X [t1, t2] t) (he : (assignEach [t1, .Starred t2 p] X.env).map (·.2) = (assignEach [t1, t2] X.env).map (·.2) := by rfl)
    (hn : (assignEach [t1, .Starred t2 p] X.env).length = 2 := by rfl) (hst : (assignEach [t1, .Starred t2 p] X.env).findIdx? (·.1) = some 1 := by rfl) : PG X (.Tuple [t1, .Starred t2 p] k pos) (gRest t) := by
  refine ⟨fun pins s σ H v u Q I r ⟨a, l, x, xs, e1, hq, hz, hw⟩ => ?_⟩
  subst e1
  cases r
  rw [assign_Tuple]
  refine wpAny_bind (wpAny_standAt ?_)
  unfold unpack
  rw [hn, hst, he]
  have fin : ∀ {u : Value} {us : List Value}, RelV x u → Vals xs us → ∀ (h' : Heap) (tk : Nat), (∀ b o, s.heap.get? b = some o → h'.get? b = some o) →
      wpAny (model X.prog X.w) X.A (assignInOrder ((assignEach [t1, t2] X.env).map (·.2)) [u, .ref h'.objs.size]) (fun _ s' => ∃ σ' H', Inv X pins σ' H' s' ∧ Q σ' H') X.xe { s with heap := h'.push { cls := .type "list", data := .seq us.toArray }, toks := tk } := fun {u us} ru rus h' tk kp => by
    have I1 : Inv X pins σ H { s with heap := h', toks := tk } := I.kept (t' := tk) kp
    have I2 := I1.laid (t' := tk) (a := h'.objs.size) (o := .lst xs) (h' := h'.push { cls := .type "list", data := .seq us.toArray }) (fun b o e => Heap.get?_push_of_some _ e) (Nat.le_refl _) ⟨Nat.le_trans hz (by decide), us, 0, rus, Heap.get?_push_size _ rfl⟩
    exact h.run pins _ σ _ [x, .ref h'.objs.size] _ Q I2 (.cons ru (.cons rfl .nil)) (hw h'.objs.size (I1.hok.fresh (Nat.le_refl _)))
  cases l with
  | true =>
    obtain ⟨its, rv, pl, _⟩ := I.list (SqL.of hq)
    cases rv with
    | cons ru rus => exact wpAny_bind (wpAny_holding (rest_list pl.isList (I.ok.hd hc) (by rw [← rus.length]; exact hz) (fin ru rus)))
  | false =>
    obtain ⟨its, rv, pl, _⟩ := I.tuple (SqT.of hq)
    cases rv with
    | cons ru rus => exact wpAny_bind (wpAny_holding (rest_tuple (show s.heap.IsTuple a _ from pl) (I.ok.hd hc) (by rw [← rus.length]; exact hz) (fin ru rus)))
/-- x, y, .. = a list or a tuple of that length -/
def gSeq (n : Nat) (t : TGs) : TG := fun v σ H Q => ∃ a l xs, v = .ref a ∧ H a = some (sq l xs) ∧ xs.length = n ∧ t xs σ H Q
theorem pg_seq {X : Cx} {es : List Expr} {k n : Nat} {pos : Pos} {t : TGs} (hc : X.calm = true) (h : PGs X es t) (hn : (assignEach es X.env).length = n := by rfl) (hst : (assignEach es X.env).findIdx? (·.1) = none := by rfl) : PG X (.Tuple es k pos) (gSeq n t) := by
  refine ⟨fun pins s σ H v u Q I r ⟨a, l, xs, e1, hq, hl, hw⟩ => ?_⟩
  cases l with
  | true => exact (pg_unl hc h hn hst).run pins s σ H v u Q I r ⟨a, xs, e1, SqL.of hq, hl, hw⟩
  | false => exact (pg_tup hc h hn hst).run pins s σ H v u Q I r ⟨a, xs, e1, SqT.of hq, hl, hw⟩
end OwnSeq
/-! A list comprehension within a def that runs while an exception is handled. -/
namespace OwnHot
open PySem PySem.Spec PyProof.Rows L2 L2H HotX
section
variable {prog : Program} {w : World} {A : Around} {E : Value → Shared → Prop} {s : Shared}
/-- what stands behind an iterator's last item: a StopIteration, taken by the one who asked -/
theorem stop_hot {α : Type} {Qa : α → Shared → Prop} {t : Sem α} {k : Value → Sem α} (et : t = newExc (.type "StopIteration") [] >>= k) (ek : ∀ a, k (.ref a) = raiseNew (.ref a)) {x1 : Addr} {Q : Option Value → Shared → Prop} (hot : HotAt A x1 s.heap)
    (hQ : ∀ h', (∀ b o, s.heap.get? b = some o → h'.get? b = some o) → Q none { s with heap := h' }) :
    wpAny (model prog w) A.in1 t Qa (fun e s' => wpAny (model prog w) A (do let b ← isInstance e (.type "StopIteration"); if b = true then pure none else throw e) Q E s') s := by
  obtain ⟨hh, o1, vs1, g1, d1, c1⟩ := hot
  rw [et]
  refine wpAny_bind ?_
  simp only [newExc, newTuple]
  refine wpAny_bind (wpAny_newObj_type ?_ (by size_fits))
  refine wpAny_bind (m := firstArgMember _ _) (wpAny_of_eq (a := Value.none) (by first | rfl | (simp only [firstArgMember]; rfl)) ?_)
  refine wpAny_newObj_type ?_ (by size_fits)
  rw [ek]
  refine raiseNew_hot ⟨hh, o1, vs1, Heap.get?_push_of_some _ (Heap.get?_push_of_some _ g1), d1, c1⟩ (Nat.ne_of_lt (Heap.lt_size (Heap.get?_push_of_some _ g1))) (Heap.get?_push_size _ rfl) rfl (by first | (simp; done) | (simp; omega) | (simp only [Array.size_append]; simp; omega)) ?_
  refine wpAny_bind (wpAny_isInstance (T := "StopIteration") (b := true) ⟨_, Heap.get?_update_self _ (Heap.get?_push_size _ rfl) rfl, rfl⟩ isSubtype_stop (wpAny_pure (hQ _ fun b o e => ?_)))
  rw [Heap.get?_update_other _ _ (Nat.ne_of_gt (Heap.lt_size (Heap.get?_push_of_some _ e)))]
  exact Heap.get?_push_of_some _ (Heap.get?_push_of_some _ e)
theorem list_end {it l x1 : Addr} {i : Nat} {items : Array Value} {Q : Option Value → Shared → Prop} (hot : HotAt A x1 s.heap) (ne : x1 ≠ it) (hit : s.heap.IsListIter it l i) (hl : s.heap.IsList l items) (hx : items[i]? = none)
    (hQ : ∀ h', Heap.ExtBut it s.heap h' → Q none { s with heap := h' }) : wpAny (model prog w) A (pyNext (.ref it)) Q E s := by
  obtain ⟨o, ho, hc, hd⟩ := id hit
  obtain ⟨ol, hol, _, nl, hdl⟩ := hl
  unfold pyNext
  refine wpAny_bind (wpAny_attempt (wpAny_callSpecial?_slot (name := Str.ofString "__next__") hit.typeIs slot_listiter_next (wpAny_call_entry slot_listiter_next hit.typeIs entry_listiter_next ?_ (args_listiter_next _))))
  show wpAny _ _ (field (.ref it) 0 >>= _) _ _ s
  refine wpAny_bind (wpAny_field ho hd (x := .ref l) rfl ?_)
  rw [if_neg (show ¬ ((Value.ref l == Value.none) = true) from Bool.false_ne_true)]
  refine wpAny_bind (wpAny_field ho hd (x := .int i 0) rfl (wpAny_bind (wpAny_seqItems hol hdl ?_)))
  simp only [Int.toNat_natCast, hx]
  refine wpAny_bind (wpAny_rule (wpAny_bind (wpAny_setField ho hd (by simp) ?_)))
  obtain ⟨hh, o1, vs1, g1, d1, c1⟩ := hot
  refine stop_hot (k := fun e => raiseNew e) rfl (fun _ => rfl) ⟨hh, o1, vs1, (Heap.get?_update_other _ _ ne.symm).trans g1, d1, c1⟩ fun h' kp => hQ h' fun b ob hb e => kp b ob ((Heap.get?_update_other _ _ (Ne.symm hb)).trans e)
theorem tuple_end {it l x1 : Addr} {i : Nat} {items : Array Value} {Q : Option Value → Shared → Prop} (hot : HotAt A x1 s.heap) (ne : x1 ≠ it) (hit : s.heap.IsTupleIter it l i) (hl : s.heap.IsTuple l items) (hx : items[i]? = none)
    (hQ : ∀ h', Heap.ExtBut it s.heap h' → Q none { s with heap := h' }) : wpAny (model prog w) A (pyNext (.ref it)) Q E s := by
  obtain ⟨o, ho, hc, hd⟩ := id hit
  obtain ⟨ol, hol, _, nl, hdl⟩ := hl
  unfold pyNext
  refine wpAny_bind (wpAny_attempt (wpAny_callSpecial?_slot (name := Str.ofString "__next__") hit.typeIs F.slot_tuple_iterator_next (wpAny_call_entry F.slot_tuple_iterator_next hit.typeIs F.entry_tuple_iterator_next ?_ (F.args_tuple_iterator_next_1 _))))
  show wpAny _ _ (field (.ref it) 0 >>= _) _ _ s
  refine wpAny_bind (wpAny_field ho hd (x := .ref l) rfl ?_)
  rw [if_neg (show ¬ ((Value.ref l == Value.none) = true) from Bool.false_ne_true)]
  refine wpAny_bind (wpAny_field ho hd (x := .int i 0) rfl (wpAny_bind (wpAny_seqItems hol hdl ?_)))
  simp only [Int.toNat_natCast, hx]
  refine wpAny_bind (wpAny_rule (wpAny_bind (wpAny_setField ho hd (by simp) ?_)))
  obtain ⟨hh, o1, vs1, g1, d1, c1⟩ := hot
  refine stop_hot (k := fun e => raiseNew e) rfl (fun _ => rfl) ⟨hh, o1, vs1, (Heap.get?_update_other _ _ ne.symm).trans g1, d1, c1⟩ fun h' kp => hQ h' fun b ob hb e => kp b ob ((Heap.get?_update_other _ _ (Ne.symm hb)).trans e)
end
/-! ### walks -/
section
variable {P : Program} {w : World} {K : PySem.W.Frag} {tg : Expr}
theorem hot_of {X : Cx} {pins : List (Addr × Obj)} {σ : L2.St} {H : Hp} {s : Shared} {it : Addr} (hc : HotC X) (I : Inv X pins σ H s) (hf : FpOk X pins H it) : ∃ x1, HotAt X.A x1 s.heap ∧ x1 ≠ it := by
  obtain ⟨p, ⟨hh, v1, e1, c1⟩, hp⟩ := hc
  exact ⟨p.1, ⟨hh, p.2, v1, (I.pin p (List.mem_append_left _ hp)).1, e1, c1⟩, hf.2.2.2.2.2 p (List.mem_append_left _ hp)⟩
theorem turnL (a it : Addr) : TurnH P w K tg (Itl K a) [it] it (fun i h => h.IsListIter it a i) :=
  let T : Turn P w K tg (Itl K a) [it] it (fun i h => h.IsListIter it a i) := turn_list a it
  { mem := T.mem, obj := T.obj, keep := T.keep, self := T.self
    item := fun X hP hw hK hc i pins s σ H E I hf st ⟨xs, x, hq, hx⟩ => by
      subst hP hw hK
      obtain ⟨f0, f1, f2, f3, f4, f5⟩ := hf it (List.mem_singleton.mpr rfl)
      obtain ⟨its, rv, p, _⟩ := I.list hq
      obtain ⟨u, hu, ru⟩ := rv.get hx
      refine wpAny_pyNext_list_item st p.isList (x := u) (by simpa using hu) fun h' st' sb => ?_
      have I1 := I.turned (t' := s.toks) (fun b o hb e => (sb.2 b hb).trans e) f0 f1 f3 f4 f5
      obtain ⟨o, e, c, d⟩ := id st'
      exact ⟨u, rfl, go_of (s := { s with heap := h' }) e c d (by decide) ⟨x, H, I1, ru, ⟨rfl, fun ys hy => (congrArg (·[i]?) (I.list_inj hy hq)).trans hx⟩, st', fun b hb => (hf b hb).1⟩⟩
    done := fun X hP hw hK hc i pins s σ H E I hf st ⟨xs, hq, hx⟩ => by
      subst hP hw hK
      have ff := hf it (List.mem_singleton.mpr rfl)
      obtain ⟨f0, f1, f2, f3, f4, f5⟩ := id ff
      obtain ⟨its, rv, p, _⟩ := I.list hq
      obtain ⟨x1, hot, ne⟩ := hot_of hc I ff
      have hl := rv.length
      exact list_end hot ne st p.isList (by simp; omega) fun h' eb => ⟨rfl, I.turned (t' := s.toks) (fun b o hb e => eb b o hb e) f0 f1 f3 f4 f5⟩ }
theorem turnT (a it : Addr) : TurnH P w K tg (Itt K a) [it] it (fun i h => h.IsTupleIter it a i) :=
  let T : Turn P w K tg (Itt K a) [it] it (fun i h => h.IsTupleIter it a i) := turn_tuple a it
  { mem := T.mem, obj := T.obj, keep := T.keep, self := T.self
    item := fun X hP hw hK hc i pins s σ H E I hf st ⟨xs, x, hq, hx⟩ => by
      subst hP hw hK
      obtain ⟨f0, f1, f2, f3, f4, f5⟩ := hf it (List.mem_singleton.mpr rfl)
      obtain ⟨its, rv, p, _⟩ := I.tuple hq
      obtain ⟨u, hu, ru⟩ := rv.get hx
      refine wpAny_pyNext_tuple_item st (show s.heap.IsTuple a its.toArray from p) (x := u) (by simpa using hu) fun h' st' sb => ?_
      have I1 := I.turned (t' := s.toks) (fun b o hb e => (sb.2 b hb).trans e) f0 f1 f3 f4 f5
      obtain ⟨o, e, c, d⟩ := id st'
      exact ⟨u, rfl, go_of (s := { s with heap := h' }) e c d (by decide) ⟨x, H, I1, ru, ⟨rfl, fun ys hy => (congrArg (·[i]?) (I.tuple_inj hy hq)).trans hx⟩, st', fun b hb => (hf b hb).1⟩⟩
    done := fun X hP hw hK hc i pins s σ H E I hf st ⟨xs, hq, hx⟩ => by
      subst hP hw hK
      have ff := hf it (List.mem_singleton.mpr rfl)
      obtain ⟨f0, f1, f2, f3, f4, f5⟩ := id ff
      obtain ⟨its, rv, p, _⟩ := I.tuple hq
      obtain ⟨x1, hot, ne⟩ := hot_of hc I ff
      have hl := rv.length
      exact tuple_end hot ne st (show s.heap.IsTuple a its.toArray from p) (by simp; omega) fun h' eb => ⟨rfl, I.turned (t' := s.toks) (fun b o hb e => eb b o hb e) f0 f1 f3 f4 f5⟩ }
end
section
variable {X : Cx} {tg l : Expr} {tl : TE}
theorem pi_listH (hl : PE X l tl) : PIH X tg l (iList X.K tl) := ⟨fun pins s σ H R I h => thn (hl.run pins s σ H _ I h) fun v s1 ⟨x, H1, I1, r1, a, e, ⟨xs, hq⟩, q⟩ => by
  subst e
  cases r1
  obtain ⟨its, rv, p, _⟩ := I1.list hq
  exact wpAny_pyIter_list p.isList ⟨s1.heap.objs.size, [s1.heap.objs.size], _, _, H1, rfl, I1.kept (t' := s1.toks) fun b o e => Heap.get?_push_of_some _ e, turnL a _, ⟨_, Heap.get?_push_size _ rfl, rfl, rfl⟩, fun b hb => by
    rw [List.mem_singleton.mp hb]
    exact I1.fpOk (Nat.le_refl _) (I1.hok.fresh (Nat.le_refl _)), q⟩⟩
theorem pi_tupH (hl : PE X l tl) : PIH X tg l (iTup X.K tl) := ⟨fun pins s σ H R I h => thn (hl.run pins s σ H _ I h) fun v s1 ⟨x, H1, I1, r1, a, e, ⟨xs, hq⟩, q⟩ => by
  subst e
  cases r1
  obtain ⟨its, rv, p, _⟩ := I1.tuple hq
  exact wpAny_pyIter_tuple (show s1.heap.IsTuple a its.toArray from p) ⟨s1.heap.objs.size, [s1.heap.objs.size], _, _, H1, rfl, I1.kept (t' := s1.toks) fun b o e => Heap.get?_push_of_some _ e, turnT a _, ⟨_, Heap.get?_push_size _ rfl, rfl, rfl⟩, fun b hb => by
    rw [List.mem_singleton.mp hb]
    exact I1.fpOk (Nat.le_refl _) (I1.hok.fresh (Nat.le_refl _)), q⟩⟩
end
/-! ### the block -/
/-- a comprehension's block whose pins stay -/
abbrev blkP (X : Cx) (s : Shared) (H : Hp) (scope : Scope) (cenv : Env) (fp : List Addr) : Cx := { X.blk s H scope cenv fp with pn := X.pn }
theorem toP {X : Cx} {s0 : Shared} {H0 : Hp} {scope : Scope} {cenv : Env} {fp : List Addr} {pins : List (Addr × Obj)} {σ : L2.St} {H : Hp} {s : Shared} (I : Inv (X.blk s0 H0 scope cenv fp) pins σ H s)
    (hp : ∀ p ∈ X.pn, s.heap.get? p.1 = some p.2 ∧ H p.1 = none ∧ p.1 ≠ cenv.locals ∧ p.1 ∉ frs X.stack ∧ ∀ v, p.2.data ≠ .cell v) : Inv (blkP X s0 H0 scope cenv fp) pins σ H s :=
  let o := I.ok
  { ok := ⟨o.mod, o.kind, o.glob, o.blt, o.above, o.inj, o.has, o.cab, o.hd, o.frames, o.stk, o.exf, o.bs, o.bsz, o.noex, o.exfs, o.funs, o.frf⟩
    os := I.os, bare := I.bare, base := I.base, loc := I.loc, cell := I.cell, free := I.free, freeC := I.freeC, hok := I.hok, len := I.len
    pin := fun p h => (List.mem_append.mp h).elim (hp p) fun h => I.pin p (List.mem_append_right _ h) }
/-- [elt for target in iter], an exception being handled -/
theorem pe_lcH {X : Cx} {elt tg iter : Expr} {scope : Scope} {own : List (Str × Nat)} {pos : Pos} {wi : TI} {g : TG} {te : TE} (hc : HotC X) (hN : X.N.Nodup) (hi : PIH X tg iter wi) (ok : BlkOk X.N X.env.scope scope own)
    (hg : ∀ (s : Shared) (H : Hp) (C : Addr) (cl : List (Str × Addr)) (fp : List Addr), PG (blkP X s H scope (compEnvC scope cl C X.env) fp) tg g)
    (he : ∀ (s : Shared) (H : Hp) (C : Addr) (cl : List (Str × Addr)) (fp : List Addr), PE (blkP X s H scope (compEnvC scope cl C X.env) fp) elt te) (hs : ∀ x, foldedSetIterable iter X.env x = pure x := by intro _; rfl) :
    PE X (.ListComp elt [⟨tg, iter, [], 0⟩] scope pos) (tLc wi g tYes te (own.map (·.2))) := by
  refine ⟨fun pins s σ H Q I h => ?_⟩
  have free : ∀ y ∈ scope.names, y.2 = .free → ∃ c, X.env.cells.lookup y.1 = some c := fun y hy e => I.ok.has _ ((ok.free y hy e).imp (fun k => k) fun k => k)
  rw [eval_ListComp]
  refine wpAny_comprehension_free (use := none) rfl hs (closure_ok free) ok.kind (fun y hy e => (ok.uniq y hy).trans (congrArg some e)) (thn (hi.run pins s σ H _ I h) fun _ s1 h1 => thn h1 fun _ s2 ⟨it, fp, tn, J, H2, e, I2, T, st2, f2, q⟩ => ?_)
  subst e
  refine wpAny_newObj_type (newEnv_comp ?_) (Nat.zero_le sizeLine)
  -- the new list stands at D
  obtain ⟨W, ⟨m0, w0⟩, turn⟩ := q _ (I2.hok.fresh (Nat.le_refl s2.heap.objs.size))
  have I3 : Inv X pins σ (upd H2 s2.heap.objs.size (.lst [])) { s2 with heap := s2.heap.push { cls := .type "list", data := .seq ([] : List Value).toArray } } :=
    I2.laid (t' := s2.toks) (fun b o e => Heap.get?_push_of_some _ e) (Nat.le_refl _) ⟨Nat.zero_le _, [], 0, .nil, Heap.get?_push_size _ rfl⟩
  have below : ∀ b ∈ fp, b < s2.heap.objs.size := fun b hb => by
    obtain ⟨o, e, _⟩ := T.obj _ _ st2 b hb
    exact Heap.lt_size e
  have f3 : ∀ b ∈ fp, FpOk X pins (upd H2 s2.heap.objs.size (.lst [])) b ∧ b < ({ s2 with heap := s2.heap.push { cls := .type "list", data := .seq ([] : List Value).toArray } } : Shared).heap.objs.size := fun b hb =>
    ⟨⟨(upd_ne (Nat.ne_of_lt (below b hb))).trans (f2 b hb).1, (f2 b hb).2⟩, by rw [Heap.size_push]; exact Nat.lt_succ_of_lt (below b hb)⟩
  have st3 : tn 0 ({ s2 with heap := s2.heap.push { cls := .type "list", data := .seq ([] : List Value).toArray } } : Shared).heap := T.keep _ _ _ st2 fun b _ o e => Heap.get?_push_of_some _ e
  generalize hD : s2.heap.objs.size = D at turn I3 f3 st3 w0 ⊢
  generalize hs3 : ({ s2 with heap := s2.heap.push { cls := .type "list", data := .seq ([] : List Value).toArray } } : Shared) = s3 at I3 f3 st3
  have B0 := block_start I3 ok hN f3
  have pg := hg s3 (upd H2 D (.lst [])) s3.heap.objs.size (cellsFrom (s3.heap.objs.size + 1) scope.names (cloFrom X.env.cells scope.names [])) fp
  have pe := he s3 (upd H2 D (.lst [])) s3.heap.objs.size (cellsFrom (s3.heap.objs.size + 1) scope.names (cloFrom X.env.cells scope.names [])) fp
  show codeAny _ _ (.compStart (.ListComp elt [⟨tg, iter, [], 0⟩] scope pos) 0 (.ref it) (.ref D) (compEnvC scope (cellsFrom (s3.heap.objs.size + 1) scope.names (cloFrom X.env.cells scope.names [])) s3.heap.objs.size X.env)) (compPost (model X.prog X.w) X.A X.xe none (EP X pins σ Q) (.ref D) s3.heap.objs.size) { s3 with heap := pushCells (s3.heap.push { cls := .type "dict", data := .dict #[] }) scope.names }
  have cL : (compEnvC scope (cellsFrom (s3.heap.objs.size + 1) scope.names (cloFrom X.env.cells scope.names [])) s3.heap.objs.size X.env).locals = s3.heap.objs.size := rfl
  generalize compEnvC scope (cellsFrom (s3.heap.objs.size + 1) scope.names (cloFrom X.env.cells scope.names [])) s3.heap.objs.size X.env = ce at B0 pg pe cL ⊢
  have B := toP B0 fun p hp => by
    obtain ⟨g1, g2, g3, g4, g5⟩ := I3.pin p (List.mem_append_left _ hp)
    exact ⟨pushCells_keeps _ _ _ _ (Heap.get?_push_of_some _ g1), g2, by rw [cL]; exact Nat.ne_of_lt (Heap.lt_size g1), fun hm => (List.mem_cons.mp (I3.stkSub p.1 hm)).elim g3 g4, g5⟩
  have st4 : tn 0 ({ s3 with heap := pushCells (s3.heap.push { cls := .type "dict", data := .dict #[] }) scope.names } : Shared).heap := T.keep _ _ _ st3 fun b _ o e => pushCells_keeps _ _ _ _ (Heap.get?_push_of_some _ e)
  generalize ({ s3 with heap := pushCells (s3.heap.push { cls := .type "dict", data := .dict #[] }) scope.names } : Shared) = s4 at B st4 ⊢
  have fpk : ∀ {σ' : L2.St} {H' : Hp} {s' : Shared}, Inv (blkP X s3 (upd H2 D (.lst [])) scope ce fp) [] σ' H' s' → (∀ b ∈ fp, H' b = none) → ∀ b ∈ fp, FpOk (blkP X s3 (upd H2 D (.lst [])) scope ce fp) [] H' b := fun I' hn b hb =>
    ⟨hn b hb, (I'.ok.exf b hb).1, I'.ok.exfs b hb, .inl hb, (I'.ok.exf b hb).2, fun p hp => (f3 b hb).1.2.2.2.2.2 p (List.mem_append_left _ (by rw [List.append_nil] at hp; exact hp))⟩
  have L : codeAny (model X.prog X.w) X.A (.compLoop (.ListComp elt [⟨tg, iter, [], 0⟩] scope pos) 0 (.ref it) (.ref D) ce) (compPost (model X.prog X.w) X.A X.xe none (EP X pins σ Q) (.ref D) s3.heap.objs.size) s4 := by
    refine compLoop_any (fun n s' => ∃ i H', Inv (blkP X s3 (upd H2 D (.lst [])) scope ce fp) [] (wipe σ (own.map (·.2))) H' s' ∧ tn i s'.heap ∧ (∀ b ∈ fp, H' b = none) ∧ W i n H') ?_ m0 ⟨0, _, B, st4, fun b hb => (f3 b hb).1.1, w0⟩
    rintro n s5 ⟨i, H5, I5, st5, n5, w5⟩
    rcases turn i n H5 w5 with ⟨stop, done⟩ | ⟨go, Nx, next, step⟩
    · refine thnF (T.done (blkP X s3 (upd H2 D (.lst [])) scope ce fp) rfl rfl rfl hc i [] s5 _ H5 (fun _ _ => False) I5 (fpk I5 n5) st5 stop) fun r s6 ⟨hr, I6⟩ => ?_
      subst hr
      obtain ⟨m, hn, _⟩ := I6.loc
      have hn : s6.heap.Ns ce.locals m := hn
      have nC : H5 ce.locals = none := I6.free
      rw [cL] at hn nC
      obtain ⟨f0, f1, f2', f4, f5, f6⟩ := I3.fpOk (H' := H5) (Nat.le_refl _) nC
      have I7 : Inv X pins σ H5 s6 := I3.call' (ch := fp) I6.os I6.base I6.hok I6.bare fun b hb =>
        let ⟨_, a1, a2, a3, a4, a5⟩ := (f3 b hb).1
        ⟨a3, a1, a4, a5⟩
      exact ⟨m, hn, fun h' sb => ⟨.ref D, H5, I7.turned (t' := s6.toks) (fun b o hb e => (sb.2 b hb).trans e) f0 f1 f4 f5 f6, rfl, done⟩⟩
    · refine thnF (T.item (blkP X s3 (upd H2 D (.lst [])) scope ce fp) rfl rfl rfl hc i [] s5 _ H5 (fun _ _ => False) I5 (fpk I5 n5) st5 go) fun r s6 ⟨u, hr, h6⟩ => ?_
      subst hr
      refine thnF h6 fun _ s7 ⟨x, H7, I7, r7, y7, st7, n7⟩ => ?_
      refine thnF (pg.run _ s7 _ H7 x u _ (I7.pinned (fpk I7 n7) (T.obj _ _ st7)) r7 (step x H7 y7)) fun _ s8 ⟨σ8, H8, I8, hw, q8⟩ => ?_
      refine wpAny_tests_nil ?_
      have q8 : te σ8 H8 fun y H4 => ∃ acc, H4 D = some (.lst acc) ∧ acc.length < sizeLine ∧ Nx (upd H4 D (.lst (acc ++ [y]))) := q8
      refine thnF (pe.run _ s8 σ8 H8 _ I8 q8) fun z s9 ⟨yv, H9, I9, r9, acc, hD9, hz9, nx⟩ => ?_
      refine app_ok (X := blkP X s3 (upd H2 D (.lst [])) scope ce fp) I9 hD9 hz9 r9 fun s10 I10 => ?_
      obtain ⟨m', hm, w'⟩ := next _ nx
      have kept : ∀ b ∈ fp, ∀ o, s7.heap.get? b = some o → s10.heap.get? b = some o ∧ (upd H9 D (.lst (acc ++ [yv]))) b = none := fun b hb o e =>
        let z := I10.pin (b, o) (List.mem_append_right _ (List.mem_append_right _ (mem_pinsAt hb e)))
        ⟨z.1, z.2.1⟩
      refine ⟨m', hm, i + 1, _, (I10.unpinned (pins := [])).weak (by rw [← hw, wipe_length]) (fun j v e => ?_), T.keep _ _ _ st7 fun b hb o e => (kept b hb o e).1, fun b hb => ?_, w'⟩
      · rw [← hw] at e
        exact (wipe_some e).1
      · obtain ⟨o, e, _⟩ := T.obj _ _ st7 b hb
        exact (kept b hb o e).2
  exact codeAny_compStart_list L (T.self X.A 0 _ _ _ st4 L)
end OwnHot
/-! Own exceptions with a known context: what is raised by an own class, told so that a suite may call defs. -/
namespace OwnExN
open PySem PySem.Spec PyProof.Rows L2
section
variable {X : Cx} {CX : CXT} {x : Str} {C fI : Addr} {k : Nat} {fd : FuncData} {ps : List Str} {sp : Sp} {e : Expr} {es : List Expr} {ta : TA} {p pos : Pos}
/-- an own exception's call, its __init__ a def of one promise: what stands behind it -/
theorem raised_new {pins : List (Addr × Obj)} {σ : L2.St} {H1 : Hp} {s1 : Shared} {us : List Value} {vs : List V} {Q : XK} (T : OexC X.K C) (iC : PySem.W.findIn X.K (.ref C) "__init__" = some (some (.ref fI))) (tI : PySem.W.typeIn X.K (.ref fI) = some (.type "function"))
    (F1 : FnOk X.prog X.w X.K X.mg X.base CX k fI fd ps sp) (hr : Room (k + 1) X.A) (hb : Binds X.K fd ps []) (hx : Passes CX X (fun _ _ _ => False)) (I1 : Inv X pins σ H1 s1) (r1 : Vals vs us) (hz : vs.length ≤ 1000)
    (h : ∀ a, H1 a = none → sp (.ref a :: vs) (upd H1 a (exo a C none)) (fun v H2 => v = .non ∧ ∃ (d : Addr) (fs : List (Str × V)), H2 a = some (exo a C (some d)) ∧ H2 d = some (exd d fs) ∧ H1 d = none ∧ Q (.ref C) (some d) (upd (del H2 a) d (.xd fs))) (fun _ _ _ => False)) :
    wpAny (model X.prog X.w) X.A (call (.ref C) us) (L2N.MkP X pins σ Q) X.xe s1 := by
  obtain ⟨_, _, _, _, bm, _, _, _, _, _, _, _, _, _, _, inK, bmOk⟩ := T.cls
  have small : us.length ≤ sizeLine := Nat.le_trans (Nat.le_of_eq (Paired.length r1).symm) (Nat.le_trans hz (by decide))
  cases s1 with | mk hp g dr tk os =>
  -- the address of the new exception; what it promises there
  have q := h (hp.objs.size + 1) (I1.hok.fresh (Nat.le_succ _))
  have args : Vals (V.ref (hp.objs.size + 1) :: vs) (Value.ref (hp.objs.size + 1) :: us) := .cons rfl r1
  have J := I1.laid (t' := tk) (a := hp.objs.size + 1) (o := exo (hp.objs.size + 1) C none) (h' := (hp.push (PySem.W.kdv_tup us)).push (PySem.HandSPX.excO C hp.objs.size)) (fun b o z => Heap.get?_push_of_some _ (Heap.get?_push_of_some _ z)) (Nat.le_succ _) (exo_ok (by heap_get))
  have bd := hb _ (Value.ref (hp.objs.size + 1) :: us) J.kIn (by rw [List.append_nil]; exact args.length.symm.trans (F1.len _ _ _ _ q))
  rw [List.append_nil] at bd
  refine wpAny_call (PySem.HandSPX.call_own F.excBase_ValueError (PySem.HandSPX.refsVE_contains · bm bmOk) (I1.kIn _ _ inK) (PySem.W.looks_findIn I1.kIn iC) (fun self => PySem.W.bind_fn I1.kIn self tI) small ?_)
  refine codeAny_mono (F1.run _ X.stack _ _ ⟨Value.ref (hp.objs.size + 1) :: us, []⟩ _ _ _ (fun _ _ _ => False) (hr.make C us []) (J.env0.make C us []) bd args q) ?_
  rintro (er | fl) s' z
  · exact hx pins σ _ _ er s' J z
  · cases fl with
    | ret u =>
      obtain ⟨v, H2, o1, o2, o3, o4, rv, ev, d, fs, m1, m2, m3, fin⟩ := z
      subst ev
      cases s' with | mk h2 g2 d2 t2 os' =>
      obtain ⟨t0, G, JG, kG, nG, at2, free⟩ := mk_end0 (d2 := d2) (t2 := t2) I1 (Nat.le_succ _) (fun b o z => Heap.get?_push_of_some _ (Heap.get?_push_of_some _ z)) o3 o4 o1 o2 m1 m2 m3
      exact ⟨rv, hp.objs.size + 1, _, _, ⟨G, g2, d2, t2, os'⟩, _, .ref C, some d, rfl, JG, kG, nG, at2, ⟨rfl, rfl, fun vs hv => by cases hv; rfl⟩, rfl, rfl, free, rfl, o2, raises_own T.exC T.tyC, fin⟩
    | next => exact z.elim
    | brk => exact z.elim
    | cont => exact z.elim
theorem pmk_oexN (T : OexC X.K C) (iC : PySem.W.findIn X.K (.ref C) "__init__" = some (some (.ref fI))) (tI : PySem.W.typeIn X.K (.ref fI) = some (.type "function"))
    (F1 : FnOk X.prog X.w X.K X.mg X.base CX k fI fd ps sp) (hr : Room (k + 1) X.A) (hb : Binds X.K fd ps []) (hx : Passes CX X (fun _ _ _ => False)) (hg : Gl X x) (hm : X.mg x = some (.ref C)) (ha : PA X (e :: es) ta)
    (hdb : (x == ("__debug__" : Str)) = false := by decide) (he : starEach (e :: es) X.env = (false, eval e X.env) :: starEach es X.env := by rfl) (hpl : (backTo pos (starEach es X.env)).any (·.1) = false := by rfl) :
    L2N.PMk X (.Call (.Name x p) (e :: es) [] pos) (tMkO C sp [] ta) := fun pins s σ H Q I h =>
  wpAny_Call_Name_kw (ld_glob I hg hm (PySem.W.callWith_K (h₀ := X.base) I.ok.mod.kin T.kC (thn (ha.run pos pins s σ H _ I h) fun us s1 ⟨vs, H1, I1, r1, hz, q1⟩ => ⟨I1.kIn, raised_new T iC tI F1 hr hb hx I1 r1 hz fun a n => by
    have z := q1 a n
    rw [List.append_nil] at z
    exact z⟩) he hpl) hdb)
end
theorem passN {X : Cx} : Passes (L2N.CX X.prog X.w) X E0 := fun _ _ _ _ _ _ _ h => by
  obtain ⟨_, _, _, _, _, _, _, _, _, _, _, _, z⟩ := h
  exact z.elim
theorem takesN0 {X : Cx} : L2N.Takes X (fun _ _ _ _ => False) := fun _ _ x => by
  obtain ⟨_, _, _, _, _, _, _, _, _, _, _, _, _, _, _, _, z⟩ := x
  exact z.elim
/-- the rule of a def that may raise, the exception's context known -/
theorem okN {P : Program} {w : World} {K : PySem.W.Frag} {mg : Str → Option Value} {base : Heap} {x qual : Str} {st : Stmt} {f : Addr} {fd : FuncData} {N ps : List Str} {k : Nat} {sp : Sp} (F : Fun K x qual st f fd) (S : FnScope N ps (defScope st)) (len : ∀ vs H Q E, sp vs H Q E → vs.length = ps.length)
    (hbody : ∀ (cdv : Value) (A : Around) (outer : List Env) (s : Shared) (H : Hp) (vs : List V) (Q : VK) (E : XK), Room k (A.deeper (envOfC qual (defScope st) s.heap.objs.size f cdv)) → sp vs H Q E →
      ∃ t, PSs (cxOf (L2N.CX P w) P w K mg base N qual (defScope st) f cdv A outer s H E) (defBody st) t ∧ t { nx := fun _ H' => Q .non H', rt := Q } (L2.start N vs) H) : FnOk P w K mg base (L2N.CX P w) (k + 1) f fd ps sp :=
  match F.ex with
  | ⟨_, _, _, _, _, _, _, _, _, e, lk, hcd⟩ => e ▸ fn_of (e ▸ lk) hcd S len fun A outer s H vs Q E hr hsp => hbody _ A outer s H vs Q E hr hsp
end OwnExN
/-! Rules of our own: len of an own instance; a try with several handlers, named or not. -/
namespace OwnProj
open PySem PySem.Spec PyProof.Rows L2
section
variable {X : Cx} {CX : CXT} {n : Nat} {f C : Addr} {fd : FuncData} {ps : List Str} {sp : Sp} {E : XK}
/-- len(x) by the class's own __len__ -/
def rLenO (C : Addr) (sp : Sp) (E : XK) : List V → Hp → VK → Prop := fun xs H Q => ∃ a dx fs, xs = [.ref a] ∧ H a = some (.ins C dx fs) ∧ sp [.ref a] H (fun v H' => ∃ k : Nat, v = .int k ∧ k < 2 ^ 62 ∧ Q v H') E
theorem call_lenO (F : FnOk X.prog X.w X.K X.mg X.base CX n f fd ps sp) (hr : Room (n + 1) X.A) (m : Meth X.K C "__len__" f) (hb : Binds X.K fd ps []) (hx : Passes CX X E) : CallR X (.builtin "len") (rLenO C sp E) := by
  rintro pins s σ H xs us Q I r ⟨a, dx, fs, rfl, ha, hq⟩
  obtain ⟨u, rfl, rx⟩ := vals1 r
  cases rx
  obtain ⟨mA, J, _⟩ := ins_get I.hok ha
  obtain ⟨od, J, _⟩ := J.look
  obtain ⟨m0, hF⟩ := I.fr
  have args : Vals [V.ref a] [Value.ref a] := .cons rfl .nil
  have bd := hb s [Value.ref a] I.kIn (by rw [List.append_nil]; exact args.length.symm.trans (F.len _ _ _ _ hq))
  rw [List.append_nil] at bd
  refine PySem.W.len_K hF I.ok.mod.kin J m.at_ m.fn (wpAny_call (codeAny_mono (F.run X.A.in1 X.stack s H ⟨[Value.ref a], []⟩ _ _ _ E hr.in1 I.env0.in1 bd args hq) ?_))
  rintro (e | fl) s' z
  · exact hx pins σ H s e s' I z
  · cases fl with
    | ret u =>
      obtain ⟨v, H', I', rv, k, ev, hk, q⟩ := I.after z
      subst ev
      obtain ⟨t, rfl⟩ := rv
      refine ⟨⟨by omega, by omega⟩, ?_⟩
      exact ⟨.int k, H', I'.tok _, ⟨_, rfl⟩, q⟩
    | next => exact z.elim
    | brk => exact z.elim
    | cont => exact z.elim
end
/-! ### several handlers, some with a name -/
structure HdD where
  c : Value
  i : Option Nat
  ts : Addr → Value → Option Addr → TS
def endsAt (D : Ends) : Option Nat → Ends
  | none => D
  | some i => { nx := fun σ' H' => D.nx (σ'.set i none) H', rt := D.rt, bk := fun σ' H' => D.bk (σ'.set i none) H', ct := fun σ' H' => D.ct (σ'.set i none) H' }
def slotAt (σ : L2.St) (a : Addr) : Option Nat → L2.St
  | none => σ
  | some i => σ.set i (some (.ref a))
/-- what is wished of a body's exception: the first handler that takes it -/
def wHds (K : PySem.W.Frag) (Wout : WX) (D : Ends) : List HdD → WX
  | [] => Wout
  | h :: r => fun cls d σ H => ∃ b, PySem.W.exmOne K cls h.c = some b ∧ (b = true → ∀ a, H a = none → h.ts a cls d (endsAt D h.i) (slotAt σ a h.i) H) ∧ (b = false → wHds K Wout D r cls d σ H)
inductive Hds (X : Cx) : List ExceptHandler → List HdD → Prop
  | nil : Hds X [] []
  | bare {x : Str} {c : Value} {ts : Addr → Value → Option Addr → TS} {b₀ : Stmt} {suite : List Stmt} {np pos' : Pos} {hds : List ExceptHandler} {l : List HdD} (hc : Names X x c)
      (su : ∀ (ea : Addr) (oe : Obj) (cls : Value) (d : Option Addr) (pn : List (Addr × Obj)), L2N.Zn cls d oe → (∃ vs, oe.data = .fields vs) → PSs (X.suite ea ((ea, oe) :: pn)) (b₀ :: suite) (ts ea cls d)) (r : Hds X hds l) :
      Hds X (.ExceptHandler (some (.Name x np)) none (b₀ :: suite) pos' :: hds) (⟨c, none, ts⟩ :: l)
  | named {x n : Str} {c : Value} {i : Nat} {ts : Addr → Value → Option Addr → TS} {b₀ : Stmt} {suite : List Stmt} {np pos' : Pos} {hds : List ExceptHandler} {l : List HdD} (hN : X.N.Nodup) (hi : X.N[i]? = some n) (hn : X.env.kindOf n = some .local) (hc : Names X x c)
      (su : ∀ (ea : Addr) (oe : Obj) (cls : Value) (d : Option Addr) (pn : List (Addr × Obj)), L2N.Zn cls d oe → (∃ vs, oe.data = .fields vs) → PSs (X.suite ea ((ea, oe) :: pn)) (b₀ :: suite) (ts ea cls d)) (r : Hds X hds l) :
      Hds X (.ExceptHandler (some (.Name x np)) (some n) (b₀ :: suite) pos' :: hds) (⟨c, some i, ts⟩ :: l)
section
variable {X : Cx} {body : List Stmt} {h₀ : ExceptHandler} {hds : List ExceptHandler} {l : List HdD} {pos : Pos} {tb : WX → TS} {Wout : WX}
/-- where an exception has landed in our frame: the handlers in their order -/
theorem hds_run {pins : List (Addr × Obj)} {σ : L2.St} {H : Hp} {D : Ends} {ea : Addr} {B : Heap} {sI : Shared} {cls : Value} {d : Option Addr} {s : Shared} {h3 : Heap} (own : X.stack = X.env :: X.outer) (fr : X.env.frame = some X.env.locals) (tk : L2N.Takes X Wout) (ok : X.Ok)
    (J : Inv X pins σ H sI) (nb : ∀ b o, sI.heap.get? b = some o → b ∉ frs X.stack → B.get? b = some o) (up3 : sI.heap.UpToSlots h3) (fl3 : HandSPX.FlyingZ B (X.env :: X.outer) ea (L2N.Zn cls d) h3) (na : H ea = none) (os : s.os = sI.os) (ag : AllBare s.gens) :
    ∀ {hds : List ExceptHandler} {l : List HdD}, Hds X hds l → wHds X.K Wout D l cls d σ H → wpAny (model X.prog X.w) X.A (handleBy (.ref ea) X.env hds) (SP X pins D) X.xe { s with heap := h3 } := by
  have landed : ∀ {h : Heap}, HandSPX.FlyingZ B (X.env :: X.outer) ea (L2N.Zn cls d) h → sI.heap.UpToSlots h → Inv X pins σ H { s with heap := h } := fun fl up => J.landed nb fl.1 up os ag
  obtain ⟨oe3, vs3, he3, hz3, hd3⟩ := fl3.there
  have apart : ea ∉ frs (X.env :: X.outer) := fun hm => by
    obtain ⟨_, o, at1, no⟩ := fl3.2.2.1.mem hm
    rw [he3] at at1
    cases at1
    exact no _ hd3
  have n1 : ea ≠ X.env.locals := fun z => apart (List.mem_filterMap.mpr ⟨X.env, List.mem_cons_self, by rw [fr, z]⟩)
  have n2 : ea ∉ X.fs := fun hm => let ⟨e, he, q⟩ := List.mem_filterMap.mp hm; apart (List.mem_filterMap.mpr ⟨e, List.mem_cons_of_mem _ he, q⟩)
  have I3 := (landed fl3 up3).suite he3 hd3 na n1 n2
  -- a handler's test
  have asks : ∀ {x : Str} {c : Value} {np : Pos} {b : Bool} {Qs : Bool → Shared → Prop} {Es Et : Value → Shared → Prop}, Names X x c → PySem.W.exmOne X.K cls c = some b → Qs b { s with heap := h3 } →
      wpAny (model X.prog X.w) (X.A.mark (some (.ref ea))) (eval (.Name x np) X.env) (fun t s' => wpAny (model X.prog X.w) (X.A.mark (some (.ref ea))) (excMatches (.ref ea) t) Qs Es s') Et { s with heap := h3 } := fun {x c np b Qs Es Et} hc hb q => by
    have kind : PySem.W.Looks (model X.prog X.w) h3 (typeOf (.ref ea)) cls := fun A Q E s k q => wpAny_typeOf_ref (k _ _ he3) (by rw [hz3.1]; exact q)
    have m := PySem.W.exm_one (M := model X.prog X.w) I3.kIn kind hb
    obtain ⟨hg, hdbg, hm | ⟨hm, hv, hnn⟩⟩ := hc
    · exact ld_glob (X := X.suite ea ((ea, oe3) :: (X.pn ++ pins))) I3 hg hm (m.here q) hdbg
    · exact ld_blt (X := X.suite ea ((ea, oe3) :: (X.pn ++ pins))) I3 hg hm hv (m.here q) hnn hdbg
  intro hds l hk
  induction hk with
  | nil =>
    intro out
    refine wpAny_handleBy_nil ?_
    obtain ⟨_, _, _, _, _, T, _, _, at1, _, data, head, _⟩ := id fl3
    have flies : wpAny (model X.prog X.w) X.A (setFlight (.ref ea) X.env.frame) (fun _ s4 => wpAny (model X.prog X.w) X.A (throw (.ref ea) : Sem Flow) (SP X pins D) X.xe s4) X.xe { s with heap := h3 } := by
      rw [fr]
      exact HandSPX.setFlight_upZ fl3 fun h4 held up4 => wpAny_throw (tk _ _ ⟨ea, B, sI, pins, σ, H, cls, d, rfl, J, nb, up3.trans up4, .inr (.inr (by rw [own]; exact held)), na, os, ag, out⟩)
    unfold PySem.passOn
    refine wpAny_bind (wpAny_field at1 data head ?_)
    rw [if_neg (show ¬ ((Value.ref T == Value.none) = true) by simp)]
    first
      | exact wpAny_bind flies
      | exact wpAny_bind (wpAny_pure (wpAny_bind flies))
  | @bare x c ts b₀ suite np pos' hds2 l2 hc su r ih =>
    rintro ⟨b, hb, yes, no⟩
    refine wpAny_handleBy_cons (codeAny_handlers_test (asks hc hb ?_)) (by intro q; cases q)
    cases b with
    | false => exact ih (no rfl)
    | true =>
      refine codeAny_handlers_suite (HandSPX.lands_againZ fl3 fun h4 fl4 up4 => ?_)
      obtain ⟨oe4, vs4, he4, hz4, hd4⟩ := fl4.there
      refine wpAny_mono ((su ea oe4 cls d (X.pn ++ pins) hz4 ⟨_, hd4⟩).run [] _ _ H _ ((landed fl4 (up3.trans up4)).suite he4 hd4 na n1 n2) (yes rfl ea na)) (fun f s6 z => ?_) (fun _ _ z => z.elim)
      cases f with
      | next => exact let ⟨_, _, S6, q6⟩ := z; ⟨_, _, S6.unsuite ok, q6⟩
      | brk => exact let ⟨_, _, S6, q6⟩ := z; ⟨_, _, S6.unsuite ok, q6⟩
      | cont => exact let ⟨_, _, S6, q6⟩ := z; ⟨_, _, S6.unsuite ok, q6⟩
      | ret u => exact let ⟨_, _, _, S6, r6, q6⟩ := z; ⟨_, _, _, S6.unsuite ok, r6, q6⟩
  | @named x n c i ts b₀ suite np pos' hds2 l2 hN hi hn hc su r ih =>
    rintro ⟨b, hb, yes, no⟩
    refine wpAny_handleBy_cons (codeAny_handlers_test (asks hc hb ?_)) (by intro q; cases q)
    cases b with
    | false => exact ih (no rfl)
    | true =>
      refine codeAny_handlers_suite_as (HandSPX.lands_againZ fl3 fun h4 fl4 up4 => ?_)
      obtain ⟨oe4, vs4, he4, hz4, hd4⟩ := fl4.there
      refine store_ok (X := X.suite ea ((ea, oe4) :: (X.pn ++ pins))) (v := .ref ea) ((landed fl4 (up3.trans up4)).suite he4 hd4 na n1 n2) hN hi (.inl hn) rfl (fun s5 S5 => ?_) (.inr hn)
      refine wpAny_mono ((su ea oe4 cls d (X.pn ++ pins) hz4 ⟨_, hd4⟩).run [] s5 _ H _ S5 (yes rfl ea na)) (fun f s6 z => ?_) (fun _ _ z => z.elim)
      have gone : ∀ {σ6 : L2.St} {H6 : Hp} {Q : Shared → Prop}, Inv (X.suite ea ((ea, oe4) :: (X.pn ++ pins))) [] σ6 H6 s6 → (∀ s7, Inv X pins (σ6.set i none) H6 s7 → Q s7) → wpAny (model X.prog X.w) X.A (do bindName X.env n .none; unbindBehindTheSuite X.env n pos') (fun _ s7 => Q s7) X.xe s6 := fun S6 hq => gone_ok (S6.unsuite ok) hN hi hn hq
      cases f with
      | next => exact let ⟨_, _, S6, q6⟩ := z; gone S6 fun s7 J7 => ⟨_, _, J7, q6⟩
      | brk => exact let ⟨_, _, S6, q6⟩ := z; gone S6 fun s7 J7 => ⟨_, _, J7, q6⟩
      | cont => exact let ⟨_, _, S6, q6⟩ := z; gone S6 fun s7 J7 => ⟨_, _, J7, q6⟩
      | ret u => exact let ⟨_, _, _, S6, r6, q6⟩ := z; gone S6 fun s7 J7 => ⟨_, _, _, J7, r6, q6⟩
theorem ps_try_hds (own : X.stack = X.env :: X.outer) (fr : X.env.frame = some X.env.locals) (tk : L2N.Takes X Wout)
    (hb : ∀ (W : WX) (pn : List (Addr × Obj)) (xe : Value → Shared → Prop), L2N.Takes (X.tr pn xe) W → PassesOwn (model X.prog X.w) X.A X.env xe → PSs (X.tr pn xe) body (tb W)) (hh : Hds X (h₀ :: hds) l) :
    PS X (.Try body (h₀ :: hds) [] [] pos) (fun D σ H => tb (wHds X.K Wout D l) D σ H) := ⟨fun pins s σ H D I h => by
  have frames : X.A.frames = some (X.env :: X.outer) := by rw [I.ok.frames, own]
  let caught : Value → Shared → Prop := fun e s₁ => wpAny (model X.prog X.w) X.A (noteFrame e X.env) (fun _ s₂ => wpAny (model X.prog X.w) X.A (setFlight e none) (fun _ s₃ => wpAny (model X.prog X.w) X.A (handleBy e X.env (h₀ :: hds)) (SP X pins D) X.xe s₃) X.xe s₂) X.xe s₁
  have inner := hb (wHds X.K Wout D l) (X.pn ++ pins) caught (fun u s' ⟨ea, B, sI, pins', σ', H', cls, d, e, J, nb, up, sky, na, os, ag, w⟩ => by
    subst e
    have sky' : Sky B (X.env :: X.outer) ea (L2N.Zn cls d) X.env.locals s'.heap := by rw [← own]; exact sky
    exact L2N.Sky.land L2N.Zn.steady frames fr sky' fun h3 fl3 up3 => hds_run own fr tk I.ok (J.ofTry I.ok) nb (up.trans up3) fl3 na os ag hh w) PassesOwn.looking
  refine wpAny_Try_except (wpAny_mono (inner.run [] s σ H D (I.toTry _) h) (fun f s1 z => ?_) (fun e s1 he => he))
  cases f with
  | next => exact let ⟨_, _, J, q⟩ := z; wpAny_execs_nil ⟨_, _, J.ofTry I.ok, q⟩
  | brk => exact let ⟨_, _, J, q⟩ := z; ⟨_, _, J.ofTry I.ok, q⟩
  | cont => exact let ⟨_, _, J, q⟩ := z; ⟨_, _, J.ofTry I.ok, q⟩
  | ret u => exact let ⟨_, _, _, J, r, q⟩ := z; ⟨_, _, _, J.ofTry I.ok, r, q⟩⟩
end
end OwnProj
/-! value in object, by the class's own __contains__, a def of one promise that answers True or False. -/
namespace OwnIn
open PySem PySem.Spec PyProof.Rows L2
section
variable {X : Cx} {CX : CXT} {n : Nat} {f C : Addr} {fd : FuncData} {ps : List Str} {sp : Sp}
def rInOwn (C : Addr) (sp : Sp) (E : XK) : R2 := fun x y H Q => ∃ a dx fs, y = .ref a ∧ H a = some (.ins C dx fs) ∧ sp [.ref a, x] H (fun v H' => ∃ k : Bool, v = .bl k ∧ Q (.bl k) H') E
theorem op_inOwn {E : XK} (F : FnOk X.prog X.w X.K X.mg X.base CX n f fd ps sp) (hr : Room n X.A) (hs : PySem.W.findIn X.K (.ref C) "__contains__" = some (some (.ref f)))
    (hf : PySem.W.isFn X.K (.ref f) = true) (hb : Binds X.K fd ps []) (hx : Passes CX X E) : OpR X (compareOp .In) (rInOwn C sp E) := by
  intro pins s σ H x y v u Q I rx ry h
  obtain ⟨a, dx, fs, rfl, ha, hq⟩ := h
  cases ry
  obtain ⟨mA, J, _⟩ := ins_get I.hok ha
  obtain ⟨od, J, _⟩ := J.look
  obtain ⟨m, hF⟩ := I.fr
  refine PySem.W.in_K hF I.ok.mod.kin J hs hf ?_
  refine wpAny_mono (run_fn (us := [.ref a, v]) (vs := [.ref a, x]) F hr hb .nil hx I (.cons rfl (.cons rx .nil)) (by rw [List.append_nil]; exact hq)) (fun r s' z => ?_) fun _ _ e => e
  obtain ⟨v', H', I', rv, k, ev, q⟩ := z
  subst ev
  cases rv
  exact wpAny_truthy_bool ⟨.bl k, H', I', rfl, q⟩
end
end OwnIn
/-! A method called by keywords alone: o.m(k = e, ..). -/
namespace OwnMethK
open PySem PySem.Spec PyProof.Rows L2
section
variable {X : Cx} {CX : CXT} {k : Nat} {f C : Addr} {fd : FuncData} {ps ks : List Str} {sp : Sp} {E : XK} {g : List Value → List Value → List Value} {gV : List V → List V → List V} {m : Str} {o : Expr} {kws : List Keyword} {ta : TE} {tk : TA} {apos pos : Pos}
def tMethN (C : Addr) (m : Str) (n : Nat) (gV : List V → List V → List V) (sp : Sp) (E : XK) (ta : TE) (tk : TA) : TE := fun σ H Q => ta σ H fun x H1 => ∃ a dx fs, x = .ref a ∧ H1 a = some (.ins C dx fs) ∧ fs.lookup m = none ∧ tk σ H1 fun zs H2 => zs.length = n ∧ sp (gV [.ref a] zs) H2 Q E
theorem pe_methN {pl : Sem Bool} (he : PE X o ta) (c : Cls X.K C) (hm : Meth X.K C m f) (F : FnOk X.prog X.w X.K X.mg X.base CX k f fd ps sp) (hr : Room k X.A) (hb : KBn X.K fd ps 1 ks g gV) (hx : Passes CX X E) (hkw : PK X kws tk)
    (hall : (backToKw pos (keywordEach kws X.env)).all (·.1.isSome) = true := by rfl) (hks : (backToKw pos (keywordEach kws X.env)).filterMap (·.1) = ks := by rfl)
    (hpl : ((backTo pos (starEach [] X.env)).any (·.1) || (backToKw pos (keywordEach kws X.env)).any (·.1.isNone)) = false := by rfl)
    (ht : eval (.Call (.Attribute o m apos) [] kws pos) X.env = (do
      let ov ← eval o X.env
      standAt apos.atName
      let (f, first) ← holding [ov] (getMethod ov m pl)
      callWith pos f first (backTo pos (starEach [] X.env)) (backToKw pos (keywordEach kws X.env))) := by rfl) :
    PE X (.Call (.Attribute o m apos) [] kws pos) (tMethN C m ks.length gV sp E ta tk) := by
  refine ⟨fun pins s σ H Q I h => ?_⟩
  refine PySem.W.methodCall_KW (pl := pl) (thn (he.run pins s σ H _ I h) fun u s1 ⟨x, H1, I1, rx, a, dx, fs, ex, ea, l, q⟩ => ?_) ht
  subst ex
  obtain rfl : u = Value.ref a := rx
  refine getmeth_ok I1 ea c hm l ?_
  refine PySem.W.callWith_KW0 (first := [.ref a]) (h₀ := X.base) I.ok.mod.kin hm.kp hall (thn (hkw.run pos pins s1 σ H1 _ I1 q) fun ws s2 ⟨zs, H2, I2, rz, l2, q2⟩ => ⟨I2.kIn, ?_⟩) hpl
  rw [hks]
  exact run_fnN (us := [.ref a]) (vs := [.ref a]) F hr hb hx I2 (.cons rfl .nil) rz rfl l2 q2
end
end OwnMethK
/-! A list comprehension with tests within a def that runs while an exception is handled, as a value and behind a name. -/
namespace OwnHotC
open PySem PySem.Spec PyProof.Rows L2 L2H HotX OwnHot
theorem coreH {X : Cx} {pins : List (Addr × Obj)} {s : Shared} {σ : L2.St} {H : Hp} {Q : VK} {elt tg iter : Expr} {ifs : List Expr} {scope : Scope} {own : List (Str × Nat)} {pos pos' : Pos} {wi : TI} {g : TG} {tt : TT} {te : TE} {use : Option (Value → Sem Unit)} {Qf : Value → Shared → Prop}
    (hc : HotC X) (hN : X.N.Nodup) (I : Inv X pins σ H s) (hi : PIH X tg iter wi) (ok : BlkOk X.N X.env.scope scope own)
    (hg : ∀ (s : Shared) (H : Hp) (C : Addr) (cl : List (Str × Addr)) (fp : List Addr), PG (blkP X s H scope (compEnvC scope cl C X.env) fp) tg g)
    (ht : ∀ (s : Shared) (H : Hp) (C : Addr) (cl : List (Str × Addr)) (fp : List Addr), PTs (blkP X s H scope (compEnvC scope cl C X.env) fp) ifs tt)
    (he : ∀ (s : Shared) (H : Hp) (C : Addr) (cl : List (Str × Addr)) (fp : List Addr), PE (blkP X s H scope (compEnvC scope cl C X.env) fp) elt te) (hs : ∀ x, foldedSetIterable iter X.env x = pure x)
    (h : tLc wi g tt te (own.map (·.2)) σ H Q)
    (hRR : ∀ D C s' m H', Inv X pins σ H' s' → Q (.ref D) H' → s'.heap.Ns C m → FpOk X pins H' C → compPost (model X.prog X.w) X.A X.xe use Qf (.ref D) C (.ok .next) s') :
    wpAny (model X.prog X.w) X.A (comprehension (.ListComp elt [⟨tg, iter, ifs, 0⟩] scope pos) scope X.env pos' (newList []) false (eval iter X.env) use) Qf X.xe s := by
  have free : ∀ y ∈ scope.names, y.2 = .free → ∃ c, X.env.cells.lookup y.1 = some c := fun y hy e => I.ok.has _ ((ok.free y hy e).imp (fun k => k) fun k => k)
  refine wpAny_comprehension_free (use := use) rfl hs (closure_ok free) ok.kind (fun y hy e => (ok.uniq y hy).trans (congrArg some e)) (thn (hi.run pins s σ H _ I h) fun _ s1 h1 => thn h1 fun _ s2 ⟨it, fp, tn, J, H2, e, I2, T, st2, f2, q⟩ => ?_)
  subst e
  refine wpAny_newObj_type (newEnv_comp ?_) (Nat.zero_le sizeLine)
  -- the new list stands at D
  obtain ⟨W, ⟨m0, w0⟩, turn⟩ := q _ (I2.hok.fresh (Nat.le_refl s2.heap.objs.size))
  have I3 : Inv X pins σ (upd H2 s2.heap.objs.size (.lst [])) { s2 with heap := s2.heap.push { cls := .type "list", data := .seq ([] : List Value).toArray } } :=
    I2.laid (t' := s2.toks) (fun b o e => Heap.get?_push_of_some _ e) (Nat.le_refl _) ⟨Nat.zero_le _, [], 0, .nil, Heap.get?_push_size _ rfl⟩
  have below : ∀ b ∈ fp, b < s2.heap.objs.size := fun b hb => by
    obtain ⟨o, e, _⟩ := T.obj _ _ st2 b hb
    exact Heap.lt_size e
  have f3 : ∀ b ∈ fp, FpOk X pins (upd H2 s2.heap.objs.size (.lst [])) b ∧ b < ({ s2 with heap := s2.heap.push { cls := .type "list", data := .seq ([] : List Value).toArray } } : Shared).heap.objs.size := fun b hb =>
    ⟨⟨(upd_ne (Nat.ne_of_lt (below b hb))).trans (f2 b hb).1, (f2 b hb).2⟩, by rw [Heap.size_push]; exact Nat.lt_succ_of_lt (below b hb)⟩
  have st3 : tn 0 ({ s2 with heap := s2.heap.push { cls := .type "list", data := .seq ([] : List Value).toArray } } : Shared).heap := T.keep _ _ _ st2 fun b _ o e => Heap.get?_push_of_some _ e
  generalize hD : s2.heap.objs.size = D at turn I3 f3 st3 w0 ⊢
  generalize hs3 : ({ s2 with heap := s2.heap.push { cls := .type "list", data := .seq ([] : List Value).toArray } } : Shared) = s3 at I3 f3 st3
  have B0 := block_start I3 ok hN f3
  have pg := hg s3 (upd H2 D (.lst [])) s3.heap.objs.size (cellsFrom (s3.heap.objs.size + 1) scope.names (cloFrom X.env.cells scope.names [])) fp
  have pt := ht s3 (upd H2 D (.lst [])) s3.heap.objs.size (cellsFrom (s3.heap.objs.size + 1) scope.names (cloFrom X.env.cells scope.names [])) fp
  have pe := he s3 (upd H2 D (.lst [])) s3.heap.objs.size (cellsFrom (s3.heap.objs.size + 1) scope.names (cloFrom X.env.cells scope.names [])) fp
  show codeAny _ _ (.compStart (.ListComp elt [⟨tg, iter, ifs, 0⟩] scope pos) 0 (.ref it) (.ref D) (compEnvC scope (cellsFrom (s3.heap.objs.size + 1) scope.names (cloFrom X.env.cells scope.names [])) s3.heap.objs.size X.env)) (compPost (model X.prog X.w) X.A X.xe use Qf (.ref D) s3.heap.objs.size) { s3 with heap := pushCells (s3.heap.push { cls := .type "dict", data := .dict #[] }) scope.names }
  have cL : (compEnvC scope (cellsFrom (s3.heap.objs.size + 1) scope.names (cloFrom X.env.cells scope.names [])) s3.heap.objs.size X.env).locals = s3.heap.objs.size := rfl
  generalize compEnvC scope (cellsFrom (s3.heap.objs.size + 1) scope.names (cloFrom X.env.cells scope.names [])) s3.heap.objs.size X.env = ce at B0 pg pt pe cL ⊢
  have B := toP B0 fun p hp => by
    obtain ⟨g1, g2, g3, g4, g5⟩ := I3.pin p (List.mem_append_left _ hp)
    exact ⟨pushCells_keeps _ _ _ _ (Heap.get?_push_of_some _ g1), g2, by rw [cL]; exact Nat.ne_of_lt (Heap.lt_size g1), fun hm => (List.mem_cons.mp (I3.stkSub p.1 hm)).elim g3 g4, g5⟩
  have st4 : tn 0 ({ s3 with heap := pushCells (s3.heap.push { cls := .type "dict", data := .dict #[] }) scope.names } : Shared).heap := T.keep _ _ _ st3 fun b _ o e => pushCells_keeps _ _ _ _ (Heap.get?_push_of_some _ e)
  generalize ({ s3 with heap := pushCells (s3.heap.push { cls := .type "dict", data := .dict #[] }) scope.names } : Shared) = s4 at B st4 ⊢
  have fpk : ∀ {σ' : L2.St} {H' : Hp} {s' : Shared}, Inv (blkP X s3 (upd H2 D (.lst [])) scope ce fp) [] σ' H' s' → (∀ b ∈ fp, H' b = none) → ∀ b ∈ fp, FpOk (blkP X s3 (upd H2 D (.lst [])) scope ce fp) [] H' b := fun I' hn b hb =>
    ⟨hn b hb, (I'.ok.exf b hb).1, I'.ok.exfs b hb, .inl hb, (I'.ok.exf b hb).2, fun p hp => (f3 b hb).1.2.2.2.2.2 p (List.mem_append_left _ (by rw [List.append_nil] at hp; exact hp))⟩
  have L : codeAny (model X.prog X.w) X.A (.compLoop (.ListComp elt [⟨tg, iter, ifs, 0⟩] scope pos) 0 (.ref it) (.ref D) ce) (compPost (model X.prog X.w) X.A X.xe use Qf (.ref D) s3.heap.objs.size) s4 := by
    refine compLoop_any (fun n s' => ∃ i H', Inv (blkP X s3 (upd H2 D (.lst [])) scope ce fp) [] (wipe σ (own.map (·.2))) H' s' ∧ tn i s'.heap ∧ (∀ b ∈ fp, H' b = none) ∧ W i n H') ?_ m0 ⟨0, _, B, st4, fun b hb => (f3 b hb).1.1, w0⟩
    rintro n s5 ⟨i, H5, I5, st5, n5, w5⟩
    rcases turn i n H5 w5 with ⟨stop, done⟩ | ⟨go, Nx, next, step⟩
    · refine thnF (T.done (blkP X s3 (upd H2 D (.lst [])) scope ce fp) rfl rfl rfl hc i [] s5 _ H5 (fun _ _ => False) I5 (fpk I5 n5) st5 stop) fun r s6 ⟨hr, I6⟩ => ?_
      subst hr
      obtain ⟨m, hn, _⟩ := I6.loc
      have hn : s6.heap.Ns ce.locals m := hn
      have nC : H5 ce.locals = none := I6.free
      rw [cL] at hn nC
      have I7 : Inv X pins σ H5 s6 := I3.call' (ch := fp) I6.os I6.base I6.hok I6.bare fun b hb =>
        let ⟨_, a1, a2, a3, a4, a5⟩ := (f3 b hb).1
        ⟨a3, a1, a4, a5⟩
      exact hRR D _ s6 m H5 I7 done hn (I3.fpOk (H' := H5) (Nat.le_refl _) nC)
    · refine thnF (T.item (blkP X s3 (upd H2 D (.lst [])) scope ce fp) rfl rfl rfl hc i [] s5 _ H5 (fun _ _ => False) I5 (fpk I5 n5) st5 go) fun r s6 ⟨u, hr, h6⟩ => ?_
      subst hr
      refine thnF h6 fun _ s7 ⟨x, H7, I7, r7, y7, st7, n7⟩ => ?_
      refine thnF (pg.run _ s7 _ H7 x u _ (I7.pinned (fpk I7 n7) (T.obj _ _ st7)) r7 (step x H7 y7)) fun _ s8 ⟨σ8, H8, I8, hw, q8⟩ => ?_
      have again : ∀ {s' : Shared} {H' : Hp}, Inv (blkP X s3 (upd H2 D (.lst [])) scope ce fp) ([] ++ pinsAt fp s7.heap) σ8 H' s' → Nx H' → ∃ m, m < n ∧ ∃ i H', Inv (blkP X s3 (upd H2 D (.lst [])) scope ce fp) [] (wipe σ (own.map (·.2))) H' s' ∧ tn i s'.heap ∧ (∀ b ∈ fp, H' b = none) ∧ W i m H' := fun {s' H'} I10 nx => by
        obtain ⟨m', hm, w'⟩ := next _ nx
        have kept : ∀ b ∈ fp, ∀ o, s7.heap.get? b = some o → s'.heap.get? b = some o ∧ H' b = none := fun b hb o e =>
          let z := I10.pin (b, o) (List.mem_append_right _ (List.mem_append_right _ (mem_pinsAt hb e)))
          ⟨z.1, z.2.1⟩
        refine ⟨m', hm, i + 1, _, (I10.unpinned (pins := [])).weak (by rw [← hw, wipe_length]) (fun j v e => ?_), T.keep _ _ _ st7 fun b hb o e => (kept b hb o e).1, fun b hb => ?_, w'⟩
        · rw [← hw] at e
          exact (wipe_some e).1
        · obtain ⟨o, e, _⟩ := T.obj _ _ st7 b hb
          exact (kept b hb o e).2
      refine thnF (pt.run _ s8 σ8 H8 _ I8 q8) fun b s9 ⟨H9, I9, q9⟩ => ?_
      rcases b with _ | _
      · rw [if_neg Bool.false_ne_true] at q9 ⊢
        exact again I9 q9
      · rw [if_pos rfl] at q9 ⊢
        refine thnF (pe.run _ s9 σ8 H9 _ I9 q9) fun z s10 ⟨yv, H10, I10, r10, acc, hD10, hz10, nx⟩ => ?_
        exact app_ok (X := blkP X s3 (upd H2 D (.lst [])) scope ce fp) I10 hD10 hz10 r10 fun s11 I11 => again I11 nx
  exact codeAny_compStart_list L (T.self X.A 0 _ _ _ st4 L)
section
variable {X : Cx} {elt tg iter : Expr} {ifs : List Expr} {scope : Scope} {own : List (Str × Nat)} {pos spos : Pos} {wi : TI} {g : TG} {tt : TT} {te : TE}
/-- [elt for target in iter if ..], an exception being handled -/
theorem pe_lcHT (hc : HotC X) (hN : X.N.Nodup) (hi : PIH X tg iter wi) (ok : BlkOk X.N X.env.scope scope own)
    (hg : ∀ (s : Shared) (H : Hp) (C : Addr) (cl : List (Str × Addr)) (fp : List Addr), PG (blkP X s H scope (compEnvC scope cl C X.env) fp) tg g)
    (ht : ∀ (s : Shared) (H : Hp) (C : Addr) (cl : List (Str × Addr)) (fp : List Addr), PTs (blkP X s H scope (compEnvC scope cl C X.env) fp) ifs tt)
    (he : ∀ (s : Shared) (H : Hp) (C : Addr) (cl : List (Str × Addr)) (fp : List Addr), PE (blkP X s H scope (compEnvC scope cl C X.env) fp) elt te) (hs : ∀ x, foldedSetIterable iter X.env x = pure x := by intro _; rfl) :
    PE X (.ListComp elt [⟨tg, iter, ifs, 0⟩] scope pos) (tLc wi g tt te (own.map (·.2))) := by
  refine ⟨fun pins s σ H Q I h => ?_⟩
  rw [eval_ListComp]
  refine coreH hc hN I hi ok hg ht he hs h fun D C s' m H' I' q hn ff => ⟨m, hn, fun h2 sb => ?_⟩
  obtain ⟨a0, a1, a2, a3, a4, a5⟩ := ff
  exact ⟨V.ref D, H', I'.turned (t' := s'.toks) (fun b o hb e => (sb.2 b hb).trans e) a0 a1 a3 a4 a5, rfl, q⟩
/-- name = [..], both on one row -/
theorem ps_setLcH {i : Nat} {y : Str} {py : Pos} (hc : HotC X) (hN : X.N.Nodup) (hy : X.N[i]? = some y) (hyl : X.env.scope.names.lookup y = some .local)
    (hsw : swapsWith (.ListComp elt [⟨tg, iter, ifs, 0⟩] scope pos) (some (.Name y py)) spos.line X.env = pure true) (hi : PIH X tg iter wi) (ok : BlkOk X.N X.env.scope scope own)
    (hg : ∀ (s : Shared) (H : Hp) (C : Addr) (cl : List (Str × Addr)) (fp : List Addr), PG (blkP X s H scope (compEnvC scope cl C X.env) fp) tg g)
    (ht : ∀ (s : Shared) (H : Hp) (C : Addr) (cl : List (Str × Addr)) (fp : List Addr), PTs (blkP X s H scope (compEnvC scope cl C X.env) fp) ifs tt)
    (he : ∀ (s : Shared) (H : Hp) (C : Addr) (cl : List (Str × Addr)) (fp : List Addr), PE (blkP X s H scope (compEnvC scope cl C X.env) fp) elt te) (hs : ∀ x, foldedSetIterable iter X.env x = pure x := by intro _; rfl) :
    PS X (.Assign [.Name y py] (.ListComp elt [⟨tg, iter, ifs, 0⟩] scope pos) spos) (tAsg (tLc wi g tt te (own.map (·.2))) (gName i)) := by
  refine ⟨fun pins s σ H D I h => ?_⟩
  have h : tLc wi g tt te (own.map (·.2)) σ H (fun x H1 => gName i x σ H1 D.nx) := h
  rw [exec_Assign_Name_used _ _ _ _ hsw]
  refine wpAny_bind (wpAny_standAt (wpAny_bind ?_))
  show wpAny (model X.prog X.w) X.A (comprehension (.ListComp elt [⟨tg, iter, ifs, 0⟩] scope pos) scope X.env (firstIterPos [⟨tg, iter, ifs, 0⟩] pos) (newList []) false (eval iter X.env) (some (assign (.Name y py) X.env)) >>= fun _ => _) _ _ s
  refine wpAny_bind (thn (coreH (Qf := fun _ s' => SP X pins D .next s') hc hN I hi ok hg ht he hs h fun L C s' m H' I' q hn ff => ?_) fun _ s' hq => wpAny_pure (wpAny_pure hq))
  show wpAny (model X.prog X.w) X.A (assign (.Name y py) X.env (.ref L)) _ _ s'
  refine wpAny_assign_Name (store_ok2 (v := V.ref L) I' hN hy (.inl hyl) rfl (fun s2 I2 ⟨z, sb, hz⟩ => ?_) (.inr hyl))
  obtain ⟨a0, a1, a2, a3, a4, a5⟩ := ff
  have ne : C ≠ z := hz.elim (fun e => e ▸ a1) fun e => fun e2 => a4 y z e e2.symm
  exact ⟨m, hn.sameBut sb ne, fun h3 sb3 => ⟨_, H', I2.turned (t' := s2.toks) (fun b o hb e => (sb3.2 b hb).trans e) a0 a1 a3 a4 a5, q⟩⟩
end
end OwnHotC
/-! sum(list of ints) while an exception is handled -/
namespace OwnSumH
open PySem PySem.Spec PyProof.Rows L2 L2H OwnHot
section
variable {prog : Program} {w : World} {A : Around} {x1 : Addr} {o1 : Obj} {vs1 : Array Value}
theorem walksH (hh : A.handled = some (.ref x1)) (d1 : o1.data = .fields vs1) (c1 : vs1[2]? = some .none) (I ax : Addr) (hne : ax ≠ I) (hx : x1 ≠ I) (items : Array Value) :
    Walks prog w A I [I, ax, x1] [I] items.size (fun i v => items[i]? = some v) (fun i h => h.IsListIter I ax i ∧ h.IsList ax items ∧ h.get? x1 = some o1) where
  sub := fun b hb => by simp at hb; simp [hb]
  frame := fun _ _ _ st hk => ⟨st.1.at fun o e => hk I (by simp) o e, st.2.1.at fun o e => hk ax (by simp) o e, hk x1 (by simp) _ st.2.2⟩
  item := fun i s Q E hi st hQ => by
    refine wpAny_pyNext_list_item st.1 st.2.1 (x := items[i]) (by simp [hi]) fun h' hit' hs' => ?_
    exact hQ _ h' s.toks (by simp [hi]) ⟨hit', st.2.1.extBut hs'.extBut hne, hs'.extBut _ _ hx st.2.2⟩ fun b o hb e => hs'.extBut b o (fun h => hb (by simp [h])) e
  done := fun s Q E st hQ => list_end ⟨hh, o1, vs1, st.2.2, d1, c1⟩ hx st.1 st.2.1 (by simp) fun h' he' => hQ h' s.toks fun b o hb e => he' b o (fun h => hb (by simp [h])) e
  self := fun _ _ _ _ st hQ => wpAny_pyIter_listiter st.1 hQ
end
theorem cr_sumH {X : Cx} (K : PySem.W.Frag) (hc : HotC X) (hK : X.K = K := by rfl) : CallR X (.builtin "sum") (rSum K) := by
  subst hK
  intro pins s σ H vs us Q I r h
  obtain ⟨a, ns, rfl, hs, q⟩ := h
  obtain ⟨its, rv, hl, _⟩ := I.list hs
  rw [Vals.ref1 r]
  obtain ⟨p, ⟨hh, v1, d1, c1⟩, hp⟩ := hc
  have hx := (I.pin p (List.mem_append_left _ hp)).1
  have hi := rv.ints
  obtain ⟨xs, e⟩ := hi.allInts.items
  have hn : numsOf (intItems xs).toList = ns := by rw [← e]; exact hi.numsOf
  rw [nums_intItems] at hn
  have hl := hl.isList
  rw [e] at hl
  refine call_sum_walkG (iter_intList hl fun s₂ e2 st hfp hlI => ?_)
  subst e2
  have hx2 : (s.heap.push { cls := .type "list_iterator", data := .fields #[.ref a, .int 0 0] }).get? p.1 = some p.2 := Heap.get?_push_of_some _ hx
  have ne : p.1 ≠ s.heap.objs.size := Nat.ne_of_lt (Heap.lt_size hx)
  refine ⟨_, _, _, _, _, _, numAt xs, rfl, walksH (A := X.A.in1) hh d1 c1 _ a hlI ne (intItems xs), ⟨st.1, st.2, hx2⟩, fun b hb => ?_, (fun _ _ => intItems_at), fun h' tk t' hk => ?_⟩
  · rcases List.mem_cons.mp hb with rfl | hb
    · exact hfp _ (by simp)
    · rcases List.mem_cons.mp hb with rfl | hb
      · exact hfp _ (by simp)
      · cases List.mem_singleton.mp hb
        exact Heap.lt_size hx2
  · have kp : ∀ b o, s.heap.get? b = some o → h'.get? b = some o := fun b o e => hk b o (by simpa using Nat.ne_of_lt (Heap.lt_size e)) (Heap.get?_push_of_some _ e)
    have eqs : preSum (numAt xs) (intItems xs).size = ns.sum := by
      have : (intItems xs).size = xs.size := by simp [intItems]
      rw [this, preSum_eq, List.take_of_length_le (by simp), hn]
    rw [eqs]
    exact ⟨.int _, H, I.kept kp, ⟨_, rfl⟩, q⟩
end OwnSumH
namespace K19
open PySem PySem.Spec PyProof.Rows L2
def topS (i : Nat) : Stmt := PySem.Challenge.pw_greatestnext_k19_families_and_faults.main.body.getD i (.Pass ⟨0, 0, 0, 0⟩)
abbrev s_InvalidFamily_init : Stmt := inClass (topS 6) 0
abbrev s_NotClosed_init : Stmt := inClass (topS 7) 0
abbrev s_WrongSize_init : Stmt := inClass (topS 8) 0
abbrev s_parts_of : Stmt := topS 10
abbrev s_all_sets : Stmt := topS 11
abbrev s_is_part : Stmt := topS 12
abbrev s_joined : Stmt := topS 13
abbrev s_rest_of : Stmt := topS 14
abbrev s_is_whole : Stmt := topS 16
abbrev s_is_within : Stmt := topS 17
abbrev s_is_ascending : Stmt := topS 18
abbrev s_clean_sets : Stmt := topS 21
abbrev s_closed_sets : Stmt := topS 22
abbrev s_Family_init : Stmt := inClass (topS 23) 0
abbrev s_Family_contains : Stmt := inClass (topS 23) 1
abbrev s_Family_eq : Stmt := inClass (topS 23) 2
abbrev s_Family_rank : Stmt := inClass (topS 23) 3
abbrev s_Family_full_sets : Stmt := inClass (topS 23) 4
abbrev s_Family_addable : Stmt := inClass (topS 23) 5
abbrev s_Frac_init : Stmt := inClass (topS 28) 0
abbrev s_law_box : Stmt := topS 30
abbrev s_law_draw : Stmt := topS 31
abbrev s_law_things : Stmt := topS 32
abbrev s_law_mask : Stmt := topS 33
abbrev s_law_inside : Stmt := topS 34
abbrev s_law_ordered : Stmt := topS 35
abbrev s_law_shape : Stmt := topS 36
abbrev s_law_mixed : Stmt := topS 37
abbrev s_law_integer : Stmt := topS 38
abbrev s_law_is_set : Stmt := topS 39
abbrev s_law_are_sets : Stmt := topS 40
abbrev s_law_truth : Stmt := topS 41
abbrev s_law_added : Stmt := topS 42
abbrev s_law_rank : Stmt := topS 43
abbrev s_law_family : Stmt := topS 44
abbrev s_law_others : Stmt := topS 45
abbrev s_law_no_set : Stmt := topS 46
abbrev s_law_right_set : Stmt := topS 47
abbrev s_law_missing : Stmt := topS 48
abbrev s_law_text : Stmt := topS 49
abbrev s_law_made : Stmt := topS 50
abbrev s_law_faults : Stmt := topS 51
abbrev s_law_all : Stmt := topS 52
abbrev s_law : Stmt := topS 53
structure Ad where
  C_Frac : Addr
  C_Family : Addr
  C_WrongSize : Addr
  C_InvalidFamily : Addr
  C_NotClosed : Addr
  C_NextError : Addr
  a_InvalidFamily_init : Addr
  a_NotClosed_init : Addr
  a_WrongSize_init : Addr
  a_parts_of : Addr
  a_all_sets : Addr
  a_is_part : Addr
  a_joined : Addr
  a_rest_of : Addr
  a_is_whole : Addr
  a_is_within : Addr
  a_is_ascending : Addr
  a_clean_sets : Addr
  a_closed_sets : Addr
  a_Family_init : Addr
  a_Family_contains : Addr
  a_Family_eq : Addr
  a_Family_rank : Addr
  a_Family_full_sets : Addr
  a_Family_addable : Addr
  a_Frac_init : Addr
  a_law_box : Addr
  a_law_draw : Addr
  a_law_things : Addr
  a_law_mask : Addr
  a_law_inside : Addr
  a_law_ordered : Addr
  a_law_shape : Addr
  a_law_mixed : Addr
  a_law_integer : Addr
  a_law_is_set : Addr
  a_law_are_sets : Addr
  a_law_truth : Addr
  a_law_added : Addr
  a_law_rank : Addr
  a_law_family : Addr
  a_law_others : Addr
  a_law_no_set : Addr
  a_law_right_set : Addr
  a_law_missing : Addr
  a_law_text : Addr
  a_law_made : Addr
  a_law_faults : Addr
  a_law_all : Addr
  a_law : Addr
  d_InvalidFamily_init : FuncData
  d_NotClosed_init : FuncData
  d_WrongSize_init : FuncData
  d_parts_of : FuncData
  d_all_sets : FuncData
  d_is_part : FuncData
  d_joined : FuncData
  d_rest_of : FuncData
  d_is_whole : FuncData
  d_is_within : FuncData
  d_is_ascending : FuncData
  d_clean_sets : FuncData
  d_closed_sets : FuncData
  d_Family_init : FuncData
  d_Family_contains : FuncData
  d_Family_eq : FuncData
  d_Family_rank : FuncData
  d_Family_full_sets : FuncData
  d_Family_addable : FuncData
  d_Frac_init : FuncData
  d_law_box : FuncData
  d_law_draw : FuncData
  d_law_things : FuncData
  d_law_mask : FuncData
  d_law_inside : FuncData
  d_law_ordered : FuncData
  d_law_shape : FuncData
  d_law_mixed : FuncData
  d_law_integer : FuncData
  d_law_is_set : FuncData
  d_law_are_sets : FuncData
  d_law_truth : FuncData
  d_law_added : FuncData
  d_law_rank : FuncData
  d_law_family : FuncData
  d_law_others : FuncData
  d_law_no_set : FuncData
  d_law_right_set : FuncData
  d_law_missing : FuncData
  d_law_text : FuncData
  d_law_made : FuncData
  d_law_faults : FuncData
  d_law_all : FuncData
  d_law : FuncData
structure Txt (K : PySem.W.Frag) (mg : Str → Option Value) (a : Ad) : Prop where
  mg_Frac : mg "Frac" = some (.ref a.C_Frac)
  mg_Family : mg "Family" = some (.ref a.C_Family)
  mg_WrongSize : mg "WrongSize" = some (.ref a.C_WrongSize)
  mg_InvalidFamily : mg "InvalidFamily" = some (.ref a.C_InvalidFamily)
  mg_NotClosed : mg "NotClosed" = some (.ref a.C_NotClosed)
  mg_NextError : mg "NextError" = some (.ref a.C_NextError)
  cl_Frac : Cls K a.C_Frac
  na_Frac_num : NoAttr K a.C_Frac "num"
  na_Frac_den : NoAttr K a.C_Frac "den"
  cg_Frac : PySem.W.findIn K (.ref a.C_Frac) "__class__" = some (some (.builtin "object.__class__"))
  mr_Frac : PySem.W.mroIn K a.C_Frac (.type "object") = some true
  cl_Family : Cls K a.C_Family
  na_Family_sets : NoAttr K a.C_Family "sets"
  na_Family_size : NoAttr K a.C_Family "size"
  cg_Family : PySem.W.findIn K (.ref a.C_Family) "__class__" = some (some (.builtin "object.__class__"))
  mr_Family : PySem.W.mroIn K a.C_Family (.type "object") = some true
  cget : PySem.W.specialIn K (.builtin "object.__class__") "__get__" = some (some (.builtin "getset_descriptor.__get__"))
  ctk : PySem.W.takesIn K (.builtin "object.__class__") = some true
  fn_InvalidFamily_init : Fun K "__init__" "InvalidFamily.__init__" s_InvalidFamily_init a.a_InvalidFamily_init a.d_InvalidFamily_init
  b_InvalidFamily_init : Binds K a.d_InvalidFamily_init ["self", "at"] []
  fn_NotClosed_init : Fun K "__init__" "NotClosed.__init__" s_NotClosed_init a.a_NotClosed_init a.d_NotClosed_init
  b_NotClosed_init : Binds K a.d_NotClosed_init ["self", "missing"] []
  fn_WrongSize_init : Fun K "__init__" "WrongSize.__init__" s_WrongSize_init a.a_WrongSize_init a.d_WrongSize_init
  b_WrongSize_init : Binds K a.d_WrongSize_init ["self", "many"] []
  mg_parts_of : mg "parts_of" = some (.ref a.a_parts_of)
  fn_parts_of : Fun K "parts_of" "parts_of" s_parts_of a.a_parts_of a.d_parts_of
  b_parts_of : Binds K a.d_parts_of ["things"] []
  mg_all_sets : mg "all_sets" = some (.ref a.a_all_sets)
  fn_all_sets : Fun K "all_sets" "all_sets" s_all_sets a.a_all_sets a.d_all_sets
  b_all_sets : Binds K a.d_all_sets ["size"] []
  mg_is_part : mg "is_part" = some (.ref a.a_is_part)
  fn_is_part : Fun K "is_part" "is_part" s_is_part a.a_is_part a.d_is_part
  b_is_part : Binds K a.d_is_part ["part", "things"] []
  mg_joined : mg "joined" = some (.ref a.a_joined)
  fn_joined : Fun K "joined" "joined" s_joined a.a_joined a.d_joined
  b_joined : Binds K a.d_joined ["one", "other"] []
  mg_rest_of : mg "rest_of" = some (.ref a.a_rest_of)
  fn_rest_of : Fun K "rest_of" "rest_of" s_rest_of a.a_rest_of a.d_rest_of
  b_rest_of : Binds K a.d_rest_of ["things", "out"] []
  mg_is_whole : mg "is_whole" = some (.ref a.a_is_whole)
  fn_is_whole : Fun K "is_whole" "is_whole" s_is_whole a.a_is_whole a.d_is_whole
  b_is_whole : Binds K a.d_is_whole ["value"] []
  mg_is_within : mg "is_within" = some (.ref a.a_is_within)
  fn_is_within : Fun K "is_within" "is_within" s_is_within a.a_is_within a.d_is_within
  b_is_within : Binds K a.d_is_within ["value", "least", "most"] []
  mg_is_ascending : mg "is_ascending" = some (.ref a.a_is_ascending)
  fn_is_ascending : Fun K "is_ascending" "is_ascending" s_is_ascending a.a_is_ascending a.d_is_ascending
  b_is_ascending : Binds K a.d_is_ascending ["value", "size"] []
  mg_clean_sets : mg "clean_sets" = some (.ref a.a_clean_sets)
  fn_clean_sets : Fun K "clean_sets" "clean_sets" s_clean_sets a.a_clean_sets a.d_clean_sets
  b_clean_sets : Binds K a.d_clean_sets ["size", "sets"] []
  mg_closed_sets : mg "closed_sets" = some (.ref a.a_closed_sets)
  fn_closed_sets : Fun K "closed_sets" "closed_sets" s_closed_sets a.a_closed_sets a.d_closed_sets
  b_closed_sets : Binds K a.d_closed_sets ["size", "sets"] []
  fn_Family_init : Fun K "__init__" "Family.__init__" s_Family_init a.a_Family_init a.d_Family_init
  b_Family_init : Binds K a.d_Family_init ["self", "size", "sets"] []
  mt_Family_init : Meth K a.C_Family "__init__" a.a_Family_init
  fn_Family_contains : Fun K "__contains__" "Family.__contains__" s_Family_contains a.a_Family_contains a.d_Family_contains
  b_Family_contains : Binds K a.d_Family_contains ["self", "things"] []
  mt_Family_contains : Meth K a.C_Family "__contains__" a.a_Family_contains
  fn_Family_eq : Fun K "__eq__" "Family.__eq__" s_Family_eq a.a_Family_eq a.d_Family_eq
  b_Family_eq : Binds K a.d_Family_eq ["self", "other"] []
  mt_Family_eq : Meth K a.C_Family "__eq__" a.a_Family_eq
  fn_Family_rank : Fun K "rank" "Family.rank" s_Family_rank a.a_Family_rank a.d_Family_rank
  b_Family_rank : Binds K a.d_Family_rank ["self", "things"] []
  mt_Family_rank : Meth K a.C_Family "rank" a.a_Family_rank
  fn_Family_full_sets : Fun K "full_sets" "Family.full_sets" s_Family_full_sets a.a_Family_full_sets a.d_Family_full_sets
  b_Family_full_sets : Binds K a.d_Family_full_sets ["self"] []
  mt_Family_full_sets : Meth K a.C_Family "full_sets" a.a_Family_full_sets
  fn_Family_addable : Fun K "addable" "Family.addable" s_Family_addable a.a_Family_addable a.d_Family_addable
  b_Family_addable : Binds K a.d_Family_addable ["self", "taken"] []
  mt_Family_addable : Meth K a.C_Family "addable" a.a_Family_addable
  fn_Frac_init : FunD K "__init__" "Frac.__init__" (defArgs s_Frac_init) (defBody s_Frac_init) (defScope s_Frac_init) [.int 1] [] a.a_Frac_init a.d_Frac_init
  mt_Frac_init : Meth K a.C_Frac "__init__" a.a_Frac_init
  mg_law_box : mg "_law_box" = some (.ref a.a_law_box)
  fn_law_box : Fun K "_law_box" "_law_box" s_law_box a.a_law_box a.d_law_box
  b_law_box : Binds K a.d_law_box ["script"] []
  mg_law_draw : mg "_law_draw" = some (.ref a.a_law_draw)
  fn_law_draw : Fun K "_law_draw" "_law_draw" s_law_draw a.a_law_draw a.d_law_draw
  b_law_draw : Binds K a.d_law_draw ["box", "limit"] []
  mg_law_things : mg "_law_things" = some (.ref a.a_law_things)
  fn_law_things : Fun K "_law_things" "_law_things" s_law_things a.a_law_things a.d_law_things
  b_law_things : Binds K a.d_law_things ["mask"] []
  mg_law_mask : mg "_law_mask" = some (.ref a.a_law_mask)
  fn_law_mask : Fun K "_law_mask" "_law_mask" s_law_mask a.a_law_mask a.d_law_mask
  b_law_mask : Binds K a.d_law_mask ["things"] []
  mg_law_inside : mg "_law_inside" = some (.ref a.a_law_inside)
  fn_law_inside : Fun K "_law_inside" "_law_inside" s_law_inside a.a_law_inside a.d_law_inside
  b_law_inside : Binds K a.d_law_inside ["box", "size"] []
  mg_law_ordered : mg "_law_ordered" = some (.ref a.a_law_ordered)
  fn_law_ordered : Fun K "_law_ordered" "_law_ordered" s_law_ordered a.a_law_ordered a.d_law_ordered
  b_law_ordered : Binds K a.d_law_ordered ["inside"] []
  mg_law_shape : mg "_law_shape" = some (.ref a.a_law_shape)
  fn_law_shape : Fun K "_law_shape" "_law_shape" s_law_shape a.a_law_shape a.d_law_shape
  b_law_shape : Binds K a.d_law_shape ["box", "parts"] []
  mg_law_mixed : mg "_law_mixed" = some (.ref a.a_law_mixed)
  fn_law_mixed : Fun K "_law_mixed" "_law_mixed" s_law_mixed a.a_law_mixed a.d_law_mixed
  b_law_mixed : Binds K a.d_law_mixed ["box", "sets"] []
  mg_law_integer : mg "_law_integer" = some (.ref a.a_law_integer)
  fn_law_integer : Fun K "_law_integer" "_law_integer" s_law_integer a.a_law_integer a.d_law_integer
  b_law_integer : Binds K a.d_law_integer ["value"] []
  mg_law_is_set : mg "_law_is_set" = some (.ref a.a_law_is_set)
  fn_law_is_set : Fun K "_law_is_set" "_law_is_set" s_law_is_set a.a_law_is_set a.d_law_is_set
  b_law_is_set : Binds K a.d_law_is_set ["actual", "due"] []
  mg_law_are_sets : mg "_law_are_sets" = some (.ref a.a_law_are_sets)
  fn_law_are_sets : Fun K "_law_are_sets" "_law_are_sets" s_law_are_sets a.a_law_are_sets a.d_law_are_sets
  b_law_are_sets : Binds K a.d_law_are_sets ["actual", "due"] []
  mg_law_truth : mg "_law_truth" = some (.ref a.a_law_truth)
  fn_law_truth : Fun K "_law_truth" "_law_truth" s_law_truth a.a_law_truth a.d_law_truth
  b_law_truth : Binds K a.d_law_truth ["actual", "due"] []
  mg_law_added : mg "_law_added" = some (.ref a.a_law_added)
  fn_law_added : Fun K "_law_added" "_law_added" s_law_added a.a_law_added a.d_law_added
  b_law_added : Binds K a.d_law_added ["inside", "mask"] []
  mg_law_rank : mg "_law_rank" = some (.ref a.a_law_rank)
  fn_law_rank : Fun K "_law_rank" "_law_rank" s_law_rank a.a_law_rank a.d_law_rank
  b_law_rank : Binds K a.d_law_rank ["inside", "mask"] []
  mg_law_family : mg "_law_family" = some (.ref a.a_law_family)
  fn_law_family : Fun K "_law_family" "_law_family" s_law_family a.a_law_family a.d_law_family
  b_law_family : Binds K a.d_law_family ["box", "family", "size", "inside"] []
  mg_law_others : mg "_law_others" = some (.ref a.a_law_others)
  fn_law_others : Fun K "_law_others" "_law_others" s_law_others a.a_law_others a.d_law_others
  b_law_others : Binds K a.d_law_others ["box", "family", "size", "inside"] []
  mg_law_no_set : mg "_law_no_set" = some (.ref a.a_law_no_set)
  fn_law_no_set : Fun K "_law_no_set" "_law_no_set" s_law_no_set a.a_law_no_set a.d_law_no_set
  b_law_no_set : Binds K a.d_law_no_set ["box", "size"] []
  mg_law_right_set : mg "_law_right_set" = some (.ref a.a_law_right_set)
  fn_law_right_set : Fun K "_law_right_set" "_law_right_set" s_law_right_set a.a_law_right_set a.d_law_right_set
  b_law_right_set : Binds K a.d_law_right_set ["value", "size"] []
  mg_law_missing : mg "_law_missing" = some (.ref a.a_law_missing)
  fn_law_missing : Fun K "_law_missing" "_law_missing" s_law_missing a.a_law_missing a.d_law_missing
  b_law_missing : Binds K a.d_law_missing ["sets", "size"] []
  mg_law_text : mg "_law_text" = some (.ref a.a_law_text)
  fn_law_text : Fun K "_law_text" "_law_text" s_law_text a.a_law_text a.d_law_text
  b_law_text : Binds K a.d_law_text ["value"] []
  mg_law_made : mg "_law_made" = some (.ref a.a_law_made)
  fn_law_made : Fun K "_law_made" "_law_made" s_law_made a.a_law_made a.d_law_made
  b_law_made : Binds K a.d_law_made ["size", "sets"] []
  mg_law_faults : mg "_law_faults" = some (.ref a.a_law_faults)
  fn_law_faults : Fun K "_law_faults" "_law_faults" s_law_faults a.a_law_faults a.d_law_faults
  b_law_faults : Binds K a.d_law_faults ["box", "size", "inside"] []
  mg_law_all : mg "_law_all" = some (.ref a.a_law_all)
  fn_law_all : Fun K "_law_all" "_law_all" s_law_all a.a_law_all a.d_law_all
  b_law_all : Binds K a.d_law_all ["script"] []
  mg_law : mg "law" = some (.ref a.a_law)
  fn_law : Fun K "law" "law" s_law a.a_law a.d_law
  b_law : Binds K a.d_law ["script"] []
  mk_Frac : Mk K a.C_Frac a.a_Frac_init
  mk_Family : Mk K a.C_Family a.a_Family_init
  ex_WrongSize : OexC K a.C_WrongSize
  xf_WrongSize : XfC K a.C_WrongSize
  xm_WrongSize : PySem.W.exmOne K (.ref a.C_WrongSize) (.ref a.C_WrongSize) = some true
  na_WrongSize_many : PySem.W.findIn K (.ref a.C_WrongSize) "many" = some none
  xi_WrongSize : PySem.W.findIn K (.ref a.C_WrongSize) "__init__" = some (some (.ref a.a_WrongSize_init))
  ti_WrongSize : PySem.W.typeIn K (.ref a.a_WrongSize_init) = some (.type "function")
  ex_InvalidFamily : OexC K a.C_InvalidFamily
  xf_InvalidFamily : XfC K a.C_InvalidFamily
  xm_InvalidFamily : PySem.W.exmOne K (.ref a.C_InvalidFamily) (.ref a.C_InvalidFamily) = some true
  na_InvalidFamily_at : PySem.W.findIn K (.ref a.C_InvalidFamily) "at" = some none
  xi_InvalidFamily : PySem.W.findIn K (.ref a.C_InvalidFamily) "__init__" = some (some (.ref a.a_InvalidFamily_init))
  ti_InvalidFamily : PySem.W.typeIn K (.ref a.a_InvalidFamily_init) = some (.type "function")
  ex_NotClosed : OexC K a.C_NotClosed
  xf_NotClosed : XfC K a.C_NotClosed
  xm_NotClosed : PySem.W.exmOne K (.ref a.C_NotClosed) (.ref a.C_NotClosed) = some true
  na_NotClosed_missing : PySem.W.findIn K (.ref a.C_NotClosed) "missing" = some none
  xi_NotClosed : PySem.W.findIn K (.ref a.C_NotClosed) "__init__" = some (some (.ref a.a_NotClosed_init))
  ti_NotClosed : PySem.W.typeIn K (.ref a.a_NotClosed_init) = some (.type "function")
  xm_InvalidFamily_WrongSize : PySem.W.exmOne K (.ref a.C_InvalidFamily) (.ref a.C_WrongSize) = some false
  xm_NotClosed_WrongSize : PySem.W.exmOne K (.ref a.C_NotClosed) (.ref a.C_WrongSize) = some false
  xm_NotClosed_InvalidFamily : PySem.W.exmOne K (.ref a.C_NotClosed) (.ref a.C_InvalidFamily) = some false
  no_isinstance : mg "isinstance" = none
  no_int : mg "int" = none
  no_bool : mg "bool" = none
  no_range : mg "range" = none
  no_len : mg "len" = none
  no_abs : mg "abs" = none
  no_str : mg "str" = none
  no_max : mg "max" = none
  no_list : mg "list" = none
  no_tuple : mg "tuple" = none
  no_enumerate : mg "enumerate" = none
  no_any : mg "any" = none
  no_all : mg "all" = none
  no_sum : mg "sum" = none
  no_sorted : mg "sorted" = none
  no_set : mg "set" = none
  mg_MOST_THINGS : ∃ t, mg "MOST_THINGS" = some (.int 6 t)
  mg_combinations : mg "combinations" = some (.type "itertools.combinations")
  mg_gcd : mg "gcd" = some (.builtin "math.gcd")
  kit_F_F : PySem.W.kitOne K (.ref a.C_Frac) (.ref a.C_Frac) = some true
  kit_F_int : PySem.W.kitOne K (.ref a.C_Frac) (.type "int") = some false
  kit_F_list : PySem.W.kitOne K (.ref a.C_Frac) (.type "list") = some false
  kit_F_tuple : PySem.W.kitOne K (.ref a.C_Frac) (.type "tuple") = some false
  kit_F_str : PySem.W.kitOne K (.ref a.C_Frac) (.type "str") = some false
  kit_none_F : PySem.W.kitOne K (.type "NoneType") (.ref a.C_Frac) = some false
  kit_bool_F : PySem.W.kitOne K (.type "bool") (.ref a.C_Frac) = some false
  kit_int_F : PySem.W.kitOne K (.type "int") (.ref a.C_Frac) = some false
  kit_str_F : PySem.W.kitOne K (.type "str") (.ref a.C_Frac) = some false
  kit_list_F : PySem.W.kitOne K (.type "list") (.ref a.C_Frac) = some false
  kit_tuple_F : PySem.W.kitOne K (.type "tuple") (.ref a.C_Frac) = some false
  kit_none_S : PySem.W.kitOne K (.type "NoneType") (.ref a.C_Family) = some false
  kit_bool_S : PySem.W.kitOne K (.type "bool") (.ref a.C_Family) = some false
  kit_int_S : PySem.W.kitOne K (.type "int") (.ref a.C_Family) = some false
  kit_str_S : PySem.W.kitOne K (.type "str") (.ref a.C_Family) = some false
  kit_list_S : PySem.W.kitOne K (.type "list") (.ref a.C_Family) = some false
  kit_tuple_S : PySem.W.kitOne K (.type "tuple") (.ref a.C_Family) = some false
  nf_Fam : PySem.W.notFirst K a.C_Family (.ref a.C_Family) = true
  nf_NoneType : PySem.W.notFirst K a.C_Family (.type "NoneType") = true
  nf_tuple : PySem.W.notFirst K a.C_Family (.type "tuple") = true
  nf_int : PySem.W.notFirst K a.C_Family (.type "int") = true
  nf_bool : PySem.W.notFirst K a.C_Family (.type "bool") = true
  nf_str : PySem.W.notFirst K a.C_Family (.type "str") = true
  nf_list : PySem.W.notFirst K a.C_Family (.type "list") = true
end K19
namespace K19
open PySem PySem.Spec PyProof.Rows L2 Own OwnSeq OwnSet OwnComb OwnSort OwnHot OwnExN OwnProj
/-! ### values by their kinds -/
inductive Tg | non | bl | int | str | lst | tup
  deriving DecidableEq
inductive Ty (H : Hp) : V → Tg → Prop
  | non : Ty H .non .non
  | bl (b : Bool) : Ty H (.bl b) .bl
  | int (i : Int) : Ty H (.int i) .int
  | str (x : Str) : Ty H (.str x) .str
  | lst {p : Addr} {xs : List V} (h : H p = some (.lst xs)) : Ty H (.ref p) .lst
  | tup {p : Addr} {xs : List V} (h : H p = some (.tup xs)) : Ty H (.ref p) .tup
def tyv : Tg → Value
  | .non => .type "NoneType"
  | .bl => .type "bool"
  | .int => .type "int"
  | .str => .type "str"
  | .lst => .type "list"
  | .tup => .type "tuple"
def isB (g : Tg) : Tg → Bool
  | .int => decide (g = .int) || decide (g = .bl)
  | c => decide (g = c)
def clv : Tg → V
  | .non => .ty "NoneType"
  | .bl => .ty "bool"
  | .int => .ty "int"
  | .str => .ty "str"
  | .lst => .ty "list"
  | .tup => .ty "tuple"
theorem Ty.x {K : PySem.W.Frag} {H : Hp} {v : V} {g : Tg} (t : Ty H v g) : TyX K H v (tyv g) := by
  cases t with
  | non => exact .base .non
  | bl b => exact .base (.bl b)
  | int i => exact .base (.int i)
  | str x => exact .base (.str x)
  | lst h => exact .base (.lst h)
  | tup h => exact .base (.tup h)
theorem kit_by {K : PySem.W.Frag} (g c : Tg) (h2 : c ≠ .non) : ∃ n : String, clv c = .ty n ∧ PySem.W.kitOne K (tyv g) (.type n) = some (isB g c) := by
  cases c with
  | non => exact absurd rfl h2
  | int => exact ⟨"int", rfl, by cases g <;> exact kit_ty (by decide +kernel)⟩
  | bl => exact ⟨"bool", rfl, by cases g <;> exact kit_ty (by decide +kernel)⟩
  | str => exact ⟨"str", rfl, by cases g <;> exact kit_ty (by decide +kernel)⟩
  | lst => exact ⟨"list", rfl, by cases g <;> exact kit_ty (by decide +kernel)⟩
  | tup => exact ⟨"tuple", rfl, by cases g <;> exact kit_ty (by decide +kernel)⟩
def rIsB (c : Tg) : List V → Hp → VK → Prop := fun xs H Q => ∃ v g, xs = [v, clv c] ∧ Ty H v g ∧ Q (.bl (isB g c)) H
theorem call_isB {X : Cx} (c : Tg) (h : c ≠ .non := by decide) : CallR X (.builtin "isinstance") (rIsB c) := Rd.CallR.imp call_isi fun xs H Q ⟨v, g, e, t, q⟩ =>
  let ⟨n, e1, k⟩ := kit_by (K := X.K) g c h
  ⟨v, clv c, tyv g, .type n, isB g c, e, e1 ▸ .ty n, t.x, k, q⟩
theorem kit_any {K : PySem.W.Frag} (g : Tg) : PySem.W.kitAny K (tyv g) [.type "list", .type "tuple"] = some (decide (g = .lst) || decide (g = .tup)) := by
  obtain ⟨n1, e1, k1⟩ := kit_by (K := K) g .lst (by decide)
  obtain ⟨n2, e2, k2⟩ := kit_by (K := K) g .tup (by decide)
  have e1 : V.ty "list" = V.ty n1 := e1
  have e2 : V.ty "tuple" = V.ty n2 := e2
  cases e1
  cases e2
  have k1 : PySem.W.kitOne K (tyv g) (.type "list") = some (decide (g = .lst)) := k1
  have k2 : PySem.W.kitOne K (tyv g) (.type "tuple") = some (decide (g = .tup)) := k2
  unfold PySem.W.kitAny
  rw [k1]
  cases decide (g = .lst) with
  | true => rfl
  | false =>
    unfold PySem.W.kitAny
    show (match PySem.W.kitOne K (tyv g) (.type "tuple") with | some true => some true | some false => PySem.W.kitAny K (tyv g) [] | none => none) = _
    rw [k2]
    cases decide (g = .tup) <;> rfl
def rIsS : List V → Hp → VK → Prop := fun xs H Q => ∃ v g tp, xs = [v, .ref tp] ∧ H tp = some (.tup [.ty "list", .ty "tuple"]) ∧ Ty H v g ∧ Q (.bl (decide (g = .lst) || decide (g = .tup))) H
theorem call_isS {X : Cx} : CallR X (.builtin "isinstance") rIsS := Rd.CallR.imp call_isiT fun xs H Q ⟨v, g, tp, e, ht, t, q⟩ =>
  ⟨v, tp, _, _, _, _, e, ht, .cons (.ty "list") (.cons (.ty "tuple") .nil), t.x, kit_any g, q⟩
theorem same_upd {H : Hp} {p : Addr} {o : HO} (h : H p = none) : Same H (upd H p o) := fun b x e => by
  rw [upd_ne (ne_of_none e h)]
  exact e
theorem small {n : Nat} (h : n < 1000) : n < sizeLine := Nat.lt_of_lt_of_le h (by decide)
theorem small_le {n : Nat} (h : n ≤ 1000) : n ≤ sizeLine := Nat.le_trans h (by decide)
/-- an item of a tuple that stands in H by itself -/
def rIxHT : R2 := fun x y H Q => ∃ p xs i v, x = .ref p ∧ y = .int i ∧ H p = some (.tup xs) ∧ atI xs i = some v ∧ Q v H
theorem ixHT {X : Cx} : IxR X rIxHT := fun value slice pins s σ H x y v u Q I rx ry ⟨p, xs, i, z, e1, e2, h, e3, q⟩ hs => ix_tup value slice pins s σ H x y v u Q I rx ry ⟨p, xs, i, z, e1, e2, SqT.of h, e3, q⟩ hs
/-! ### sets of things -/
/-- the things as values -/
def iv (s : List Nat) : List V := s.map fun g => V.int (g : Nat)
theorem iv_len (s : List Nat) : (iv s).length = s.length := List.length_map _
def mk (s : List Nat) : Nat := (s.map fun g => 2 ^ g).sum
def bit (m k : Nat) : Bool := decide (m / 2 ^ k % 2 = 1)
def bits (m : Nat) : List Nat := (List.range 6).filter (bit m)
/-- all sets of n things, in order of size -/
def allS (n : Nat) : List (List Nat) := (List.range (n + 1)).flatMap (combs n)
/-- a part, its masks -/
def Sub (m' m : Nat) : Prop := m' &&& m = m'
instance (m' m : Nat) : Decidable (Sub m' m) := inferInstanceAs (Decidable (_ = _))
def In (S : List Bool) (m : Nat) : Bool := S.getD m false
/-- what may be taken: which masks; () is one, and every part of one -/
structure Fam (n : Nat) (S : List Bool) : Prop where
  n1 : 1 ≤ n
  n6 : n ≤ 6
  len : S.length = 2 ^ n
  zero : In S 0 = true
  down : ∀ m m', Sub m' m → In S m = true → In S m' = true
def famL (n : Nat) (S : List Bool) : List (List Nat) := (allS n).filter fun s => In S (mk s)

/-! ### rules with the table of kept things told -/
theorem op_inK {X : Cx} (K : PySem.W.Frag) (hK : X.K = K := by rfl) : OpR X (compareOp .In) (rIn K false) := by
  subst hK
  exact op_in_seq
theorem op_notInK {X : Cx} (K : PySem.W.Frag) (hK : X.K = K := by rfl) : OpR X (compareOp .NotIn) (rIn K true) := by
  subst hK
  exact op_notIn_seq
theorem pi_combK {X : Cx} {tg e e2 : Expr} {ta : TA} {x : Str} {p pos : Pos} (K : PySem.W.Frag) (hg : Gl X x) (hm : X.mg x = some (.type OwnComb.T)) (ha : PA X [e, e2] ta) (hK : X.K = K := by rfl) (hdb : (x == ("__debug__" : Str)) = false := by decide)
    (hs : starEach [e, e2] X.env = (false, eval e X.env) :: starEach [e2] X.env := by rfl) (hpl : (backTo pos (starEach [e2] X.env)).any (·.1) = false := by rfl) :
    PI X tg (.Call (.Name x p) [e, e2] [] pos) (iComb K ta) := by
  subst hK
  exact pi_comb hg hm ha hdb hs hpl
theorem pe_fldK {X : Cx} {e : Expr} {f : Str} {pos : Pos} {ta : TE} (K : PySem.W.Frag) (he : PE X e ta) (hK : X.K = K := by rfl) (hb : attributeBase e f X.env (eval e X.env) = eval e X.env := by rfl) : PE X (.Attribute e f pos) (tFld K ta f) := by
  subst hK
  exact pe_fld he hb

end K19
namespace K19
open PySem PySem.Spec PyProof.Rows L2 Own OwnSeq OwnSet OwnComb OwnSort OwnHot OwnExN OwnProj
/-! ### the sets of few things: by reckoning -/
def enc (s : List Nat) : PyData := .tuple [.int s.length, .tuple (s.map fun g => .int (g : Nat))]
abbrev leS : List Nat → List Nat → Bool := PySem.W.dataLe false enc
def asc : List Nat → Bool
  | [] => true
  | x :: r => r.all (fun y => decide (x < y)) && asc r
def ordered : List (List Nat) → Bool
  | [] => true
  | s :: r => r.all (fun t => leS s t && !leS t s && decide (s.length ≤ t.length)) && ordered r
def chk (n : Nat) : Bool := ((allS n).all fun s => decide (bits (mk s) = s) && decide (mk s < 2 ^ n) && s.all (fun g => decide (g < n)) && decide (s.length ≤ n) && asc s) &&
  ((List.range (2 ^ n)).all fun m => decide (mk (bits m) = m) && (allS n).contains (bits m)) && ordered (allS n) && decide ((allS n).length = 2 ^ n)
theorem chk_all : ((List.range 7).all chk) = true := by decide +kernel
theorem chk_at {n : Nat} (h : n ≤ 6) : chk n = true := List.all_eq_true.mp chk_all n (List.mem_range.mpr (by omega))
theorem pw_of {r : List Nat → List Nat → Prop} : ∀ {l : List (List Nat)}, ordered l = true → (∀ s t, leS s t = true → leS t s = false → s.length ≤ t.length → r s t) → l.Pairwise r
  | [], _, _ => .nil
  | s :: l, h, k => by
    obtain ⟨a, b⟩ := Bool.and_eq_true_iff.mp h
    refine .cons (fun t ht => ?_) (pw_of b k)
    have z := List.all_eq_true.mp a t ht
    simp at z
    exact k s t z.1.1 z.1.2 z.2
section
variable {n : Nat} (h : n ≤ 6)
theorem allS_at {s : List Nat} (hs : s ∈ allS n) (h : n ≤ 6) : bits (mk s) = s ∧ mk s < 2 ^ n ∧ (∀ g ∈ s, g < n) ∧ s.length ≤ n ∧ asc s = true := by
  have z := chk_at h
  unfold chk at z
  simp only [Bool.and_eq_true] at z
  have y := List.all_eq_true.mp z.1.1.1 s hs
  simp only [Bool.and_eq_true, decide_eq_true_eq] at y
  exact ⟨y.1.1.1.1, y.1.1.1.2, fun g hg => of_decide_eq_true (List.all_eq_true.mp y.1.1.2 g hg), y.1.2, y.2⟩
theorem bits_in {m : Nat} (h : n ≤ 6) (hm : m < 2 ^ n) : mk (bits m) = m ∧ bits m ∈ allS n := by
  have z := chk_at h
  unfold chk at z
  simp only [Bool.and_eq_true] at z
  have y := List.all_eq_true.mp z.1.1.2 m (List.mem_range.mpr hm)
  simp only [Bool.and_eq_true, decide_eq_true_eq] at y
  exact ⟨y.1, List.contains_iff_mem.mp y.2⟩
theorem allS_len (h : n ≤ 6) : (allS n).length = 2 ^ n := by
  have z := chk_at h
  unfold chk at z
  simp only [Bool.and_eq_true, decide_eq_true_eq] at z
  exact z.2
theorem allS_strict (h : n ≤ 6) : (allS n).Pairwise fun s t => leS s t = true ∧ leS t s = false ∧ s.length ≤ t.length := by
  have z := chk_at h
  unfold chk at z
  simp only [Bool.and_eq_true] at z
  exact pw_of z.1.2 fun s t a b c => ⟨a, b, c⟩
theorem allS_nodup (h : n ≤ 6) : (allS n).Nodup := (allS_strict h).imp fun {s t} z e => by
  subst e
  rw [z.1] at z
  exact absurd z.2.1 (by decide)
/-- the masks' sets are all sets -/
theorem perm_masks (h : n ≤ 6) : ((List.range (2 ^ n)).map bits).Perm (allS n) := by
  refine (List.perm_ext_iff_of_nodup ?_ (allS_nodup h)).mpr fun s => ?_
  · refine List.pairwise_map.mpr (List.Pairwise.imp_of_mem (fun {x y} hx hy ne e => ne ?_) List.nodup_range)
    have a := (bits_in h (List.mem_range.mp hx)).1
    rw [e, (bits_in h (List.mem_range.mp hy)).1] at a
    exact a.symm
  · refine ⟨fun z => ?_, fun z => ?_⟩
    · obtain ⟨m, hm, rfl⟩ := List.mem_map.mp z
      exact (bits_in h (List.mem_range.mp hm)).2
    · have y := allS_at z h
      exact List.mem_map.mpr ⟨mk s, List.mem_range.mpr y.2.1, y.1⟩
end
theorem _root_.List.Pairwise.of_mem_or {α : Type} {r : α → α → Prop} : ∀ {l : List α}, l.Pairwise r → ∀ {x y : α}, x ∈ l → y ∈ l → x = y ∨ r x y ∨ r y x
  | _ :: l, .cons a b, x, y, hx, hy => by
    rcases List.mem_cons.mp hx with ex | hx
    · rcases List.mem_cons.mp hy with ey | hy
      · exact .inl (ex.trans ey.symm)
      · exact .inr (.inl (ex ▸ a y hy))
    · rcases List.mem_cons.mp hy with ey | hy
      · exact .inr (.inr (ey ▸ a x hx))
      · exact b.of_mem_or hx hy
theorem sorted_eq {l : List (List Nat)} {n : Nat} (h : n ≤ 6) {p : List Nat → Bool} (hl : l.Perm ((allS n).filter p)) : l.mergeSort leS = (allS n).filter p := by
  have st := (allS_strict h).filter p
  refine List.Perm.eq_of_pairwise (le := fun s t => leS s t = true) ?_ (PySem.W.sort_pairwise ?_ l) (st.imp fun z => z.1) ((List.mergeSort_perm l leS).trans hl)
  · intro s t hs ht a b
    have hs' : s ∈ (allS n).filter p := hl.mem_iff.mp (List.mem_mergeSort.mp hs)
    rcases st.of_mem_or hs' ht with e | e | e
    · exact e
    · rw [e.2.1] at b; cases b
    · rw [e.2.1] at a; cases a
  · exact PySem.W.sortLe_total _ _ _

end K19
namespace K19
open PySem PySem.Spec PyProof.Rows L2 Own OwnSeq OwnSet OwnComb OwnSort OwnHot OwnExN OwnProj
local macro_rules | `(tactic| walk_at "rd") => `(tactic| simp only [tSeq, tAsg, tOp, tUn, tVar, gName, gSub, rIxL, rIxT, rSetL, tC, rI0, rI, rU, rEq, rNe, tCons, tNil, tCB, tLst, tTup, tIfS, tAnd, tOr, tNot, tAndV, tOrV, tNotV, tTest, tB, tIf, tRet, tDrop, tNext, tBreak, tCont, tCall, tCallS, L2.WE, tMakeS, rIsS, rIsB, tChain, gSeq, gRest, gCons, gNil, tFor_seq, tFor_enumS, tLc_seq, tLc_enumS, rAny, rAll, L2.tMeth, StX.tStar, rIn, tLstRg, tRg1, tRg2, rSetI, rSortedSet, rInDT, rInD, rNotInD, rEqD, rNeD, iComb, tFld, tMake, tMkO, sFld, tOst, tNever, tBits, clv, isB,
  Rd.tFor_rng1, Rd.tFor_rng2, Rd.tFor_list, Rd.tFor_tup, Rd.tLc_list, Rd.tLc_tup, Rd.tLc_rng1, Rd.LcTurn, tYes, wipe, Rd.rLenL, Rd.rLenT, Rd.rIntI, Rd.rIxH, rIxHT,  HO.tup.injEq, Rd.at0, Rd.at1, Rd.at2, Rd.at3, Rd.ixN40, Rd.ixN41, Rd.ixN42, Rd.ixN43, Rd.scal_ii, cxOf,
  List.length_cons, List.length_nil, List.length_map, List.map_cons, List.map_nil, upd_same, decide_eq_true_eq, decide_true, decide_false, if_true, if_false, Bool.false_eq_true, Bool.not_true, Bool.not_false, HO.lst.injEq, HO.ins.injEq, List.set_cons_zero, List.set_cons_succ, List.getElem?_cons_zero, List.getElem?_cons_succ, List.append_nil, List.nil_append, List.cons_append, Option.some.injEq, V.ref.injEq, V.int.injEq, V.bl.injEq, List.cons.injEq, exists_eq_left', exists_and_left, exists_eq_left, true_and, and_true, and_self, and_assoc, implies_true, reduceCtorEq, Nat.reduceAdd])

/-- the sets as new tuples -/
def Tups (H : Hp) : List V → List (List Nat) → Prop
  | [], [] => True
  | v :: vs, s :: ss => (∃ q, v = .ref q ∧ H q = some (.tup (iv s))) ∧ Tups H vs ss
  | _, _ => False
theorem Tups.same {H H' : Hp} (e : Same H H') : ∀ {vs : List V} {ss : List (List Nat)}, Tups H vs ss → Tups H' vs ss
  | [], [], _ => trivial
  | _ :: _, _ :: _, ⟨⟨q, a, b⟩, r⟩ => ⟨⟨q, a, e _ _ b⟩, Tups.same e r⟩
  | [], _ :: _, h => h.elim
  | _ :: _, [], h => h.elim
theorem Tups.upd {H : Hp} {D : Addr} {xs : List V} {o : HO} (h : H D = some (.lst xs)) : ∀ {vs : List V} {ss : List (List Nat)}, Tups H vs ss → Tups (upd H D o) vs ss
  | [], [], _ => trivial
  | _ :: _, _ :: _, ⟨⟨q, a, b⟩, r⟩ => ⟨⟨q, a, by rw [upd_ne (fun z => by rw [z, h] at b; cases b)]; exact b⟩, Tups.upd h r⟩
  | [], _ :: _, h => h.elim
  | _ :: _, [], h => h.elim
theorem Tups.app {H : Hp} : ∀ {vs ws : List V} {gs hs : List (List Nat)}, Tups H vs gs → Tups H ws hs → Tups H (vs ++ ws) (gs ++ hs)
  | [], _, [], _, _, h => h
  | _ :: _, _, _ :: _, _, ⟨a, r⟩, h => ⟨a, Tups.app r h⟩
  | [], _, _ :: _, _, h, _ => h.elim
  | _ :: _, _, [], _, h, _ => h.elim
theorem Tups.len {H : Hp} : ∀ {xs : List V} {gs : List (List Nat)}, Tups H xs gs → xs.length = gs.length
  | [], [], _ => rfl
  | _ :: _, _ :: _, h => congrArg (· + 1) h.2.len
  | [], _ :: _, h => h.elim
  | _ :: _, [], h => h.elim
theorem Tups.at {H : Hp} : ∀ {xs : List V} {gs : List (List Nat)} {i : Nat} {x : V}, Tups H xs gs → xs[i]? = some x → ∃ g, gs[i]? = some g ∧ ∃ q, x = .ref q ∧ H q = some (.tup (iv g))
  | _ :: _, g :: _, 0, _, h, e => ⟨g, rfl, by cases Option.some.inj e; exact h.1⟩
  | _ :: _, _ :: _, i + 1, _, h, e => Tups.at (i := i) h.2 e
  | [], [], _, _, _, e => by cases e
  | [], _ :: _, _, _, h, _ => h.elim
  | _ :: _, [], _, _, h, _ => h.elim
theorem seqOr {K : PySem.W.Frag} {H : Hp} {p : Addr} {l : Bool} {xs : List V} (h : H p = some (sq l xs)) : SqL K H p xs ∨ SqT K H p xs := by
  cases l with
  | true => exact .inl (SqL.of h)
  | false => exact .inr (SqT.of h)
theorem seqOr' {K : PySem.W.Frag} {H : Hp} {p : Addr} {l : Bool} {xs : List V} (h : H p = some (sq l xs)) : SqT K H p xs ∨ SqL K H p xs := (seqOr h).symm
theorem flat_len : ((List.range 7).all fun n => (List.range 9).all fun i => decide (((List.range i).flatMap (combs n)).length ≤ 64)) = true := by decide +kernel
theorem flat_at {n i : Nat} (hn : n ≤ 6) (hi : i ≤ 8) : ((List.range i).flatMap (combs n)).length ≤ 64 := of_decide_eq_true (List.all_eq_true.mp (List.all_eq_true.mp flat_len n (List.mem_range.mpr (by omega))) i (List.mem_range.mpr (by omega)))
theorem pick_iv {n : Nat} {js : List Nat} (h : ∀ j ∈ js, j < n) : (js.map fun j => (iv (List.range n)).getD j .non) = iv js := List.map_congr_left fun j hj => by
  have z := h j hj
  unfold iv
  rw [List.getD_eq_getElem?_getD, List.getElem?_map, List.getElem?_range z]
  rfl
theorem all_flat {α β : Type} {f : α → Bool} : True := trivial
theorem iv_flat (s : List Nat) : (iv s).all flatV = true := List.all_eq_true.mpr fun x hx => by
  obtain ⟨g, _, rfl⟩ := List.mem_map.mp hx
  rfl
theorem inV_iv (g : Nat) (s : List Nat) : inV (.int (g : Nat)) (iv s) = s.contains g := by
  unfold inV iv
  rw [List.any_map]
  induction s with
  | nil => rfl
  | cons x s ih =>
    rw [List.any_cons, List.contains_cons, ih]
    congr 1
    show ((x : Int) == (g : Int)) = (g == x)
    exact Bool.eq_iff_iff.mpr ⟨fun z => beq_iff_eq.mpr (by have := beq_iff_eq.mp z; omega), fun z => beq_iff_eq.mpr (by have := beq_iff_eq.mp z; omega)⟩
section
variable {P : Program} {w : World} {K : PySem.W.Frag} {mg : Str → Option Value} {base : Heap} {a : Ad}
/-! ### parts_of(list(range(n))), all_sets -/
def spParts : Sp := fun vs H Q _ => ∃ (p : Addr) (n : Nat), vs = [.ref p] ∧ H p = some (.lst (iv (List.range n))) ∧ n ≤ 6 ∧ ∀ q ys H', H q = none → Same H H' → H' q = some (.lst ys) → Tups H' ys (allS n) → Q (.ref q) H'
theorem sc_parts_of : FnScope ["things", "row", "many", "part"] ["things"] (defScope s_parts_of) := ⟨rfl, rfl, rfl, by decide +kernel, rfl, by decide +kernel, by decide +kernel⟩
theorem ok_parts_of (T : Txt K mg a) : FnOk P w K mg base CX0 1 a.a_parts_of a.d_parts_of ["things"] spParts := by
  refine T.fn_parts_of.ok sc_parts_of (fun vs H Q E h => ?_) (fun cdv A outer s H vs Q E hr h => ?_)
  · obtain ⟨p, n, rfl, _⟩ := h
    rfl
  · obtain ⟨p, n, rfl, hp, hn, k⟩ := h
    refine ⟨_, (pss_cons (ps_set (i := 1) sc_parts_of.nd rfl (Or.inr rfl) (pe_callTy call_list_of (by rfl) T.no_list (by decide +kernel) (pa_cons (pv 0) pa_nil)))
      (pss_one (ps_ret (pe_lc2 (own := [("many", 2), ("part", 3)]) (vs1 := [3]) (by rfl) sc_parts_of.nd (pi_range1 (by rfl) T.no_range (pa_cons (pe_op op_add (pe_callB Rd.call_lenL (by rfl) T.no_len PySem.boot_len (pa_cons (pv 1) pa_nil)) pe_int) pa_nil)) (blkOk_by (own := [("many", 2), ("part", 3)]) (N := ["things", "row", "many", "part"]) (sc := defScope s_parts_of) (by decide +kernel)) (by decide) (fun _ _ _ _ _ => pg_name (i := 2) sc_parts_of.nd rfl (Or.inl rfl)) (fun _ _ _ _ _ => pts_nil) (fun _ _ _ _ _ => (pi_combK K (by rfl) T.mg_combinations (pa_cons (pv 1) (pa_cons (pv 2) pa_nil)))) (fun _ _ _ _ _ => pg_name (i := 3) sc_parts_of.nd rfl (Or.inl rfl)) (fun _ _ _ _ _ => pts_nil) (fun _ _ _ _ _ => (pv 3)))))), ?_⟩
    show (_ : TS) _ [some (V.ref p), none, none, none] H
    walk_at "rd"
    refine ⟨_, .inl (SqL.of hp), fun l hl => ?_⟩
    have e1 := same_upd (o := .lst (iv (List.range n))) hl
    have at1 := upd_same (H := H) (a := l) (o := .lst (iv (List.range n)))
    generalize upd H l (.lst (iv (List.range n))) = H1 at e1 at1 ⊢
    unfold tLc2 iRng1
    walk_at "rd"
    refine ⟨_, SqL.of at1, ?_⟩
    rw [iv_len, List.length_range]
    refine ⟨by omega, by omega, fun D hD => ⟨fun i m H' => m = n + 1 - i ∧ i ≤ n + 1 ∧ ∃ ys, Same H1 H' ∧ H' D = some (.lst ys) ∧ Tups H' ys ((List.range i).flatMap (combs n)), ⟨n + 1, rfl, Nat.zero_le _, [], same_upd hD, upd_same, trivial⟩, fun i m H2 ⟨em, hi, ys, e2, hy, tv⟩ => ?_⟩⟩
    have jn : ((n : Int) + 1).toNat = n + 1 := by omega
    rw [jn]
    rcases Nat.lt_or_eq_of_le hi with lt | eq
    · refine .inr ⟨lt, fun H' => ∃ ys, Same H1 H' ∧ H' D = some (.lst ys) ∧ Tups H' ys ((List.range (i + 1)).flatMap (combs n)), fun H' z => ⟨n + 1 - (i + 1), by omega, rfl, lt, z⟩, fun x H' yl => ?_⟩
      obtain ⟨rfl, rfl⟩ : H' = H2 ∧ x = V.int ((0 : Int) + (i : Nat)) := yl
      refine ⟨i, by rw [Int.zero_add], _, SqL.of (e2 _ _ at1), by omega, by rw [iv_len, List.length_range]; omega, combs n i, by rw [iv_len, List.length_range]; exact chain6 hn (by omega), ?_⟩
      have C := chain6 (n := n) (r := i) hn (by omega)
      have fl := flat_at (n := n) (i := i + 1) hn (by omega)
      rw [List.range_succ, List.flatMap_append, List.flatMap_cons, List.flatMap_nil, List.append_nil] at fl ⊢
      refine ⟨fun j k H' => k = (combs n i).length - j ∧ j ≤ (combs n i).length ∧ ∃ ys, Same H1 H' ∧ H' D = some (.lst ys) ∧ Tups H' ys ((List.range i).flatMap (combs n) ++ (combs n i).take j), ⟨_, rfl, Nat.zero_le _, ys, e2, hy, by rw [List.take_zero, List.append_nil]; exact tv⟩, fun j k H3 ⟨ek, hj, ys, e3, hy3, tv3⟩ => ?_⟩
      rcases Nat.lt_or_eq_of_le hj with lt2 | eq2
      · refine .inr ⟨lt2, fun H' => ∃ ys, Same H1 H' ∧ H' D = some (.lst ys) ∧ Tups H' ys ((List.range i).flatMap (combs n) ++ (combs n i).take (j + 1)), fun H' z => ⟨_, by omega, rfl, lt2, z⟩, fun x H4 yl => ?_⟩
        obtain ⟨t, js, hjs, rfl, ht, rfl⟩ := yl
        have te := same_upd (o := .tup (js.map fun j => (iv (List.range n)).getD j .non)) ht
        have yl := tv3.len
        rw [List.length_append, List.length_take] at yl
        rw [List.length_append] at fl
        refine ⟨ys, te _ _ hy3, small (by omega), ys ++ [.ref t], fun b o hb => (upd_ne (ne_of_none hb hD)).trans (te _ _ (e3 _ _ hb)), upd_same, ?_⟩
        rw [List.take_add_one, hjs, ← List.append_assoc]
        exact Tups.upd (te _ _ hy3) (Tups.app (tv3.same te) ⟨⟨t, rfl, by rw [upd_same, pick_iv (C.inn js (List.mem_of_getElem? hjs))]⟩, trivial⟩)
      · subst eq2
        rw [List.take_length] at tv3
        exact .inl ⟨rfl, ys, e3, hy3, tv3⟩
    · subst eq
      refine .inl ⟨Nat.le_refl _, k D ys H2 (e1.free hD) (e1.trans e2) hy tv⟩
def spAll : Sp := fun vs H Q _ => ∃ (n : Nat), vs = [.int n] ∧ n ≤ 6 ∧ ∀ q ys H', H q = none → Same H H' → H' q = some (.lst ys) → Tups H' ys (allS n) → Q (.ref q) H'
theorem sc_all_sets : FnScope ["size"] ["size"] (defScope s_all_sets) := ⟨rfl, rfl, rfl, by decide +kernel, rfl, by decide +kernel, by decide +kernel⟩
theorem ok_all_sets (T : Txt K mg a) : FnOk P w K mg base CX0 2 a.a_all_sets a.d_all_sets ["size"] spAll := by
  refine T.fn_all_sets.ok sc_all_sets (fun vs H Q E h => ?_) (fun cdv A outer s H vs Q E hr h => ?_)
  · obtain ⟨n, rfl, _⟩ := h
    rfl
  · obtain ⟨n, rfl, hn, k⟩ := h
    refine ⟨_, (pss_one (ps_ret (pe_call (ok_parts_of T) (hr.mono (by decide)) (by rfl) T.mg_parts_of T.fn_parts_of.kp T.b_parts_of .nil pass0 (pa_cons (pe_listRg rfl (by rfl) T.no_list (prg_1 (by rfl) T.no_range (pv 0))) pa_nil)))), ?_⟩
    show (_ : TS) _ [some (V.int n)] H
    walk_at "rd"
    refine ⟨RgOk.of_le (by decide) (by omega) (by decide) (by omega), fun q hq => ⟨q, n, rfl, ?_, hn, fun r ys H' hr e ha ht => k r ys H' ((same_upd hq).free hr) ((same_upd hq).trans e) ha ht⟩⟩
    rw [upd_same]
    unfold rgV iv
    rw [show ((n : Int) - 0).toNat = n by omega]
    congr 2
    refine List.map_congr_left fun j hj => ?_
    rw [Int.zero_add]
/-! ### is_part, touches -/
def subL (s t : List Nat) : Bool := s.all fun g => t.contains g
def spPart : Sp := fun vs H Q _ => ∃ (p q : Addr) (l l' : Bool) (s t : List Nat), vs = [.ref p, .ref q] ∧ H p = some (sq l (iv s)) ∧ H q = some (sq l' (iv t)) ∧ s.length ≤ 6 ∧ ∀ H', Same H H' → Q (.bl (subL s t)) H'
theorem sc_is_part : FnScope ["part", "things", "thing"] ["part", "things"] (defScope s_is_part) := ⟨rfl, rfl, rfl, by decide +kernel, rfl, by decide +kernel, by decide +kernel⟩
theorem ok_is_part (T : Txt K mg a) : FnOk P w K mg base CX0 1 a.a_is_part a.d_is_part ["part", "things"] spPart := by
  refine T.fn_is_part.ok sc_is_part (fun vs H Q E h => ?_) (fun cdv A outer s H vs Q E hr h => ?_)
  · obtain ⟨p, q, l, l', s, t, rfl, _⟩ := h
    rfl
  · obtain ⟨p, q, l, l', s, t, rfl, hp, hq, h6, k⟩ := h
    refine ⟨_, (pss_one (ps_ret (pe_callB (cr_all rfl) (by rfl) T.no_all (by decide +kernel) (pa_cons (pe_lc (own := [("thing", 2)]) (by rfl) sc_is_part.nd (pi_seq (pv 0)) (blkOk_by (own := [("thing", 2)]) (N := ["part", "things", "thing"]) (sc := defScope s_is_part) (by decide +kernel)) (fun _ _ _ _ _ => pg_name (i := 2) sc_is_part.nd rfl (Or.inl rfl)) (fun _ _ _ _ _ => pts_nil) (fun _ _ _ _ _ => (pe_cmpR (op_inK K) (pv 2) (pv 1) (by with_unfolding_all rfl)))) pa_nil)))), ?_⟩
    show (_ : TS) _ [some (V.ref p), some (V.ref q), none] H
    walk_at "rd"
    refine ⟨l, _, hp, lcl_goes goes_seq (fun D i H5 => H D = none ∧ Same H H5 ∧ H5 D = some (.lst (((s.take i).map fun g => t.contains g).map V.bl))) (fun D hD => ⟨hD, same_upd hD, upd_same⟩)
      (fun D i H5 _ h => h.2.1 _ _ hp) (fun D i x H5 H5' hi ⟨n5, e5, a5⟩ ⟨eq5, hx⟩ => ?_) (fun D H5 _ ⟨n5, e5, a5⟩ => ?_)⟩
    · subst eq5
      rw [iv_len] at hi
      obtain ⟨g, hg, rfl⟩ : ∃ g, s[i]? = some g ∧ x = V.int (g : Nat) := by
        unfold iv at hx
        rw [List.getElem?_map] at hx
        cases z : s[i]? with
        | none => rw [z] at hx; cases hx
        | some g => rw [z] at hx; exact ⟨g, rfl, (Option.some.inj hx).symm⟩
      walk_at "rd"
      refine ⟨_, seqOr (e5 _ _ hq), rfl, iv_flat t, _, a5, small (by rw [List.length_map, List.length_map, List.length_take]; omega), n5, fun b o hb => (upd_ne (ne_of_none hb n5)).trans (e5 _ _ hb), ?_⟩
      rw [List.take_add_one, hg, List.map_append, List.map_append, inV_iv]
      rfl
    · rw [iv_len, List.take_length] at a5
      exact ⟨D, rfl, _, SqL.of a5, by rw [List.all_map]; exact k _ e5⟩
end

end K19
namespace K19
open PySem PySem.Spec PyProof.Rows L2 Own OwnSeq OwnSet OwnComb OwnSort OwnHot OwnExN OwnProj
local macro_rules | `(tactic| walk_at "rd") => `(tactic| simp only [tSeq, tAsg, tOp, tUn, tVar, gName, gSub, rIxL, rIxT, rSetL, tC, rI0, rI, rU, rEq, rNe, tCons, tNil, tCB, tLst, tTup, tIfS, tAnd, tOr, tNot, tAndV, tOrV, tNotV, tTest, tB, tIf, tRet, tDrop, tNext, tBreak, tCont, tCall, tCallS, L2.WE, tMakeS, rIsS, rIsB, tChain, gSeq, gRest, gCons, gNil, tFor_seq, tFor_enumS, tLc_seq, tLc_enumS, rAny, rAll, L2.tMeth, StX.tStar, rIn, tLstRg, tRg1, tRg2, rSetI, rSortedSet, rInDT, rInD, rNotInD, rEqD, rNeD, iComb, tFld, tMake, tMkO, sFld, tOst, tNever, tBits, clv, isB,
  Rd.tFor_rng1, Rd.tFor_rng2, Rd.tFor_list, Rd.tFor_tup, Rd.tLc_list, Rd.tLc_tup, Rd.tLc_rng1, Rd.LcTurn, tYes, wipe, Rd.rLenL, Rd.rLenT, Rd.rIntI, Rd.rIxH, rIxHT,  HO.tup.injEq, Rd.at0, Rd.at1, Rd.at2, Rd.at3, Rd.ixN40, Rd.ixN41, Rd.ixN42, Rd.ixN43, Rd.scal_ii, cxOf,
  List.length_cons, List.length_nil, List.length_map, List.map_cons, List.map_nil, upd_same, decide_eq_true_eq, decide_true, decide_false, if_true, if_false, Bool.false_eq_true, Bool.not_true, Bool.not_false, HO.lst.injEq, HO.ins.injEq, List.set_cons_zero, List.set_cons_succ, List.getElem?_cons_zero, List.getElem?_cons_succ, List.append_nil, List.nil_append, List.cons_append, Option.some.injEq, V.ref.injEq, V.int.injEq, V.bl.injEq, List.cons.injEq, exists_eq_left', exists_and_left, exists_eq_left, true_and, and_true, and_self, and_assoc, implies_true, reduceCtorEq, Nat.reduceAdd])

/-- sets as lists or tuples -/
def Seqs (H : Hp) : List V → List (List Nat) → Prop
  | [], [] => True
  | v :: vs, s :: ss => (∃ q l, v = .ref q ∧ H q = some (sq l (iv s))) ∧ Seqs H vs ss
  | _, _ => False
theorem Seqs.len {H : Hp} : ∀ {xs : List V} {gs : List (List Nat)}, Seqs H xs gs → xs.length = gs.length
  | [], [], _ => rfl
  | _ :: _, _ :: _, h => congrArg (· + 1) h.2.len
  | [], _ :: _, h => h.elim
  | _ :: _, [], h => h.elim
theorem Seqs.at {H : Hp} : ∀ {xs : List V} {gs : List (List Nat)} {i : Nat} {x : V}, Seqs H xs gs → xs[i]? = some x → ∃ g, gs[i]? = some g ∧ ∃ q l, x = .ref q ∧ H q = some (sq l (iv g))
  | _ :: _, g :: _, 0, _, h, e => ⟨g, rfl, by cases Option.some.inj e; exact h.1⟩
  | _ :: _, _ :: _, i + 1, _, h, e => Seqs.at (i := i) h.2 e
  | [], [], _, _, _, e => by cases e
  | [], _ :: _, _, _, h, _ => h.elim
  | _ :: _, [], _, _, h, _ => h.elim
theorem at_iv {s : List Nat} {i : Nat} {x : V} (hx : (iv s)[i]? = some x) : ∃ g, s[i]? = some g ∧ x = V.int (g : Nat) := by
  unfold iv at hx
  rw [List.getElem?_map] at hx
  cases z : s[i]? with
  | none => rw [z] at hx; cases hx
  | some g => rw [z] at hx; exact ⟨g, rfl, (Option.some.inj hx).symm⟩
theorem Seqs.same {H H' : Hp} (e : Same H H') : ∀ {vs : List V} {ss : List (List Nat)}, Seqs H vs ss → Seqs H' vs ss
  | [], [], _ => trivial
  | _ :: _, _ :: _, ⟨⟨q, l, a, b⟩, r⟩ => ⟨⟨q, l, a, e _ _ b⟩, Seqs.same e r⟩
  | [], _ :: _, h => h.elim
  | _ :: _, [], h => h.elim
theorem ty_sq {H : Hp} {p : Addr} {l : Bool} {xs : List V} (h : H p = some (sq l xs)) : ∃ g, Ty H (.ref p) g ∧ (decide (g = .lst) || decide (g = .tup)) = true ∧ (decide (g = .tup)) = !l := by
  cases l with
  | true => exact ⟨.lst, .lst h, by decide, by decide⟩
  | false => exact ⟨.tup, .tup h, by decide, by decide⟩
theorem asc_step {s : List Nat} {i g : Nat} (h : asc s = true) (hg : s[i]? = some g) : ∀ g', g' ∈ s.take i → g' < g := by
  induction s generalizing i with
  | nil => cases hg
  | cons x s ih =>
    obtain ⟨a, b⟩ := Bool.and_eq_true_iff.mp h
    cases i with
    | zero => intro g' hm; cases hm
    | succ i =>
      intro g' hm
      have hg : s[i]? = some g := hg
      rcases List.mem_cons.mp hm with rfl | hm
      · exact of_decide_eq_true (List.all_eq_true.mp a g (List.mem_of_getElem? hg))
      · exact ih b hg g' hm
/-! ### a fraction's fields -/
theorem nd_ne : ¬ (("num" : Str) = "den") := by decide +kernel
def fF (n d : Int) : List (Str × V) := putF "den" (.int d) (putF "num" (.int n) [])
theorem fF_num (n d : Int) : (fF n d).lookup ("num" : Str) = some (.int n) := by
  unfold fF
  rw [lookup_putF, if_neg nd_ne, lookup_putF, if_pos rfl]
theorem fF_den (n d : Int) : (fF n d).lookup ("den" : Str) = some (.int d) := by
  unfold fF
  rw [lookup_putF, if_pos rfl]
/-! ### values by their kinds -/
inductive Kd | non | bl | int | str | lst | tup | fr
  deriving DecidableEq
inductive Kn (C : Addr) (H : Hp) : V → Kd → Prop
  | non : Kn C H .non .non
  | bl (b : Bool) : Kn C H (.bl b) .bl
  | int (i : Int) : Kn C H (.int i) .int
  | str (x : Str) : Kn C H (.str x) .str
  | lst {p : Addr} {xs : List V} (h : H p = some (.lst xs)) : Kn C H (.ref p) .lst
  | tup {p : Addr} {xs : List V} (h : H p = some (.tup xs)) : Kn C H (.ref p) .tup
  | fr {p dx : Addr} {fs : List (Str × V)} (h : H p = some (.ins C dx fs)) : Kn C H (.ref p) .fr
theorem Kn.same {C : Addr} {H H' : Hp} {v : V} {g : Kd} (e : Same H H') (t : Kn C H v g) : Kn C H' v g := by
  cases t with
  | non => exact .non
  | bl b => exact .bl b
  | int i => exact .int i
  | str x => exact .str x
  | lst h => exact .lst (e _ _ h)
  | tup h => exact .tup (e _ _ h)
  | fr h => exact .fr (e _ _ h)
def kdv (C : Addr) : Kd → Value
  | .non => .type "NoneType"
  | .bl => .type "bool"
  | .int => .type "int"
  | .str => .type "str"
  | .lst => .type "list"
  | .tup => .type "tuple"
  | .fr => .ref C
def isK (g : Kd) : Kd → Bool
  | .int => decide (g = .int) || decide (g = .bl)
  | c => decide (g = c)
def kcv (C : Addr) : Kd → V
  | .non => .ty "NoneType"
  | .bl => .ty "bool"
  | .int => .ty "int"
  | .str => .ty "str"
  | .lst => .ty "list"
  | .tup => .ty "tuple"
  | .fr => .ref C
section
variable {P : Program} {w : World} {K : PySem.W.Frag} {mg : Str → Option Value} {base : Heap} {a : Ad}
theorem Kn.x (T : Txt K mg a) {H : Hp} {v : V} {g : Kd} (t : Kn a.C_Frac H v g) : TyX K H v (kdv a.C_Frac g) := by
  cases t with
  | non => exact .base .non
  | bl b => exact .base (.bl b)
  | int i => exact .base (.int i)
  | str x => exact .base (.str x)
  | lst h => exact .base (.lst h)
  | tup h => exact .base (.tup h)
  | fr h => exact .base (.ins h T.cl_Frac T.cg_Frac T.cget T.ctk T.mr_Frac)
/-- isinstance with one of the classes -/
def rIsK (C : Addr) (c : Kd) : List V → Hp → VK → Prop := fun xs H Q => ∃ v g, xs = [v, kcv C c] ∧ Kn C H v g ∧ Q (.bl (isK g c)) H
theorem kit_frac (T : Txt K mg a) (g : Kd) : PySem.W.kitOne K (kdv a.C_Frac g) (.ref a.C_Frac) = some (isK g .fr) := by
  cases g with
  | non => exact T.kit_none_F
  | bl => exact T.kit_bool_F
  | int => exact T.kit_int_F
  | str => exact T.kit_str_F
  | lst => exact T.kit_list_F
  | tup => exact T.kit_tuple_F
  | fr => exact T.kit_F_F
theorem call_isF {X : Cx} (T : Txt X.K mg a) : CallR X (.builtin "isinstance") (rIsK a.C_Frac .fr) := Rd.CallR.imp call_isi fun xs H Q ⟨v, g, e, t, q⟩ => ⟨v, .ref a.C_Frac, kdv a.C_Frac g, .ref a.C_Frac, isK g .fr, e, .own _, t.x T, kit_frac T g, q⟩
theorem kitK (T : Txt K mg a) (g c : Kd) (h1 : c ≠ .fr) (h2 : c ≠ .non) (h3 : g = .fr → c ≠ .bl) : ∃ n : String, kcv a.C_Frac c = .ty n ∧ PySem.W.kitOne K (kdv a.C_Frac g) (.type n) = some (isK g c) := by
  cases c with
  | fr => exact absurd rfl h1
  | non => exact absurd rfl h2
  | int => exact ⟨"int", rfl, by cases g <;> first | exact T.kit_F_int | exact kit_ty (by decide +kernel)⟩
  | bl => exact ⟨"bool", rfl, by cases g <;> first | exact absurd rfl (h3 rfl) | exact kit_ty (by decide +kernel)⟩
  | str => exact ⟨"str", rfl, by cases g <;> first | exact T.kit_F_str | exact kit_ty (by decide +kernel)⟩
  | lst => exact ⟨"list", rfl, by cases g <;> first | exact T.kit_F_list | exact kit_ty (by decide +kernel)⟩
  | tup => exact ⟨"tuple", rfl, by cases g <;> first | exact T.kit_F_tuple | exact kit_ty (by decide +kernel)⟩
/-- .. with a built-in one (of an own instance bool is not asked) -/
def rIsKB (C : Addr) (c : Kd) : List V → Hp → VK → Prop := fun xs H Q => ∃ v g, xs = [v, kcv C c] ∧ Kn C H v g ∧ (g = .fr → c ≠ .bl) ∧ Q (.bl (isK g c)) H
theorem call_isK {X : Cx} (T : Txt X.K mg a) (c : Kd) (h1 : c ≠ .fr := by decide) (h2 : c ≠ .non := by decide) : CallR X (.builtin "isinstance") (rIsKB a.C_Frac c) := Rd.CallR.imp call_isi fun xs H Q ⟨v, g, e, t, h3, q⟩ => by
  obtain ⟨n, e1, k⟩ := kitK T g c h1 h2 h3
  exact ⟨v, .ty n, kdv a.C_Frac g, .type n, isK g c, by rw [e, e1], .ty n, t.x T, k, q⟩
theorem kitA (T : Txt K mg a) (g : Kd) : PySem.W.kitAny K (kdv a.C_Frac g) [.type "list", .type "tuple"] = some (decide (g = .lst) || decide (g = .tup)) := by
  obtain ⟨n1, e1, k1⟩ := kitK T g .lst (by decide) (by decide) (fun _ => by decide)
  obtain ⟨n2, e2, k2⟩ := kitK T g .tup (by decide) (by decide) (fun _ => by decide)
  have e1 : V.ty "list" = V.ty n1 := e1
  have e2 : V.ty "tuple" = V.ty n2 := e2
  cases e1
  cases e2
  have k1 : PySem.W.kitOne K (kdv a.C_Frac g) (.type "list") = some (decide (g = .lst)) := k1
  have k2 : PySem.W.kitOne K (kdv a.C_Frac g) (.type "tuple") = some (decide (g = .tup)) := k2
  unfold PySem.W.kitAny
  rw [k1]
  cases decide (g = .lst) with
  | true => rfl
  | false =>
    unfold PySem.W.kitAny
    show (match PySem.W.kitOne K (kdv a.C_Frac g) (.type "tuple") with | some true => some true | some false => PySem.W.kitAny K (kdv a.C_Frac g) [] | none => none) = _
    rw [k2]
    cases decide (g = .tup) <;> rfl
def rIsKS (C : Addr) : List V → Hp → VK → Prop := fun xs H Q => ∃ v g tp, xs = [v, .ref tp] ∧ H tp = some (.tup [.ty "list", .ty "tuple"]) ∧ Kn C H v g ∧ Q (.bl (decide (g = .lst) || decide (g = .tup))) H
theorem call_isKS {X : Cx} (T : Txt X.K mg a) : CallR X (.builtin "isinstance") (rIsKS a.C_Frac) := Rd.CallR.imp call_isiT fun xs H Q ⟨v, g, tp, e, ht, t, q⟩ =>
  ⟨v, tp, _, _, _, _, e, ht, .cons (.ty "list") (.cons (.ty "tuple") .nil), t.x T, kitA T g, q⟩
end
/-! ### values of every kind -/
inductive Wv
  | non
  | bl (b : Bool)
  | int (i : Int)
  | str (s : Str)
  | fr (n d : Int)
  | lst (ws : List Wv)
  | tup (ws : List Wv)
mutual
inductive IsW (C : Addr) (H : Hp) : V → Wv → Prop
  | non : IsW C H .non .non
  | bl (b : Bool) : IsW C H (.bl b) (.bl b)
  | int (i : Int) : IsW C H (.int i) (.int i)
  | str (s : Str) : IsW C H (.str s) (.str s)
  | fr {p dx : Addr} {n d : Int} (h : H p = some (.ins C dx (fF n d))) : IsW C H (.ref p) (.fr n d)
  | lst {p : Addr} {vs : List V} {ws : List Wv} (h : H p = some (.lst vs)) (e : IsWs C H vs ws) : IsW C H (.ref p) (.lst ws)
  | tup {p : Addr} {vs : List V} {ws : List Wv} (h : H p = some (.tup vs)) (e : IsWs C H vs ws) : IsW C H (.ref p) (.tup ws)
inductive IsWs (C : Addr) (H : Hp) : List V → List Wv → Prop
  | nil : IsWs C H [] []
  | cons {v : V} {w : Wv} {vs : List V} {ws : List Wv} (h : IsW C H v w) (e : IsWs C H vs ws) : IsWs C H (v :: vs) (w :: ws)
end
mutual
theorem IsW.same {C : Addr} {H H' : Hp} (e : Same H H') : ∀ {v : V} {w : Wv}, IsW C H v w → IsW C H' v w
  | _, _, .non => .non
  | _, _, .bl b => .bl b
  | _, _, .int i => .int i
  | _, _, .str s => .str s
  | _, _, .fr h => .fr (e _ _ h)
  | _, _, .lst h a => .lst (e _ _ h) (IsWs.same e a)
  | _, _, .tup h a => .tup (e _ _ h) (IsWs.same e a)
theorem IsWs.same {C : Addr} {H H' : Hp} (e : Same H H') : ∀ {vs : List V} {ws : List Wv}, IsWs C H vs ws → IsWs C H' vs ws
  | _, _, .nil => .nil
  | _, _, .cons h a => .cons (IsW.same e h) (IsWs.same e a)
end
def kd : Wv → Kd
  | .non => .non
  | .bl _ => .bl
  | .int _ => .int
  | .str _ => .str
  | .fr _ _ => .fr
  | .lst _ => .lst
  | .tup _ => .tup
theorem IsW.kn {C : Addr} {H : Hp} {v : V} {w : Wv} (h : IsW C H v w) : Kn C H v (kd w) := by
  cases h with
  | non => exact .non
  | bl b => exact .bl b
  | int i => exact .int i
  | str s => exact .str s
  | fr h => exact .fr h
  | lst h _ => exact .lst h
  | tup h _ => exact .tup h
theorem IsWs.len {C : Addr} {H : Hp} : ∀ {vs : List V} {ws : List Wv}, IsWs C H vs ws → vs.length = ws.length
  | _, _, .nil => rfl
  | _, _, .cons _ a => congrArg (· + 1) a.len
theorem IsWs.at {C : Addr} {H : Hp} : ∀ {vs : List V} {ws : List Wv} {i : Nat} {x : V}, IsWs C H vs ws → vs[i]? = some x → ∃ w, ws[i]? = some w ∧ IsW C H x w
  | _, _, 0, _, .cons h _, e => ⟨_, rfl, by cases Option.some.inj e; exact h⟩
  | _, _, i + 1, _, .cons _ a, e => IsWs.at (i := i) a e
theorem IsWs.app {C : Addr} {H : Hp} : ∀ {vs : List V} {ws : List Wv} {us : List V} {zs : List Wv}, IsWs C H vs ws → IsWs C H us zs → IsWs C H (vs ++ us) (ws ++ zs)
  | _, _, _, _, .nil, b => b
  | _, _, _, _, .cons h a, b => .cons h (a.app b)
/-- the numbers of a set from least on -/
def ascF (least : Int) (n : Int) : List Wv → Bool
  | [] => true
  | .int g :: ws => decide (least ≤ g) && decide (g ≤ n - 1) && ascF (g + 1) n ws
  | _ :: _ => false
def ascW (n : Int) : Wv → Bool
  | .lst ws => ascF 0 n ws
  | .tup ws => ascF 0 n ws
  | _ => false
/-- the numbers that it tells -/
def numW : Wv → Nat
  | .int g => g.toNat
  | _ => 0
def numsW : Wv → List Nat
  | .lst ws => ws.map numW
  | .tup ws => ws.map numW
  | _ => []
theorem ascF_at : ∀ {ws : List Wv} {least n : Int}, 0 ≤ least → ascF least n ws = true → ws = (ws.map numW).map (fun g : Nat => Wv.int g) ∧ asc (ws.map numW) = true ∧ ∀ g ∈ ws.map numW, least ≤ (g : Int) ∧ (g : Int) < n
  | [], _, _, _, _ => ⟨rfl, rfl, fun g h => by cases h⟩
  | .int g :: ws, least, n, h0, h => by
    unfold ascF at h
    simp only [Bool.and_eq_true, decide_eq_true_eq] at h
    obtain ⟨⟨h1, h2⟩, h3⟩ := h
    obtain ⟨r1, r2, r3⟩ := ascF_at (by omega) h3
    have e : ((numW (.int g) : Nat) : Int) = g := by show ((g.toNat : Nat) : Int) = g; omega
    refine ⟨?_, ?_, fun x hx => ?_⟩
    · rw [List.map_cons, List.map_cons, e, ← r1]
    · rw [List.map_cons]
      show (List.all _ _ && _) = true
      rw [r2, Bool.and_true, List.all_eq_true]
      intro x hx
      have := r3 x hx
      exact decide_eq_true (by omega)
    · rw [List.map_cons] at hx
      rcases List.mem_cons.mp hx with rfl | hx
      · omega
      · have := r3 x hx
        omega
  | .non :: _, _, _, _, h => by cases h
  | .bl _ :: _, _, _, _, h => by cases h
  | .str _ :: _, _, _, _, h => by cases h
  | .fr _ _ :: _, _, _, _, h => by cases h
  | .lst _ :: _, _, _, _, h => by cases h
  | .tup _ :: _, _, _, _, h => by cases h
theorem ascF_of : ∀ {s : List Nat} {least n : Int}, asc s = true → (∀ g ∈ s, least ≤ (g : Int) ∧ (g : Int) < n) → ascF least n (s.map fun g : Nat => Wv.int g) = true
  | [], _, _, _, _ => rfl
  | x :: s, least, n, h, b => by
    obtain ⟨h1, h2⟩ := Bool.and_eq_true_iff.mp h
    have bx := b x List.mem_cons_self
    rw [List.map_cons]
    unfold ascF
    rw [decide_eq_true bx.1, decide_eq_true (show (x : Int) ≤ n - 1 by omega), ascF_of h2 fun g hg => ⟨by have := of_decide_eq_true (List.all_eq_true.mp h1 g hg); omega, (b g (List.mem_cons_of_mem _ hg)).2⟩]
    rfl
theorem IsWs.ints {C : Addr} {H : Hp} : ∀ {vs : List V} {s : List Nat}, IsWs C H vs (s.map fun g : Nat => Wv.int g) → vs = iv s
  | _, [], .nil => rfl
  | _, x :: s, .cons h a => by
    cases h with
    | int i => rw [a.ints]; rfl
theorem ints_w {C : Addr} {H : Hp} : ∀ s : List Nat, IsWs C H (iv s) (s.map fun g : Nat => Wv.int g)
  | [] => .nil
  | x :: s => .cons (.int _) (ints_w s)
theorem six : ∀ b0 b1 b2 b3 b4 b5 : Bool, ∃ m, m < 64 ∧ bit m 0 = b0 ∧ bit m 1 = b1 ∧ bit m 2 = b2 ∧ bit m 3 = b3 ∧ bit m 4 = b4 ∧ bit m 5 = b5 := fun b0 b1 b2 b3 b4 b5 =>
  ⟨cond b0 1 0 + cond b1 2 0 + cond b2 4 0 + cond b3 8 0 + cond b4 16 0 + cond b5 32 0, by cases b0 <;> cases b1 <;> cases b2 <;> cases b3 <;> cases b4 <;> cases b5 <;> decide +kernel⟩
theorem asc_pw0 : ∀ {s : List Nat}, asc s = true → s.Pairwise (· < ·)
  | [], _ => .nil
  | x :: s, h => by
    obtain ⟨a, b⟩ := Bool.and_eq_true_iff.mp h
    exact .cons (fun y hy => of_decide_eq_true (List.all_eq_true.mp a y hy)) (asc_pw0 b)
theorem asc_ext0 {s t : List Nat} (hs : s.Pairwise (· < ·)) (ht : t.Pairwise (· < ·)) (h : ∀ g, g ∈ s ↔ g ∈ t) : s = t :=
  List.Perm.eq_of_pairwise (le := fun x y => x < y) (fun a b _ _ x y => absurd x (Nat.lt_asymm y)) hs ht ((List.perm_ext_iff_of_nodup (hs.imp Nat.ne_of_lt) (ht.imp Nat.ne_of_lt)).mpr h)
theorem low_all : ((List.range 7).all fun n => (List.range 64).all fun m => !((bits m).all fun g => decide (g < n)) || (allS n).contains (bits m)) = true := by decide +kernel
/-- an ascending row of things below n is one of the sets -/
theorem asc_in {n : Nat} {s : List Nat} (n6 : n ≤ 6) (h : asc s = true) (b : ∀ g ∈ s, g < n) : s ∈ allS n := by
  obtain ⟨m, ml, m0, m1, m2, m3, m4, m5⟩ := six (s.contains 0) (s.contains 1) (s.contains 2) (s.contains 3) (s.contains 4) (s.contains 5)
  have all : ∀ g, g < 6 → bit m g = s.contains g := fun g hg => by
    match g, hg with
    | 0, _ => exact m0
    | 1, _ => exact m1
    | 2, _ => exact m2
    | 3, _ => exact m3
    | 4, _ => exact m4
    | 5, _ => exact m5
  have e : s = bits m := asc_ext0 (asc_pw0 h) (List.Pairwise.filter _ List.pairwise_lt_range) fun g => by
    unfold bits
    rw [List.mem_filter, List.mem_range]
    constructor
    · intro hg
      have := b g hg
      exact ⟨by omega, by rw [all g (by omega)]; exact List.contains_iff_mem.mpr hg⟩
    · rintro ⟨h1, h2⟩
      rw [all g h1] at h2
      exact List.contains_iff_mem.mp h2
  have z := List.all_eq_true.mp (List.all_eq_true.mp low_all n (List.mem_range.mpr (by omega))) m (List.mem_range.mpr ml)
  rw [← e, List.all_eq_true.mpr (fun g hg => decide_eq_true (b g hg)), Bool.not_true, Bool.false_or] at z
  exact List.contains_iff_mem.mp z
section
variable {P : Program} {w : World} {K : PySem.W.Frag} {mg : Str → Option Value} {base : Heap} {a : Ad}
/-! ### is_whole, is_within, is_ascending -/
def spWhole (C : Addr) : Sp := fun vs H Q _ => ∃ (v : V) (g : Kd), vs = [v] ∧ Kn C H v g ∧ Q (.bl (decide (g = .int))) H
theorem sc_is_whole : FnScope ["value"] ["value"] (defScope s_is_whole) := ⟨rfl, rfl, rfl, by decide +kernel, rfl, by decide +kernel, by decide +kernel⟩
theorem ok_is_whole (T : Txt K mg a) : FnOk P w K mg base CX0 1 a.a_is_whole a.d_is_whole ["value"] (spWhole a.C_Frac) := by
  refine T.fn_is_whole.ok sc_is_whole (fun vs H Q E h => ?_) (fun cdv A outer s H vs Q E hr h => ?_)
  · obtain ⟨v, g, rfl, _⟩ := h
    rfl
  · obtain ⟨v, g, rfl, t, k⟩ := h
    refine ⟨_, (pss_one (ps_ret (pe_and (pe_callB (call_isK T .int) (by rfl) T.no_isinstance (by decide +kernel) (pa_cons (pv 0) (pa_cons (pe_bltn (v := .ty "int") (u := .type "int") (by rfl) T.no_int (by decide +kernel) rfl) pa_nil))) (pe_one (pe_not (pe_callB (call_isK T .bl) (by rfl) T.no_isinstance (by decide +kernel) (pa_cons (pv 0) (pa_cons (pe_bltn (v := .ty "bool") (u := .type "bool") (by rfl) T.no_bool (by decide +kernel) rfl) pa_nil)))))))), ?_⟩
    show (_ : TS) _ [some v] H
    walk_at "rd"
    refine ⟨v, g, rfl, t, fun _ => by decide, ?_⟩
    refine ⟨_, rfl, ?_⟩
    cases g with
    | int => exact ite2 (fun _ => ⟨v, _, rfl, t, (fun z => nomatch z), _, rfl, k⟩) (fun h => absurd rfl h)
    | bl => exact ite2 (fun _ => ⟨v, _, rfl, t, (fun z => nomatch z), _, rfl, k⟩) (fun h => absurd rfl h)
    | _ => exact ite2 (fun (h : false = true) => nomatch h) (fun _ => k)
def inW (lo hi : Int) : Wv → Bool
  | .int i => decide (lo ≤ i) && decide (i ≤ hi)
  | _ => false
def spWithin (C : Addr) : Sp := fun vs H Q _ => ∃ (v : V) (w : Wv) (lo hi : Int), vs = [v, .int lo, .int hi] ∧ IsW C H v w ∧ Q (.bl (inW lo hi w)) H
theorem sc_is_within : FnScope ["value", "least", "most"] ["value", "least", "most"] (defScope s_is_within) := ⟨rfl, rfl, rfl, by decide +kernel, rfl, by decide +kernel, by decide +kernel⟩
theorem ok_is_within (T : Txt K mg a) : FnOk P w K mg base CX0 2 a.a_is_within a.d_is_within ["value", "least", "most"] (spWithin a.C_Frac) := by
  refine T.fn_is_within.ok sc_is_within (fun vs H Q E h => ?_) (fun cdv A outer s H vs Q E hr h => ?_)
  · obtain ⟨v, w, lo, hi, rfl, _⟩ := h
    rfl
  · obtain ⟨v, w', lo, hi, rfl, t, k⟩ := h
    refine ⟨_, (pss_one (ps_ret (pe_and (pe_call (ok_is_whole T) (hr.mono (by decide)) (by rfl) T.mg_is_whole T.fn_is_whole.kp T.b_is_whole .nil pass0 (pa_cons (pv 0) pa_nil)) (pe_one (pe_chain op_le op_le (pv 1) (pv 0) (pv 2)))))), ?_⟩
    show (_ : TS) _ [some v, some (V.int lo), some (V.int hi)] H
    walk_at "rd"
    refine ⟨v, kd w', rfl, t.kn, _, rfl, ?_⟩
    cases t with
    | int i =>
      refine ite2 (fun _ => ⟨i, rfl, ?_⟩) (fun h => absurd rfl h)
      have k : Q (.bl (decide (lo ≤ i) && decide (i ≤ hi))) H := k
      refine ite2 (fun h => ⟨i, rfl, ?_⟩) (fun h => ?_)
      · rw [decide_eq_true h] at k
        exact k
      · rw [decide_eq_false h] at k
        exact k
    | _ => exact ite2 (fun (h : false = true) => nomatch h) (fun _ => k)
def spAsc (C : Addr) : Sp := fun vs H Q _ => ∃ (v : V) (w : Wv) (n : Int), vs = [v, .int n] ∧ IsW C H v w ∧ ∀ H', Same H H' → Q (.bl (ascW n w)) H'
theorem sc_is_ascending : FnScope ["value", "size", "least", "number"] ["value", "size"] (defScope s_is_ascending) := ⟨rfl, rfl, rfl, by decide +kernel, rfl, by decide +kernel, by decide +kernel⟩
theorem ok_is_ascending (T : Txt K mg a) : FnOk P w K mg base CX0 3 a.a_is_ascending a.d_is_ascending ["value", "size"] (spAsc a.C_Frac) := by
  refine T.fn_is_ascending.ok sc_is_ascending (fun vs H Q E h => ?_) (fun cdv A outer s H vs Q E hr h => ?_)
  · obtain ⟨v, w, n, rfl, _⟩ := h
    rfl
  · obtain ⟨v, w', n, rfl, t, k⟩ := h
    refine ⟨_, (pss_cons (ps_if (pt_not (pt_val (pe_callB (call_isKS T) (by rfl) T.no_isinstance (by decide +kernel) (pa_cons (pv 0) (pa_cons (pe_tup (pa_cons (pe_bltn (v := .ty "list") (u := .type "list") (by rfl) T.no_list (by decide +kernel) rfl) (pa_cons (pe_bltn (v := .ty "tuple") (u := .type "tuple") (by rfl) T.no_tuple (by decide +kernel) rfl) pa_nil))) pa_nil))))) (pss_one (ps_ret pe_bl)) pss_nil)
      (pss_cons (ps_set (i := 2) sc_is_ascending.nd rfl (Or.inl rfl) pe_int)
      (pss_cons (ps_for PassesOwn.never rfl (pi_seq (pv 0)) (pg_name (i := 3) sc_is_ascending.nd rfl (Or.inl rfl))
        (pss_cons (ps_if (pt_not (pt_val (pe_call (ok_is_within T) (hr.mono (by decide)) (by rfl) T.mg_is_within T.fn_is_within.kp T.b_is_within .nil pass0 (pa_cons (pv 3) (pa_cons (pv 2) (pa_cons (pe_op op_sub (pv 1) pe_int) pa_nil)))))) (pss_one (ps_ret pe_bl)) pss_nil)
        (pss_one (ps_set (i := 2) sc_is_ascending.nd rfl (Or.inl rfl) (pe_op op_add (pv 3) pe_int)))))
      (pss_one (ps_ret pe_bl))))), ?_⟩
    show (_ : TS) _ [some v, some (V.int n), none, none] H
    walk_at "rd"
    refine ⟨by decide, fun c hc => ?_⟩
    have e1 := same_upd (o := .tup [V.ty "list", V.ty "tuple"]) hc
    have at1 := upd_same (H := H) (a := c) (o := .tup [V.ty "list", V.ty "tuple"])
    generalize upd H c (.tup [V.ty "list", V.ty "tuple"]) = H1 at e1 at1 ⊢
    have t1 := t.same e1
    refine ⟨v, kd w', c, rfl, at1, t1.kn, ?_⟩
    refine ⟨_, rfl, ?_⟩
    have seq : ∀ (l : Bool) (p : Addr) (vs : List V) (ws : List Wv), v = .ref p → H1 p = some (sq l vs) → IsWs a.C_Frac H1 vs ws → ascW n w' = ascF 0 n ws → ∃ a_1, v = V.ref a_1 ∧ ∃ x x_1, H1 a_1 = some (sq x x_1) ∧ Rd.Loop (if x = true then Itl K a_1 else Itt K a_1) (gName 3)
        (tSeq (tIfS (tNot (tB (tCall (spWithin a.C_Frac) [] E0 (tCons (tVar 3) (tCons (tVar 2) (tCons (tOp (rI0 fun i j => V.int (i - j)) (tVar 1) (tC (V.int 1))) tNil)))))) (tRet (tC (V.bl false))) tNext) (tAsg (tOp (rI0 fun i j => V.int (i + j)) (tVar 3) (tC (V.int 1))) (gName 2)))
        { nx := tRet (tC (V.bl true)) { nx := fun x H' => Q V.non H', rt := Q }, rt := Q } [some v, some (V.int n), some (V.int 0), none] H1 := fun l p vs ws ev hp iw ea => by
      subst ev
      refine ⟨p, rfl, l, vs, hp, loop_goes goes_seq (fun σ H' => Same H H' ∧ Same H1 H' ∧ ∃ o2 o3, σ = [some (V.ref p), some (V.int n), o2, o3] ∧ ascW n w' = true)
        (fun i σ H' => Same H H' ∧ Same H1 H' ∧ ∃ (z : Int) (o3 : Option V), σ = [some (V.ref p), some (V.int n), some (V.int z), o3] ∧ 0 ≤ z ∧ ascW n w' = ascF z n (ws.drop i)) ⟨e1, fun _ _ h => h, 0, none, rfl, by decide, ea⟩ (fun i σ H' _ ⟨_, e, _⟩ => e _ _ hp) ?_ (fun σ H' ⟨q1, q2, z, o3, q3, _, q4⟩ => ⟨q1, q2, _, _, q3, by
          rw [iw.len, List.drop_length] at q4
          exact q4⟩) ?_⟩
      · rintro bk hbk i x σ H2 H2' hi ⟨e2, e12, z, o3, rfl, z0, aw⟩ ⟨rfl, hx⟩
        obtain ⟨u, hu, hiu⟩ := (iw.same e12).at hx
        have hd : ws.drop i = u :: ws.drop (i + 1) := by
          rw [List.drop_eq_getElem_cons (List.getElem?_eq_some_iff.mp hu).1, (List.getElem?_eq_some_iff.mp hu).2]
        rw [hd] at aw
        walk_at "rd"
        refine ⟨x, u, z, n - 1, rfl, hiu, _, rfl, ?_⟩
        have no : inW z (n - 1) u = false → ascW n w' = false := fun h => by
          rw [aw]
          cases u with
          | int g =>
            show (decide (z ≤ g) && decide (g ≤ n - 1) && _) = false
            have h : (decide (z ≤ g) && decide (g ≤ n - 1)) = false := h
            rw [h]
            rfl
          | _ => rfl
        refine ite2 (fun h => ?_) (fun h => ?_)
        · have k := k _ e2
          rw [no (by simpa using h)] at k
          exact k
        · have h : inW z (n - 1) u = true := by simpa using h
          cases hiu with
          | int g =>
            have h : (decide (z ≤ g) && decide (g ≤ n - 1)) = true := h
            have aw : ascW n w' = (decide (z ≤ g) && decide (g ≤ n - 1) && ascF (g + 1) n (ws.drop (i + 1))) := aw
            rw [h, Bool.true_and] at aw
            have h := of_decide_eq_true (Bool.and_eq_true_iff.mp h).1
            exact ⟨g, rfl, e2, e12, by omega, aw⟩
          | _ => cases h
      · rintro σ H2 ⟨e2, _, o2, o3, rfl, aw⟩
        have k := k _ e2
        rw [aw] at k
        exact k
    cases t1 with
    | lst h iw => exact ite2 (fun (h : false = true) => nomatch h) (fun _ => seq true _ _ _ rfl h iw rfl)
    | tup h iw => exact ite2 (fun (h : false = true) => nomatch h) (fun _ => seq false _ _ _ rfl h iw rfl)
    | _ => exact ite2 (fun _ => k _ e1) (fun h => absurd rfl h)
end

end K19
namespace K19
open PySem PySem.Spec PyProof.Rows L2 Own OwnSeq OwnSet OwnComb OwnSort OwnHot OwnExN OwnProj
local macro_rules | `(tactic| walk_at "rd") => `(tactic| simp only [tSeq, tAsg, tOp, tUn, tVar, gName, gSub, rIxL, rIxT, rSetL, tC, rI0, rI, rU, rEq, rNe, tCons, tNil, tCB, tLst, tTup, tIfS, tAnd, tOr, tNot, tAndV, tOrV, tNotV, tTest, tB, tIf, tRet, tDrop, tNext, tBreak, tCont, tCall, tCallS, L2.WE, tMakeS, rIsS, rIsB, tChain, gSeq, gRest, gCons, gNil, tFor_seq, tFor_enumS, tLc_seq, tLc_enumS, rAny, rAll, L2.tMeth, StX.tStar, rIn, tLstRg, tRg1, tRg2, rSetI, rSortedSet, rInDT, rInD, rNotInD, rEqD, rNeD, iComb, tFld, tMake, tMkO, sFld, tOst, tNever, tBits, clv, isB,
  Rd.tFor_rng1, Rd.tFor_rng2, Rd.tFor_list, Rd.tFor_tup, Rd.tLc_list, Rd.tLc_tup, Rd.tLc_rng1, Rd.LcTurn, tYes, wipe, Rd.rLenL, Rd.rLenT, Rd.rIntI, Rd.rIxH, rIxHT,  HO.tup.injEq, Rd.at0, Rd.at1, Rd.at2, Rd.at3, Rd.ixN40, Rd.ixN41, Rd.ixN42, Rd.ixN43, Rd.scal_ii, cxOf,
  List.length_cons, List.length_nil, List.length_map, List.map_cons, List.map_nil, upd_same, decide_eq_true_eq, decide_true, decide_false, if_true, if_false, Bool.false_eq_true, Bool.not_true, Bool.not_false, HO.lst.injEq, HO.ins.injEq, List.set_cons_zero, List.set_cons_succ, List.getElem?_cons_zero, List.getElem?_cons_succ, List.append_nil, List.nil_append, List.cons_append, Option.some.injEq, V.ref.injEq, V.int.injEq, V.bl.injEq, List.cons.injEq, exists_eq_left', exists_and_left, exists_eq_left, true_and, and_true, and_self, and_assoc, implies_true, reduceCtorEq, Nat.reduceAdd])

section
variable {P : Program} {w : World} {K : PySem.W.Frag} {mg : Str → Option Value} {base : Heap} {a : Ad}
theorem passN {X : Cx} : Passes (L2N.CX P w) X (fun _ _ _ => False) := fun _ _ _ _ _ _ _ ⟨_, _, _, _, _, _, _, _, _, _, _, _, h⟩ => h.elim
/-- a def that may raise -/
theorem okN {x qual : Str} {st : Stmt} {f : Addr} {fd : FuncData} {N ps : List Str} {k : Nat} {sp : Sp} (F : Fun K x qual st f fd) (S : FnScope N ps (defScope st)) (len : ∀ vs H Q E, sp vs H Q E → vs.length = ps.length)
    (hbody : ∀ (cdv : Value) (A : Around) (outer : List Env) (s : Shared) (H : Hp) (vs : List V) (Q : VK) (E : XK), Room k (A.deeper (envOfC qual (defScope st) s.heap.objs.size f cdv)) → sp vs H Q E →
      ∃ t, PSs (cxOf (L2N.CX P w) P w K mg base N qual (defScope st) f cdv A outer s H E) (defBody st) t ∧ t { nx := fun _ H' => Q .non H', rt := Q } (L2.start N vs) H) : FnOk P w K mg base (L2N.CX P w) (k + 1) f fd ps sp := by
  obtain ⟨oc, od, kV, doc, pm, an, cdv, ct, osl, rfl, lk, hcd⟩ := F.ex
  exact fn_of lk hcd S len fun A outer s H vs Q E hr hsp => hbody cdv A outer s H vs Q E hr hsp
/-! ### the errors -/
def spEx (C : Addr) (m : Str) : Sp := fun vs H Q _ => ∃ (p : Addr) (v : V), vs = [.ref p, v] ∧ H p = some (exo p C none) ∧ ∀ d, H d = none → d ≠ p → Q .non (upd (upd H d (exd d [(m, v)])) p (exo p C (some d)))
theorem ex_made {C x : Addr} {m : Str} {v : V} {H1 : Hp} {E : XK} (hx : H1 x = none) (k : ∀ d H', H1 d = none → H' d = some (.xd [(m, v)]) → Same H1 H' → E (.ref C) (some d) H') :
    spEx C m [.ref x, v] (upd H1 x (exo x C none)) (fun v' H2 => v' = .non ∧ ∃ d, H2 x = some (exo x C (some d)) ∧ ∃ fs, H2 d = some (exd d fs) ∧ H1 d = none ∧ E (.ref C) (some d) (upd (del H2 x) d (.xd fs))) (fun _ _ _ => False) := by
  refine ⟨x, v, rfl, upd_same, fun d hd hne => ?_⟩
  rw [upd_ne hne] at hd
  refine ⟨rfl, d, upd_same, _, (upd_ne hne).trans upd_same, hd, k d _ hd upd_same fun b o e => ?_⟩
  have nd : b ≠ d := ne_of_none e hd
  have nx : b ≠ x := ne_of_none e hx
  rw [upd_ne nd, del_ne nx, upd_ne nx, upd_ne nd, upd_ne nx]
  exact e
theorem sc_WrongSize_init : FnScope ["self", "many"] ["self", "many"] (defScope s_WrongSize_init) := ⟨rfl, rfl, rfl, by decide +kernel, rfl, by decide +kernel, by decide +kernel⟩
theorem ok_WrongSize_init (T : Txt K mg a) : FnOk P w K mg base CX0 1 a.a_WrongSize_init a.d_WrongSize_init ["self", "many"] (spEx a.C_WrongSize "many") := by
  refine T.fn_WrongSize_init.ok sc_WrongSize_init (fun vs H Q E h => ?_) (fun cdv A outer s H vs Q E hr h => ?_)
  · obtain ⟨p, v, rfl, _⟩ := h
    rfl
  · obtain ⟨p, v, rfl, hp, k⟩ := h
    refine ⟨_, (pss_one (ps_ost (pv 0) (pv 1))), ?_⟩
    refine ⟨_, rfl, _, rfl, p, _, rfl, T.ex_WrongSize, T.na_WrongSize_many, .inl ⟨hp, fun dx hd hne => k dx hd hne⟩⟩
theorem sc_InvalidFamily_init : FnScope ["self", "at"] ["self", "at"] (defScope s_InvalidFamily_init) := ⟨rfl, rfl, rfl, by decide +kernel, rfl, by decide +kernel, by decide +kernel⟩
theorem ok_InvalidFamily_init (T : Txt K mg a) : FnOk P w K mg base CX0 1 a.a_InvalidFamily_init a.d_InvalidFamily_init ["self", "at"] (spEx a.C_InvalidFamily "at") := by
  refine T.fn_InvalidFamily_init.ok sc_InvalidFamily_init (fun vs H Q E h => ?_) (fun cdv A outer s H vs Q E hr h => ?_)
  · obtain ⟨p, v, rfl, _⟩ := h
    rfl
  · obtain ⟨p, v, rfl, hp, k⟩ := h
    refine ⟨_, (pss_one (ps_ost (pv 0) (pv 1))), ?_⟩
    refine ⟨_, rfl, _, rfl, p, _, rfl, T.ex_InvalidFamily, T.na_InvalidFamily_at, .inl ⟨hp, fun dx hd hne => k dx hd hne⟩⟩
theorem sc_NotClosed_init : FnScope ["self", "missing"] ["self", "missing"] (defScope s_NotClosed_init) := ⟨rfl, rfl, rfl, by decide +kernel, rfl, by decide +kernel, by decide +kernel⟩
theorem ok_NotClosed_init (T : Txt K mg a) : FnOk P w K mg base CX0 1 a.a_NotClosed_init a.d_NotClosed_init ["self", "missing"] (spEx a.C_NotClosed "missing") := by
  refine T.fn_NotClosed_init.ok sc_NotClosed_init (fun vs H Q E h => ?_) (fun cdv A outer s H vs Q E hr h => ?_)
  · obtain ⟨p, v, rfl, _⟩ := h
    rfl
  · obtain ⟨p, v, rfl, hp, k⟩ := h
    refine ⟨_, (pss_one (ps_ost (pv 0) (pv 1))), ?_⟩
    refine ⟨_, rfl, _, rfl, p, _, rfl, T.ex_NotClosed, T.na_NotClosed_missing, .inl ⟨hp, fun dx hd hne => k dx hd hne⟩⟩
/-! ### clean_sets -/
def spClean (C WC IC : Addr) : Sp := fun vs H Q E => ∃ (vz : V) (wz : Wv) (p : Addr) (l : Bool) (xs : List V) (ws : List Wv), vs = [vz, .ref p] ∧ IsW C H vz wz ∧ H p = some (sq l xs) ∧ IsWs C H xs ws ∧ ws.length ≤ 200 ∧
  (∀ n : Nat, wz = .int n → 1 ≤ n → n ≤ 6 → (∀ w ∈ ws, ascW n w = true) → ∀ q ys H', H q = none → Same H H' → H' q = some (.lst ys) → Tups H' ys (ws.map numsW) → Q (.ref q) H') ∧
  (inW 1 6 wz = false → ∀ d H', H d = none → H' d = some (.xd [("many", vz)]) → Same H H' → E (.ref WC) (some d) H') ∧
  (∀ (n : Nat) (i : Nat) (w : Wv), wz = .int n → 1 ≤ n → n ≤ 6 → ws[i]? = some w → ascW n w = false → (∀ u ∈ ws.take i, ascW n u = true) → ∀ d H', H d = none → H' d = some (.xd [("at", .int (i : Nat))]) → Same H H' → E (.ref IC) (some d) H')
theorem sc_clean_sets : FnScope ["size", "sets", "cleaned", "at", "things"] ["size", "sets"] (defScope s_clean_sets) := ⟨rfl, rfl, rfl, by decide +kernel, rfl, by decide +kernel, by decide +kernel⟩
theorem ok_clean_sets0 (T : Txt K mg a) : FnOk P w K mg base (L2N.CX P w) 4 a.a_clean_sets a.d_clean_sets ["size", "sets"] (spClean a.C_Frac a.C_WrongSize a.C_InvalidFamily) := by
  refine okN T.fn_clean_sets sc_clean_sets (fun vs H Q E h => ?_) (fun cdv A outer s H vs Q E hr h => ?_)
  · obtain ⟨vz, wz, p, l, xs, ws, rfl, _⟩ := h
    rfl
  · obtain ⟨vz, wz, p, l, xs, ws, rfl, hz, hp, hx, l64, k1, k2, k3⟩ := h
    obtain ⟨t1, mg_MOST_THINGS⟩ := T.mg_MOST_THINGS
    refine ⟨_, (pss_cons (ps_if (pt_not (pt_val (pe_call (ok_is_within T) (hr.mono (by decide)) (by rfl) T.mg_is_within T.fn_is_within.kp T.b_is_within .nil pass0 (pa_cons (pv 0) (pa_cons pe_int (pa_cons (pe_glob (v := .int 6) rfl mg_MOST_THINGS ⟨_, rfl⟩) pa_nil)))))) (pss_one (L2N.ps_raise rfl (L2N.takes_of rfl rfl rfl rfl) (pmk_oexN T.ex_WrongSize T.xi_WrongSize T.ti_WrongSize (ok_WrongSize_init T) (hr.mono (by decide)) T.b_WrongSize_init pass0 (by rfl) T.mg_WrongSize (pa_cons (pv 0) pa_nil)))) pss_nil)
      (pss_cons (ps_set (i := 2) sc_clean_sets.nd rfl (Or.inl rfl) (pe_lst pa_nil))
      (pss_cons (ps_for (passes_of rfl) rfl (pi_enumS (by rfl) T.no_enumerate (pa_cons (pv 1) pa_nil)) (pg_seq (n := 2) rfl (pgs_cons (pg_name (i := 3) sc_clean_sets.nd rfl (Or.inl rfl)) (pgs_cons (pg_name (i := 4) sc_clean_sets.nd rfl (Or.inl rfl)) pgs_nil)))
        (pss_cons (ps_if (pt_not (pt_val (pe_call (ok_is_ascending T) (hr.mono (by decide)) (by rfl) T.mg_is_ascending T.fn_is_ascending.kp T.b_is_ascending .nil pass0 (pa_cons (pv 4) (pa_cons (pv 0) pa_nil))))) (pss_one (L2N.ps_raise rfl (L2N.takes_of rfl rfl rfl rfl) (pmk_oexN T.ex_InvalidFamily T.xi_InvalidFamily T.ti_InvalidFamily (ok_InvalidFamily_init T) (hr.mono (by decide)) T.b_InvalidFamily_init pass0 (by rfl) T.mg_InvalidFamily (pa_cons (pv 3) pa_nil)))) pss_nil)
        (pss_one (ps_expr (pe_bm PySem.F.plainAttrs_list PySem.F.slot_list_append PySem.F.type_list_append mt_append (pv 2) (pa_cons (pe_callTy call_tuple_of (by rfl) T.no_tuple (by decide +kernel) (pa_cons (pv 4) pa_nil)) pa_nil))))))
      (pss_one (ps_ret (pv 2)))))), ?_⟩
    show (_ : TS) _ [some vz, some (V.ref p), none, none, none] H
    walk_at "rd"
    refine ⟨vz, wz, 1, 6, rfl, hz, _, rfl, ?_⟩
    refine ite2 (fun h => ?_) (fun h => ?_)
    · have h : inW 1 6 wz = false := by simpa using h
      exact ⟨by decide, fun x hx => ex_made hx fun d H' hd ed e => k2 h d H' hd ed e⟩
    obtain ⟨n, rfl, n1, n6⟩ : ∃ n : Nat, wz = .int n ∧ 1 ≤ n ∧ n ≤ 6 := by
      have h : inW 1 6 wz = true := by simpa using h
      cases wz with
      | int g =>
        have h : (decide (1 ≤ g) && decide (g ≤ 6)) = true := h
        rw [Bool.and_eq_true, decide_eq_true_eq, decide_eq_true_eq] at h
        exact ⟨g.toNat, by rw [show ((g.toNat : Nat) : Int) = g by omega], by omega, by omega⟩
      | _ => cases h
    obtain rfl : vz = .int n := by cases hz; rfl
    refine ⟨by decide, fun c hc => ?_⟩
    have e1 := same_upd (o := .lst []) hc
    have at1 := upd_same (H := H) (a := c) (o := .lst [])
    generalize upd H c (.lst []) = H1 at e1 at1 ⊢
    have len := hx.len
    refine ⟨l, xs, e1 _ _ hp, loop_goes goes_enum (fun σ H' => ∃ o3 o4 acc, σ = [some (V.int n), some (V.ref p), some (V.ref c), o3, o4] ∧ Same H H' ∧ H' c = some (.lst acc) ∧ Tups H' acc (ws.map numsW) ∧ ∀ w ∈ ws, ascW n w = true)
      (fun i σ H' => ∃ o3 o4 acc, σ = [some (V.int n), some (V.ref p), some (V.ref c), o3, o4] ∧ Same H H' ∧ H' c = some (.lst acc) ∧ Tups H' acc ((ws.take i).map numsW) ∧ ∀ w ∈ ws.take i, ascW n w = true) ⟨none, none, [], rfl, e1, at1, trivial, fun w h => by cases h⟩ (fun i σ H' _ ⟨_, _, _, _, e, _⟩ => e _ _ hp) ?_
      (fun σ H' ⟨o3, o4, acc, q1, q2, q3, q4, q5⟩ => ⟨o3, o4, acc, q1, q2, q3, by rw [len, List.take_length] at q4; exact q4, by rw [len, List.take_length] at q5; exact q5⟩) ?_⟩
    · rintro bk hbk i y σ H3 H3' hi ⟨o3, o4, acc, rfl, e3, a3, c3, ok3⟩ ⟨t, z, rfl, ht, rfl, hz'⟩
      obtain ⟨w', hw, hiw⟩ := (hx.same e3).at hz'
      have te := same_upd (o := .tup [.int (i : Nat), z]) ht
      have e4 := e3.trans te
      walk_at "rd"
      refine ⟨false, _, rfl, rfl, ?_⟩
      refine ⟨_, _, rfl, _, _, rfl, rfl, z, w', n, rfl, hiw.same te, fun H5 e5 => ⟨_, rfl, ite2 (fun h => ?_) (fun h => ?_)⟩⟩
      · have h : ascW n w' = false := by simpa using h
        have e15 := e4.trans e5
        exact ⟨by decide, fun x hx => ex_made hx fun d H' hd ed e => k3 n i w' rfl n1 n6 hw h ok3 d H' (e15.free hd) ed (e15.trans e)⟩
      have h : ascW n w' = true := by simpa using h
      obtain ⟨q, l2, rfl, hq⟩ : ∃ q l2, z = .ref q ∧ H5 q = some (sq l2 (iv (numsW w'))) := by
        have hiw5 := (hiw.same te).same e5
        cases hiw5 with
        | lst h1 h2 =>
          have h : ascF 0 n _ = true := h
          have r := (ascF_at (by decide) h).1
          rw [r] at h2
          exact ⟨_, true, rfl, by rw [h1, h2.ints]; rfl⟩
        | tup h1 h2 =>
          have h : ascF 0 n _ = true := h
          have r := (ascF_at (by decide) h).1
          rw [r] at h2
          exact ⟨_, false, rfl, by rw [h1, h2.ints]; rfl⟩
        | _ => cases h
      simp only [tBM, rAppend]
      walk_at "rd"
      have a5 := e5 _ _ (te _ _ a3)
      have cl := c3.len
      have wl := (List.getElem?_eq_some_iff.mp hw).1
      rw [List.length_map, List.length_take] at cl
      have oks : ∀ w ∈ ws.take (i + 1), ascW n w = true := fun w hm => by
        rw [List.take_add_one, hw] at hm
        rcases List.mem_append.mp hm with hm | hm
        · exact ok3 w hm
        · rw [List.mem_singleton.mp hm]
          exact h
      have fin : ∀ r H6, Same H5 H6 → H6 r = some (.tup (iv (numsW w'))) → ∃ x, H6 c = some (.lst x) ∧ x.length < sizeLine ∧ Same H (upd H6 c (.lst (x ++ [.ref r]))) ∧ Tups (upd H6 c (.lst (x ++ [.ref r]))) (x ++ [.ref r]) ((ws.take (i + 1)).map numsW) ∧ ∀ w ∈ ws.take (i + 1), ascW n w = true := fun r H6 e6 hr => by
        have a6 := e6 _ _ a5
        have c6 := ((c3.same te).same e5).same e6
        refine ⟨acc, a6, small (by omega), fun b o hb => (upd_ne (ne_of_none hb hc)).trans (e6 _ _ (e5 _ _ (e4 _ _ hb))), ?_, oks⟩
        rw [List.take_add_one, hw, List.map_append]
        exact Tups.upd a6 (Tups.app c6 ⟨⟨r, rfl, hr⟩, trivial⟩)
      cases l2 with
      | true =>
        refine ⟨.inl ⟨rfl, _, SqL.of a5⟩, _, .inl ⟨SqL.of hq, fun r hr => ?_⟩⟩
        obtain ⟨x, h1, h2, h3, h4, h5⟩ := fin r _ (same_upd hr) upd_same
        exact ⟨x, h1, h2, h3, h4, h5⟩
      | false =>
        refine ⟨.inl ⟨rfl, _, SqL.of a5⟩, _, .inr ⟨SqT.of hq, ?_⟩⟩
        obtain ⟨x, h1, h2, h3, h4, h5⟩ := fin q _ (Same.refl _) hq
        exact ⟨x, h1, h2, h3, h4, h5⟩
    · rintro σ H3 ⟨o3, o4, acc, rfl, e3, a3, c3, ok3⟩
      walk_at "rd"
      exact k1 n rfl n1 n6 ok3 c acc H3 hc e3 a3 c3
/-- .. of what is right -/
def spCleanS : Sp := fun vs H Q _ => ∃ (p : Addr) (n : Nat) (xs : List V) (ss : List (List Nat)), vs = [.int n, .ref p] ∧ H p = some (.lst xs) ∧ Seqs H xs ss ∧ 1 ≤ n ∧ n ≤ 6 ∧ ss.length ≤ 64 ∧ (∀ s ∈ ss, s ∈ allS n) ∧
  ∀ q ys H', H q = none → Same H H' → H' q = some (.lst ys) → Tups H' ys ss → Q (.ref q) H'
/-- the row as a value -/
def wOf (l : Bool) (s : List Nat) : Wv := if l = true then .lst (s.map fun g : Nat => Wv.int g) else .tup (s.map fun g : Nat => Wv.int g)
theorem nums_of (s : List Nat) : (s.map fun g : Nat => Wv.int g).map numW = s := by
  rw [List.map_map]
  exact (List.map_congr_left fun g _ => Int.toNat_natCast g).trans (List.map_id s)
theorem seqs_w {C : Addr} {H : Hp} : ∀ {xs : List V} {ss : List (List Nat)}, Seqs H xs ss → ∃ ws, IsWs C H xs ws ∧ ws.map numsW = ss ∧ ∀ w ∈ ws, ∃ s ∈ ss, ∃ l, w = wOf l s
  | [], [], _ => ⟨[], .nil, rfl, fun w h => by cases h⟩
  | v :: xs, s :: ss, ⟨⟨q, l, e, h⟩, r⟩ => by
    obtain ⟨ws, h1, h2, h3⟩ := seqs_w (C := C) r
    refine ⟨wOf l s :: ws, .cons ?_ h1, ?_, fun w hw => ?_⟩
    · subst e
      cases l with
      | true => exact .lst h (ints_w s)
      | false => exact .tup h (ints_w s)
    · rw [List.map_cons, h2]
      cases l with
      | true => exact congrArg (· :: ss) (nums_of s)
      | false => exact congrArg (· :: ss) (nums_of s)
    · rcases List.mem_cons.mp hw with rfl | hw
      · exact ⟨s, List.mem_cons_self, l, rfl⟩
      · obtain ⟨s', hs', l', e'⟩ := h3 w hw
        exact ⟨s', List.mem_cons_of_mem _ hs', l', e'⟩
  | [], _ :: _, h => h.elim
  | _ :: _, [], h => h.elim
theorem ok_clean_sets (T : Txt K mg a) : FnOk P w K mg base (L2N.CX P w) 4 a.a_clean_sets a.d_clean_sets ["size", "sets"] spCleanS :=
  (ok_clean_sets0 T).imp fun vs H Q E ⟨p, n, xs, ss, e, hp, sv, n1, n6, l64, ha, k⟩ => by
    obtain ⟨ws, h1, h2, h3⟩ := seqs_w (C := a.C_Frac) sv
    have all : ∀ w ∈ ws, ascW n w = true := fun w hw => by
      obtain ⟨s, hs, l, rfl⟩ := h3 w hw
      have sa := allS_at (ha s hs) n6
      have z : ascF 0 n (s.map fun g : Nat => Wv.int g) = true := ascF_of sa.2.2.2.2 fun g hg => ⟨by omega, by have := sa.2.2.1 g hg; omega⟩
      cases l <;> exact z
    refine ⟨.int n, .int n, p, true, xs, ws, e, .int _, hp, h1, by rw [← h2, List.length_map] at l64; omega, fun m em m1 m6 _ q ys H' hq es hy ty => k q ys H' hq es hy (h2 ▸ ty), fun z => ?_, fun m i w' em m1 m6 hw hf _ => ?_⟩
    · have z : (decide ((1 : Int) ≤ (n : Int)) && decide ((n : Int) ≤ 6)) = false := z
      rw [decide_eq_true (show (1 : Int) ≤ (n : Int) by omega), decide_eq_true (show (n : Int) ≤ 6 by omega)] at z
      cases z
    · injection em with em
      rw [← em, all w' (List.mem_of_getElem? hw)] at hf
      cases hf
end

end K19
namespace K19
open PySem PySem.Spec PyProof.Rows L2 Own OwnSeq OwnSet OwnComb OwnSort OwnHot OwnExN OwnProj
local macro_rules | `(tactic| walk_at "rd") => `(tactic| simp only [tSeq, tAsg, tOp, tUn, tVar, gName, gSub, rIxL, rIxT, rSetL, tC, rI0, rI, rU, rEq, rNe, tCons, tNil, tCB, tLst, tTup, tIfS, tAnd, tOr, tNot, tAndV, tOrV, tNotV, tTest, tB, tIf, tRet, tDrop, tNext, tBreak, tCont, tCall, tCallS, L2.WE, tMakeS, rIsS, rIsB, tChain, gSeq, gRest, gCons, gNil, tFor_seq, tFor_enumS, tLc_seq, tLc_enumS, rAny, rAll, L2.tMeth, StX.tStar, rIn, tLstRg, tRg1, tRg2, rSetI, rSortedSet, rInDT, rInD, rNotInD, rEqD, rNeD, iComb, tFld, tMake, tMkO, sFld, tOst, tNever, tBits, clv, isB,
  Rd.tFor_rng1, Rd.tFor_rng2, Rd.tFor_list, Rd.tFor_tup, Rd.tLc_list, Rd.tLc_tup, Rd.tLc_rng1, Rd.LcTurn, tYes, wipe, Rd.rLenL, Rd.rLenT, Rd.rIntI, Rd.rIxH, rIxHT,  HO.tup.injEq, Rd.at0, Rd.at1, Rd.at2, Rd.at3, Rd.ixN40, Rd.ixN41, Rd.ixN42, Rd.ixN43, Rd.scal_ii, cxOf,
  List.length_cons, List.length_nil, List.length_map, List.map_cons, List.map_nil, upd_same, decide_eq_true_eq, decide_true, decide_false, if_true, if_false, Bool.false_eq_true, Bool.not_true, Bool.not_false, HO.lst.injEq, HO.ins.injEq, List.set_cons_zero, List.set_cons_succ, List.getElem?_cons_zero, List.getElem?_cons_succ, List.append_nil, List.nil_append, List.cons_append, Option.some.injEq, V.ref.injEq, V.int.injEq, V.bl.injEq, List.cons.injEq, exists_eq_left', exists_and_left, exists_eq_left, true_and, and_true, and_self, and_assoc, implies_true, reduceCtorEq, Nat.reduceAdd])

theorem eqD_at {X : Cx} (K : PySem.W.Frag) (hu : X.A.units + 64 < cLine) (hK : X.K = K := by rfl) : OpR X (compareOp .Eq) (rEqD K) := by
  subst hK
  exact op_eqD hu
theorem u65 {k : Nat} {A : Around} (r : Room k A) : A.units + 65 < cLine := by have := r.un; omega
theorem inD_at {X : Cx} (K : PySem.W.Frag) (hu : X.A.units + 65 < cLine) (hK : X.K = K := by rfl) : OpR X (compareOp .In) (rInD K) := by
  subst hK
  exact op_inD hu
theorem inDT_at {X : Cx} (K : PySem.W.Frag) (hu : X.A.units + 65 < cLine) (hK : X.K = K := by rfl) : OpR X (compareOp .In) (rInDT K) := by
  subst hK
  exact op_inDT hu
/-! ### sets as data -/
def dS (s : List Nat) : PyData := .tuple (s.map fun g => .int (g : Nat))
theorem dp_ints {K : PySem.W.Frag} {H : Hp} : ∀ s : List Nat, DpAll K H (iv s) (s.map fun g => PyData.int (g : Nat))
  | [] => .nil
  | g :: s => .cons (.int _) (dp_ints s)
theorem dp_set {K : PySem.W.Frag} {H : Hp} {q : Addr} {s : List Nat} (h : H q = some (.tup (iv s))) : Dp K H (.ref q) (dS s) := .tup (SqT.of h) (dp_ints s)
theorem dp_sets {K : PySem.W.Frag} {H : Hp} : ∀ {vs : List V} {ss : List (List Nat)}, Tups H vs ss → DpAll K H vs (ss.map dS)
  | [], [], _ => .nil
  | _ :: _, _ :: _, ⟨⟨q, e, h⟩, r⟩ => e ▸ .cons (dp_set h) (dp_sets r)
  | [], _ :: _, h => h.elim
  | _ :: _, [], h => h.elim
theorem lay_ints : ∀ s : List Nat, PyData.canLayAll0 (s.map fun g => PyData.int (g : Nat)) = true ∧ PyData.depthAll (s.map fun g => PyData.int (g : Nat)) = 0
  | [] => ⟨by simp [PyData.canLayAll0], by simp [PyData.depthAll]⟩
  | g :: s => by
    obtain ⟨a, b⟩ := lay_ints s
    refine ⟨?_, ?_⟩
    · simp only [List.map_cons, PyData.canLayAll0, PyData.canLay0, a, Bool.and_self]
    · simp only [List.map_cons, PyData.depthAll, PyData.depth, b, Nat.max_self]
theorem lay_set (s : List Nat) : (dS s).canLay0 = true ∧ (dS s).depth = 1 := by
  obtain ⟨a, b⟩ := lay_ints s
  unfold dS
  exact ⟨by simp only [PyData.canLay0, a], by simp only [PyData.depth, b]⟩
theorem lay_sets : ∀ ss : List (List Nat), PyData.canLayAll0 (ss.map dS) = true ∧ PyData.depthAll (ss.map dS) ≤ 1
  | [] => ⟨by simp [PyData.canLayAll0], by simp [PyData.depthAll]⟩
  | s :: ss => by
    obtain ⟨a, b⟩ := lay_sets ss
    obtain ⟨c, d⟩ := lay_set s
    refine ⟨?_, ?_⟩
    · simp only [List.map_cons, PyData.canLayAll0, a, c, Bool.and_self]
    · simp only [List.map_cons, PyData.depthAll, d]
      omega
theorem sh_set (s : List Nat) : SeqAt.shaped (dS s) = true := by
  unfold SeqAt.shaped
  rw [(lay_set s).1, (lay_set s).2]
  decide
theorem sh_list (ss : List (List Nat)) : SeqAt.shaped (.list (ss.map dS)) = true := by
  have := (lay_sets ss).2
  unfold SeqAt.shaped
  rw [show (PyData.list (ss.map dS)).canLay0 = PyData.canLayAll0 (ss.map dS) by simp only [PyData.canLay0], (lay_sets ss).1]
  simp only [PyData.depth, Bool.true_and]
  exact decide_eq_true (by omega)
theorem sh_tup (ss : List (List Nat)) : SeqAt.shaped (.tuple (ss.map dS)) = true := by
  have := (lay_sets ss).2
  unfold SeqAt.shaped
  rw [show (PyData.tuple (ss.map dS)).canLay0 = PyData.canLayAll0 (ss.map dS) by simp only [PyData.canLay0], (lay_sets ss).1]
  simp only [PyData.depth, Bool.true_and]
  exact decide_eq_true (by omega)
theorem eqv_ints : ∀ s t : List Nat, PyData.eqvAll (s.map fun g => PyData.int (g : Nat)) (t.map fun g => PyData.int (g : Nat)) = decide (s = t)
  | [], [] => by simp [PyData.eqvAll]
  | [], _ :: _ => by simp [PyData.eqvAll]
  | _ :: _, [] => by simp [PyData.eqvAll]
  | x :: s, y :: t => by
    simp only [List.map_cons, PyData.eqvAll, PyData.eqv, eqv_ints s t]
    by_cases h : x = y
    · subst h
      by_cases h2 : s = t <;> simp [h2]
    · have : ¬ ((x : Int) = (y : Int)) := by omega
      simp [h, this]
theorem eqv_set (s t : List Nat) : PyData.eqv (dS s) (dS t) = decide (s = t) := by
  unfold dS
  simp only [PyData.eqv]
  exact eqv_ints s t
theorem any_sets (ss : List (List Nat)) (s : List Nat) : ((ss.map dS).any fun z => PyData.eqv z (dS s)) = ss.contains s := by
  rw [List.any_map]
  induction ss with
  | nil => rfl
  | cons t ss ih =>
    rw [List.any_cons, List.contains_cons, ih]
    congr 1
    show PyData.eqv (dS t) (dS s) = (s == t)
    rw [eqv_set, Bool.eq_iff_iff, decide_eq_true_eq, beq_iff_eq]
    exact eq_comm
theorem famL_mem {n : Nat} {S : List Bool} {s : List Nat} : s ∈ famL n S ↔ s ∈ allS n ∧ In S (mk s) = true := List.mem_filter
theorem subs_all : ((List.range 7).all fun n => (allS n).all fun s => (allS n).all fun t => !subL s t || decide (Sub (mk s) (mk t))) = true := by decide +kernel
theorem sub_mk {n : Nat} {s t : List Nat} (h : n ≤ 6) (hs : s ∈ allS n) (ht : t ∈ allS n) (z : subL s t = true) : Sub (mk s) (mk t) := by
  have y := List.all_eq_true.mp (List.all_eq_true.mp (List.all_eq_true.mp subs_all n (List.mem_range.mpr (by omega))) s hs) t ht
  rw [z] at y
  simpa using y
theorem nil_in {n : Nat} (h : n ≤ 6) : ([] : List Nat) ∈ allS n := by
  have z := (bits_in (n := n) (m := 0) h (Nat.pow_pos (by decide))).2
  rwa [show bits 0 = [] by decide] at z
section
variable {P : Program} {w : World} {K : PySem.W.Frag} {mg : Str → Option Value} {base : Heap} {a : Ad}
/-- a set that is missing -/
def missB (ss : List (List Nat)) (s : List Nat) : Bool := !ss.contains s && (decide (s = []) || ss.any (subL s))
/-! ### closed_sets -/
def spClosed (C WC IC NC : Addr) : Sp := fun vs H Q E => ∃ (vz : V) (wz : Wv) (p : Addr) (l : Bool) (xs : List V) (ws : List Wv), vs = [vz, .ref p] ∧ IsW C H vz wz ∧ H p = some (sq l xs) ∧ IsWs C H xs ws ∧ ws.length ≤ 200 ∧
  (∀ n : Nat, wz = .int n → 1 ≤ n → n ≤ 6 → (∀ w ∈ ws, ascW n w = true) → (∀ s ∈ allS n, missB (ws.map numsW) s = false) → ∀ q ys H', H q = none → Same H H' → H' q = some (.tup ys) → Tups H' ys ((allS n).filter fun s => (ws.map numsW).contains s) → Q (.ref q) H') ∧
  (inW 1 6 wz = false → ∀ d H', H d = none → H' d = some (.xd [("many", vz)]) → Same H H' → E (.ref WC) (some d) H') ∧
  (∀ (n : Nat) (i : Nat) (w : Wv), wz = .int n → 1 ≤ n → n ≤ 6 → ws[i]? = some w → ascW n w = false → (∀ u ∈ ws.take i, ascW n u = true) → ∀ d H', H d = none → H' d = some (.xd [("at", .int (i : Nat))]) → Same H H' → E (.ref IC) (some d) H') ∧
  (∀ (n : Nat) (i : Nat) (s : List Nat), wz = .int n → 1 ≤ n → n ≤ 6 → (∀ w ∈ ws, ascW n w = true) → (allS n)[i]? = some s → missB (ws.map numsW) s = true → (∀ t ∈ (allS n).take i, missB (ws.map numsW) t = false) → ∀ t d H', H d = none → H' d = some (.xd [("missing", .ref t)]) → H' t = some (.tup (iv s)) → Same H H' → E (.ref NC) (some d) H')
theorem sc_closed_sets : FnScope ["size", "sets", "given", "kept", "things", "other"] ["size", "sets"] (defScope s_closed_sets) := ⟨rfl, rfl, rfl, by decide +kernel, rfl, by decide +kernel, by decide +kernel⟩
theorem ok_closed_sets (T : Txt K mg a) : FnOk P w K mg base (L2N.CX P w) 5 a.a_closed_sets a.d_closed_sets ["size", "sets"] (spClosed a.C_Frac a.C_WrongSize a.C_InvalidFamily a.C_NotClosed) := by
  refine okN T.fn_closed_sets sc_closed_sets (fun vs H Q E h => ?_) (fun cdv A outer s H vs Q E hr h => ?_)
  · obtain ⟨vz, wz, p, l, xs, ws, rfl, _⟩ := h
    rfl
  · obtain ⟨vz, wz, p, l, xs, ws, rfl, hz, hp, hx, l64, k1, k2, k3, k4⟩ := h
    refine ⟨_, (pss_cons (ps_set (i := 2) sc_closed_sets.nd rfl (Or.inl rfl) (pe_callS (ok_clean_sets0 T) (hr.mono (by decide)) (by rfl) T.mg_clean_sets T.fn_clean_sets.kp T.b_clean_sets (fun σ => L2N.passAt (L2N.takes_of rfl rfl rfl rfl) σ) (pa_cons (pv 0) (pa_cons (pv 1) pa_nil))))
      (pss_cons (ps_set (i := 3) sc_closed_sets.nd rfl (Or.inl rfl) (pe_lst pa_nil))
      (pss_cons (ps_for (passes_of rfl) rfl (pi_list (pe_call (ok_all_sets T) (hr.mono (by decide)) (by rfl) T.mg_all_sets T.fn_all_sets.kp T.b_all_sets .nil pass0 (pa_cons (pv 0) pa_nil))) (pg_name (i := 4) sc_closed_sets.nd rfl (Or.inr rfl))
        (pss_one (ps_if (pt_cmpR (inD_at K (u65 hr)) (pv 4) (pv 2) (by with_unfolding_all rfl)) (pss_one (ps_expr (pe_bm PySem.F.plainAttrs_list PySem.F.slot_list_append PySem.F.type_list_append mt_append (pv 3) (pa_cons (pv 4) pa_nil)))) (pss_one (ps_if (PW.pt (pw_or (pt_cmpR (eqD_at K hr.units) (pv 4) (pe_tup pa_nil) (nomark _)) (pw_or1 (pt_val (pe_callB (cr_any rfl) (by rfl) T.no_any (by decide +kernel) (pa_cons (pe_lc (own := [("other", 5)]) (by rfl) sc_closed_sets.nd (pi_list (pv 2)) (blkOk_by (own := [("other", 5)]) (N := ["size", "sets", "given", "kept", "things", "other"]) (sc := defScope s_closed_sets) (by decide +kernel)) (fun _ _ _ _ _ => pg_name (i := 5) sc_closed_sets.nd rfl (Or.inl rfl)) (fun _ _ _ _ _ => pts_nil) (fun _ _ _ _ _ => (pe_call (ok_is_part T) (hr.mono (by decide)) (by rfl) T.mg_is_part T.fn_is_part.kp T.b_is_part .nil pass0 (pa_cons (pv 4) (pa_cons (pv 5) pa_nil))))) pa_nil)))))) (pss_one (L2N.ps_raise rfl (L2N.takes_of rfl rfl rfl rfl) (pmk_oexN T.ex_NotClosed T.xi_NotClosed T.ti_NotClosed (ok_NotClosed_init T) (hr.mono (by decide)) T.b_NotClosed_init pass0 (by rfl) T.mg_NotClosed (pa_cons (pv 4) pa_nil)))) pss_nil)))))
      (pss_one (ps_ret (pe_callTy call_tuple_of (by rfl) T.no_tuple (by decide +kernel) (pa_cons (pv 3) pa_nil))))))), ?_⟩
    show (_ : TS) _ [some vz, some (V.ref p), none, none, none, none] H
    walk_at "rd"
    refine ⟨vz, wz, p, l, xs, ws, rfl, hz, hp, hx, l64, fun n en n1 n6 ok gv gl H1 g0 e1 hg tg => ?_, k2, k3⟩
    subst en
    obtain rfl : vz = .int n := by cases hz; rfl
    refine ⟨by decide, fun c hc => ⟨n, rfl, n6, fun q ys H2 q0 e2 hq tq => ⟨q, rfl, ⟨_, SqL.of hq⟩, ?_⟩⟩⟩
    obtain ⟨ss, hss⟩ : ∃ ss, ss = ws.map numsW := ⟨_, rfl⟩
    rw [← hss] at tg k1 k4
    have ssl : ss.length ≤ 200 := by rw [hss, List.length_map]; exact l64
    have ec := same_upd (o := .lst []) hc
    have hc2 := e2 _ _ (upd_same (H := H1) (a := c) (o := .lst []))
    have c0 : H c = none := e1.free hc
    have e02 : Same H H2 := (e1.trans ec).trans e2
    have hg2 := e2 _ _ (ec _ _ hg)
    have tg2 := (tg.same ec).same e2
    have gc : gv ≠ c := fun z => by rw [z, hc] at hg; cases hg
    have qc : q ≠ c := fun z => by rw [z, upd_same] at q0; cases q0
    have ql := tq.len
    refine Rd.loop_listC (xs := ys) (fun σ H' => ∃ acc o4 o5, σ = [some (V.int n), some (V.ref p), some (V.ref gv), some (V.ref c), o4, o5] ∧ Same H H' ∧ H' c = some (.lst acc) ∧ Tups H' acc ((allS n).filter fun s => ss.contains s) ∧ ∀ s ∈ allS n, missB ss s = false)
      (fun i σ H' => ∃ acc o4 o5, σ = [some (V.int n), some (V.ref p), some (V.ref gv), some (V.ref c), o4, o5] ∧ (∀ b o, b ≠ c → H2 b = some o → H' b = some o) ∧ H' c = some (.lst acc) ∧ acc.length ≤ i ∧ Tups H' acc (((allS n).take i).filter fun s => ss.contains s) ∧ ∀ s ∈ (allS n).take i, missB ss s = false)
      ⟨[], none, none, rfl, fun _ _ _ h => h, hc2, Nat.le_refl _, trivial, fun s h => by rw [List.take_zero] at h; cases h⟩ (fun i σ H' _ ⟨_, _, _, _, e, _⟩ => SqL.of (e _ _ qc hq)) ?_ ?_ ?_
    · rintro bk hbk i x σ H3 hx' ⟨acc, o4, o5, rfl, e3, hc3, al3, ta, nm⟩
      obtain ⟨s', hs', t, rfl, ht⟩ := tq.at hx'
      have sm := List.mem_of_getElem? hs'
      have tc : t ≠ c := fun z => by rw [z, hc2] at ht; cases ht
      have ht3 := e3 _ _ tc ht
      have hg3 := e3 _ _ gc hg2
      have mv : ∀ {vs : List V} {us : List (List Nat)}, Tups H2 vs us → Tups H3 vs us := fun {vs us} h => by
        induction vs generalizing us with
        | nil => cases us <;> exact h
        | cons v vs ih =>
          cases us with
          | nil => exact h
          | cons u us => exact let ⟨⟨q, a, b⟩, r⟩ := h; ⟨⟨q, a, e3 _ _ (fun z => by rw [z, hc2] at b; cases b) b⟩, ih r⟩
      have tg3 := mv tg2
      have i64 : i < 64 := by
        have := (List.getElem?_eq_some_iff.mp hs').1
        rw [allS_len n6] at this
        exact Nat.lt_of_lt_of_le this (Nat.le_trans (Nat.pow_le_pow_right (by decide) n6) (by decide))
      have nx : ((allS n).take (i + 1)).filter (fun s => ss.contains s) = ((allS n).take i).filter (fun s => ss.contains s) ++ (if ss.contains s' = true then [s'] else []) := by
        rw [List.take_add_one, hs', List.filter_append]
        cases z : ss.contains s' with
        | true => rw [show (some s').toList = [s'] from rfl, List.filter_cons_of_pos (p := fun s => ss.contains s) z]; rfl
        | false => rw [show (some s').toList = [s'] from rfl, List.filter_cons_of_neg (p := fun s => ss.contains s) (by rw [z]; decide)]; rfl
      have nm1 : missB ss s' = false → ∀ s ∈ (allS n).take (i + 1), missB ss s = false := fun z s h => by
        rw [List.take_add_one, hs'] at h
        rcases List.mem_append.mp h with h | h
        · exact nm s h
        · rw [List.mem_singleton.mp h]; exact z
      have e03 : ∀ b o, H b = some o → H3 b = some o := fun b o h => e3 _ _ (ne_of_none h c0) (e02 _ _ h)
      have bad : missB ss s' = true → ∀ {H5 : Hp}, Same H3 H5 → ∀ x, H5 x = none → spEx a.C_NotClosed "missing" [.ref x, .ref t] (upd H5 x (exo x a.C_NotClosed none)) (fun v' H2 => v' = .non ∧ ∃ d, H2 x = some (exo x a.C_NotClosed (some d)) ∧ ∃ fs, H2 d = some (exd d fs) ∧ H5 d = none ∧ E (.ref a.C_NotClosed) (some d) (upd (del H2 x) d (.xd fs))) (fun _ _ _ => False) := fun z H5 e5 x hx0 =>
        ex_made hx0 fun d H' hd ed e => k4 n i s' rfl n1 n6 ok hs' z nm t d H' (by
          cases y : H d with
          | none => rfl
          | some o => rw [e5 _ _ (e03 _ _ y)] at hd; cases hd) ed (e _ _ (e5 _ _ ht3)) (fun b o h => e _ _ (e5 _ _ (e03 _ _ h)))
      walk_at "rd"
      refine ⟨_, dp_set ht3, _, .lst (SqL.of hg3) (dp_sets tg3), sh_set _, sh_list _, ?_⟩
      rw [any_sets]
      cases hin : ss.contains s' with
      | true =>
        rw [if_pos rfl]
        simp only [tBM, rAppend]
        walk_at "rd"
        refine ⟨.inl ⟨rfl, _, SqL.of hc3⟩, acc, hc3, small (by omega), fun b o nb h => (upd_ne nb).trans (e3 _ _ nb h), by rw [List.length_append]; exact Nat.succ_le_succ al3, ?_, nm1 (by unfold missB; rw [hin]; rfl)⟩
        rw [nx, if_pos hin]
        exact Tups.upd hc3 (Tups.app ta ⟨⟨t, rfl, ht3⟩, trivial⟩)
      | false =>
        rw [if_neg (by decide)]
        refine ⟨by decide, fun u hu => ?_⟩
        have eu := same_upd (o := .tup []) hu
        refine ⟨_, dp_set (eu _ _ ht3), _, dp_set (s := []) upd_same, sh_set _, sh_set _, ?_⟩
        rw [eqv_set]
        by_cases ns : s' = []
        · rw [decide_eq_true ns, if_pos rfl]
          exact ⟨by decide, fun x hx0 => bad (by unfold missB; rw [hin, decide_eq_true ns]; rfl) eu x hx0⟩
        rw [decide_eq_false ns]
        rw [if_neg (by decide)]
        have glen := tg3.len
        have e3u : ∀ b o, b ≠ c → H2 b = some o → (upd H3 u (.tup [])) b = some o := fun b o nb h => eu _ _ (e3 _ _ nb h)
        have hc4 := eu _ _ hc3
        have ta4 := ta.same eu
        have tg4 := tg3.same eu
        have hg4 := eu _ _ hg3
        have ht4 := eu _ _ ht3
        generalize upd H3 u (.tup []) = H4 at eu e3u hc4 ta4 tg4 hg4 ht4 ⊢
        refine ⟨⟨_, SqL.of hg4⟩, Rd.lcl_list (xs := gl) (fun D j H' => H4 D = none ∧ Same H4 H' ∧ H' D = some (.lst (((ss.take j).map fun t => subL s' t).map V.bl))) (fun D hD => ⟨hD, same_upd hD, upd_same⟩) (fun D j H' _ h => SqL.of (h.2.1 _ _ hg4))
          (fun D j y H5 hy ⟨n5, e5, a5⟩ => ?_) (fun D H5 _ ⟨n5, e5, a5⟩ => ?_)⟩
        · obtain ⟨t', ht', r', rfl, hr'⟩ := tg4.at hy
          have jl := (List.getElem?_eq_some_iff.mp ht').1
          walk_at "rd"
          have al' := allS_at sm n6
          refine ⟨t, r', false, false, s', t', rfl, e5 _ _ ht4, e5 _ _ hr', Nat.le_trans al'.2.2.2.1 n6, fun H6 e6 => ⟨_, e6 _ _ a5, small (by rw [List.length_map, List.length_map, List.length_take]; omega), n5, fun b o hb => (upd_ne (ne_of_none hb n5)).trans (e6 _ _ (e5 _ _ hb)), ?_⟩⟩
          rw [List.take_add_one, ht', List.map_append, List.map_append]
          rfl
        · rw [glen, List.take_length] at a5
          refine ⟨D, rfl, _, SqL.of a5, ?_⟩
          rw [List.any_map]
          rw [show (ss.any (id ∘ fun t => subL s' t)) = ss.any (subL s') from rfl]
          by_cases z : ss.any (subL s') = true
          · rw [if_pos z]
            exact ⟨by decide, fun x hx0 => bad (by unfold missB; rw [hin, z, Bool.or_true]; rfl) (eu.trans e5) x hx0⟩
          · rw [if_neg z]
            refine ⟨fun b o nb h => e5 _ _ (e3u b o nb h), acc, e5 _ _ hc4, by omega, ?_, nm1 (by unfold missB; rw [hin, decide_eq_false ns, Bool.eq_false_iff.mpr z]; rfl)⟩
            rw [nx, if_neg (by rw [hin]; decide), List.append_nil]
            exact ta4.same e5
    · rintro σ H3 ⟨acc, o4, o5, rfl, e3, hc3, al3, ta, nm⟩
      refine ⟨acc, o4, o5, rfl, fun b o h => e3 _ _ (ne_of_none h c0) (e02 _ _ h), hc3, ?_⟩
      rw [ql, List.take_length] at ta nm
      exact ⟨ta, nm⟩
    · rintro σ H3 ⟨acc, o4, o5, rfl, e3, hc3, ta, nm⟩
      walk_at "rd"
      exact ⟨_, .inl ⟨SqL.of hc3, fun r hr => k1 n rfl n1 n6 ok nm r acc _ (e3.free hr) (e3.trans (same_upd hr)) upd_same (ta.same (same_upd hr))⟩⟩
end

end K19
namespace K19
open PySem PySem.Spec PyProof.Rows L2 Own OwnSeq OwnSet OwnComb OwnSort OwnHot OwnExN OwnProj
local macro_rules | `(tactic| walk_at "rd") => `(tactic| simp only [tSeq, tAsg, tOp, tUn, tVar, gName, gSub, rIxL, rIxT, rSetL, tC, rI0, rI, rU, rEq, rNe, tCons, tNil, tCB, tLst, tTup, tIfS, tAnd, tOr, tNot, tAndV, tOrV, tNotV, tTest, tB, tIf, tRet, tDrop, tNext, tBreak, tCont, tCall, tCallS, L2.WE, tMakeS, rIsS, rIsB, tChain, gSeq, gRest, gCons, gNil, tFor_seq, tFor_enumS, tLc_seq, tLc_enumS, rAny, rAll, L2.tMeth, StX.tStar, rIn, tLstRg, tRg1, tRg2, rSetI, rSortedSet, rInDT, rInD, rNotInD, rEqD, rNeD, iComb, tFld, tMake, tMkO, sFld, tOst, tNever, tBits, clv, isB,
  Rd.tFor_rng1, Rd.tFor_rng2, Rd.tFor_list, Rd.tFor_tup, Rd.tLc_list, Rd.tLc_tup, Rd.tLc_rng1, Rd.LcTurn, tYes, wipe, Rd.rLenL, Rd.rLenT, Rd.rIntI, Rd.rIxH, rIxHT,  HO.tup.injEq, Rd.at0, Rd.at1, Rd.at2, Rd.at3, Rd.ixN40, Rd.ixN41, Rd.ixN42, Rd.ixN43, Rd.scal_ii, cxOf,
  List.length_cons, List.length_nil, List.length_map, List.map_cons, List.map_nil, upd_same, decide_eq_true_eq, decide_true, decide_false, if_true, if_false, Bool.false_eq_true, Bool.not_true, Bool.not_false, HO.lst.injEq, HO.ins.injEq, List.set_cons_zero, List.set_cons_succ, List.getElem?_cons_zero, List.getElem?_cons_succ, List.append_nil, List.nil_append, List.cons_append, Option.some.injEq, V.ref.injEq, V.int.injEq, V.bl.injEq, List.cons.injEq, exists_eq_left', exists_and_left, exists_eq_left, true_and, and_true, and_self, and_assoc, implies_true, reduceCtorEq, Nat.reduceAdd])

/-- the sets as a table -/
def SOf (n : Nat) (ss : List (List Nat)) : List Bool := (List.range (2 ^ n)).map fun m => ss.contains (bits m)
theorem in_range {N m : Nat} {f : Nat → Bool} : In ((List.range N).map f) m = (decide (m < N) && f m) := by
  unfold In
  rw [List.getD_eq_getElem?_getD, List.getElem?_map]
  by_cases h : m < N
  · rw [List.getElem?_range h, decide_eq_true h]
    rfl
  · rw [List.getElem?_eq_none (by rw [List.length_range]; omega), decide_eq_false h]
    rfl
theorem sof_at {n : Nat} {ss : List (List Nat)} {s : List Nat} (n6 : n ≤ 6) (hs : s ∈ allS n) : In (SOf n ss) (mk s) = ss.contains s := by
  have sa := allS_at hs n6
  unfold SOf
  rw [in_range, decide_eq_true sa.2.1, Bool.true_and, sa.1]
theorem subs_iff : ((List.range 7).all fun n => (allS n).all fun s => (allS n).all fun t => subL s t == decide (Sub (mk s) (mk t))) = true := by decide +kernel
theorem sub_of {n : Nat} {s t : List Nat} (n6 : n ≤ 6) (hs : s ∈ allS n) (ht : t ∈ allS n) : subL s t = decide (Sub (mk s) (mk t)) :=
  beq_iff_eq.mp (List.all_eq_true.mp (List.all_eq_true.mp (List.all_eq_true.mp subs_iff n (List.mem_range.mpr (by omega))) s hs) t ht)
theorem sof_fam {n : Nat} {ss : List (List Nat)} (n1 : 1 ≤ n) (n6 : n ≤ 6) (al : ∀ s ∈ ss, s ∈ allS n) (nm : ∀ s ∈ allS n, missB ss s = false) : Fam n (SOf n ss) where
  n1 := n1
  n6 := n6
  len := by unfold SOf; rw [List.length_map, List.length_range]
  zero := by
    have z := nm [] (nil_in n6)
    unfold missB at z
    unfold SOf
    rw [in_range, decide_eq_true (Nat.pow_pos (by decide) : 0 < 2 ^ n), Bool.true_and, show bits 0 = [] by decide]
    cases y : ss.contains [] with
    | true => rfl
    | false => rw [y] at z; cases z
  down := fun m m' s h => by
    unfold SOf at h ⊢
    rw [in_range, Bool.and_eq_true, decide_eq_true_eq] at h ⊢
    have ml := h.1
    have le : m' ≤ m := by unfold Sub at s; rw [← s]; exact Nat.and_le_right
    refine ⟨by omega, ?_⟩
    have b1 := bits_in n6 ml
    have b2 := bits_in (m := m') n6 (by omega)
    cases y : ss.contains (bits m') with
    | true => rfl
    | false =>
      have z := nm _ b2.2
      unfold missB at z
      rw [y, Bool.not_false, Bool.true_and, Bool.or_eq_false_iff] at z
      have w : ss.any (subL (bits m')) = true := List.any_eq_true.mpr ⟨bits m, List.contains_iff_mem.mp h.2, ?_⟩
      · rw [z.2] at w; cases w
      · rw [sub_of n6 b2.2 b1.2, b1.1, b2.1]
        exact decide_eq_true s
theorem sof_list {n : Nat} {ss : List (List Nat)} (n6 : n ≤ 6) : famL n (SOf n ss) = (allS n).filter fun s => ss.contains s := List.filter_congr fun s hs => sof_at n6 hs
section
variable {P : Program} {w : World} {K : PySem.W.Frag} {mg : Str → Option Value} {base : Heap} {a : Ad}
/-! ### Family.__init__ -/
def ff (t : Addr) (n : Nat) : List (Str × V) := putF "size" (.int (n : Nat)) (putF "sets" (.ref t) [])
def spFam (F C WC IC NC : Addr) : Sp := fun vs H Q E => ∃ (x dx : Addr) (vz : V) (wz : Wv) (p : Addr) (l : Bool) (xs : List V) (ws : List Wv), vs = [.ref x, vz, .ref p] ∧ H x = some (.ins F dx []) ∧ IsW C H vz wz ∧ H p = some (sq l xs) ∧ IsWs C H xs ws ∧ ws.length ≤ 200 ∧
  (∀ n : Nat, wz = .int n → 1 ≤ n → n ≤ 6 → (∀ w ∈ ws, ascW n w = true) → (∀ s ∈ allS n, missB (ws.map numsW) s = false) → ∀ t ys H1 H', Same H H1 → H1 t = some (.tup ys) → Tups H1 ys ((allS n).filter fun s => (ws.map numsW).contains s) → H' = upd H1 x (.ins F dx (ff t n)) → Q .non H') ∧
  (inW 1 6 wz = false → ∀ d H', H d = none → H' d = some (.xd [("many", vz)]) → Same H H' → E (.ref WC) (some d) H') ∧
  (∀ (n : Nat) (i : Nat) (w : Wv), wz = .int n → 1 ≤ n → n ≤ 6 → ws[i]? = some w → ascW n w = false → (∀ u ∈ ws.take i, ascW n u = true) → ∀ d H', H d = none → H' d = some (.xd [("at", .int (i : Nat))]) → Same H H' → E (.ref IC) (some d) H') ∧
  (∀ (n : Nat) (i : Nat) (s : List Nat), wz = .int n → 1 ≤ n → n ≤ 6 → (∀ w ∈ ws, ascW n w = true) → (allS n)[i]? = some s → missB (ws.map numsW) s = true → (∀ t ∈ (allS n).take i, missB (ws.map numsW) t = false) → ∀ t d H', H d = none → H' d = some (.xd [("missing", .ref t)]) → H' t = some (.tup (iv s)) → Same H H' → E (.ref NC) (some d) H')
theorem sc_Family_init : FnScope ["self", "size", "sets"] ["self", "size", "sets"] (defScope s_Family_init) := ⟨rfl, rfl, rfl, by decide +kernel, rfl, by decide +kernel, by decide +kernel⟩
theorem ok_Family_init (T : Txt K mg a) : FnOk P w K mg base (L2N.CX P w) 6 a.a_Family_init a.d_Family_init ["self", "size", "sets"] (spFam a.C_Family a.C_Frac a.C_WrongSize a.C_InvalidFamily a.C_NotClosed) := by
  refine okN T.fn_Family_init sc_Family_init (fun vs H Q E h => ?_) (fun cdv A outer s H vs Q E hr h => ?_)
  · obtain ⟨x, dx, vz, wz, p, l, xs, ws, rfl, _⟩ := h
    rfl
  · obtain ⟨x, dx, vz, wz, p, l, xs, ws, rfl, hx0, hz, hp, hx, l64, k1, k2, k3, k4⟩ := h
    refine ⟨_, (pss_cons (ps_fld (pv 0) (pe_callS (ok_closed_sets T) (hr.mono (by decide)) (by rfl) T.mg_closed_sets T.fn_closed_sets.kp T.b_closed_sets (fun σ => L2N.passAt (L2N.takes_of rfl rfl rfl rfl) σ) (pa_cons (pv 1) (pa_cons (pv 2) pa_nil))) rfl)
      (pss_one (ps_fld (pv 0) (pv 1) rfl))), ?_⟩
    show (_ : TS) _ [some (V.ref x), some vz, some (V.ref p)] H
    walk_at "rd"
    refine ⟨vz, wz, p, l, xs, ws, rfl, hz, hp, hx, l64, fun n en n1 n6 ok nm t ys H1 t0 e1 ht tt => ?_, k2, k3, k4⟩
    subst en
    obtain rfl : vz = .int n := by cases hz; rfl
    refine ⟨a.C_Family, dx, [], e1 _ _ hx0, ?_⟩
    refine ⟨T.cl_Family, T.na_Family_sets, by decide, T.cl_Family, T.na_Family_size, by show 1 < 1000; decide, ?_⟩
    rw [upd_upd]
    exact k1 n rfl n1 n6 ok nm t ys H1 _ e1 ht tt rfl
end

end K19
namespace K19
open PySem PySem.Spec PyProof.Rows L2 Own OwnSeq OwnSet OwnComb OwnSort OwnHot OwnExN OwnProj
local macro_rules | `(tactic| walk_at "rd") => `(tactic| simp only [tSeq, tAsg, tOp, tUn, tVar, gName, gSub, rIxL, rIxT, rSetL, tC, rI0, rI, rU, rEq, rNe, tCons, tNil, tCB, tLst, tTup, tIfS, tAnd, tOr, tNot, tAndV, tOrV, tNotV, tTest, tB, tIf, tRet, tDrop, tNext, tBreak, tCont, tCall, tCallS, L2.WE, tMakeS, rIsS, rIsB, tChain, gSeq, gRest, gCons, gNil, tFor_seq, tFor_enumS, tLc_seq, tLc_enumS, rAny, rAll, L2.tMeth, StX.tStar, rIn, tLstRg, tRg1, tRg2, rSetI, rSortedSet, rInDT, rInD, rNotInD, rEqD, rNeD, iComb, tFld, tMake, tMkO, sFld, tOst, tNever, tBits, clv, isB,
  Rd.tFor_rng1, Rd.tFor_rng2, Rd.tFor_list, Rd.tFor_tup, Rd.tLc_list, Rd.tLc_tup, Rd.tLc_rng1, Rd.LcTurn, tYes, wipe, Rd.rLenL, Rd.rLenT, Rd.rIntI, Rd.rIxH, rIxHT,  HO.tup.injEq, Rd.at0, Rd.at1, Rd.at2, Rd.at3, Rd.ixN40, Rd.ixN41, Rd.ixN42, Rd.ixN43, Rd.scal_ii, cxOf,
  List.length_cons, List.length_nil, List.length_map, List.map_cons, List.map_nil, upd_same, decide_eq_true_eq, decide_true, decide_false, if_true, if_false, Bool.false_eq_true, Bool.not_true, Bool.not_false, HO.lst.injEq, HO.ins.injEq, List.set_cons_zero, List.set_cons_succ, List.getElem?_cons_zero, List.getElem?_cons_succ, List.append_nil, List.nil_append, List.cons_append, Option.some.injEq, V.ref.injEq, V.int.injEq, V.bl.injEq, List.cons.injEq, exists_eq_left', exists_and_left, exists_eq_left, true_and, and_true, and_self, and_assoc, implies_true, reduceCtorEq, Nat.reduceAdd])

theorem ff_sets (t : Addr) (n : Nat) : (ff t n).lookup ("sets" : Str) = some (.ref t) := by
  unfold ff
  rw [lookup_putF, if_neg (by decide +kernel), lookup_putF, if_pos rfl]
theorem ff_size (t : Addr) (n : Nat) : (ff t n).lookup ("size" : Str) = some (.int (n : Nat)) := by
  unfold ff
  rw [lookup_putF, if_pos rfl]
theorem ff_no (t : Addr) (n : Nat) {m : Str} (h1 : ¬ m = "size") (h2 : ¬ m = "sets") : (ff t n).lookup m = none := by
  unfold ff
  rw [lookup_putF, if_neg h1, lookup_putF, if_neg h2]
  rfl
/-- a family as an object -/
structure FamV (C : Addr) (H : Hp) (f : Addr) (n : Nat) (S : List Bool) : Prop where
  fam : Fam n S
  ob : ∃ dx t ys, H f = some (.ins C dx (ff t n)) ∧ H t = some (.tup ys) ∧ Tups H ys (famL n S)
theorem FamV.same {C : Addr} {H H' : Hp} {f : Addr} {n : Nat} {S : List Bool} (F : FamV C H f n S) (e : Same H H') : FamV C H' f n S :=
  let ⟨dx, t, ys, a, b, c⟩ := F.ob
  ⟨F.fam, dx, t, ys, e _ _ a, e _ _ b, c.same e⟩

end K19
namespace K19
open PySem PySem.Spec PyProof.Rows L2 Own OwnSeq OwnSet OwnComb OwnSort OwnHot OwnExN OwnProj
local macro_rules | `(tactic| walk_at "rd") => `(tactic| simp only [tSeq, tAsg, tOp, tUn, tVar, gName, gSub, rIxL, rIxT, rSetL, tC, rI0, rI, rU, rEq, rNe, tCons, tNil, tCB, tLst, tTup, tIfS, tAnd, tOr, tNot, tAndV, tOrV, tNotV, tTest, tB, tIf, tRet, tDrop, tNext, tBreak, tCont, tCall, tCallS, L2.WE, tMakeS, rIsS, rIsB, tChain, gSeq, gRest, gCons, gNil, tFor_seq, tFor_enumS, tLc_seq, tLc_enumS, rAny, rAll, L2.tMeth, StX.tStar, rIn, tLstRg, tRg1, tRg2, rSetI, rSortedSet, rInDT, rInD, rNotInD, rEqD, rNeD, iComb, tFld, tMake, tMkO, sFld, tOst, tNever, tBits, clv, isB,
  Rd.tFor_rng1, Rd.tFor_rng2, Rd.tFor_list, Rd.tFor_tup, Rd.tLc_list, Rd.tLc_tup, Rd.tLc_rng1, Rd.LcTurn, tYes, wipe, Rd.rLenL, Rd.rLenT, Rd.rIntI, Rd.rIxH, rIxHT,  HO.tup.injEq, Rd.at0, Rd.at1, Rd.at2, Rd.at3, Rd.ixN40, Rd.ixN41, Rd.ixN42, Rd.ixN43, Rd.scal_ii, cxOf,
  List.length_cons, List.length_nil, List.length_map, List.map_cons, List.map_nil, upd_same, decide_eq_true_eq, decide_true, decide_false, if_true, if_false, Bool.false_eq_true, Bool.not_true, Bool.not_false, HO.lst.injEq, HO.ins.injEq, List.set_cons_zero, List.set_cons_succ, List.getElem?_cons_zero, List.getElem?_cons_succ, List.append_nil, List.nil_append, List.cons_append, Option.some.injEq, V.ref.injEq, V.int.injEq, V.bl.injEq, List.cons.injEq, exists_eq_left', exists_and_left, exists_eq_left, true_and, and_true, and_self, and_assoc, implies_true, reduceCtorEq, Nat.reduceAdd])

theorem at_int {ns : List Int} {z : Int} (h0 : 0 ≤ z) (h1 : z < (ns.length : Int)) : ∃ y, atI (ns.map V.int) z = some (V.int y) := by
  obtain ⟨j, rfl⟩ : ∃ j : Nat, z = (j : Int) := ⟨z.toNat, by omega⟩
  have hj : j < ns.length := by omega
  exact ⟨ns[j], atI_nat (by rw [List.getElem?_map, List.getElem?_eq_getElem hj]; rfl)⟩
theorem abs_nn (x : Int) : 0 ≤ (if x < 0 then -x else x) := by split <;> omega
theorem abs_eq (x : Int) : (if x < 0 then -x else x) = (x.natAbs : Int) := by split <;> omega
theorem cm_mod {x y m : Int} (h : 0 < m) (h2 : m ≤ 2 ^ 64) : CMul (x % m) y := by
  have a := Int.emod_nonneg x (show m ≠ 0 by omega)
  have b := Int.emod_lt_of_pos x h
  exact .inl ⟨by omega, by omega⟩
/-- what stood stands, but for b -/
def But (b : Addr) (H H' : Hp) : Prop := ∀ p o, p ≠ b → H p = some o → H' p = some o
theorem But.refl (b : Addr) (H : Hp) : But b H H := fun _ _ _ h => h
theorem But.trans {b : Addr} {H H1 H2 : Hp} (x : But b H H1) (y : But b H1 H2) : But b H H2 := fun p o n h => y p o n (x p o n h)
theorem But.free {b : Addr} {H H1 : Hp} (x : But b H H1) {p : Addr} (n : p ≠ b) (h : H1 p = none) : H p = none := by
  cases e : H p with
  | none => rfl
  | some o =>
    rw [x p o n e] at h
    cases h
theorem Same.but {b : Addr} {H H1 : Hp} (x : Same H H1) : But b H H1 := fun p o _ h => x p o h
theorem SqL.but {K : PySem.W.Frag} {H H' : Hp} {b c : Addr} {xs : List V} (h : SqL K H c xs) (n : c ≠ b) (e : But b H H') : SqL K H' c xs := by
  rcases h with (h | ⟨o, h⟩) | h
  · exact .inl (.inl (e _ _ n h))
  · exact .inl (.inr ⟨o, e _ _ n h⟩)
  · exact .inr h
/-- the law's box: its cells, what is drawn from -/
structure BoxAt (K : PySem.W.Frag) (H : Hp) (b c : Addr) (ns : List Int) : Prop where
  ne : c ≠ b
  len : ns.length ≤ 63
  ob : ∃ n1 n2 n3 : Int, H b = some (.lst [.ref c, .int n1, .int n2, .int n3]) ∧ 0 ≤ n2 ∧ 0 ≤ n3
  cells : SqL K H c (ns.map V.int)
theorem BoxAt.same {K : PySem.W.Frag} {H H' : Hp} {b c : Addr} {ns : List Int} (B : BoxAt K H b c ns) (e : Same H H') : BoxAt K H' b c ns :=
  let ⟨n1, n2, n3, h, p, q⟩ := B.ob
  ⟨B.ne, B.len, ⟨n1, n2, n3, e _ _ h, p, q⟩, e.seq B.cells⟩
theorem BoxAt.ne_new {K : PySem.W.Frag} {H : Hp} {b c : Addr} {ns : List Int} (B : BoxAt K H b c ns) {p : Addr} (h : H p = none) : p ≠ b := fun e => by
  obtain ⟨n1, n2, n3, hb, _⟩ := B.ob
  rw [e, hb] at h
  cases h
section
variable {P : Program} {w : World} {K : PySem.W.Frag} {mg : Str → Option Value} {base : Heap} {a : Ad}
/-! ### _law_box -/
def spBox (K : PySem.W.Frag) : Sp := fun vs H Q _ => ∃ (s : Addr) (ns : List Int), vs = [.ref s] ∧ SqL K H s (ns.map V.int) ∧ ns.length ≤ 63 ∧ ∀ b c H', BoxAt K H' b c ns → Same H H' → H b = none → Q (.ref b) H'
theorem sc_law_box : FnScope ["script", "cell"] ["script"] (defScope s_law_box) := ⟨rfl, rfl, rfl, by decide +kernel, rfl, by decide +kernel, by decide +kernel⟩
theorem ok_law_box (T : Txt K mg a) : FnOk P w K mg base CX0 1 a.a_law_box a.d_law_box ["script"] (spBox K) := by
  refine T.fn_law_box.ok sc_law_box (fun vs H Q E h => ?_) (fun cdv A outer s H vs Q E hr h => ?_)
  · obtain ⟨p, ns, rfl, _⟩ := h
    rfl
  · obtain ⟨p, ns, rfl, hs, hl, k⟩ := h
    refine ⟨_, (pss_one (ps_ret (pe_lst (pa_cons (pe_lc (own := [("cell", 1)]) (by rfl) sc_law_box.nd (pi_list (pv 0)) (blkOk_by (own := [("cell", 1)]) (N := ["script", "cell"]) (sc := defScope s_law_box) (by decide +kernel)) (fun _ _ _ _ _ => pg_name (i := 1) sc_law_box.nd rfl (Or.inl rfl)) (fun _ _ _ _ _ => pts_nil) (fun _ _ _ _ _ => (pe_callTy Rd.call_intI (by rfl) T.no_int (by decide +kernel) (pa_cons (pv 1) pa_nil)))) (pa_cons pe_int (pa_cons pe_int (pa_cons pe_int pa_nil))))))), ?_⟩
    show (_ : TS) _ [some (V.ref p), none] H
    walk_at "rd"
    refine ⟨⟨_, hs⟩, Rd.lcl_list (xs := ns.map V.int) (fun D i H1 => (Same H H1 ∧ H D = none) ∧ H1 D = some (.lst ((ns.take i).map V.int))) (fun D hD => ⟨⟨same_upd hD, hD⟩, upd_same⟩) (fun D i H1 _ p => p.1.1.seq hs) ?_ ?_⟩
    · rintro D i x H1 hx ⟨⟨s1, hD⟩, e1⟩
      obtain ⟨z, hz, rfl⟩ : ∃ z, ns[i]? = some z ∧ x = V.int z := by
        rw [List.getElem?_map] at hx
        cases e : ns[i]? with
        | none => rw [e] at hx; cases hx
        | some z => rw [e] at hx; exact ⟨z, rfl, (Option.some.inj hx).symm⟩
      walk_at "rd"
      refine ⟨_, e1, ?_, fun b o e => ?_, ?_⟩
      · rw [List.length_map, List.length_take]
        exact Nat.lt_of_le_of_lt (Nat.min_le_left _ _) (by have := (List.getElem?_eq_some_iff.mp hz).1; exact small1000 (by omega))
      · rw [upd_ne (ne_of_none e hD)]
        exact s1 _ _ e
      · rw [List.take_add_one, hz, List.map_append]
        exact ⟨hD, rfl⟩
    · rw [List.length_map, List.take_length]
      rintro D H1 _ ⟨⟨s1, hD⟩, e1⟩
      refine ⟨by decide, fun b hb => ?_⟩
      have nbD : D ≠ b := fun e => by rw [← e, e1] at hb; cases hb
      refine k b D _ ⟨nbD, hl, ⟨0, 0, 0, upd_same, Int.le_refl _, Int.le_refl _⟩, SqL.of ((upd_ne nbD).trans e1)⟩ (s1.trans (same_upd hb)) (s1.free hb)
/-! ### _law_draw -/
def spDraw (K : PySem.W.Frag) : Sp := fun vs H Q _ => ∃ (b c : Addr) (ns : List Int) (m : Int), vs = [.ref b, .int m] ∧ BoxAt K H b c ns ∧ 0 < m ∧ m < 1000000000 ∧
  ∀ (d : Int) (H' : Hp), 0 ≤ d → d < m → BoxAt K H' b c ns → (∀ p, p ≠ b → H' p = H p) → Q (.int d) H'
theorem sc_law_draw : FnScope ["box", "limit", "cells", "k", "digit", "cell", "mixed"] ["box", "limit"] (defScope s_law_draw) := ⟨rfl, rfl, rfl, by decide +kernel, rfl, by decide +kernel, by decide +kernel⟩
theorem ok_law_draw (T : Txt K mg a) : FnOk P w K mg base CX0 1 a.a_law_draw a.d_law_draw ["box", "limit"] (spDraw K) := by
  refine T.fn_law_draw.ok sc_law_draw (fun vs H Q E h => ?_) (fun cdv A outer s H vs Q E hr h => ?_)
  · obtain ⟨b, c, ns, m, rfl, _⟩ := h
    rfl
  · obtain ⟨b, c, ns, m, rfl, ⟨hbc, hl, ⟨n1, n2, n3, hb, p2, p3⟩, hc⟩, hm, hm2, k⟩ := h
    refine ⟨_, (pss_cons (ps_set (i := 2) sc_law_draw.nd rfl (Or.inl rfl) (pe_ix Rd.ixH (pv 0) pe_int (fun _ _ => rfl)))
      (pss_cons (ps_asg (pe_op op_add (pe_ix Rd.ixH (pv 0) pe_int (fun _ _ => rfl)) pe_int) (pg_sub (pv 0) pe_int set_list))
      (pss_cons (ps_for PassesOwn.never rfl (pi_range1 (by rfl) T.no_range (pa_cons (pe_callB Rd.call_lenL (by rfl) T.no_len PySem.boot_len (pa_cons (pv 2) pa_nil)) pa_nil)) (pg_name (i := 3) sc_law_draw.nd rfl (Or.inl rfl))
        (pss_one (ps_if (PW.pt (pw_and (pt_cmpR op_eq (pe_ix Rd.ixH (pv 0) pe_int (fun _ _ => rfl)) pe_int (nomark _)) (pw_and1 (pt_cmpR op_lt (pe_ix Rd.ixH (pv 0) pe_int (fun _ _ => rfl)) (pe_callB Rd.call_lenL (by rfl) T.no_len PySem.boot_len (pa_cons (pv 2) pa_nil)) (nomark _))))) (pss_cons (ps_if (pt_cmpR op_ge (pe_callB call_abs (by rfl) T.no_abs (by decide +kernel) (pa_cons (pe_ix ix_list (pv 2) (pe_ix Rd.ixH (pv 0) pe_int (fun _ _ => rfl)) (fun _ _ => rfl)) pa_nil)) (pe_op op_pow pe_int pe_int) (nomark _)) (pss_one (ps_asg (pe_callB call_abs (by rfl) T.no_abs (by decide +kernel) (pa_cons (pe_ix ix_list (pv 2) (pe_ix Rd.ixH (pv 0) pe_int (fun _ _ => rfl)) (fun _ _ => rfl)) pa_nil)) (pg_sub (pv 0) pe_int set_list))) pss_nil)
          (pss_one (ps_asg (pe_op op_add (pe_ix Rd.ixH (pv 0) pe_int (fun _ _ => rfl)) pe_int) (pg_sub (pv 0) pe_int set_list)))) (pss_one ps_break))))
      (pss_cons (ps_if (pt_cmpR op_gt (pe_ix Rd.ixH (pv 0) pe_int (fun _ _ => rfl)) pe_int (nomark _)) (pss_cons (ps_set (i := 4) sc_law_draw.nd rfl (Or.inl rfl) (pe_op op_mod (pe_callTy Rd.call_intI (by rfl) T.no_int (by decide +kernel) (pa_cons (pe_ix Rd.ixH (pv 0) pe_int (fun _ _ => rfl)) pa_nil)) (pv 1)))
        (pss_cons (ps_asg (pe_op op_fdiv (pe_ix Rd.ixH (pv 0) pe_int (fun _ _ => rfl)) (pv 1)) (pg_sub (pv 0) pe_int set_list))
        (pss_one (ps_ret (pv 4))))) pss_nil)
      (pss_cons (ps_set (i := 5) sc_law_draw.nd rfl (Or.inl rfl) pe_int)
      (pss_cons (ps_if (pt_cmpR op_gt (pe_callB Rd.call_lenL (by rfl) T.no_len PySem.boot_len (pa_cons (pv 2) pa_nil)) pe_int (nomark _)) (pss_one (ps_set (i := 5) sc_law_draw.nd rfl (Or.inl rfl) (pe_callB call_abs (by rfl) T.no_abs (by decide +kernel) (pa_cons (pe_ix ix_list (pv 2) (pe_op op_mod (pe_callTy Rd.call_intI (by rfl) T.no_int (by decide +kernel) (pa_cons (pe_ix Rd.ixH (pv 0) pe_int (fun _ _ => rfl)) pa_nil)) (pe_callB Rd.call_lenL (by rfl) T.no_len PySem.boot_len (pa_cons (pv 2) pa_nil))) (fun _ _ => rfl)) pa_nil)))) pss_nil)
      (pss_cons (ps_set (i := 6) sc_law_draw.nd rfl (Or.inl rfl) (pe_op op_mod (pe_callTy Rd.call_intI (by rfl) T.no_int (by decide +kernel) (pa_cons (pe_op op_add (pe_op op_add (pe_op op_mul (pv 5) pe_int) (pe_op op_mul (pe_ix Rd.ixH (pv 0) pe_int (fun _ _ => rfl)) pe_int)) pe_int) pa_nil)) pe_int))
      (pss_cons (ps_set (i := 6) sc_law_draw.nd rfl (Or.inl rfl) (pe_op op_mod (pe_callTy Rd.call_intI (by rfl) T.no_int (by decide +kernel) (pa_cons (pe_op op_add (pe_op op_add (pe_op op_mul (pv 6) (pv 6)) (pe_op op_mul (pe_ix Rd.ixH (pv 0) pe_int (fun _ _ => rfl)) pe_int)) (pv 5)) pa_nil)) pe_int))
      (pss_cons (ps_set (i := 6) sc_law_draw.nd rfl (Or.inl rfl) (pe_op op_mod (pe_callTy Rd.call_intI (by rfl) T.no_int (by decide +kernel) (pa_cons (pe_op op_add (pe_op op_add (pe_op op_mul (pe_op op_mul (pv 6) (pv 6)) pe_int) (pe_op op_fdiv (pv 5) pe_int)) pe_int) pa_nil)) pe_int))
      (pss_one (ps_ret (pe_op op_mod (pe_callTy Rd.call_intI (by rfl) T.no_int (by decide +kernel) (pa_cons (pe_op op_fdiv (pv 6) pe_int) pa_nil)) (pv 1))))))))))))), ?_⟩
    show (_ : TS) _ [some (V.ref b), some (V.int m), none, none, none, none, none] H
    walk_at "rd"
    simp only [hb]
    walk_at "rd"
    have e1 : ∀ a, a ≠ b → (upd H b (.lst [V.ref c, .int (n1 + 1), .int n2, .int n3])) a = H a := fun a ha => upd_ne ha
    refine ⟨_, SqL.but hc hbc fun p o n h => (e1 p n).trans h, ?_⟩
    rw [List.length_map]
    refine ⟨by omega, by omega, ?_⟩
    refine Rd.loop_rngC (fun σ H' => ∃ (x : Option V) (k2 k3 : Int), σ = [some (.ref b), some (.int m), some (.ref c), x, none, none, none] ∧ (∀ a, a ≠ b → H' a = H a) ∧ H' b = some (.lst [.ref c, .int (n1 + 1), .int k2, .int k3]) ∧ 0 ≤ k2 ∧ 0 ≤ k3)
      (fun _ σ H' => ∃ (x : Option V) (k2 k3 : Int), σ = [some (.ref b), some (.int m), some (.ref c), x, none, none, none] ∧ (∀ a, a ≠ b → H' a = H a) ∧ H' b = some (.lst [.ref c, .int (n1 + 1), .int k2, .int k3]) ∧ 0 ≤ k2 ∧ 0 ≤ k3)
      ⟨none, n2, n3, rfl, e1, upd_same, p2, p3⟩ ?_ (fun _ _ z => z) ?_
    · rintro bk hbk i σ H1 hi ⟨x, k2, k3, rfl, e, hb1, q2, q3⟩
      walk_at "rd"
      simp only [hb1]
      walk_at "rd"
      have hc1 : SqL K H1 c (ns.map V.int) := SqL.but hc hbc fun p o n h => (e p n).trans h
      have out : bk [some (V.ref b), some (V.int m), some (V.ref c), some (V.int (0 + ↑i)), none, none, none] H1 := hbk _ _ ⟨_, k2, k3, rfl, e, hb1, q2, q3⟩
      refine ite2 (fun h => ?_) (fun _ => out)
      refine ⟨_, hc1, ?_⟩
      try rw [List.length_map]
      refine ite2 (fun h2 => ?_) (fun _ => out)
      obtain ⟨y, hy⟩ := at_int q3 h2
      refine ⟨_, hc1, _, hy, _, rfl, ⟨by decide, by decide, by decide⟩, ite2 (fun _ => ?_) (fun _ => ?_)⟩
      · refine ⟨_, hc1, _, hy, _, rfl, fun a ha => ?_, abs_nn y, by omega⟩
        rw [upd_ne ha, upd_ne ha, e a ha]
      · refine ⟨fun a ha => ?_, q2, by omega⟩
        rw [upd_ne ha, e a ha]
    · rintro σ H1 ⟨x, k2, k3, rfl, e, hb1, q2, q3⟩
      walk_at "rd"
      simp only [hb1]
      walk_at "rd"
      have hc1 : SqL K H1 c (ns.map V.int) := SqL.but hc hbc fun p o n h => (e p n).trans h
      refine ite2 (fun h => ?_) (fun h => ?_)
      · refine ⟨hm, ⟨hm, by omega⟩, k _ _ (Int.emod_nonneg _ (by omega)) (Int.emod_lt_of_pos _ hm) ⟨hbc, hl, ⟨_, _, _, upd_same, Int.ediv_nonneg (by omega) (by omega), q3⟩, SqL.but hc1 hbc fun p o n h => (upd_ne n).trans h⟩ fun a ha => ?_⟩
        rw [upd_ne ha, e a ha]
      · refine ⟨_, hc1, ?_⟩
        try rw [List.length_map]
        have fin : ∀ z : Int, Q (V.int (z % m)) H1 := fun z => k _ _ (Int.emod_nonneg _ (by omega)) (Int.emod_lt_of_pos _ hm) ⟨hbc, hl, ⟨_, _, _, hb1, q2, q3⟩, hc1⟩ e
        refine ite2 (fun h2 => ?_) (fun h2 => ?_)
        · obtain ⟨y, hy⟩ := at_int (ns := ns) (z := (n1 + 1) % (ns.length : Int)) (Int.emod_nonneg _ (by omega)) (Int.emod_lt_of_pos _ h2)
          refine ⟨_, hc1, by rw [List.length_map]; exact h2, _, hc1, _, by rw [List.length_map]; exact hy, _, rfl, .inr ⟨by decide, by decide⟩, .inr ⟨by decide, by decide⟩, by decide, cm_mod (by decide) (by decide), .inr ⟨by decide, by decide⟩, by decide, cm_mod (by decide) (by decide), .inr ⟨by decide, by decide⟩, ⟨by decide, by decide⟩, by decide, ⟨by decide, by decide⟩, hm, fin _⟩
        · exact ⟨.inr ⟨by decide, by decide⟩, .inr ⟨by decide, by decide⟩, by decide, cm_mod (by decide) (by decide), .inr ⟨by decide, by decide⟩, by decide, cm_mod (by decide) (by decide), .inr ⟨by decide, by decide⟩, ⟨by decide, by decide⟩, by decide, ⟨by decide, by decide⟩, hm, fin _⟩
end
section
variable {P : Program} {w : World} {K : PySem.W.Frag} {mg : Str → Option Value} {base : Heap} {a : Ad}
theorem But.of {b : Addr} {H H' : Hp} (e : ∀ p, p ≠ b → H' p = H p) : But b H H' := fun p o n h => (e p n).trans h
theorem But.updn {b p : Addr} {o : HO} {H H' : Hp} (e : But b H H') (h : H p = none) : But b H (upd H' p o) := fun q u n z => (upd_ne (ne_of_none z h)).trans (e q u n z)
theorem BoxAt.upd {H0 H : Hp} {b c p : Addr} {ns : List Int} {o : HO} (B0 : BoxAt K H0 b c ns) (B : BoxAt K H b c ns) (n : p ≠ b) (e : But b H0 (L2.upd H p o)) : BoxAt K (L2.upd H p o) b c ns :=
  let ⟨n1, n2, n3, h, u, v⟩ := B.ob
  ⟨B.ne, B.len, ⟨n1, n2, n3, (upd_ne (Ne.symm n)).trans h, u, v⟩, SqL.but B0.cells B.ne e⟩
theorem drw {H : Hp} {b c : Addr} {ns : List Int} {m : Int} {Q : VK} {E : XK} (B : BoxAt K H b c ns) (h0 : 0 < m) (h1 : m < 1000000000) (k : ∀ (d : Nat) (H' : Hp), (d : Int) < m → BoxAt K H' b c ns → But b H H' → Q (.int (d : Nat)) H') : spDraw K [.ref b, .int m] H Q E :=
  ⟨b, c, ns, m, rfl, B, h0, h1, fun d H' p q B' e => by
    obtain ⟨j, rfl⟩ : ∃ j : Nat, d = (j : Int) := ⟨d.toNat, by omega⟩
    exact k j H' q B' (But.of e)⟩
end

end K19
namespace K19
open PySem PySem.Spec PyProof.Rows L2 Own OwnSeq OwnSet OwnComb OwnSort OwnHot OwnExN OwnProj
local macro_rules | `(tactic| walk_at "rd") => `(tactic| simp only [tSeq, tAsg, tOp, tUn, tVar, gName, gSub, rIxL, rIxT, rSetL, tC, rI0, rI, rU, rEq, rNe, tCons, tNil, tCB, tLst, tTup, tIfS, tAnd, tOr, tNot, tAndV, tOrV, tNotV, tTest, tB, tIf, tRet, tDrop, tNext, tBreak, tCont, tCall, tCallS, L2.WE, tMakeS, rIsS, rIsB, tChain, gSeq, gRest, gCons, gNil, tFor_seq, tFor_enumS, tLc_seq, tLc_enumS, rAny, rAll, L2.tMeth, StX.tStar, rIn, tLstRg, tRg1, tRg2, rSetI, rSortedSet, rInDT, rInD, rNotInD, rEqD, rNeD, iComb, tFld, tMake, tMkO, sFld, tOst, tNever, tBits, clv, isB,
  Rd.tFor_rng1, Rd.tFor_rng2, Rd.tFor_list, Rd.tFor_tup, Rd.tLc_list, Rd.tLc_tup, Rd.tLc_rng1, Rd.LcTurn, tYes, wipe, Rd.rLenL, Rd.rLenT, Rd.rIntI, Rd.rIxH, rIxHT,  HO.tup.injEq, Rd.at0, Rd.at1, Rd.at2, Rd.at3, Rd.ixN40, Rd.ixN41, Rd.ixN42, Rd.ixN43, Rd.scal_ii, cxOf,
  List.length_cons, List.length_nil, List.length_map, List.map_cons, List.map_nil, upd_same, decide_eq_true_eq, decide_true, decide_false, if_true, if_false, Bool.false_eq_true, Bool.not_true, Bool.not_false, HO.lst.injEq, HO.ins.injEq, List.set_cons_zero, List.set_cons_succ, List.getElem?_cons_zero, List.getElem?_cons_succ, List.append_nil, List.nil_append, List.cons_append, Option.some.injEq, V.ref.injEq, V.int.injEq, V.bl.injEq, List.cons.injEq, exists_eq_left', exists_and_left, exists_eq_left, true_and, and_true, and_self, and_assoc, implies_true, reduceCtorEq, Nat.reduceAdd])

/-! ### masks by reckoning -/
def pop (m : Nat) : Nat := (bits m).length
def cntL (n : Nat) : List Nat := (List.range n).map pop
theorem and_nat {x y : Nat} : Builtin.bitAnd (x : Int) (y : Int) = ((x &&& y : Nat) : Int) := by
  rw [bitAnd_pp (by omega) (by omega), Int.toNat_natCast, Int.toNat_natCast]
theorem or_nat {x y : Nat} : Builtin.bitOr (x : Int) (y : Int) = ((x ||| y : Nat) : Int) := by
  rw [bitOr_and, bitAnd_pp (by omega) (by omega), Int.toNat_natCast, Int.toNat_natCast]
  have := nat_or_add_and x y
  omega
theorem sub_iff {m t : Nat} : (Builtin.bitAnd (m : Int) (t : Int) = (m : Int)) ↔ Sub m t := by
  rw [and_nat]
  unfold Sub
  omega
theorem sub_trans {x y z : Nat} (a : Sub x y) (b : Sub y z) : Sub x z := by
  unfold Sub at *
  rw [← a, Nat.and_assoc, b]
theorem sub_zero (x : Nat) : Sub 0 x := Nat.zero_and x
theorem sub_le {x y : Nat} (a : Sub x y) : x ≤ y := a ▸ Nat.and_le_right
theorem pow64 {n : Nat} (h : n ≤ 6) : 2 ^ n ≤ 64 := Nat.le_trans (Nat.pow_le_pow_right (by decide) h) (by decide)
theorem pow_cast (n : Nat) : (1 : Int) * 2 ^ (n : Int).toNat = ((2 ^ n : Nat) : Int) := by
  rw [Int.toNat_natCast, Int.one_mul]
  rfl
theorem pbd {n : Nat} (h : n ≤ 6) : -(2 : Int) ^ 62 ≤ 1 * 2 ^ (n : Int).toNat ∧ (1 : Int) * 2 ^ (n : Int).toNat < 2 ^ 62 ∧ ((1 : Int) * 2 ^ (n : Int).toNat).toNat = 2 ^ n ∧ ((1 : Int) * 2 ^ (n : Int).toNat - 1).toNat = 2 ^ n - 1 := by
  rw [Int.toNat_natCast]
  have hn : n = 0 ∨ n = 1 ∨ n = 2 ∨ n = 3 ∨ n = 4 ∨ n = 5 ∨ n = 6 := by omega
  rcases hn with rfl | rfl | rfl | rfl | rfl | rfl | rfl <;> decide
theorem sum_cast : ∀ s : List Nat, (s.map fun g => ((2 ^ g : Nat) : Int)).sum = ((mk s : Nat) : Int)
  | [] => rfl
  | g :: s => by
    have := sum_cast s
    unfold mk at this ⊢
    rw [List.map_cons, List.sum_cons, this, List.map_cons, List.sum_cons]
    exact (Int.natCast_add _ _).symm
theorem cpw {n : Nat} (h : n ≤ 8) : CPow 1 (n : Int) := ⟨by omega, by omega, by decide⟩
theorem shr_mod (m k : Nat) : ((m : Int) / 2 ^ (k : Int).toNat) = ((m / 2 ^ k : Nat) : Int) := by
  rw [Int.toNat_natCast, Int.natCast_ediv]
  rfl
theorem pops : ((List.range 64).all fun m => decide (m = 0) || decide (pop m = pop (m / 2) + m % 2)) = true := by decide +kernel
theorem pop_at {m : Nat} (h : m < 64) (h0 : m ≠ 0) : pop m = pop (m / 2) + m % 2 := by
  have z := List.all_eq_true.mp pops m (List.mem_range.mpr h)
  simpa [h0] using z
theorem in_bool {S : List Bool} {m : Nat} (h : m < S.length) : atI (S.map V.bl) (m : Nat) = some (V.bl (In S m)) := by
  refine atI_nat ?_
  unfold In
  rw [List.getElem?_map, List.getElem?_eq_getElem h, List.getD_eq_getElem?_getD, List.getElem?_eq_getElem h]
  rfl
theorem ixN_of {n t : Nat} (h : t < n) : ixN n (t : Int) = some t := by
  unfold ixN
  split <;> first
    | (split <;> first | rfl | (simp; omega))
    | (simp; omega)
theorem in_set {S : List Bool} {t m : Nat} {b : Bool} (h : t < S.length) : In (S.set t b) m = if m = t then b else In S m := by
  unfold In
  rw [List.getD_eq_getElem?_getD, List.getElem?_set]
  by_cases e : t = m
  · subst e
    rw [if_pos rfl, if_pos rfl, if_pos h]
    rfl
  · rw [if_neg e, if_neg (fun z => e z.symm), List.getD_eq_getElem?_getD]
theorem iv_at {s : List Nat} {j g : Nat} (h : s[j]? = some g) : atI (iv s) (j : Nat) = some (V.int (g : Nat)) := atI_nat (by unfold iv; rw [List.getElem?_map, h]; rfl)
theorem cnt_at {N j : Nat} (h : j < N) : (cntL N)[j]? = some (pop j) := by
  unfold cntL
  rw [List.getElem?_map, List.getElem?_range h]
  rfl
theorem fam_zero {n : Nat} (n1 : 1 ≤ n) (n6 : n ≤ 6) : Fam n ((List.range (2 ^ n)).map fun m => decide (m = 0)) := by
  have val : ∀ m, In ((List.range (2 ^ n)).map fun m => decide (m = 0)) m = decide (m = 0) := fun m => by
    unfold In
    rw [List.getD_eq_getElem?_getD, List.getElem?_map]
    by_cases h : m < 2 ^ n
    · rw [List.getElem?_range h]; rfl
    · rw [List.getElem?_eq_none (by rw [List.length_range]; omega)]
      have : 0 < 2 ^ n := Nat.pow_pos (by decide)
      rw [decide_eq_false (by omega)]
      rfl
  refine ⟨n1, n6, by rw [List.length_map, List.length_range], by rw [val]; decide, fun m m' s h => ?_⟩
  rw [val] at h ⊢
  have h := of_decide_eq_true h
  have := sub_le s
  exact decide_eq_true (by omega)
section
variable {P : Program} {w : World} {K : PySem.W.Frag} {mg : Str → Option Value} {base : Heap} {a : Ad}
/-! ### _law_things, _law_mask -/
def spThings : Sp := fun vs H Q _ => ∃ (m : Nat), vs = [.int m] ∧ ∀ r H', H r = none → Same H H' → H' r = some (.tup (iv (bits m))) → Q (.ref r) H'
theorem sc_law_things : FnScope ["mask", "thing"] ["mask"] (defScope s_law_things) := ⟨rfl, rfl, rfl, by decide +kernel, rfl, by decide +kernel, by decide +kernel⟩
theorem ok_law_things (T : Txt K mg a) : FnOk P w K mg base CX0 1 a.a_law_things a.d_law_things ["mask"] spThings := by
  refine T.fn_law_things.ok sc_law_things (fun vs H Q E h => ?_) (fun cdv A outer s H vs Q E hr h => ?_)
  · obtain ⟨m, rfl, _⟩ := h
    rfl
  · obtain ⟨m, rfl, k⟩ := h
    refine ⟨_, (pss_one (ps_ret (pe_callTy call_tuple_of (by rfl) T.no_tuple (by decide +kernel) (pa_cons (pe_lc (own := [("thing", 1)]) (by rfl) sc_law_things.nd (pi_range1 (by rfl) T.no_range (pa_cons pe_int pa_nil)) (blkOk_by (own := [("thing", 1)]) (N := ["mask", "thing"]) (sc := defScope s_law_things) (by decide +kernel)) (fun _ _ _ _ _ => pg_name (i := 1) sc_law_things.nd rfl (Or.inl rfl)) (fun _ _ _ _ _ => pts_one (pt_cmpR op_eq (pe_op op_mod (pe_callTy Rd.call_intI (by rfl) T.no_int (by decide +kernel) (pa_cons (pe_op op_shr (pv 0) (pv 1)) pa_nil)) pe_int) pe_int (nomark _))) (fun _ _ _ _ _ => (pv 1))) pa_nil)))), ?_⟩
    show (_ : TS) _ [some (V.int m), none] H
    walk_at "rd"
    refine ⟨by decide, by decide, Rd.lcl_rng (fun D i H5 => H D = none ∧ Same H H5 ∧ H5 D = some (.lst (iv ((List.range i).filter (bit m))))) (fun D hD => ⟨hD, same_upd hD, upd_same⟩) (fun D i H5 hi ⟨n5, e5, a5⟩ => ?_) (fun D H5 _ ⟨n5, e5, a5⟩ => ?_)⟩
    · walk_at "rd"
      have iq : (0 + (i : Int)).toNat = i := by omega
      have bt : ((m : Int) / 2 ^ i % 2 = 1) = (bit m i = true) := by
        unfold bit
        rw [decide_eq_true_eq]
        have z : (m : Int) / 2 ^ i % 2 = ((m / 2 ^ i % 2 : Nat) : Int) := by
          rw [Int.natCast_emod, Int.natCast_ediv]
          rfl
        rw [z]
        exact propext ⟨fun h => by omega, fun h => by omega⟩
      have i6 : i < 6 := hi
      have fl : ((List.range i).filter (bit m)).length ≤ i := by
        have := List.length_filter_le (bit m) (List.range i)
        rwa [List.length_range] at this
      refine ⟨by omega, by decide, ?_⟩
      rw [iq, List.range_succ, List.filter_append]
      refine ite2 (fun h => ⟨_, a5, small (by rw [iv_len]; omega), n5, fun b o hb => (upd_ne (ne_of_none hb n5)).trans (e5 _ _ hb), ?_⟩) (fun h => ⟨n5, e5, ?_⟩)
      · rw [bt] at h
        rw [List.filter_cons_of_pos h, Int.zero_add]
        unfold iv
        rw [List.map_append]
        rfl
      · rw [bt] at h
        rw [List.filter_cons_of_neg h, List.filter_nil, List.append_nil]
        exact a5
    · exact ⟨D, rfl, _, .inl ⟨SqL.of a5, fun r hr => k r _ (e5.free hr) (e5.trans (same_upd hr)) upd_same⟩⟩
end

end K19
namespace K19
open PySem PySem.Spec PyProof.Rows L2 Own OwnSeq OwnSet OwnComb OwnSort OwnHot OwnExN OwnProj
local macro_rules | `(tactic| walk_at "rd") => `(tactic| simp only [tSeq, tAsg, tOp, tUn, tVar, gName, gSub, rIxL, rIxT, rSetL, tC, rI0, rI, rU, rEq, rNe, tCons, tNil, tCB, tLst, tTup, tIfS, tAnd, tOr, tNot, tAndV, tOrV, tNotV, tTest, tB, tIf, tRet, tDrop, tNext, tBreak, tCont, tCall, tCallS, L2.WE, tMakeS, rIsS, rIsB, tChain, gSeq, gRest, gCons, gNil, tFor_seq, tFor_enumS, tLc_seq, tLc_enumS, rAny, rAll, L2.tMeth, StX.tStar, rIn, tLstRg, tRg1, tRg2, rSetI, rSortedSet, rInDT, rInD, rNotInD, rEqD, rNeD, iComb, tFld, tMake, tMkO, sFld, tOst, tNever, tBits, clv, isB,
  Rd.tFor_rng1, Rd.tFor_rng2, Rd.tFor_list, Rd.tFor_tup, Rd.tLc_list, Rd.tLc_tup, Rd.tLc_rng1, Rd.LcTurn, tYes, wipe, Rd.rLenL, Rd.rLenT, Rd.rIntI, Rd.rIxH, rIxHT,  HO.tup.injEq, Rd.at0, Rd.at1, Rd.at2, Rd.at3, Rd.ixN40, Rd.ixN41, Rd.ixN42, Rd.ixN43, Rd.scal_ii, cxOf,
  List.length_cons, List.length_nil, List.length_map, List.map_cons, List.map_nil, upd_same, decide_eq_true_eq, decide_true, decide_false, if_true, if_false, Bool.false_eq_true, Bool.not_true, Bool.not_false, HO.lst.injEq, HO.ins.injEq, List.set_cons_zero, List.set_cons_succ, List.getElem?_cons_zero, List.getElem?_cons_succ, List.append_nil, List.nil_append, List.cons_append, Option.some.injEq, V.ref.injEq, V.int.injEq, V.bl.injEq, List.cons.injEq, exists_eq_left', exists_and_left, exists_eq_left, true_and, and_true, and_self, and_assoc, implies_true, reduceCtorEq, Nat.reduceAdd])

section
variable {P : Program} {w : World} {K : PySem.W.Frag} {mg : Str → Option Value} {base : Heap} {a : Ad}
/-! ### joined, rest_of -/
def spJoined : Sp := fun vs H Q _ => ∃ (p q : Addr) (l l' : Bool) (s t : List Nat), vs = [.ref p, .ref q] ∧ H p = some (sq l (iv s)) ∧ H q = some (sq l' (iv t)) ∧ s.length ≤ 6 ∧ t.length ≤ 6 ∧
  ∀ r u H', H r = none → Same H H' → u.Pairwise (· < ·) → (∀ g, g ∈ u ↔ g ∈ s ∨ g ∈ t) → H' r = some (.tup (iv u)) → Q (.ref r) H'
theorem sc_joined : FnScope ["one", "other"] ["one", "other"] (defScope s_joined) := ⟨rfl, rfl, rfl, by decide +kernel, rfl, by decide +kernel, by decide +kernel⟩
theorem ok_joined (T : Txt K mg a) : FnOk P w K mg base CX0 1 a.a_joined a.d_joined ["one", "other"] spJoined := by
  refine T.fn_joined.ok sc_joined (fun vs H Q E h => ?_) (fun cdv A outer s H vs Q E hr h => ?_)
  · obtain ⟨p, q, l, l', s, t, rfl, _⟩ := h
    rfl
  · obtain ⟨p, q, l, l', s, t, rfl, hp, hq, h6, h6', k⟩ := h
    refine ⟨_, (pss_one (ps_ret (pe_callTy call_tuple_of (by rfl) T.no_tuple (by decide +kernel) (pa_cons (pe_callB (cr_sortedSet rfl) (by rfl) T.no_sorted (by decide +kernel) (pa_cons (pe_callTy (OwnSet.cr_setI rfl) (by rfl) T.no_set (by decide +kernel) (pa_cons (pe_lst (StX.pa_star (pv 0) (StX.pa_star (pv 1) pa_nil))) pa_nil)) pa_nil)) pa_nil)))), ?_⟩
    show (_ : TS) _ [some (V.ref p), some (V.ref q)] H
    walk_at "rd"
    have ln : (iv s ++ iv t).length ≤ 12 := by rw [List.length_append, iv_len, iv_len]; omega
    have e0 : iv s ++ iv t = ((s ++ t).map fun g => ((g : Nat) : Int)).map V.int := by
      unfold iv
      rw [← List.map_append, List.map_map]
      rfl
    refine ⟨_, seqOr' hp, _, seqOr' hq, small_le (by omega), fun d hd => ⟨(s ++ t).map fun g => ((g : Nat) : Int), SqL.of (by rw [upd_same, e0]), by rw [List.length_map, List.length_append]; omega, fun x n hx hn => ⟨_, n, rfl, ?_, fun ns y pw mem nl hy => ⟨_, .inl ⟨SqL.of upd_same, fun z hz => ?_⟩⟩⟩⟩⟩
    · rw [List.length_map, List.length_append] at hn
      omega
    · have m : ∀ j ∈ ns, ∃ g, (g ∈ s ∨ g ∈ t) ∧ j = ((g : Nat) : Int) := fun j hj => by
        have z := of_decide_eq_true ((mem j).mp hj)
        obtain ⟨g, hg, rfl⟩ := List.mem_map.mp z
        exact ⟨g, List.mem_append.mp hg, rfl⟩
      have c : ns = (ns.map Int.toNat).map fun g => ((g : Nat) : Int) := by
        rw [List.map_map]
        refine (List.map_id ns).symm.trans (List.map_congr_left fun j hj => ?_)
        obtain ⟨g, _, rfl⟩ := m j hj
        exact (congrArg _ (Int.toNat_natCast g)).symm
      have s1 := same_upd (o := .lst (iv s ++ iv t)) hd
      have s2 := same_upd (o := SetO w x (fun j => decide (j ∈ (s ++ t).map fun g => ((g : Nat) : Int))) n) hx
      have s3 := same_upd (o := .lst (ns.map V.int)) hy
      refine k z (ns.map Int.toNat) _ ((((s1.trans s2).trans s3)).free hz) (((s1.trans s2).trans s3).trans (same_upd hz)) ?_ (fun g => ?_) ?_
      · rw [c] at pw
        exact (List.pairwise_map.mp pw).imp fun h => by simpa using h
      · refine ⟨fun h => ?_, fun h => ?_⟩
        · obtain ⟨j, hj, rfl⟩ := List.mem_map.mp h
          obtain ⟨g, hg, rfl⟩ := m j hj
          rw [Int.toNat_natCast]
          exact hg
        · exact List.mem_map.mpr ⟨(g : Int), (mem _).mpr (decide_eq_true (List.mem_map.mpr ⟨g, List.mem_append.mpr h, rfl⟩)), Int.toNat_natCast g⟩
      · have c2 : iv (ns.map Int.toNat) = ns.map V.int := by
          unfold iv
          rw [List.map_map]
          refine List.map_congr_left fun j hj => ?_
          obtain ⟨g, _, rfl⟩ := m j hj
          exact congrArg (fun g : Nat => V.int (g : Int)) (Int.toNat_natCast g)
        rw [upd_same, c2]
def restL (s t : List Nat) : List Nat := s.filter fun g => !t.contains g
def spRest : Sp := fun vs H Q _ => ∃ (p q : Addr) (l l' : Bool) (s t : List Nat), vs = [.ref p, .ref q] ∧ H p = some (sq l (iv s)) ∧ H q = some (sq l' (iv t)) ∧ s.length ≤ 6 ∧ ∀ r H', H r = none → Same H H' → H' r = some (.tup (iv (restL s t))) → Q (.ref r) H'
theorem sc_rest_of : FnScope ["things", "out", "thing"] ["things", "out"] (defScope s_rest_of) := ⟨rfl, rfl, rfl, by decide +kernel, rfl, by decide +kernel, by decide +kernel⟩
theorem ok_rest_of (T : Txt K mg a) : FnOk P w K mg base CX0 1 a.a_rest_of a.d_rest_of ["things", "out"] spRest := by
  refine T.fn_rest_of.ok sc_rest_of (fun vs H Q E h => ?_) (fun cdv A outer s H vs Q E hr h => ?_)
  · obtain ⟨p, q, l, l', s, t, rfl, _⟩ := h
    rfl
  · obtain ⟨p, q, l, l', s, t, rfl, hp, hq, h6, k⟩ := h
    refine ⟨_, (pss_one (ps_ret (pe_callTy call_tuple_of (by rfl) T.no_tuple (by decide +kernel) (pa_cons (pe_lc (own := [("thing", 2)]) (by rfl) sc_rest_of.nd (pi_seq (pv 0)) (blkOk_by (own := [("thing", 2)]) (N := ["things", "out", "thing"]) (sc := defScope s_rest_of) (by decide +kernel)) (fun _ _ _ _ _ => pg_name (i := 2) sc_rest_of.nd rfl (Or.inl rfl)) (fun _ _ _ _ _ => pts_one (pt_cmpR (op_notInK K) (pv 2) (pv 1) (by with_unfolding_all rfl))) (fun _ _ _ _ _ => (pv 2))) pa_nil)))), ?_⟩
    show (_ : TS) _ [some (V.ref p), some (V.ref q), none] H
    walk_at "rd"
    refine ⟨l, _, hp, lcl_goes goes_seq (fun D i H5 => H D = none ∧ Same H H5 ∧ H5 D = some (.lst (iv (restL (s.take i) t)))) (fun D hD => ⟨hD, same_upd hD, upd_same⟩)
      (fun D i H5 _ h => h.2.1 _ _ hp) (fun D i x H5 H5' hi ⟨n5, e5, a5⟩ ⟨eq5, hx⟩ => ?_) (fun D H5 _ ⟨n5, e5, a5⟩ => ?_)⟩
    · subst eq5
      rw [iv_len] at hi
      obtain ⟨g, hg, rfl⟩ : ∃ g, s[i]? = some g ∧ x = V.int (g : Nat) := by
        unfold iv at hx
        rw [List.getElem?_map] at hx
        cases z : s[i]? with
        | none => rw [z] at hx; cases hx
        | some g => rw [z] at hx; exact ⟨g, rfl, (Option.some.inj hx).symm⟩
      walk_at "rd"
      refine ⟨_, seqOr (e5 _ _ hq), rfl, iv_flat t, ?_⟩
      have st : restL (s.take (i + 1)) t = restL (s.take i) t ++ (if t.contains g = true then [] else [g]) := by
        unfold restL
        rw [List.take_add_one, hg, List.filter_append]
        cases z : t.contains g with
        | true => rw [show (some g).toList = [g] from rfl, List.filter_cons_of_neg (by rw [z]; decide)]; rfl
        | false => rw [show (some g).toList = [g] from rfl, List.filter_cons_of_pos (by rw [z]; decide)]; rfl
      rw [inV_iv, st]
      cases z : t.contains g with
      | true =>
        rw [if_neg (by decide), if_pos rfl, List.append_nil]
        exact ⟨n5, e5, a5⟩
      | false =>
        rw [if_pos (by decide), if_neg (by decide)]
        refine ⟨_, a5, small ?_, n5, fun b o hb => (upd_ne (ne_of_none hb n5)).trans (e5 _ _ hb), ?_⟩
        · rw [iv_len]
          have := List.length_filter_le (fun g => !t.contains g) (s.take i)
          rw [List.length_take] at this
          show (restL (s.take i) t).length < 1000
          unfold restL
          omega
        · unfold iv
          rw [List.map_append]
          rfl
    · rw [iv_len, List.take_length] at a5
      exact ⟨D, rfl, _, .inl ⟨SqL.of a5, fun r hr => k r _ (e5.free hr) (e5.trans (same_upd hr)) upd_same⟩⟩
end

end K19
namespace K19
open PySem PySem.Spec PyProof.Rows L2 Own OwnSeq OwnSet OwnComb OwnSort OwnHot OwnExN OwnProj
local macro_rules | `(tactic| walk_at "rd") => `(tactic| simp only [tSeq, tAsg, tOp, tUn, tVar, gName, gSub, rIxL, rIxT, rSetL, tC, rI0, rI, rU, rEq, rNe, tCons, tNil, tCB, tLst, tTup, tIfS, tAnd, tOr, tNot, tAndV, tOrV, tNotV, tTest, tB, tIf, tRet, tDrop, tNext, tBreak, tCont, tCall, tCallS, L2.WE, tMakeS, rIsS, rIsB, tChain, gSeq, gRest, gCons, gNil, tFor_seq, tFor_enumS, tLc_seq, tLc_enumS, rAny, rAll, L2.tMeth, StX.tStar, rIn, tLstRg, tRg1, tRg2, rSetI, rSortedSet, rInDT, rInD, rNotInD, rEqD, rNeD, iComb, tFld, tMake, tMkO, sFld, tOst, tNever, tBits, clv, isB,
  Rd.tFor_rng1, Rd.tFor_rng2, Rd.tFor_list, Rd.tFor_tup, Rd.tLc_list, Rd.tLc_tup, Rd.tLc_rng1, Rd.LcTurn, tYes, wipe, Rd.rLenL, Rd.rLenT, Rd.rIntI, Rd.rIxH, rIxHT,  HO.tup.injEq, Rd.at0, Rd.at1, Rd.at2, Rd.at3, Rd.ixN40, Rd.ixN41, Rd.ixN42, Rd.ixN43, Rd.scal_ii, cxOf,
  List.length_cons, List.length_nil, List.length_map, List.map_cons, List.map_nil, upd_same, decide_eq_true_eq, decide_true, decide_false, if_true, if_false, Bool.false_eq_true, Bool.not_true, Bool.not_false, HO.lst.injEq, HO.ins.injEq, List.set_cons_zero, List.set_cons_succ, List.getElem?_cons_zero, List.getElem?_cons_succ, List.append_nil, List.nil_append, List.cons_append, Option.some.injEq, V.ref.injEq, V.int.injEq, V.bl.injEq, List.cons.injEq, exists_eq_left', exists_and_left, exists_eq_left, true_and, and_true, and_self, and_assoc, implies_true, reduceCtorEq, Nat.reduceAdd])

/-- the things that can be added -/
def addL (n : Nat) (S : List Bool) (s : List Nat) : List Nat := (restL (List.range n) s).filter fun g => In S (mk s + 2 ^ g)
def joinB (n : Nat) (s : List Nat) (g : Nat) : Bool := s.contains g || (decide (bits (mk s + 2 ^ g) ∈ allS n) && decide (mk (bits (mk s + 2 ^ g)) = mk s + 2 ^ g) && (List.range 6).all fun x => (bits (mk s + 2 ^ g)).contains x == (s.contains x || x == g))
theorem join_all : ((List.range 7).all fun n => (allS n).all fun s => (List.range n).all fun g => joinB n s g) = true := by decide +kernel
theorem asc_pw : ∀ {s : List Nat}, asc s = true → s.Pairwise (· < ·)
  | [], _ => .nil
  | x :: s, h => by
    obtain ⟨a, b⟩ := Bool.and_eq_true_iff.mp h
    exact .cons (fun y hy => of_decide_eq_true (List.all_eq_true.mp a y hy)) (asc_pw b)
theorem asc_ext {s t : List Nat} (hs : s.Pairwise (· < ·)) (ht : t.Pairwise (· < ·)) (h : ∀ g, g ∈ s ↔ g ∈ t) : s = t :=
  List.Perm.eq_of_pairwise (le := fun x y => x < y) (fun a b _ _ x y => absurd x (Nat.lt_asymm y)) hs ht ((List.perm_ext_iff_of_nodup (hs.imp Nat.ne_of_lt) (ht.imp Nat.ne_of_lt)).mpr h)
/-- one thing more -/
theorem join_at {n : Nat} {s u : List Nat} {g : Nat} (h : n ≤ 6) (hs : s ∈ allS n) (hg : g < n) (ns : ¬ g ∈ s) (hu : u.Pairwise (· < ·)) (mem : ∀ x, x ∈ u ↔ x ∈ s ∨ x = g) : u ∈ allS n ∧ mk u = mk s + 2 ^ g := by
  have y := List.all_eq_true.mp (List.all_eq_true.mp (List.all_eq_true.mp join_all n (List.mem_range.mpr (by omega))) s hs) g (List.mem_range.mpr hg)
  unfold joinB at y
  rw [show s.contains g = false by simpa using ns] at y
  simp only [Bool.false_or, Bool.and_eq_true, decide_eq_true_eq] at y
  obtain ⟨⟨y1, y2⟩, y3⟩ := y
  have al := allS_at hs h
  have bl := allS_at y1 h
  have e : u = bits (mk s + 2 ^ g) := asc_ext hu (asc_pw bl.2.2.2.2) fun x => by
    rw [mem]
    by_cases x6 : x < 6
    · have z := List.all_eq_true.mp y3 x (List.mem_range.mpr x6)
      have z := beq_iff_eq.mp z
      rw [← List.contains_iff_mem (as := bits _), z]
      simp
    · refine ⟨fun k => ?_, fun k => ?_⟩
      · rcases k with k | k
        · have := al.2.2.1 x k; omega
        · omega
      · have := bl.2.2.1 x k
        omega
  rw [e]
  exact ⟨y1, y2⟩
theorem rg_iv (n : Nat) : rgV 0 n = iv (List.range n) := by
  unfold rgV iv
  rw [show ((n : Int) - 0).toNat = n by omega]
  exact List.map_congr_left fun j hj => by rw [Int.zero_add]
theorem rest_mem {s t : List Nat} {g : Nat} : g ∈ restL s t ↔ g ∈ s ∧ ¬ g ∈ t := by
  unfold restL
  rw [List.mem_filter]
  simp
theorem rest_len (s t : List Nat) : (restL s t).length ≤ s.length := List.length_filter_le _ _
theorem add_len (n : Nat) (S : List Bool) (s : List Nat) : (addL n S s).length ≤ n := by
  have a := rest_len (List.range n) s
  rw [List.length_range] at a
  exact Nat.le_trans (List.length_filter_le _ _) a
theorem find_map_none {l : List (List Nat)} {p : List Nat → Bool} : True := trivial
theorem findSome_at {α β : Type} {f : α → Option β} : ∀ {l : List α} {i : Nat} {x : α} {y : β}, l[i]? = some x → f x = some y → (∀ z ∈ l.take i, f z = none) → l.findSome? f = some y
  | a :: l, 0, x, y, h, e, _ => by
    cases Option.some.inj h
    rw [List.findSome?_cons, e]
  | a :: l, i + 1, x, y, h, e, no => by
    rw [List.findSome?_cons, no a List.mem_cons_self]
    exact findSome_at (l := l) (i := i) h e fun z hz => no z (List.mem_cons_of_mem _ hz)
theorem find_at' {α : Type} {p : α → Bool} : ∀ {l : List α} {i : Nat} {x : α}, l[i]? = some x → p x = true → (∀ z ∈ l.take i, p z = false) → l.find? p = some x
  | a :: l, 0, x, h, e, _ => by
    cases Option.some.inj h
    rw [List.find?_cons, e]
  | a :: l, i + 1, x, h, e, no => by
    rw [List.find?_cons, no a List.mem_cons_self]
    exact find_at' (l := l) (i := i) h e fun z hz => no z (List.mem_cons_of_mem _ hz)
section
variable {P : Program} {w : World} {K : PySem.W.Frag} {mg : Str → Option Value} {base : Heap} {a : Ad}
/-! ### addable -/
def spAdd (C : Addr) : Sp := fun vs H Q _ => ∃ (f p : Addr) (l : Bool) (n : Nat) (S : List Bool) (s : List Nat), vs = [.ref f, .ref p] ∧ FamV C H f n S ∧ H p = some (sq l (iv s)) ∧ s ∈ famL n S ∧
  ∀ r H', H r = none → Same H H' → H' r = some (.tup (iv (addL n S s))) → Q (.ref r) H'
theorem sc_Family_addable : FnScope ["self", "taken", "others", "thing"] ["self", "taken"] (defScope s_Family_addable) := ⟨rfl, rfl, rfl, by decide +kernel, rfl, by decide +kernel, by decide +kernel⟩
theorem ok_Family_addable (T : Txt K mg a) : FnOk P w K mg base CX0 3 a.a_Family_addable a.d_Family_addable ["self", "taken"] (spAdd a.C_Family) := by
  refine T.fn_Family_addable.ok sc_Family_addable (fun vs H Q E h => ?_) (fun cdv A outer s H vs Q E hr h => ?_)
  · obtain ⟨f, p, l, n, S, s, rfl, _⟩ := h
    rfl
  · obtain ⟨f, p, l, n, S, s', rfl, F, hp, hs, k⟩ := h
    refine ⟨_, (pss_cons (ps_set (i := 2) sc_Family_addable.nd rfl (Or.inl rfl) (pe_call (ok_rest_of T) (hr.mono (by decide)) (by rfl) T.mg_rest_of T.fn_rest_of.kp T.b_rest_of .nil pass0 (pa_cons (pe_listRg rfl (by rfl) T.no_list (prg_1 (by rfl) T.no_range (pe_fldK K (pv 0)))) (pa_cons (pv 1) pa_nil))))
      (pss_one (ps_ret (pe_callTy call_tuple_of (by rfl) T.no_tuple (by decide +kernel) (pa_cons (pe_lc (own := [("thing", 3)]) (by rfl) sc_Family_addable.nd (pi_seq (pv 2)) (blkOk_by (own := [("thing", 3)]) (N := ["self", "taken", "others", "thing"]) (sc := defScope s_Family_addable) (by decide +kernel)) (fun _ _ _ _ _ => pg_name (i := 3) sc_Family_addable.nd rfl (Or.inl rfl)) (fun _ _ _ _ _ => pts_one (pt_cmpR (inDT_at K (u65 hr)) (pe_call (ok_joined T) (hr.mono (by decide)) (by rfl) T.mg_joined T.fn_joined.kp T.b_joined .nil pass0 (pa_cons (pv 1) (pa_cons (pe_tup (pa_cons (pv 3) pa_nil)) pa_nil))) (pe_fldK K (pv 0)) (by with_unfolding_all rfl))) (fun _ _ _ _ _ => (pv 3))) pa_nil))))), ?_⟩
    show (_ : TS) _ [some (V.ref f), some (V.ref p), none, none] H
    walk_at "rd"
    obtain ⟨dx, t, ys, hf, ht, tv⟩ := F.ob
    have sa := allS_at (famL_mem.mp hs).1 F.fam.n6
    have n6 := F.fam.n6
    refine ⟨_, dx, ff t n, hf, T.cl_Family, T.na_Family_size, _, ff_size t n, n, rfl, RgOk.of_le (by decide) (by omega) (by decide) (by omega), fun q hq => ?_⟩
    have eq1 := same_upd (o := .lst (rgV 0 n)) hq
    refine ⟨q, p, true, l, List.range n, s', rfl, by rw [upd_same, rg_iv]; rfl, eq1 _ _ hp, by rw [List.length_range]; exact n6, fun r H1 r0 e1 hr1 => ⟨r, rfl, false, _, hr1, ?_⟩⟩
    have e01 := eq1.trans e1
    refine lcl_goes goes_seq (fun D i H' => H1 D = none ∧ Same H1 H' ∧ H' D = some (.lst (iv (((restL (List.range n) s').take i).filter fun g => In S (mk s' + 2 ^ g))))) (fun D hD => ⟨hD, same_upd hD, upd_same⟩)
      (fun D i H' _ h => h.2.1 _ _ hr1) (fun D i x H5 H5' hi ⟨n5, e5, a5⟩ ⟨eq5, hx⟩ => ?_) (fun D H5 _ ⟨n5, e5, a5⟩ => ?_)
    · subst eq5
      obtain ⟨g, hg, rfl⟩ := at_iv hx
      have gm := rest_mem.mp (List.mem_of_getElem? hg)
      have gn := List.mem_range.mp gm.1
      have il := (List.getElem?_eq_some_iff.mp hg).1
      have rl := rest_len (List.range n) s'
      rw [List.length_range] at rl
      walk_at "rd"
      refine ⟨by decide, fun u hu => ?_⟩
      have eu := same_upd (o := .tup [V.int (g : Nat)]) hu
      refine ⟨p, u, l, false, s', [g], rfl, eu _ _ (e5 _ _ (e01 _ _ hp)), upd_same, Nat.le_trans sa.2.2.2.1 n6, by show 1 ≤ 6; decide, fun v us H6 v0 e6 pw mem hv => ?_⟩
      have e56 := eu.trans e6
      have e06 := (e01.trans e5).trans e56
      obtain ⟨j1, j2⟩ := join_at n6 (famL_mem.mp hs).1 gn gm.2 pw fun x => by rw [mem, List.mem_singleton]
      refine ⟨_, dx, ff t n, e06 _ _ hf, T.cl_Family, T.na_Family_sets, _, ff_sets t n, _, dp_set hv, _, .tup (SqT.of (e06 _ _ ht)) (dp_sets (tv.same e06)), sh_set _, sh_tup _, ?_⟩
      have a6 := e56 _ _ a5
      have s6 := e5.trans e56
      have nx : ((restL (List.range n) s').take (i + 1)).filter (fun g => In S (mk s' + 2 ^ g)) = ((restL (List.range n) s').take i).filter (fun g => In S (mk s' + 2 ^ g)) ++ (if In S (mk s' + 2 ^ g) = true then [g] else []) := by
        rw [List.take_add_one, hg, List.filter_append]
        cases z : In S (mk s' + 2 ^ g) with
        | true => rw [show (some g).toList = [g] from rfl, List.filter_cons_of_pos (p := fun g => In S (mk s' + 2 ^ g)) z]; rfl
        | false => rw [show (some g).toList = [g] from rfl, List.filter_cons_of_neg (p := fun g => In S (mk s' + 2 ^ g)) (by rw [z]; decide)]; rfl
      have c : (famL n S).contains us = In S (mk s' + 2 ^ g) := by
        rw [← j2, Bool.eq_iff_iff, List.contains_iff_mem, famL_mem]
        exact ⟨fun z => z.2, fun z => ⟨j1, z⟩⟩
      rw [any_sets, c, nx]
      cases z : In S (mk s' + 2 ^ g) with
      | true =>
        rw [if_pos rfl, if_pos rfl]
        refine ⟨_, a6, small ?_, n5, fun b o hb => (upd_ne (ne_of_none hb n5)).trans (s6 _ _ hb), ?_⟩
        · rw [iv_len]
          have := List.length_filter_le (fun g => In S (mk s' + 2 ^ g)) ((restL (List.range n) s').take i)
          rw [List.length_take] at this
          omega
        · unfold iv
          rw [List.map_append]
          rfl
      | false =>
        rw [if_neg (by decide), if_neg (by decide), List.append_nil]
        exact ⟨n5, s6, a6⟩
    · rw [iv_len, List.take_length] at a5
      exact ⟨D, rfl, _, .inl ⟨SqL.of a5, fun u hu => k u _ (e01.free (e5.free hu)) ((e01.trans e5).trans (same_upd hu)) upd_same⟩⟩
end

end K19
namespace K19
open PySem PySem.Spec PyProof.Rows L2 Own OwnSeq OwnSet OwnComb OwnSort OwnHot OwnExN OwnProj
local macro_rules | `(tactic| walk_at "rd") => `(tactic| simp only [tSeq, tAsg, tOp, tUn, tVar, gName, gSub, rIxL, rIxT, rSetL, tC, rI0, rI, rU, rEq, rNe, tCons, tNil, tCB, tLst, tTup, tIfS, tAnd, tOr, tNot, tAndV, tOrV, tNotV, tTest, tB, tIf, tRet, tDrop, tNext, tBreak, tCont, tCall, tCallS, L2.WE, tMakeS, rIsS, rIsB, tChain, gSeq, gRest, gCons, gNil, tFor_seq, tFor_enumS, tLc_seq, tLc_enumS, rAny, rAll, L2.tMeth, StX.tStar, rIn, tLstRg, tRg1, tRg2, rSetI, rSortedSet, rInDT, rInD, rNotInD, rEqD, rNeD, iComb, tFld, tMake, tMkO, sFld, tOst, tNever, tBits, clv, isB,
  Rd.tFor_rng1, Rd.tFor_rng2, Rd.tFor_list, Rd.tFor_tup, Rd.tLc_list, Rd.tLc_tup, Rd.tLc_rng1, Rd.LcTurn, tYes, wipe, Rd.rLenL, Rd.rLenT, Rd.rIntI, Rd.rIxH, rIxHT,  HO.tup.injEq, Rd.at0, Rd.at1, Rd.at2, Rd.at3, Rd.ixN40, Rd.ixN41, Rd.ixN42, Rd.ixN43, Rd.scal_ii, cxOf,
  List.length_cons, List.length_nil, List.length_map, List.map_cons, List.map_nil, upd_same, decide_eq_true_eq, decide_true, decide_false, if_true, if_false, Bool.false_eq_true, Bool.not_true, Bool.not_false, HO.lst.injEq, HO.ins.injEq, List.set_cons_zero, List.set_cons_succ, List.getElem?_cons_zero, List.getElem?_cons_succ, List.append_nil, List.nil_append, List.cons_append, Option.some.injEq, V.ref.injEq, V.int.injEq, V.bl.injEq, List.cons.injEq, exists_eq_left', exists_and_left, exists_eq_left, true_and, and_true, and_self, and_assoc, implies_true, reduceCtorEq, Nat.reduceAdd])

theorem famL_len {n : Nat} {S : List Bool} (h : n ≤ 6) : (famL n S).length ≤ 2 ^ n := by
  have := List.length_filter_le (fun s => In S (mk s)) (allS n)
  rw [allS_len h] at this
  exact this
theorem Tups.get {H : Hp} {xs : List V} {gs : List (List Nat)} {i : Nat} {g : List Nat} (h : Tups H xs gs) (hg : gs[i]? = some g) : ∃ q, xs[i]? = some (.ref q) ∧ H q = some (.tup (iv g)) := by
  have il := (List.getElem?_eq_some_iff.mp hg).1
  have e := List.getElem?_eq_getElem (l := xs) (i := i) (by rw [h.len]; exact il)
  obtain ⟨g', hg', q, hq, a⟩ := h.at e
  rw [hg] at hg'
  rw [e, hq]
  exact ⟨q, rfl, Option.some.inj hg' ▸ a⟩
theorem lenK {X : Cx} (K : PySem.W.Frag) (hK : X.K = K := by rfl) : CallR X (.builtin "len") fun xs H Q => ∃ p ys, xs = [V.ref p] ∧ (SqL K H p ys ∨ SqT K H p ys) ∧ Q (V.int ys.length) H := by
  subst hK
  exact call_len_seq
theorem maxK {X : Cx} (K : PySem.W.Frag) (hc : X.calm = true := by rfl) (hK : X.K = K := by rfl) : CallR X (.builtin "max") (rMax K) := by
  subst hK
  exact cr_max hc
def mxL (l : List Nat) : Nat := l.foldr max 0
theorem mxL_le {l : List Nat} {m : Nat} (h : ∀ x ∈ l, x ≤ m) : mxL l ≤ m := by
  induction l with
  | nil => exact Nat.zero_le _
  | cons x l ih => exact Nat.max_le.mpr ⟨h x List.mem_cons_self, ih fun y hy => h y (List.mem_cons_of_mem _ hy)⟩
theorem le_mxL {l : List Nat} {x : Nat} (h : x ∈ l) : x ≤ mxL l := by
  induction l with
  | nil => cases h
  | cons y l ih =>
    rcases List.mem_cons.mp h with e | h
    · rw [e]
      exact Nat.le_max_left _ _
    · exact Nat.le_trans (ih h) (Nat.le_max_right _ _)
theorem mxL_mem {l : List Nat} (h : l ≠ []) : mxL l ∈ l := by
  induction l with
  | nil => exact absurd rfl h
  | cons y l ih =>
    by_cases e : l = []
    · subst e
      show max y 0 ∈ [y]
      rw [Nat.max_eq_left (Nat.zero_le _)]
      exact List.mem_cons_self
    · show max y (mxL l) ∈ y :: l
      rcases Nat.le_total y (mxL l) with z | z
      · rw [Nat.max_eq_right z]
        exact List.mem_cons_of_mem _ (ih e)
      · rw [Nat.max_eq_left z]
        exact List.mem_cons_self
/-- the rank of a set of things -/
def rk (S : List Bool) (M : Nat) : Nat := mxL (((List.range 64).filter fun x => In S x && decide (Sub x M)).map pop)
theorem Fam.lt {n : Nat} {S : List Bool} (F : Fam n S) {m : Nat} (h : In S m = true) : m < 2 ^ n := by
  rcases Nat.lt_or_ge m S.length with z | z
  · rw [F.len] at z
    exact z
  · unfold In at h
    rw [List.getD_eq_getElem?_getD, List.getElem?_eq_none z] at h
    cases h
theorem rk_mem {S : List Bool} {M y : Nat} : y ∈ ((List.range 64).filter fun x => In S x && decide (Sub x M)).map pop ↔ ∃ x, x < 64 ∧ In S x = true ∧ Sub x M ∧ pop x = y := by
  rw [List.mem_map]
  refine ⟨fun ⟨x, h, e⟩ => ?_, fun ⟨x, h, a, b, e⟩ => ⟨x, List.mem_filter.mpr ⟨List.mem_range.mpr h, by rw [a, decide_eq_true b]; rfl⟩, e⟩⟩
  obtain ⟨a, b⟩ := List.mem_filter.mp h
  obtain ⟨b1, b2⟩ := Bool.and_eq_true_iff.mp b
  exact ⟨x, List.mem_range.mp a, b1, of_decide_eq_true b2, e⟩
theorem rk_ge {n : Nat} {S : List Bool} {M x : Nat} (F : Fam n S) (h : In S x = true) (s : Sub x M) : pop x ≤ rk S M :=
  le_mxL (rk_mem.mpr ⟨x, Nat.lt_of_lt_of_le (F.lt h) (pow64 F.n6), h, s, rfl⟩)
theorem rk_at {n : Nat} {S : List Bool} {M : Nat} (F : Fam n S) : ∃ x, In S x = true ∧ Sub x M ∧ pop x = rk S M := by
  have z : pop 0 ∈ ((List.range 64).filter fun x => In S x && decide (Sub x M)).map pop := rk_mem.mpr ⟨0, by decide, F.zero, sub_zero M, rfl⟩
  obtain ⟨x, _, a, b, c⟩ := rk_mem.mp (mxL_mem (List.ne_nil_of_mem z))
  exact ⟨x, a, b, c⟩
theorem rk_eq {n : Nat} {S : List Bool} {M m : Nat} (F : Fam n S) (h1 : ∃ x, In S x = true ∧ Sub x M ∧ pop x = m) (h2 : ∀ x, In S x = true → Sub x M → pop x ≤ m) : m = rk S M := by
  obtain ⟨x, a, b, c⟩ := h1
  obtain ⟨y, d, e, f⟩ := rk_at F (M := M)
  have := rk_ge F a b
  have := h2 y d e
  omega
theorem pop_len {n : Nat} {s : List Nat} (n6 : n ≤ 6) (hs : s ∈ allS n) : pop (mk s) = s.length := by
  unfold pop
  rw [(allS_at hs n6).1]
section
variable {P : Program} {w : World} {K : PySem.W.Frag} {mg : Str → Option Value} {base : Heap} {a : Ad}
/-! ### Family.rank -/
def spRank (C : Addr) : Sp := fun vs H Q _ => ∃ (f p n : Nat) (l : Bool) (S : List Bool) (t : List Nat), vs = [.ref f, .ref p] ∧ FamV C H f n S ∧ H p = some (sq l (iv t)) ∧ t ∈ allS n ∧ ∀ H', Same H H' → Q (.int (rk S (mk t) : Nat)) H'
theorem sc_Family_rank : FnScope ["self", "things", "held"] ["self", "things"] (defScope s_Family_rank) := ⟨rfl, rfl, rfl, by decide +kernel, rfl, by decide +kernel, by decide +kernel⟩
theorem ok_Family_rank (T : Txt K mg a) : FnOk P w K mg base CX0 2 a.a_Family_rank a.d_Family_rank ["self", "things"] (spRank a.C_Family) := by
  refine T.fn_Family_rank.ok sc_Family_rank (fun vs H Q E h => ?_) (fun cdv A outer s H vs Q E hr h => ?_)
  · obtain ⟨f, p, n, l, S, t, rfl, _⟩ := h
    rfl
  · obtain ⟨f, p, n, l, S, t, rfl, F, hp, ta, q⟩ := h
    refine ⟨_, (pss_one (ps_ret (pe_callB (maxK K) (by rfl) T.no_max (by decide +kernel) (pa_cons (pe_lc (own := [("held", 2)]) (by rfl) sc_Family_rank.nd (pi_seq (pe_fldK K (pv 0))) (blkOk_by (own := [("held", 2)]) (N := ["self", "things", "held"]) (sc := defScope s_Family_rank) (by decide +kernel)) (fun _ _ _ _ _ => pg_name (i := 2) sc_Family_rank.nd rfl (Or.inl rfl)) (fun _ _ _ _ _ => pts_one (pt_val (pe_call (ok_is_part T) (hr.mono (by decide)) (by rfl) T.mg_is_part T.fn_is_part.kp T.b_is_part .nil pass0 (pa_cons (pv 2) (pa_cons (pv 1) pa_nil))))) (fun _ _ _ _ _ => (pe_callB (lenK K) (by rfl) T.no_len PySem.boot_len (pa_cons (pv 2) pa_nil)))) pa_nil)))), ?_⟩
    show (_ : TS) _ [some (V.ref f), some (V.ref p), none] H
    have n6 := F.fam.n6
    have p64 := pow64 n6
    have fl := famL_len (S := S) n6
    obtain ⟨dx, tt, ys, hf, ht, tv⟩ := F.ob
    have len := tv.len
    walk_at "rd"
    refine ⟨_, dx, ff tt n, hf, T.cl_Family, T.na_Family_sets, _, ff_sets tt n, tt, rfl, false, ys, ht, lcl_goes goes_seq (fun D i H5 => H D = none ∧ Same H H5 ∧ H5 D = some (.lst (((((famL n S).take i).filter fun s => subL s t).map fun s => (s.length : Int)).map V.int))) (fun D hD => ⟨hD, same_upd hD, upd_same⟩)
      (fun D i H5 _ h => h.2.1 _ _ ht) (fun D i x H5 H5' hi ⟨n5, e5, a5⟩ ⟨eq5, hx⟩ => ?_) (fun D H5 _ ⟨n5, e5, a5⟩ => ?_)⟩
    · subst eq5
      obtain ⟨s', hs, p1, rfl, hp1⟩ := (tv.same e5).at hx
      have il := (List.getElem?_eq_some_iff.mp hs).1
      have sa := allS_at (famL_mem.mp (List.mem_of_getElem? hs)).1 n6
      have fll : (((famL n S).take i).filter fun s => subL s t).length ≤ 64 := by
        have := List.length_filter_le (fun s => subL s t) ((famL n S).take i)
        rw [List.length_take] at this
        omega
      walk_at "rd"
      refine ⟨p1, p, false, l, s', t, rfl, hp1, e5 _ _ hp, by omega, fun H6 e6 => ⟨_, rfl, ?_⟩⟩
      rw [List.take_add_one, hs, List.filter_append, show (some s').toList = [s'] from rfl]
      cases z : subL s' t with
      | true =>
        rw [if_pos rfl, List.filter_cons_of_pos (p := fun s => subL s t) z]
        refine ⟨_, .inr (SqT.of (e6 _ _ hp1)), _, e6 _ _ a5, small (by rw [List.length_map, List.length_map]; omega), n5, fun b o hb => (upd_ne (ne_of_none hb n5)).trans (e6 _ _ (e5 _ _ hb)), ?_⟩
        rw [iv_len, List.map_append, List.map_append]
        rfl
      | false =>
        rw [if_neg (by decide), List.filter_cons_of_neg (p := fun s => subL s t) (by rw [z]; decide), List.filter_nil, List.append_nil]
        exact ⟨n5, e5.trans e6, e6 _ _ a5⟩
    · rw [len, List.take_length] at a5
      have em : [] ∈ (famL n S).filter fun s => subL s t := List.mem_filter.mpr ⟨famL_mem.mpr ⟨by have := (bits_in n6 (show 0 < 2 ^ n from Nat.pow_pos (by decide))).2; exact this, F.fam.zero⟩, rfl⟩
      refine ⟨D, _, rfl, SqL.of a5, ?_, fun m hm ub => ?_⟩
      · rw [List.length_map]
        exact List.length_pos_of_mem em
      · obtain ⟨s, hs, rfl⟩ := List.mem_map.mp hm
        obtain ⟨s1, s2⟩ := List.mem_filter.mp hs
        obtain ⟨s3, s4⟩ := famL_mem.mp s1
        have e : s.length = rk S (mk t) := rk_eq F.fam ⟨mk s, s4, by rw [sub_of n6 s3 ta] at s2; exact of_decide_eq_true s2, pop_len n6 s3⟩ fun x hx sx => by
          have xl := F.fam.lt hx
          obtain ⟨b1, b2⟩ := bits_in n6 xl
          have := ub (bits x).length (List.mem_map.mpr ⟨bits x, List.mem_filter.mpr ⟨famL_mem.mpr ⟨b2, by rw [b1]; exact hx⟩, by rw [sub_of n6 b2 ta, b1]; exact decide_eq_true sx⟩, rfl⟩)
          show (bits x).length ≤ _
          omega
        rw [e]
        exact q _ e5
end

end K19
namespace K19
open PySem PySem.Spec PyProof.Rows L2 Own OwnSeq OwnSet OwnComb OwnSort OwnHot OwnExN OwnProj
local macro_rules | `(tactic| walk_at "rd") => `(tactic| simp only [tSeq, tAsg, tOp, tUn, tVar, gName, gSub, rIxL, rIxT, rSetL, tC, rI0, rI, rU, rEq, rNe, tCons, tNil, tCB, tLst, tTup, tIfS, tAnd, tOr, tNot, tAndV, tOrV, tNotV, tTest, tB, tIf, tRet, tDrop, tNext, tBreak, tCont, tCall, tCallS, L2.WE, tMakeS, rIsS, rIsB, tChain, gSeq, gRest, gCons, gNil, tFor_seq, tFor_enumS, tLc_seq, tLc_enumS, rAny, rAll, L2.tMeth, StX.tStar, rIn, tLstRg, tRg1, tRg2, rSetI, rSortedSet, rInDT, rInD, rNotInD, rEqD, rNeD, iComb, tFld, tMake, tMkO, sFld, tOst, tNever, tBits, clv, isB,
  Rd.tFor_rng1, Rd.tFor_rng2, Rd.tFor_list, Rd.tFor_tup, Rd.tLc_list, Rd.tLc_tup, Rd.tLc_rng1, Rd.LcTurn, tYes, wipe, Rd.rLenL, Rd.rLenT, Rd.rIntI, Rd.rIxH, rIxHT,  HO.tup.injEq, Rd.at0, Rd.at1, Rd.at2, Rd.at3, Rd.ixN40, Rd.ixN41, Rd.ixN42, Rd.ixN43, Rd.scal_ii, cxOf,
  List.length_cons, List.length_nil, List.length_map, List.map_cons, List.map_nil, upd_same, decide_eq_true_eq, decide_true, decide_false, if_true, if_false, Bool.false_eq_true, Bool.not_true, Bool.not_false, HO.lst.injEq, HO.ins.injEq, List.set_cons_zero, List.set_cons_succ, List.getElem?_cons_zero, List.getElem?_cons_succ, List.append_nil, List.nil_append, List.cons_append, Option.some.injEq, V.ref.injEq, V.int.injEq, V.bl.injEq, List.cons.injEq, exists_eq_left', exists_and_left, exists_eq_left, true_and, and_true, and_self, and_assoc, implies_true, reduceCtorEq, Nat.reduceAdd])

theorem sortedK {X : Cx} (K : PySem.W.Frag) (hu : X.A.units + 64 < cLine) (hK : X.K = K := by rfl) : CallR X (.builtin "sorted") (OwnSort.rSortedD K) := by
  subst hK
  exact OwnSort.cr_sortedD hu
/-- a pair of a set's size and the set -/
def PrAt (H : Hp) (x : Addr × List Nat) : Prop := ∃ t, H x.1 = some (.tup [.int x.2.length, .ref t]) ∧ H t = some (.tup (iv x.2))
theorem PrAt.same {H H' : Hp} {x : Addr × List Nat} (e : Same H H') : PrAt H x → PrAt H' x := fun ⟨t, a, b⟩ => ⟨t, e _ _ a, e _ _ b⟩
theorem PrAt.upd {H : Hp} {x : Addr × List Nat} {D : Addr} {l l' : List V} (hD : H D = some (.lst l)) : PrAt H x → PrAt (upd H D (.lst l')) x := fun ⟨t, a, b⟩ =>
  ⟨t, (upd_ne fun e => by rw [e, hD] at a; cases a).trans a, (upd_ne fun e => by rw [e, hD] at b; cases b).trans b⟩
theorem alike_ints : ∀ s t : List Nat, PySem.W.alikeAll (s.map fun g => PyData.int (g : Nat)) (t.map fun g => PyData.int (g : Nat)) = true
  | [], [] => by simp [PySem.W.alikeAll]
  | [], _ :: _ => by simp [PySem.W.alikeAll]
  | _ :: _, [] => by simp [PySem.W.alikeAll]
  | x :: s, y :: t => by
    simp only [List.map_cons, PySem.W.alikeAll, PySem.W.alike, alike_ints s t, Bool.and_self]
theorem alike_enc (s t : List Nat) : PySem.W.alike (enc s) (enc t) = true := by
  unfold enc
  simp only [PySem.W.alike, PySem.W.alikeAll, alike_ints s t, Bool.and_self]
theorem enc_depth (s : List Nat) : (enc s).depth = 2 := by
  have h := (lay_ints s).2
  unfold enc
  simp [PyData.depth, PyData.depthAll, h]
theorem PrAt.dp {K : PySem.W.Frag} {H : Hp} {x : Addr × List Nat} : PrAt H x → Dp K H (.ref x.1) (enc x.2) := fun ⟨t, a, b⟩ => .tup (SqT.of a) (.cons (.int _) (.cons (dp_set b) .nil))
theorem sort_pairs (L : List (Addr × List Nat)) : ((L.map fun x => (x.1, enc x.2)).mergeSort (PySem.W.dataLe false (·.2))) = (L.mergeSort fun x y => leS x.2 y.2).map fun x => (x.1, enc x.2) :=
  (List.map_mergeSort (f := fun x : Addr × List Nat => (x.1, enc x.2)) (r := fun x y => leS x.2 y.2) fun _ _ _ _ => rfl).symm
theorem sort_sets (L : List (Addr × List Nat)) : (L.mergeSort fun x y => leS x.2 y.2).map (·.2) = (L.map (·.2)).mergeSort leS :=
  List.map_mergeSort fun _ _ _ _ => rfl
section
variable {P : Program} {w : World} {K : PySem.W.Frag} {mg : Str → Option Value} {base : Heap} {a : Ad}
/-! ### _law_ordered -/
def spOrd : Sp := fun vs H Q _ => ∃ (p : Addr) (n : Nat) (S : List Bool), vs = [.ref p] ∧ H p = some (.lst (S.map V.bl)) ∧ (n ≤ 6 ∧ S.length = 2 ^ n) ∧ ∀ r us H', H r = none → Same H H' → H' r = some (.lst us) → Tups H' us (famL n S) → Q (.ref r) H'
theorem sc_law_ordered : FnScope ["inside", "pairs", "mask", "pair"] ["inside"] (defScope s_law_ordered) := ⟨rfl, rfl, rfl, by decide +kernel, rfl, by decide +kernel, by decide +kernel⟩
theorem ok_law_ordered (T : Txt K mg a) : FnOk P w K mg base CX0 2 a.a_law_ordered a.d_law_ordered ["inside"] spOrd := by
  refine T.fn_law_ordered.ok sc_law_ordered (fun vs H Q E h => ?_) (fun cdv A outer s H vs Q E hr h => ?_)
  · obtain ⟨p, n, S, rfl, _⟩ := h
    rfl
  · obtain ⟨p, n, S, rfl, hp, ⟨n6, Slen⟩, k⟩ := h
    refine ⟨_, (pss_cons (ps_set (i := 1) sc_law_ordered.nd rfl (Or.inl rfl) (pe_callB (sortedK K hr.units) (by rfl) T.no_sorted (by decide +kernel) (pa_cons (pe_lc (own := [("mask", 2)]) (by rfl) sc_law_ordered.nd (pi_range1 (by rfl) T.no_range (pa_cons (pe_callB Rd.call_lenL (by rfl) T.no_len PySem.boot_len (pa_cons (pv 0) pa_nil)) pa_nil)) (blkOk_by (own := [("mask", 2)]) (N := ["inside", "pairs", "mask", "pair"]) (sc := defScope s_law_ordered) (by decide +kernel)) (fun _ _ _ _ _ => pg_name (i := 2) sc_law_ordered.nd rfl (Or.inl rfl)) (fun _ _ _ _ _ => pts_one (pt_val (pe_ix Rd.ixH (pv 0) (pv 2) (fun _ _ => rfl)))) (fun _ _ _ _ _ => (pe_tup (pa_cons (pe_callB (lenK K) (by rfl) T.no_len PySem.boot_len (pa_cons (pe_call (ok_law_things T) (hr.mono (by decide)) (by rfl) T.mg_law_things T.fn_law_things.kp T.b_law_things .nil pass0 (pa_cons (pv 2) pa_nil)) pa_nil)) (pa_cons (pe_call (ok_law_things T) (hr.mono (by decide)) (by rfl) T.mg_law_things T.fn_law_things.kp T.b_law_things .nil pass0 (pa_cons (pv 2) pa_nil)) pa_nil))))) pa_nil)))
      (pss_one (ps_ret (pe_lc (own := [("pair", 3)]) (by rfl) sc_law_ordered.nd (pi_list (pv 1)) (blkOk_by (own := [("pair", 3)]) (N := ["inside", "pairs", "mask", "pair"]) (sc := defScope s_law_ordered) (by decide +kernel)) (fun _ _ _ _ _ => pg_name (i := 3) sc_law_ordered.nd rfl (Or.inl rfl)) (fun _ _ _ _ _ => pts_nil) (fun _ _ _ _ _ => (pe_ix ixHT (pv 3) pe_int (fun _ _ => rfl))))))), ?_⟩
    show (_ : TS) _ [some (V.ref p), none, none, none] H
    have p64 := pow64 n6
    walk_at "rd"
    refine ⟨_, SqL.of hp, ?_⟩
    rw [List.length_map, Slen, Int.toNat_natCast]
    refine ⟨by have : 0 < 2 ^ n := Nat.pow_pos (by decide); omega, by omega, ?_⟩
    refine Rd.lcl_rng (fun D i H5 => H D = none ∧ Same H H5 ∧ ∃ L : List (Addr × List Nat), H5 D = some (.lst (L.map fun x => V.ref x.1)) ∧ (∀ x ∈ L, PrAt H5 x) ∧ L.map (·.2) = ((List.range i).filter (In S)).map bits) (fun D hD => ⟨hD, same_upd hD, [], upd_same, (fun _ h => by cases h), rfl⟩) (fun D i H5 hi ⟨n5, e5, L, a5, pL, eL⟩ => ?_) (fun D H5 _ ⟨n5, e5, L, a5, pL, eL⟩ => ?_)
    · have Ll : L.length ≤ i := by
        have z := congrArg List.length eL
        rw [List.length_map, List.length_map] at z
        have := List.length_filter_le (In S) (List.range i)
        rw [List.length_range] at this
        omega
      have rs := List.range_succ (n := i)
      walk_at "rd"
      rw [Int.zero_add]
      refine ⟨_, e5 _ _ hp, _, in_bool (by rw [Slen]; exact hi), _, rfl, ite2 (fun hc => ?_) (fun hc => ⟨n5, e5, L, a5, pL, ?_⟩)⟩
      · refine ⟨i, rfl, fun r1 H6 h1 e6 a6 => ⟨r1, rfl, _, .inr (SqT.of a6), i, rfl, fun r2 H7 h2 e7 a7 => ⟨by decide, fun q hq => ?_⟩⟩⟩
        have e8 : Same H7 (upd H7 q (.tup [V.int (iv (bits i)).length, V.ref r2])) := same_upd hq
        have a8 := (e8 _ _ (e7 _ _ (e6 _ _ a5)))
        have e9 := ((e5.trans e6).trans e7).trans e8
        refine ⟨_, a8, small (by rw [List.length_map]; omega), n5, fun b o hb => (upd_ne (ne_of_none hb n5)).trans (e9 _ _ hb), L ++ [(q, bits i)], by rw [List.map_append]; rfl, fun x hx => ?_, ?_⟩
        · refine PrAt.upd a8 ?_
          rcases List.mem_append.mp hx with hx | hx
          · exact (pL x hx).same ((e6.trans e7).trans e8)
          · obtain rfl := List.mem_singleton.mp hx
            refine ⟨r2, ?_, e8 _ _ a7⟩
            rw [iv_len]
            exact upd_same
        · rw [List.map_append, eL, rs, List.filter_append, List.filter_cons_of_pos hc, List.map_append]
          rfl
      · rw [rs, List.filter_append, List.filter_cons_of_neg hc, List.filter_nil, List.append_nil]
        exact eL
    · have Lm : (L.map (·.2)).Perm (famL n S) := by
        rw [eL]
        have z := (perm_masks n6).filter fun s => In S (mk s)
        rw [List.filter_map] at z
        rw [show (List.range (2 ^ n)).filter (In S) = (List.range (2 ^ n)).filter ((fun s => In S (mk s)) ∘ bits) from List.filter_congr fun m hm => by
          show In S m = In S (mk (bits m))
          rw [(bits_in n6 (List.mem_range.mp hm)).1]]
        exact z
      have sorted := sorted_eq n6 Lm
      refine ⟨D, L.map fun x => (x.1, enc x.2), rfl, ?_, fun b hb => ?_, ?_, ?_, fun b hb => ?_, ?_, fun q hq => ?_⟩
      · rw [List.map_map]
        exact SqL.of a5
      · obtain ⟨x, hx, rfl⟩ := List.mem_map.mp hb
        exact (pL x hx).dp
      · rw [List.map_map]
        intro d hd d' hd'
        obtain ⟨x, _, rfl⟩ := List.mem_map.mp hd
        obtain ⟨y, _, rfl⟩ := List.mem_map.mp hd'
        exact alike_enc _ _
      · rw [List.map_map]
        refine .inl fun d hd => ?_
        obtain ⟨x, _, rfl⟩ := List.mem_map.mp hd
        exact ⟨_, _, rfl⟩
      · obtain ⟨x, hx, rfl⟩ := List.mem_map.mp hb
        show (enc x.2).depth ≤ 60
        rw [enc_depth]
        decide
      · rw [List.length_map, show L.length = ((List.range (2 ^ n)).filter (In S)).length by have z := congrArg List.length eL; rwa [List.length_map, List.length_map] at z]
        have := List.length_filter_le (In S) (List.range (2 ^ n))
        rw [List.length_range] at this
        exact Nat.le_of_lt (small (by omega))
      · rw [sort_pairs, List.map_map]
        rw [← sort_sets] at sorted
        refine ⟨q, rfl, ⟨_, SqL.of upd_same⟩, ?_⟩
        have pM : ∀ x ∈ L.mergeSort fun x y => leS x.2 y.2, PrAt H5 x := fun x hx => pL x (List.mem_mergeSort.mp hx)
        generalize (L.mergeSort fun x y => leS x.2 y.2) = M at *
        have e6 : Same H5 (upd H5 q (HO.lst (List.map ((fun b => V.ref b.fst) ∘ fun x => (x.fst, enc x.snd)) M))) := same_upd hq
        have pM := fun x hx => (pM x hx).same e6
        have aM : upd H5 q (HO.lst (List.map ((fun b => V.ref b.fst) ∘ fun x => (x.fst, enc x.snd)) M)) q = some (.lst (M.map fun x => V.ref x.1)) := upd_same
        have fq : H q = none := e5.free hq
        revert pM aM
        generalize upd H5 q (HO.lst (List.map ((fun b => V.ref b.fst) ∘ fun x => (x.fst, enc x.snd)) M)) = H6 at e6
        intro pM aM
        have Ml : M.length < 65 := by
          have z := congrArg List.length sorted
          rw [List.length_map] at z
          have := List.length_filter_le (fun s => In S (mk s)) (allS n)
          rw [allS_len n6] at this
          omega
        refine Rd.lcl_list (xs := M.map fun x => V.ref x.1) (fun D2 i H7 => H6 D2 = none ∧ Same H6 H7 ∧ ∃ us, H7 D2 = some (.lst us) ∧ us.length = i ∧ Tups H7 us ((M.map (·.2)).take i)) (fun D2 hD => ⟨hD, same_upd hD, [], upd_same, rfl, trivial⟩) (fun D2 i H7 _ p => p.2.1.seq (SqL.of aM)) (fun D2 i x H7 hx ⟨n7, e7, us, a7, ul, tu⟩ => ?_) (fun D2 H7 _ ⟨n7, e7, us, a7, ul, tu⟩ => ?_)
        · rw [List.getElem?_map] at hx
          obtain ⟨m, hm, rfl⟩ : ∃ m, M[i]? = some m ∧ x = V.ref m.1 := by
            cases e : M[i]? with
            | none => rw [e] at hx; cases hx
            | some m => rw [e] at hx; exact ⟨m, rfl, (Option.some.inj hx).symm⟩
          have il := (List.getElem?_eq_some_iff.mp hm).1
          obtain ⟨t, b1, b2⟩ := pM m (List.mem_of_getElem? hm)
          walk_at "rd"
          have e8 : Same H6 (upd H7 D2 (.lst (us ++ [V.ref t]))) := fun b o hb => (upd_ne (ne_of_none hb n7)).trans (e7 _ _ hb)
          refine ⟨_, e7 _ _ b1, _, rfl, _, a7, small (by omega), n7, e8, by rw [List.length_append, ul]; rfl, ?_⟩
          rw [List.take_add_one, List.getElem?_map, hm]
          exact Tups.app (Tups.upd a7 tu) ⟨⟨t, rfl, e8 _ _ b2⟩, trivial⟩
        · rw [List.take_of_length_le (by rw [List.length_map, List.length_map]; exact Nat.le_refl _), sorted] at tu
          exact k D2 us H7 (e5.free (e6.free n7)) ((e5.trans e6).trans e7) a7 tu
end

end K19
namespace K19
open PySem PySem.Spec PyProof.Rows L2 Own OwnSeq OwnSet OwnComb OwnSort OwnHot OwnExN OwnProj
local macro_rules | `(tactic| walk_at "rd") => `(tactic| simp only [tSeq, tAsg, tOp, tUn, tVar, gName, gSub, rIxL, rIxT, rSetL, tC, rI0, rI, rU, rEq, rNe, tCons, tNil, tCB, tLst, tTup, tIfS, tAnd, tOr, tNot, tAndV, tOrV, tNotV, tTest, tB, tIf, tRet, tDrop, tNext, tBreak, tCont, tCall, tCallS, L2.WE, tMakeS, rIsS, rIsB, tChain, gSeq, gRest, gCons, gNil, tFor_seq, tFor_enumS, tLc_seq, tLc_enumS, rAny, rAll, L2.tMeth, StX.tStar, rIn, tLstRg, tRg1, tRg2, rSetI, rSortedSet, rInDT, rInD, rNotInD, rEqD, rNeD, iComb, tFld, tMake, tMkO, sFld, tOst, tNever, tBits, clv, isB,
  Rd.tFor_rng1, Rd.tFor_rng2, Rd.tFor_list, Rd.tFor_tup, Rd.tLc_list, Rd.tLc_tup, Rd.tLc_rng1, Rd.LcTurn, tYes, wipe, Rd.rLenL, Rd.rLenT, Rd.rIntI, Rd.rIxH, rIxHT,  HO.tup.injEq, Rd.at0, Rd.at1, Rd.at2, Rd.at3, Rd.ixN40, Rd.ixN41, Rd.ixN42, Rd.ixN43, Rd.scal_ii, cxOf,
  List.length_cons, List.length_nil, List.length_map, List.map_cons, List.map_nil, upd_same, decide_eq_true_eq, decide_true, decide_false, if_true, if_false, Bool.false_eq_true, Bool.not_true, Bool.not_false, HO.lst.injEq, HO.ins.injEq, List.set_cons_zero, List.set_cons_succ, List.getElem?_cons_zero, List.getElem?_cons_succ, List.append_nil, List.nil_append, List.cons_append, Option.some.injEq, V.ref.injEq, V.int.injEq, V.bl.injEq, List.cons.injEq, exists_eq_left', exists_and_left, exists_eq_left, true_and, and_true, and_self, and_assoc, implies_true, reduceCtorEq, Nat.reduceAdd])

section
variable {P : Program} {w : World} {K : PySem.W.Frag} {mg : Str → Option Value} {base : Heap} {a : Ad}
/-! ### full_sets -/
def fullL (n : Nat) (S : List Bool) : List (List Nat) := (famL n S).filter fun s => decide (addL n S s = [])
def spFull (C : Addr) : Sp := fun vs H Q _ => ∃ (f n : Nat) (S : List Bool), vs = [.ref f] ∧ FamV C H f n S ∧ ∀ r us H', H r = none → Same H H' → H' r = some (.tup us) → Tups H' us (fullL n S) → Q (.ref r) H'
theorem sc_Family_full_sets : FnScope ["self", "held"] ["self"] (defScope s_Family_full_sets) := ⟨rfl, rfl, rfl, by decide +kernel, rfl, by decide +kernel, by decide +kernel⟩
theorem ok_Family_full_sets (T : Txt K mg a) : FnOk P w K mg base CX0 4 a.a_Family_full_sets a.d_Family_full_sets ["self"] (spFull a.C_Family) := by
  refine T.fn_Family_full_sets.ok sc_Family_full_sets (fun vs H Q E h => ?_) (fun cdv A outer s H vs Q E hr h => ?_)
  · obtain ⟨f, n, S, rfl, _⟩ := h
    rfl
  · obtain ⟨f, n, S, rfl, F, k⟩ := h
    refine ⟨_, (pss_one (ps_ret (pe_callTy call_tuple_of (by rfl) T.no_tuple (by decide +kernel) (pa_cons (pe_lc (own := [("held", 1)]) (by rfl) sc_Family_full_sets.nd (pi_seq (pe_fldK K (pv 0))) (blkOk_by (own := [("held", 1)]) (N := ["self", "held"]) (sc := defScope s_Family_full_sets) (by decide +kernel)) (fun _ _ _ _ _ => pg_name (i := 1) sc_Family_full_sets.nd rfl (Or.inl rfl)) (fun _ _ _ _ _ => pts_one (pt_cmpR op_eq (pe_callB (lenK K) (by rfl) T.no_len PySem.boot_len (pa_cons (pe_meth (pv 0) T.cl_Family T.mt_Family_addable (ok_Family_addable T) (hr.mono (by decide)) T.b_Family_addable .nil pass0 (pa_cons (pv 1) pa_nil)) pa_nil)) pe_int (nomark _))) (fun _ _ _ _ _ => (pv 1))) pa_nil)))), ?_⟩
    show (_ : TS) _ [some (V.ref f), none] H
    have n6 := F.fam.n6
    have p64 := pow64 n6
    have fl := famL_len (S := S) n6
    obtain ⟨dx, tt, ys, hf, ht, tv⟩ := F.ob
    have len := tv.len
    walk_at "rd"
    refine ⟨_, dx, ff tt n, hf, T.cl_Family, T.na_Family_sets, _, ff_sets tt n, tt, rfl, false, ys, ht, lcl_goes goes_seq (fun D i H5 => H D = none ∧ Same H H5 ∧ ∃ us, H5 D = some (.lst us) ∧ Tups H5 us (((famL n S).take i).filter fun s => decide (addL n S s = []))) (fun D hD => ⟨hD, same_upd hD, [], upd_same, trivial⟩)
      (fun D i H5 _ h => h.2.1 _ _ ht) (fun D i x H5 H5' hi ⟨n5, e5, us, a5, tu⟩ ⟨eq5, hx⟩ => ?_) (fun D H5 _ ⟨n5, e5, us, a5, tu⟩ => ?_)⟩
    · subst eq5
      obtain ⟨s', hs, p1, rfl, hp1⟩ := (tv.same e5).at hx
      have il := (List.getElem?_eq_some_iff.mp hs).1
      have sm := List.mem_of_getElem? hs
      have ul : us.length ≤ 64 := by
        have h1 := tu.len
        have := List.length_filter_le (fun s => decide (addL n S s = [])) ((famL n S).take i)
        rw [List.length_take] at this
        omega
      walk_at "rd"
      refine ⟨dx, ff tt n, e5 _ _ hf, ff_no tt n (by decide +kernel) (by decide +kernel), f, p1, false, n, S, s', rfl, F.same e5, hp1, sm, fun r H6 r0 e6 a6 => ⟨r, rfl, _, .inr (SqT.of a6), ?_⟩⟩
      have e06 := e5.trans e6
      rw [iv_len, List.take_add_one, hs, List.filter_append, show (some s').toList = [s'] from rfl]
      have a7 := e6 _ _ a5
      have tu7 := tu.same e6
      by_cases z : addL n S s' = []
      · rw [if_pos (by rw [z]; rfl), List.filter_cons_of_pos (p := fun s => decide (addL n S s = [])) (decide_eq_true z)]
        exact ⟨us, a7, small (by omega), n5, fun b o hb => (upd_ne (ne_of_none hb n5)).trans (e06 _ _ hb), Tups.upd a7 (Tups.app tu7 ⟨⟨p1, rfl, e6 _ _ hp1⟩, trivial⟩)⟩
      · rw [if_neg (fun y => z (List.eq_nil_of_length_eq_zero (by omega))), List.filter_cons_of_neg (p := fun s => decide (addL n S s = [])) (by rw [decide_eq_false z]; decide), List.filter_nil, List.append_nil]
        exact ⟨n5, e06, us, a7, tu7⟩
    · rw [len, List.take_length] at tu
      exact ⟨D, rfl, _, .inl ⟨SqL.of a5, fun r hr => k r us _ (e5.free hr) (e5.trans (same_upd hr)) upd_same (tu.same (same_upd hr))⟩⟩
end

end K19
namespace K19
open PySem PySem.Spec PyProof.Rows L2 Own OwnSeq OwnSet OwnComb OwnSort OwnHot OwnExN OwnProj
local macro_rules | `(tactic| walk_at "rd") => `(tactic| simp only [tSeq, tAsg, tOp, tUn, tVar, gName, gSub, rIxL, rIxT, rSetL, tC, rI0, rI, rU, rEq, rNe, tCons, tNil, tCB, tLst, tTup, tIfS, tAnd, tOr, tNot, tAndV, tOrV, tNotV, tTest, tB, tIf, tRet, tDrop, tNext, tBreak, tCont, tCall, tCallS, L2.WE, tMakeS, rIsS, rIsB, tChain, gSeq, gRest, gCons, gNil, tFor_seq, tFor_enumS, tLc_seq, tLc_enumS, rAny, rAll, L2.tMeth, StX.tStar, rIn, tLstRg, tRg1, tRg2, rSetI, rSortedSet, rInDT, rInD, rNotInD, rEqD, rNeD, iComb, tFld, tMake, tMkO, sFld, tOst, tNever, tBits, clv, isB,
  Rd.tFor_rng1, Rd.tFor_rng2, Rd.tFor_list, Rd.tFor_tup, Rd.tLc_list, Rd.tLc_tup, Rd.tLc_rng1, Rd.LcTurn, tYes, wipe, Rd.rLenL, Rd.rLenT, Rd.rIntI, Rd.rIxH, rIxHT,  HO.tup.injEq, Rd.at0, Rd.at1, Rd.at2, Rd.at3, Rd.ixN40, Rd.ixN41, Rd.ixN42, Rd.ixN43, Rd.scal_ii, cxOf,
  List.length_cons, List.length_nil, List.length_map, List.map_cons, List.map_nil, upd_same, decide_eq_true_eq, decide_true, decide_false, if_true, if_false, Bool.false_eq_true, Bool.not_true, Bool.not_false, HO.lst.injEq, HO.ins.injEq, List.set_cons_zero, List.set_cons_succ, List.getElem?_cons_zero, List.getElem?_cons_succ, List.append_nil, List.nil_append, List.cons_append, Option.some.injEq, V.ref.injEq, V.int.injEq, V.bl.injEq, List.cons.injEq, exists_eq_left', exists_and_left, exists_eq_left, true_and, and_true, and_self, and_assoc, implies_true, reduceCtorEq, Nat.reduceAdd])

theorem asc_seq {C : Addr} {H : Hp} {x : V} {w : Wv} {n : Int} (xw : IsW C H x w) (h : ascW n w = true) : ∃ q l2, x = .ref q ∧ H q = some (sq l2 (iv (numsW w))) := by
  cases xw with
  | lst h1 h2 =>
    have h : ascF 0 n _ = true := h
    have r := (ascF_at (by decide) h).1
    rw [r] at h2
    exact ⟨_, true, rfl, by rw [h1, h2.ints]; rfl⟩
  | tup h1 h2 =>
    have h : ascF 0 n _ = true := h
    have r := (ascF_at (by decide) h).1
    rw [r] at h2
    exact ⟨_, false, rfl, by rw [h1, h2.ints]; rfl⟩
  | _ => cases h
section
variable {P : Program} {w : World} {K : PySem.W.Frag} {mg : Str → Option Value} {base : Heap} {a : Ad}
/-! ### in -/
def hasW (n : Nat) (S : List Bool) (w : Wv) : Bool := ascW n w && (famL n S).contains (numsW w)
def spIn (F C : Addr) : Sp := fun vs H Q _ => ∃ (f n : Nat) (S : List Bool) (v : V) (w : Wv), vs = [.ref f, v] ∧ FamV F H f n S ∧ IsW C H v w ∧ ∀ H', Same H H' → Q (.bl (hasW n S w)) H'
theorem sc_Family_contains : FnScope ["self", "things"] ["self", "things"] (defScope s_Family_contains) := ⟨rfl, rfl, rfl, by decide +kernel, rfl, by decide +kernel, by decide +kernel⟩
theorem ok_Family_contains (T : Txt K mg a) : FnOk P w K mg base CX0 4 a.a_Family_contains a.d_Family_contains ["self", "things"] (spIn a.C_Family a.C_Frac) := by
  refine T.fn_Family_contains.ok sc_Family_contains (fun vs H Q E h => ?_) (fun cdv A outer s H vs Q E hr h => ?_)
  · obtain ⟨f, n, S, v, w, rfl, _⟩ := h
    rfl
  · obtain ⟨f, n, S, v, w, rfl, F, hv, k⟩ := h
    refine ⟨_, (pss_one (ps_ret (pe_and (pe_call (ok_is_ascending T) (hr.mono (by decide)) (by rfl) T.mg_is_ascending T.fn_is_ascending.kp T.b_is_ascending .nil pass0 (pa_cons (pv 1) (pa_cons (pe_fldK K (pv 0)) pa_nil))) (pe_one (pe_cmpR (inDT_at K (u65 hr)) (pe_callTy call_tuple_of (by rfl) T.no_tuple (by decide +kernel) (pa_cons (pv 1) pa_nil)) (pe_fldK K (pv 0)) (by with_unfolding_all rfl)))))), ?_⟩
    show (_ : TS) _ [some (V.ref f), some v] H
    obtain ⟨dx, tt, ys, hf, ht, tv⟩ := F.ob
    have n6 := F.fam.n6
    walk_at "rd"
    refine ⟨_, dx, ff tt n, hf, T.cl_Family, T.na_Family_size, _, ff_size tt n, v, w, n, rfl, hv, fun H1 e1 => ⟨_, rfl, ?_⟩⟩
    cases z : ascW n w with
    | false =>
      rw [if_neg (by decide)]
      have k := k H1 e1
      unfold hasW at k
      rw [z] at k
      exact k
    | true =>
      rw [if_pos rfl]
      obtain ⟨q, l, rfl, hq⟩ := asc_seq (hv.same e1) z
      have fin : ∀ H2, Same H H2 → Q (.bl (((famL n S).map dS).any fun y => PyData.eqv y (dS (numsW w)))) H2 := fun H2 e => by
        rw [any_sets]
        have k := k H2 e
        unfold hasW at k
        rw [z, Bool.true_and] at k
        exact k
      refine ⟨q, rfl, iv (numsW w), ?_⟩
      cases l with
      | true =>
        refine .inl ⟨SqL.of hq, fun r hr => ?_⟩
        have e2 := e1.trans (same_upd (o := .tup (iv (numsW w))) hr)
        exact ⟨_, dx, ff tt n, e2 _ _ hf, T.cl_Family, T.na_Family_sets, _, ff_sets tt n, _, dp_set upd_same, _, .tup (SqT.of (e2 _ _ ht)) (dp_sets (tv.same e2)), sh_set _, sh_tup _, fin _ e2⟩
      | false => exact .inr ⟨SqT.of hq, _, dx, ff tt n, e1 _ _ hf, T.cl_Family, T.na_Family_sets, _, ff_sets tt n, _, dp_set hq, _, .tup (SqT.of (e1 _ _ ht)) (dp_sets (tv.same e1)), sh_set _, sh_tup _, fin _ e1⟩
end

end K19
namespace K19
open PySem PySem.Spec PyProof.Rows L2 Own OwnSeq OwnSet OwnComb OwnSort OwnHot OwnExN OwnProj
local macro_rules | `(tactic| walk_at "rd") => `(tactic| simp only [tSeq, tAsg, tOp, tUn, tVar, gName, gSub, rIxL, rIxT, rSetL, tC, rI0, rI, rU, rEq, rNe, tCons, tNil, tCB, tLst, tTup, tIfS, tAnd, tOr, tNot, tAndV, tOrV, tNotV, tTest, tB, tIf, tRet, tDrop, tNext, tBreak, tCont, tCall, tCallS, L2.WE, tMakeS, rIsS, rIsB, tChain, gSeq, gRest, gCons, gNil, tFor_seq, tFor_enumS, tLc_seq, tLc_enumS, rAny, rAll, L2.tMeth, StX.tStar, rIn, tLstRg, tRg1, tRg2, rSetI, rSortedSet, rInDT, rInD, rNotInD, rEqD, rNeD, iComb, tFld, tMake, tMkO, sFld, tOst, tNever, tBits, clv, isB,
  Rd.tFor_rng1, Rd.tFor_rng2, Rd.tFor_list, Rd.tFor_tup, Rd.tLc_list, Rd.tLc_tup, Rd.tLc_rng1, Rd.LcTurn, tYes, wipe, Rd.rLenL, Rd.rLenT, Rd.rIntI, Rd.rIxH, rIxHT,  HO.tup.injEq, Rd.at0, Rd.at1, Rd.at2, Rd.at3, Rd.ixN40, Rd.ixN41, Rd.ixN42, Rd.ixN43, Rd.scal_ii, cxOf,
  List.length_cons, List.length_nil, List.length_map, List.map_cons, List.map_nil, upd_same, decide_eq_true_eq, decide_true, decide_false, if_true, if_false, Bool.false_eq_true, Bool.not_true, Bool.not_false, HO.lst.injEq, HO.ins.injEq, List.set_cons_zero, List.set_cons_succ, List.getElem?_cons_zero, List.getElem?_cons_succ, List.append_nil, List.nil_append, List.cons_append, Option.some.injEq, V.ref.injEq, V.int.injEq, V.bl.injEq, List.cons.injEq, exists_eq_left', exists_and_left, exists_eq_left, true_and, and_true, and_self, and_assoc, implies_true, reduceCtorEq, Nat.reduceAdd])

theorem eqv_fams : ∀ ss ts : List (List Nat), PyData.eqvAll (ss.map dS) (ts.map dS) = decide (ss = ts)
  | [], [] => by simp [PyData.eqvAll]
  | [], _ :: _ => by simp [PyData.eqvAll]
  | _ :: _, [] => by simp [PyData.eqvAll]
  | s :: ss, t :: ts => by
    rw [List.map_cons, List.map_cons]
    simp only [PyData.eqvAll, eqv_set s t, eqv_fams ss ts]
    by_cases h : s = t <;> by_cases h2 : ss = ts <;> simp [h, h2]
theorem eqv_tups (ss ts : List (List Nat)) : PyData.eqv (.tuple (ss.map dS)) (.tuple (ts.map dS)) = decide (ss = ts) := by
  simp only [PyData.eqv]
  exact eqv_fams ss ts
section
variable {P : Program} {w : World} {K : PySem.W.Frag} {mg : Str → Option Value} {base : Heap} {a : Ad}
theorem selfKit {K : PySem.W.Frag} {C : Addr} : PySem.W.kitOne K (.ref C) (.ref C) = some true := by
  unfold PySem.W.kitOne
  exact if_pos (beq_self_eq_true _)
/-! ### == -/
/-- a value that is no family -/
inductive NoF (H : Hp) : V → Kd → Prop
  | non : NoF H .non .non
  | bl (b : Bool) : NoF H (.bl b) .bl
  | int (i : Int) : NoF H (.int i) .int
  | str (x : Str) : NoF H (.str x) .str
  | lst {p : Addr} {xs : List V} (h : H p = some (.lst xs)) : NoF H (.ref p) .lst
  | tup {p : Addr} {xs : List V} (h : H p = some (.tup xs)) : NoF H (.ref p) .tup
def spEq (F : Addr) : Sp := fun vs H Q _ => ∃ (f n : Nat) (S : List Bool), FamV F H f n S ∧ ((∃ (g m : Nat) (R : List Bool), vs = [.ref f, .ref g] ∧ FamV F H g m R ∧ Q (.bl (decide (n = m) && decide (famL n S = famL m R))) H) ∨ ∃ v d, vs = [.ref f, v] ∧ NoF H v d ∧ Q (.bl false) H)
theorem sc_Family_eq : FnScope ["self", "other"] ["self", "other"] (defScope s_Family_eq) := ⟨rfl, rfl, rfl, by decide +kernel, rfl, by decide +kernel, by decide +kernel⟩
theorem ok_Family_eq (T : Txt K mg a) : FnOk P w K mg base CX0 1 a.a_Family_eq a.d_Family_eq ["self", "other"] (spEq a.C_Family) := by
  refine T.fn_Family_eq.ok sc_Family_eq (fun vs H Q E h => ?_) (fun cdv A outer s H vs Q E hr h => ?_)
  · obtain ⟨f, n, S, _, ⟨g, m, R, rfl, _⟩ | ⟨v, d, rfl, _⟩⟩ := h <;> rfl
  · obtain ⟨f, n, S, F, h⟩ := h
    refine ⟨_, (pss_one (ps_ret (pe_and (pe_callB call_isi (by rfl) T.no_isinstance (by decide +kernel) (pa_cons (pv 1) (pa_cons (pe_glob (v := .ref a.C_Family) rfl T.mg_Family rfl) pa_nil))) (pe_and (pe_cmpR op_eq (pe_fldK K (pv 0)) (pe_fldK K (pv 1)) (nomark _)) (pe_one (pe_cmpR (eqD_at K hr.units) (pe_fldK K (pv 0)) (pe_fldK K (pv 1)) (nomark _))))))), ?_⟩
    obtain ⟨dx, t, ys, hf, ht, tv⟩ := F.ob
    rcases h with ⟨g, m, R, rfl, G, k⟩ | ⟨v, d, rfl, nf, k⟩
    · show (_ : TS) _ [some (V.ref f), some (V.ref g)] H
      obtain ⟨dy, t2, zs, hg, ht2, tv2⟩ := G.ob
      walk_at "rd"
      refine ⟨.ref g, .ref a.C_Family, .ref a.C_Family, .ref a.C_Family, true, rfl, .own _, .base (.ins hg T.cl_Family T.cg_Family T.cget T.ctk T.mr_Family), selfKit, _, rfl, ?_⟩
      rw [if_pos rfl]
      refine ⟨_, dx, ff t n, hf, T.cl_Family, T.na_Family_size, _, ff_size t n, _, dy, ff t2 m, hg, T.cl_Family, T.na_Family_size, _, ff_size t2 m, rfl, ?_⟩
      by_cases e : n = m
      · subst e
        rw [if_pos rfl]
        refine ⟨_, dx, ff t n, hf, T.cl_Family, T.na_Family_sets, _, ff_sets t n, _, dy, ff t2 n, hg, T.cl_Family, T.na_Family_sets, _, ff_sets t2 n, ?_⟩
        refine ⟨_, .tup (SqT.of ht) (dp_sets tv), _, .tup (SqT.of ht2) (dp_sets tv2), sh_tup _, sh_tup _, ?_⟩
        rw [eqv_tups]
        rw [decide_eq_true (rfl : n = n), Bool.true_and] at k
        exact k
      · rw [if_neg (fun z => e (by have := V.int.inj z; omega))]
        rw [decide_eq_false e, Bool.false_and] at k
        exact k
    · show (_ : TS) _ [some (V.ref f), some v] H
      walk_at "rd"
      cases nf with
      | non => exact ⟨_, .ref a.C_Family, .type "NoneType", .ref a.C_Family, false, rfl, .own _, .base .non, T.kit_none_S, false, rfl, by rw [if_neg (by decide)]; exact k⟩
      | bl b => exact ⟨_, .ref a.C_Family, .type "bool", .ref a.C_Family, false, rfl, .own _, .base (.bl b), T.kit_bool_S, false, rfl, by rw [if_neg (by decide)]; exact k⟩
      | int b => exact ⟨_, .ref a.C_Family, .type "int", .ref a.C_Family, false, rfl, .own _, .base (.int b), T.kit_int_S, false, rfl, by rw [if_neg (by decide)]; exact k⟩
      | str b => exact ⟨_, .ref a.C_Family, .type "str", .ref a.C_Family, false, rfl, .own _, .base (.str b), T.kit_str_S, false, rfl, by rw [if_neg (by decide)]; exact k⟩
      | lst b => exact ⟨_, .ref a.C_Family, .type "list", .ref a.C_Family, false, rfl, .own _, .base (.lst b), T.kit_list_S, false, rfl, by rw [if_neg (by decide)]; exact k⟩
      | tup b => exact ⟨_, .ref a.C_Family, .type "tuple", .ref a.C_Family, false, rfl, .own _, .base (.tup b), T.kit_tuple_S, false, rfl, by rw [if_neg (by decide)]; exact k⟩
end

end K19
namespace K19
open PySem PySem.Spec PyProof.Rows L2 Own OwnSeq OwnSet OwnComb OwnSort OwnHot OwnExN OwnProj
local macro_rules | `(tactic| walk_at "rd") => `(tactic| simp only [tSeq, tAsg, tOp, tUn, tVar, gName, gSub, rIxL, rIxT, rSetL, tC, rI0, rI, rU, rEq, rNe, tCons, tNil, tCB, tLst, tTup, tIfS, tAnd, tOr, tNot, tAndV, tOrV, tNotV, tTest, tB, tIf, tRet, tDrop, tNext, tBreak, tCont, tCall, tCallS, L2.WE, tMakeS, rIsS, rIsB, tChain, gSeq, gRest, gCons, gNil, tFor_seq, tFor_enumS, tLc_seq, tLc_enumS, rAny, rAll, L2.tMeth, StX.tStar, rIn, tLstRg, tRg1, tRg2, rSetI, rSortedSet, rInDT, rInD, rNotInD, rEqD, rNeD, iComb, tFld, tMake, tMkO, sFld, tOst, tNever, tBits, clv, isB,
  Rd.tFor_rng1, Rd.tFor_rng2, Rd.tFor_list, Rd.tFor_tup, Rd.tLc_list, Rd.tLc_tup, Rd.tLc_rng1, Rd.LcTurn, tYes, wipe, Rd.rLenL, Rd.rLenT, Rd.rIntI, Rd.rIxH, rIxHT,  HO.tup.injEq, Rd.at0, Rd.at1, Rd.at2, Rd.at3, Rd.ixN40, Rd.ixN41, Rd.ixN42, Rd.ixN43, Rd.scal_ii, cxOf,
  List.length_cons, List.length_nil, List.length_map, List.map_cons, List.map_nil, upd_same, decide_eq_true_eq, decide_true, decide_false, if_true, if_false, Bool.false_eq_true, Bool.not_true, Bool.not_false, HO.lst.injEq, HO.ins.injEq, List.set_cons_zero, List.set_cons_succ, List.getElem?_cons_zero, List.getElem?_cons_succ, List.append_nil, List.nil_append, List.cons_append, Option.some.injEq, V.ref.injEq, V.int.injEq, V.bl.injEq, List.cons.injEq, exists_eq_left', exists_and_left, exists_eq_left, true_and, and_true, and_self, and_assoc, implies_true, reduceCtorEq, Nat.reduceAdd])

section
variable {P : Program} {w : World} {K : PySem.W.Frag} {mg : Str → Option Value} {base : Heap} {a : Ad}
theorem tup_but {b : Addr} {H H' : Hp} {l : List V} (e : But b H H') (hb : H b = some (.lst l)) : ∀ q k, H q = some (.tup k) → H' q = some (.tup k) := fun q k h => e q _ (fun z => by rw [z, hb] at h; cases h) h
theorem cut {t u : TS} {D : Ends} {σ : L2.St} {H : Hp} (G : L2.St → Hp → Prop) (h : ∀ R : L2.St → Hp → Prop, (∀ σ H, G σ H → R σ H) → t { D with nx := R } σ H) (k : ∀ σ H, G σ H → u D σ H) : tSeq t u D σ H := h (u D) k
theorem passAt0 {X : Cx} {σ : L2.St} : PassesAt CX0 X σ E0 := fun _ _ _ _ _ _ h => h.elim
theorem fn_zero {P : Program} {w : World} {K : PySem.W.Frag} {mg : Str → Option Value} {base : Heap} {CX : CXT} {k : Nat} {f : Addr} {fd : FuncData} {ps : List Str} : FnOk P w K mg base CX k f fd ps (fun _ _ _ _ => False) := ⟨fun _ _ _ _ h => h.elim, fun _ _ _ _ _ _ _ _ _ _ _ _ _ h => h.elim⟩
theorem fnH_zero {P : Program} {w : World} {K : PySem.W.Frag} {mg : Str → Option Value} {base : Heap} {CX : CXT} {k : Nat} {f : Addr} {fd : FuncData} {ps : List Str} : L2H.FnH P w K mg base CX k f fd ps (fun _ _ _ _ => False) := ⟨fun _ _ _ _ h => h.elim, fun _ _ _ _ _ _ _ _ _ _ _ _ _ _ _ _ h => h.elim⟩
theorem lcl_tup {K : PySem.W.Frag} {a : Addr} {xs : List V} {g : TG} {tt : TT} {te : TE} {vs : List Nat} {σ : L2.St} {H : Hp} {Q : VK} (Pv : Addr → Nat → Hp → Prop) (h0 : ∀ D, H D = none → Pv D 0 (upd H D (.lst []))) (hl : ∀ D i H1, i ≤ xs.length → Pv D i H1 → SqT K H1 a xs)
    (hs : ∀ D i x H1, xs[i]? = some x → Pv D i H1 → g x (wipe σ vs) H1 fun σ2 H2 => Rd.LcTurn te tt D (wipe σ vs) σ2 vs H2 (Pv D (i + 1))) (hd : ∀ D H1, H D = none → Pv D xs.length H1 → Q (.ref D) H1) : Rd.LcL (Itt K a) g tt te vs σ H Q :=
  fun D hD => lc_tup (Pv D) (h0 D hD) (hl D) (hs D) fun H1 p => hd D H1 hD p
theorem roomM {k : Nat} {A : Around} {h : Option Value} (r : Room k A) : L2H.RoomH k (A.mark h) := ⟨r.dp, r.un⟩
theorem hotN {A : Around} {a : Addr} {oe : Obj} {cls : Value} {d : Option Addr} (hz : L2N.Zn cls d oe) (hf : ∃ vs, oe.data = .fields vs) : L2H.Hot1 (A.mark (some (.ref a))) (a, oe) := ⟨rfl, let ⟨v, e⟩ := hf; ⟨v, e, hz.2.2 v e⟩⟩
/-- the rule of a def that is called while an exception is handled -/
theorem okH {x qual : Str} {st : Stmt} {f : Addr} {fd : FuncData} {N ps : List Str} {k : Nat} {sp : Sp} (F : Fun K x qual st f fd) (S : FnScope N ps (defScope st)) (len : ∀ vs H Q E, sp vs H Q E → vs.length = ps.length)
    (hbody : ∀ (cdv : Value) (A : Around) (outer : List Env) (s : Shared) (H : Hp) (vs : List V) (Q : VK) (E : XK) (p : Addr × Obj), L2H.Hot1 A p → L2H.RoomH k (A.deeper (envOfC qual (defScope st) s.heap.objs.size f cdv)) → sp vs H Q E →
      ∃ t, PSs (L2H.cxH CX0 P w K mg base N qual (defScope st) f cdv A outer s H E p) (defBody st) t ∧ t { nx := fun _ H' => Q .non H', rt := Q } (L2.start N vs) H) : L2H.FnH P w K mg base CX0 (k + 1) f fd ps sp := by
  obtain ⟨oc, od, kV, doc, pm, an, cdv, ct, osl, rfl, lk, hcd⟩ := F.ex
  exact L2H.fn_ofH lk hcd S len fun A outer s H vs Q E p hot hr hsp => hbody cdv A outer s H vs Q E p hot hr hsp
/-- an item of a list or a tuple -/
def rIxHS : R2 := fun x y H Q => ∃ p xs i z l, x = .ref p ∧ y = .int i ∧ H p = some (sq l xs) ∧ atI xs i = some z ∧ Q z H
theorem ixHS {X : Cx} : IxR X rIxHS := fun value slice pins s σ H x y v u Q I rx ry ⟨p, xs, i, z, l, e1, e2, h, e3, q⟩ hs => by
  cases l with
  | true => exact Rd.ixH value slice pins s σ H x y v u Q I rx ry ⟨p, xs, i, z, e1, e2, h, e3, q⟩ hs
  | false => exact ixHT value slice pins s σ H x y v u Q I rx ry ⟨p, xs, i, z, e1, e2, h, e3, q⟩ hs
/-! ### _law_integer -/
theorem sc_law_integer : FnScope ["value"] ["value"] (defScope s_law_integer) := ⟨rfl, rfl, rfl, by decide +kernel, rfl, by decide +kernel, by decide +kernel⟩
theorem ok_law_integer (T : Txt K mg a) : FnOk P w K mg base CX0 1 a.a_law_integer a.d_law_integer ["value"] (spWhole a.C_Frac) := by
  refine T.fn_law_integer.ok sc_law_integer (fun vs H Q E h => ?_) (fun cdv A outer s H vs Q E hr h => ?_)
  · obtain ⟨v, g, rfl, _⟩ := h
    rfl
  · obtain ⟨v, g, rfl, t, k⟩ := h
    refine ⟨_, (pss_one (ps_ret (pe_and (pe_callB (call_isK T .int) (by rfl) T.no_isinstance (by decide +kernel) (pa_cons (pv 0) (pa_cons (pe_bltn (v := .ty "int") (u := .type "int") (by rfl) T.no_int (by decide +kernel) rfl) pa_nil))) (pe_one (pe_not (pe_callB (call_isK T .bl) (by rfl) T.no_isinstance (by decide +kernel) (pa_cons (pv 0) (pa_cons (pe_bltn (v := .ty "bool") (u := .type "bool") (by rfl) T.no_bool (by decide +kernel) rfl) pa_nil)))))))), ?_⟩
    show (_ : TS) _ [some v] H
    walk_at "rd"
    refine ⟨v, g, rfl, t, fun _ => by decide, ?_⟩
    refine ⟨_, rfl, ?_⟩
    cases g with
    | int => exact ite2 (fun _ => ⟨v, _, rfl, t, (fun z => nomatch z), _, rfl, k⟩) (fun h => absurd rfl h)
    | bl => exact ite2 (fun _ => ⟨v, _, rfl, t, (fun z => nomatch z), _, rfl, k⟩) (fun h => absurd rfl h)
    | _ => exact ite2 (fun (h : false = true) => nomatch h) (fun _ => k)
theorem okH_law_integer (T : Txt K mg a) : L2H.FnH P w K mg base CX0 1 a.a_law_integer a.d_law_integer ["value"] (spWhole a.C_Frac) := by
  refine okH T.fn_law_integer sc_law_integer (fun vs H Q E h => ?_) (fun cdv A outer s H vs Q E hp0 hot hr h => ?_)
  · obtain ⟨v, g, rfl, _⟩ := h
    rfl
  · obtain ⟨v, g, rfl, t, k⟩ := h
    refine ⟨_, (pss_one (ps_ret (pe_and (pe_callB (call_isK T .int) (by rfl) T.no_isinstance (by decide +kernel) (pa_cons (pv 0) (pa_cons (pe_bltn (v := .ty "int") (u := .type "int") (by rfl) T.no_int (by decide +kernel) rfl) pa_nil))) (pe_one (pe_not (pe_callB (call_isK T .bl) (by rfl) T.no_isinstance (by decide +kernel) (pa_cons (pv 0) (pa_cons (pe_bltn (v := .ty "bool") (u := .type "bool") (by rfl) T.no_bool (by decide +kernel) rfl) pa_nil)))))))), ?_⟩
    show (_ : TS) _ [some v] H
    walk_at "rd"
    refine ⟨v, g, rfl, t, fun _ => by decide, ?_⟩
    refine ⟨_, rfl, ?_⟩
    cases g with
    | int => exact ite2 (fun _ => ⟨v, _, rfl, t, (fun z => nomatch z), _, rfl, k⟩) (fun h => absurd rfl h)
    | bl => exact ite2 (fun _ => ⟨v, _, rfl, t, (fun z => nomatch z), _, rfl, k⟩) (fun h => absurd rfl h)
    | _ => exact ite2 (fun (h : false = true) => nomatch h) (fun _ => k)
/-! ### _law_shape -/
def spShape (K : PySem.W.Frag) : Sp := fun vs H Q _ => ∃ (b c p : Addr) (ns : List Int) (l : Bool) (xs : List V), vs = [.ref b, .ref p] ∧ BoxAt K H b c ns ∧ p ≠ b ∧ H p = some (sq l xs) ∧ xs.length ≤ 200 ∧
  ∀ q l' H', BoxAt K H' b c ns → But b H H' → q ≠ b → H' q = some (sq l' xs) → (l' = true → H q = none) → Q (.ref q) H'
theorem sc_law_shape : FnScope ["box", "parts"] ["box", "parts"] (defScope s_law_shape) := ⟨rfl, rfl, rfl, by decide +kernel, rfl, by decide +kernel, by decide +kernel⟩
theorem ok_law_shape (T : Txt K mg a) : FnOk P w K mg base CX0 2 a.a_law_shape a.d_law_shape ["box", "parts"] (spShape K) := by
  refine T.fn_law_shape.ok sc_law_shape (fun vs H Q E h => ?_) (fun cdv A outer s H vs Q E hr h => ?_)
  · obtain ⟨b, c, p, ns, l, xs, rfl, _⟩ := h
    rfl
  · obtain ⟨b, c, p, ns, l, xs, rfl, B, pb, hp, x6, k⟩ := h
    refine ⟨_, (pss_cons (ps_if (pt_cmpR op_eq (pe_call (ok_law_draw T) (hr.mono (by decide)) (by rfl) T.mg_law_draw T.fn_law_draw.kp T.b_law_draw .nil pass0 (pa_cons (pv 0) (pa_cons pe_int pa_nil))) pe_int (nomark _)) (pss_one (ps_ret (pe_callTy call_list_of (by rfl) T.no_list (by decide +kernel) (pa_cons (pv 1) pa_nil)))) pss_nil)
      (pss_one (ps_ret (pe_callTy call_tuple_of (by rfl) T.no_tuple (by decide +kernel) (pa_cons (pv 1) pa_nil))))), ?_⟩
    show (_ : TS) _ [some (V.ref b), some (V.ref p)] H
    walk_at "rd"
    refine drw B (by decide) (by decide) fun x H1 x2 B1 e1 => ⟨rfl, ?_⟩
    have hp1 := e1 _ _ pb hp
    have mk1 : ∀ (l : Addr) (l' : Bool), H1 l = none → Q (.ref l) (upd H1 l (sq l' xs)) := fun l l' hl => by
      have lb := B1.ne_new hl
      have z : But b H (upd H1 l (sq l' xs)) := e1.updn (e1.free lb hl)
      exact k l l' _ (B.upd B1 lb z) z lb upd_same fun _ => e1.free lb hl
    refine ite2 (fun _ => ⟨xs, (seqOr hp1), fun q hq => mk1 q true hq⟩) (fun _ => ⟨xs, ?_⟩)
    cases l with
    | true => exact .inl ⟨SqL.of hp1, fun q hq => mk1 q false hq⟩
    | false => exact .inr ⟨SqT.of hp1, k p false H1 B1 e1 pb hp1 fun h => by cases h⟩
/-! ### _law_is_set -/
def spIs : Sp := fun vs H Q _ => ∃ (p q : Addr) (l : Bool) (s : List Nat), vs = [.ref p, .ref q] ∧ H p = some (.tup (iv s)) ∧ H q = some (sq l (iv s)) ∧ s.length ≤ 6 ∧ Q (.bl true) H
theorem sc_law_is_set : FnScope ["actual", "due", "k"] ["actual", "due"] (defScope s_law_is_set) := ⟨rfl, rfl, rfl, by decide +kernel, rfl, by decide +kernel, by decide +kernel⟩
theorem ok_law_is_set (T : Txt K mg a) : FnOk P w K mg base CX0 2 a.a_law_is_set a.d_law_is_set ["actual", "due"] spIs := by
  refine T.fn_law_is_set.ok sc_law_is_set (fun vs H Q E h => ?_) (fun cdv A outer s H vs Q E hr h => ?_)
  · obtain ⟨p, q, l, s, rfl, _⟩ := h
    rfl
  · obtain ⟨p, q, l, s', rfl, hp, hq, s6, k⟩ := h
    refine ⟨_, (pss_cons (ps_if (PW.pt (pw_or (pt_not (pt_val (pe_callB (call_isB .tup) (by rfl) T.no_isinstance (by decide +kernel) (pa_cons (pv 0) (pa_cons (pe_bltn (v := .ty "tuple") (u := .type "tuple") (by rfl) T.no_tuple (by decide +kernel) rfl) pa_nil))))) (pw_or1 (pt_cmpR op_ne (pe_callB (lenK K) (by rfl) T.no_len PySem.boot_len (pa_cons (pv 0) pa_nil)) (pe_callB (lenK K) (by rfl) T.no_len PySem.boot_len (pa_cons (pv 1) pa_nil)) (nomark _))))) (pss_one (ps_ret pe_bl)) pss_nil)
      (pss_cons (ps_for PassesOwn.never rfl (pi_range1 (by rfl) T.no_range (pa_cons (pe_callB (lenK K) (by rfl) T.no_len PySem.boot_len (pa_cons (pv 1) pa_nil)) pa_nil)) (pg_name (i := 2) sc_law_is_set.nd rfl (Or.inl rfl))
        (pss_one (ps_if (PW.pt (pw_or (pt_not (pt_val (pe_call (ok_law_integer T) (hr.mono (by decide)) (by rfl) T.mg_law_integer T.fn_law_integer.kp T.b_law_integer .nil pass0 (pa_cons (pe_ix ixHT (pv 0) (pv 2) (fun _ _ => rfl)) pa_nil)))) (pw_or1 (pt_cmpR op_ne (pe_ix ixHT (pv 0) (pv 2) (fun _ _ => rfl)) (pe_ix ixHS (pv 1) (pv 2) (fun _ _ => rfl)) (nomark _))))) (pss_one (ps_ret pe_bl)) pss_nil)))
      (pss_one (ps_ret pe_bl)))), ?_⟩
    show (_ : TS) _ [some (V.ref p), some (V.ref q), none] H
    walk_at "rd"
    refine ⟨.tup, .tup hp, ?_⟩
    rw [if_neg (by decide)]
    refine ⟨_, .inr (SqT.of hp), _, seqOr hq, ?_⟩
    rw [if_neg (by simp)]
    refine ⟨_, seqOr hq, ?_⟩
    rw [iv_len, Int.toNat_natCast]
    refine ⟨by omega, by omega, Rd.loop_rngC (fun σ H' => ∃ o2, σ = [some (V.ref p), some (V.ref q), o2] ∧ H' = H) (fun _ σ H' => ∃ o2, σ = [some (V.ref p), some (V.ref q), o2] ∧ H' = H) ⟨none, rfl, rfl⟩ ?_ (fun _ _ z => z) ?_⟩
    · rintro bk hbk i σ H2 hi ⟨o2, rfl, rfl⟩
      walk_at "rd"
      rw [Int.zero_add]
      have ge := iv_at (List.getElem?_eq_getElem hi)
      refine ⟨_, hp, _, ge, _, .int, rfl, .int _, _, rfl, ?_⟩
      rw [if_neg (by decide)]
      refine ⟨_, hp, _, ge, ⟨q, _, _, _, l, rfl, rfl, hq, ge, ?_⟩⟩
      walk_at "rd"
    · rintro σ H2 ⟨o2, rfl, rfl⟩
      walk_at "rd"
      exact k
theorem okH_law_is_set (T : Txt K mg a) : L2H.FnH P w K mg base CX0 2 a.a_law_is_set a.d_law_is_set ["actual", "due"] spIs := by
  refine okH T.fn_law_is_set sc_law_is_set (fun vs H Q E h => ?_) (fun cdv A outer s H vs Q E hp0 hot hr h => ?_)
  · obtain ⟨p, q, l, s, rfl, _⟩ := h
    rfl
  · obtain ⟨p, q, l, s', rfl, hp, hq, s6, k⟩ := h
    refine ⟨_, (pss_cons (ps_if (PW.pt (pw_or (pt_not (pt_val (pe_callB (call_isB .tup) (by rfl) T.no_isinstance (by decide +kernel) (pa_cons (pv 0) (pa_cons (pe_bltn (v := .ty "tuple") (u := .type "tuple") (by rfl) T.no_tuple (by decide +kernel) rfl) pa_nil))))) (pw_or1 (pt_cmpR op_ne (pe_callB (lenK K) (by rfl) T.no_len PySem.boot_len (pa_cons (pv 0) pa_nil)) (pe_callB (lenK K) (by rfl) T.no_len PySem.boot_len (pa_cons (pv 1) pa_nil)) (nomark _))))) (pss_one (ps_ret pe_bl)) pss_nil)
      (pss_cons (L2H.ps_forH (passes_of rfl) ⟨hp0, hot, List.mem_singleton.mpr rfl⟩ (L2H.pi_range1H (by rfl) T.no_range (pa_cons (pe_callB (lenK K) (by rfl) T.no_len PySem.boot_len (pa_cons (pv 1) pa_nil)) pa_nil)) (pg_name (i := 2) sc_law_is_set.nd rfl (Or.inl rfl))
        (pss_one (ps_if (PW.pt (pw_or (pt_not (pt_val (L2H.pe_callH (okH_law_integer T) (hr.mono (by decide)) ⟨hp0, hot, List.mem_singleton.mpr rfl⟩ (by rfl) T.mg_law_integer T.fn_law_integer.kp T.b_law_integer (fun _ => passAt0) (pa_cons (pe_ix ixHT (pv 0) (pv 2) (fun _ _ => rfl)) pa_nil)))) (pw_or1 (pt_cmpR op_ne (pe_ix ixHT (pv 0) (pv 2) (fun _ _ => rfl)) (pe_ix ixHS (pv 1) (pv 2) (fun _ _ => rfl)) (nomark _))))) (pss_one (ps_ret pe_bl)) pss_nil)))
      (pss_one (ps_ret pe_bl)))), ?_⟩
    show (_ : TS) _ [some (V.ref p), some (V.ref q), none] H
    walk_at "rd"
    refine ⟨.tup, .tup hp, ?_⟩
    rw [if_neg (by decide)]
    refine ⟨_, .inr (SqT.of hp), _, seqOr hq, ?_⟩
    rw [if_neg (by simp)]
    refine ⟨_, seqOr hq, ?_⟩
    rw [iv_len, Int.toNat_natCast]
    refine ⟨by omega, by omega, Rd.loop_rngC (fun σ H' => ∃ o2, σ = [some (V.ref p), some (V.ref q), o2] ∧ H' = H) (fun _ σ H' => ∃ o2, σ = [some (V.ref p), some (V.ref q), o2] ∧ H' = H) ⟨none, rfl, rfl⟩ ?_ (fun _ _ z => z) ?_⟩
    · rintro bk hbk i σ H2 hi ⟨o2, rfl, rfl⟩
      walk_at "rd"
      rw [Int.zero_add]
      have ge := iv_at (List.getElem?_eq_getElem hi)
      refine ⟨_, hp, _, ge, _, .int, rfl, .int _, _, rfl, ?_⟩
      rw [if_neg (by decide)]
      refine ⟨_, hp, _, ge, ⟨q, _, _, _, l, rfl, rfl, hq, ge, ?_⟩⟩
      walk_at "rd"
    · rintro σ H2 ⟨o2, rfl, rfl⟩
      walk_at "rd"
      exact k
/-! ### _law_are_sets -/
def spAre : Sp := fun vs H Q _ => ∃ (p q : Addr) (xs ys : List V) (ss : List (List Nat)), vs = [.ref p, .ref q] ∧ H p = some (.tup xs) ∧ H q = some (.lst ys) ∧ Tups H xs ss ∧ Tups H ys ss ∧ ss.length ≤ 64 ∧ (∀ s ∈ ss, s.length ≤ 6) ∧ Q (.bl true) H
theorem sc_law_are_sets : FnScope ["actual", "due", "k"] ["actual", "due"] (defScope s_law_are_sets) := ⟨rfl, rfl, rfl, by decide +kernel, rfl, by decide +kernel, by decide +kernel⟩
theorem ok_law_are_sets (T : Txt K mg a) : FnOk P w K mg base CX0 3 a.a_law_are_sets a.d_law_are_sets ["actual", "due"] spAre := by
  refine T.fn_law_are_sets.ok sc_law_are_sets (fun vs H Q E h => ?_) (fun cdv A outer s H vs Q E hr h => ?_)
  · obtain ⟨p, q, xs, ys, ss, rfl, _⟩ := h
    rfl
  · obtain ⟨p, q, xs, ys, ss, rfl, hp, hq, tx, ty, l64, l6, k⟩ := h
    refine ⟨_, (pss_cons (ps_if (PW.pt (pw_or (pt_not (pt_val (pe_callB (call_isB .tup) (by rfl) T.no_isinstance (by decide +kernel) (pa_cons (pv 0) (pa_cons (pe_bltn (v := .ty "tuple") (u := .type "tuple") (by rfl) T.no_tuple (by decide +kernel) rfl) pa_nil))))) (pw_or1 (pt_cmpR op_ne (pe_callB (lenK K) (by rfl) T.no_len PySem.boot_len (pa_cons (pv 0) pa_nil)) (pe_callB (lenK K) (by rfl) T.no_len PySem.boot_len (pa_cons (pv 1) pa_nil)) (nomark _))))) (pss_one (ps_ret pe_bl)) pss_nil)
      (pss_cons (ps_for PassesOwn.never rfl (pi_range1 (by rfl) T.no_range (pa_cons (pe_callB (lenK K) (by rfl) T.no_len PySem.boot_len (pa_cons (pv 1) pa_nil)) pa_nil)) (pg_name (i := 2) sc_law_are_sets.nd rfl (Or.inl rfl))
        (pss_one (ps_if (pt_not (pt_val (pe_call (ok_law_is_set T) (hr.mono (by decide)) (by rfl) T.mg_law_is_set T.fn_law_is_set.kp T.b_law_is_set .nil pass0 (pa_cons (pe_ix ixHT (pv 0) (pv 2) (fun _ _ => rfl)) (pa_cons (pe_ix Rd.ixH (pv 1) (pv 2) (fun _ _ => rfl)) pa_nil))))) (pss_one (ps_ret pe_bl)) pss_nil)))
      (pss_one (ps_ret pe_bl)))), ?_⟩
    show (_ : TS) _ [some (V.ref p), some (V.ref q), none] H
    have lx := tx.len
    have ly := ty.len
    walk_at "rd"
    refine ⟨.tup, .tup hp, ?_⟩
    rw [if_neg (by decide)]
    refine ⟨_, .inr (SqT.of hp), _, .inl (SqL.of hq), ?_⟩
    rw [if_neg (by simp; omega)]
    refine ⟨_, .inl (SqL.of hq), by omega, by omega, Rd.loop_rngC (fun σ H' => ∃ o2, σ = [some (V.ref p), some (V.ref q), o2] ∧ H' = H) (fun _ σ H' => ∃ o2, σ = [some (V.ref p), some (V.ref q), o2] ∧ H' = H) ⟨none, rfl, rfl⟩ ?_ (fun _ _ z => z) ?_⟩
    · rintro bk hbk i σ H2 hi ⟨o2, rfl, rfl⟩
      rw [Int.toNat_natCast] at hi
      obtain ⟨s', hs⟩ : ∃ s', ss[i]? = some s' := ⟨_, List.getElem?_eq_getElem (by omega)⟩
      obtain ⟨p1, up1, hp1⟩ := tx.get hs
      obtain ⟨p2, up2, hp2⟩ := ty.get hs
      walk_at "rd"
      rw [Int.zero_add]
      refine ⟨_, hp, _, atI_nat up1, _, hq, _, atI_nat up2, p1, p2, false, s', rfl, hp1, hp2, l6 s' (List.mem_of_getElem? hs), _, rfl, ?_⟩
      rw [if_neg (by decide)]
    · rintro σ H2 ⟨o2, rfl, rfl⟩
      walk_at "rd"
      exact k
end

end K19
namespace K19
open PySem PySem.Spec PyProof.Rows L2 Own OwnSeq OwnSet OwnComb OwnSort OwnHot OwnExN OwnProj
local macro_rules | `(tactic| walk_at "rd") => `(tactic| simp only [tSeq, tAsg, tOp, tUn, tVar, gName, gSub, rIxL, rIxT, rSetL, tC, rI0, rI, rU, rEq, rNe, tCons, tNil, tCB, tLst, tTup, tIfS, tAnd, tOr, tNot, tAndV, tOrV, tNotV, tTest, tB, tIf, tRet, tDrop, tNext, tBreak, tCont, tCall, tCallS, L2.WE, tMakeS, rIsS, rIsB, tChain, gSeq, gRest, gCons, gNil, tFor_seq, tFor_enumS, tLc_seq, tLc_enumS, rAny, rAll, L2.tMeth, StX.tStar, rIn, tLstRg, tRg1, tRg2, rSetI, rSortedSet, rInDT, rInD, rNotInD, rEqD, rNeD, iComb, tFld, tMake, tMkO, sFld, tOst, tNever, tBits, clv, isB,
  Rd.tFor_rng1, Rd.tFor_rng2, Rd.tFor_list, Rd.tFor_tup, Rd.tLc_list, Rd.tLc_tup, Rd.tLc_rng1, Rd.LcTurn, tYes, wipe, Rd.rLenL, Rd.rLenT, Rd.rIntI, Rd.rIxH, rIxHT,  HO.tup.injEq, Rd.at0, Rd.at1, Rd.at2, Rd.at3, Rd.ixN40, Rd.ixN41, Rd.ixN42, Rd.ixN43, Rd.scal_ii, cxOf,
  List.length_cons, List.length_nil, List.length_map, List.map_cons, List.map_nil, upd_same, decide_eq_true_eq, decide_true, decide_false, if_true, if_false, Bool.false_eq_true, Bool.not_true, Bool.not_false, HO.lst.injEq, HO.ins.injEq, List.set_cons_zero, List.set_cons_succ, List.getElem?_cons_zero, List.getElem?_cons_succ, List.append_nil, List.nil_append, List.cons_append, Option.some.injEq, V.ref.injEq, V.int.injEq, V.bl.injEq, List.cons.injEq, exists_eq_left', exists_and_left, exists_eq_left, true_and, and_true, and_self, and_assoc, implies_true, reduceCtorEq, Nat.reduceAdd])

theorem pi_told {X : Cx} {e tg : Expr} {te : TE} (K : PySem.W.Frag) (he : PE X e te) (hK : X.K = K := by rfl) : PI X tg e (iSeq K te) := hK ▸ pi_seq he
theorem pi_toldL {X : Cx} {e tg : Expr} {te : TE} (K : PySem.W.Frag) (he : PE X e te) (hK : X.K = K := by rfl) : PI X tg e (iList K te) := hK ▸ pi_list he
/-- str(None), str(a bool), str(an int) -/
def txS : Wv → Str
  | .bl b => if b then "True" else "False"
  | .int i => toString i
  | _ => "None"
theorem callStr {X : Cx} : CallR X (.type "str") (fun xs H Q => ∃ v w, xs = [v] ∧ (w = .non ∧ v = .non ∨ (∃ b, w = .bl b ∧ v = .bl b) ∨ ∃ i : Int, w = .int i ∧ v = .int i ∧ i.natAbs.log2 < 1920) ∧ Q (.str (txS w)) H) := by
  intro pins s σ H xs us Q I r h
  obtain ⟨v, w, rfl, hz, q⟩ := h
  obtain ⟨u, rfl, r1⟩ := vals1 r
  rcases hz with ⟨rfl, rfl⟩ | ⟨b, rfl, rfl⟩ | ⟨i, rfl, rfl, hz⟩
  · cases r1
    exact PySem.P.str_of_none ⟨.str _, H, I.tok _, ⟨_, rfl⟩, q⟩
  · cases r1
    exact PySem.P.str_of_bool ⟨.str _, H, I.tok _, ⟨_, rfl⟩, q⟩
  · obtain ⟨t, rfl⟩ := r1
    exact PySem.P.str_of_int hz ⟨.str _, H, I.tok _, ⟨_, rfl⟩, q⟩
/-- how deep a value is -/
inductive Dep : Nat → Wv → Prop
  | non {d} : Dep d .non
  | bl {d} (b : Bool) : Dep d (.bl b)
  | int {d} {i : Int} (h : -10 < i) (h' : i < 10 ^ 21) : Dep d (.int i)
  | str {d} {s : Str} (h : s.length ≤ 3) : Dep d (.str s)
  | fr {d} {n e : Nat} (h : n < 10) (h' : e < 10) : Dep d (.fr n e)
  | lst {d} {ws : List Wv} (l : ws.length ≤ 9) (h : ∀ w ∈ ws, Dep d w) : Dep (d + 1) (.lst ws)
  | tup {d} {ws : List Wv} (l : ws.length ≤ 9) (h : ∀ w ∈ ws, Dep d w) : Dep (d + 1) (.tup ws)
theorem Dep.up {d : Nat} : ∀ {w : Wv}, Dep d w → Dep (d + 1) w := by
  induction d with
  | zero =>
    intro w h
    cases h with
    | non => exact .non
    | bl b => exact .bl b
    | int h h' => exact .int h h'
    | str h => exact .str h
    | fr h h' => exact .fr h h'
  | succ d ih =>
    intro w h
    cases h with
    | non => exact .non
    | bl b => exact .bl b
    | int h h' => exact .int h h'
    | str h => exact .str h
    | fr h h' => exact .fr h h'
    | lst l h => exact .lst l fun w m => ih (h w m)
    | tup l h => exact .tup l fun w m => ih (h w m)
theorem len_app (i j : Str) : (i ++ j).length = i.length + j.length := Array.size_append
theorem log_fit {i : Int} (h : -10 < i) (h' : i < 10 ^ 21) : i.natAbs.log2 < 1920 := by
  by_cases z : i.natAbs = 0
  · rw [z]; decide
  · exact (Nat.log2_lt z).mpr (Nat.lt_of_lt_of_le (show i.natAbs < 10 ^ 21 by omega) (Nat.le_trans (show 10 ^ 21 ≤ 2 ^ 70 by decide) (Nat.pow_le_pow_right (by decide) (by decide))))
theorem negs : ((List.range 9).all fun k => decide ((Str.ofString (toString (-(k : Int) - 1))).length ≤ 2)) = true := by decide +kernel
theorem int_len {i : Int} (h : -10 < i) (h' : i < 10 ^ 21) : (Str.ofString (toString i)).length ≤ 21 := by
  by_cases z : 0 ≤ i
  · exact PyProof.Rows.toString_length_le z (by decide) h'
  · have y := of_decide_eq_true (List.all_eq_true.mp negs (-i - 1).toNat (List.mem_range.mpr (by omega)))
    rw [show (-(((-i - 1).toNat : Nat) : Int) - 1) = i by omega] at y
    omega
section
variable {P : Program} {w : World} {K : PySem.W.Frag} {mg : Str → Option Value} {base : Heap} {a : Ad}
/-! ### _law_text -/
mutual
def tx : Wv → Str
  | .fr n d => (((Str.ofString "F(" ++ toString n) ++ Str.ofString ",") ++ toString d) ++ Str.ofString ")"
  | .lst ws => (Str.ofString "[" ++ Txt.join (Str.ofString ",") (txs ws)) ++ Str.ofString "]"
  | .tup ws => (Str.ofString "(" ++ Txt.join (Str.ofString ",") (txs ws)) ++ Str.ofString ")"
  | .str s => (Str.ofString "'" ++ s) ++ Str.ofString "'"
  | w => txS w
def txs : List Wv → List Str
  | [] => []
  | w :: ws => tx w :: txs ws
end
theorem txs_eq : ∀ ws : List Wv, txs ws = ws.map tx
  | [] => rfl
  | w :: ws => by rw [List.map_cons, ← txs_eq ws]; rfl
theorem txs_len (ws : List Wv) : (txs ws).length = ws.length := by rw [txs_eq, List.length_map]
theorem sum_le {B : Nat} : ∀ {ws : List Wv}, (∀ w ∈ ws, (tx w).length ≤ B) → ((txs ws).map (·.length)).sum ≤ ws.length * B
  | [], _ => by simp [txs]
  | w :: ws, h => by
    have i := sum_le fun w m => h w (List.mem_cons_of_mem _ m)
    have j := h w List.mem_cons_self
    rw [List.length_cons, Nat.succ_mul]
    show (tx w).length + ((txs ws).map (·.length)).sum ≤ _
    omega
theorem join_le {B : Nat} {ws : List Wv} (l : ws.length ≤ 9) (h : ∀ w ∈ ws, (tx w).length ≤ B) : ((txs ws).map (·.length)).sum + (txs ws).length * (Str.ofString ",").length ≤ 9 * B + 9 ∧ (Txt.join (Str.ofString ",") (txs ws)).length ≤ 9 * B + 9 := by
  have a := sum_le h
  have b : ws.length * B ≤ 9 * B := Nat.mul_le_mul_right B l
  have c : (Str.ofString ",").length = 1 := by decide +kernel
  have d := PySem.StrLaws.join_length_le (Str.ofString ",") (txs ws)
  rw [show Str.join (Str.ofString ",") (txs ws) = Txt.join (Str.ofString ",") (txs ws) from (PySem.StrLaws.glued_eq_join _ _).symm] at d
  rw [txs_len, c, Nat.mul_one] at *
  exact ⟨by omega, by omega⟩
theorem tx_len {d : Nat} : ∀ {w : Wv}, Dep d w → (tx w).length ≤ 30 * 10 ^ d := by
  have one : ∀ {w : Wv}, (∀ ws, w ≠ .lst ws) → (∀ ws, w ≠ .tup ws) → Dep d w → (tx w).length ≤ 30 := fun {w} n1 n2 h => by
    cases h with
    | non => exact (by decide +kernel : (Str.ofString "None").length ≤ 30)
    | bl b => cases b <;> decide +kernel
    | int h h' =>
      have := int_len h h'
      show (Str.ofString (toString _)).length ≤ 30
      omega
    | str h =>
      show ((Str.ofString "'" ++ _) ++ Str.ofString "'").length ≤ 30
      rw [len_app, len_app, show (Str.ofString "'").length = 1 by decide +kernel]
      omega
    | fr h h' =>
      rename_i n e
      show (((((Str.ofString "F(" ++ Str.ofString (toString (n : Int))) ++ Str.ofString ",") ++ Str.ofString (toString (e : Int))) ++ Str.ofString ")")).length ≤ 30
      have z1 := PyProof.Rows.toString_length_le (v := (n : Int)) (by omega) (k := 1) (by decide) (by omega)
      have z2 := PyProof.Rows.toString_length_le (v := (e : Int)) (by omega) (k := 1) (by decide) (by omega)
      rw [len_app, len_app, len_app, len_app, show (Str.ofString "F(").length = 2 by decide +kernel, show (Str.ofString ",").length = 1 by decide +kernel, show (Str.ofString ")").length = 1 by decide +kernel]
      omega
    | lst l h => exact absurd rfl (n1 _)
    | tup l h => exact absurd rfl (n2 _)
  induction d with
  | zero =>
    intro w h
    rw [Nat.pow_zero, Nat.mul_one]
    exact one (fun ws z => by subst z; cases h) (fun ws z => by subst z; cases h) h
  | succ d ih =>
    intro w h
    have p : 0 < 10 ^ d := Nat.pow_pos (by decide)
    have e : 10 ^ (d + 1) = 10 ^ d * 10 := Nat.pow_succ ..
    have ih' : ∀ w, Dep d w → (tx w).length ≤ 30 * 10 ^ d := fun w h => by
      refine ih (fun {w} n1 n2 h => ?_) h
      exact one n1 n2 h.up
    cases h with
    | lst l h =>
      have := (join_le l fun w m => ih' w (h w m)).2
      show ((Str.ofString "[" ++ Txt.join (Str.ofString ",") (txs _)) ++ Str.ofString "]").length ≤ _
      rw [len_app, len_app, show (Str.ofString "[").length = 1 by decide +kernel, show (Str.ofString "]").length = 1 by decide +kernel]
      omega
    | tup l h =>
      have := (join_le l fun w m => ih' w (h w m)).2
      show ((Str.ofString "(" ++ Txt.join (Str.ofString ",") (txs _)) ++ Str.ofString ")").length ≤ _
      rw [len_app, len_app, show (Str.ofString "(").length = 1 by decide +kernel, show (Str.ofString ")").length = 1 by decide +kernel]
      omega
    | non => have := one (fun _ z => by cases z) (fun _ z => by cases z) (Dep.non (d := d + 1)); omega
    | bl b => have := one (fun _ z => by cases z) (fun _ z => by cases z) (Dep.bl (d := d + 1) b); omega
    | int h h' => have := one (fun _ z => by cases z) (fun _ z => by cases z) (Dep.int (d := d + 1) h h'); omega
    | str h => have := one (fun _ z => by cases z) (fun _ z => by cases z) (Dep.str (d := d + 1) h); omega
    | fr h h' => have := one (fun _ z => by cases z) (fun _ z => by cases z) (Dep.fr (d := d + 1) h h'); omega
theorem pow5 {d : Nat} (h : d + 1 ≤ 5) : 10 ^ d ≤ 10000 := Nat.le_trans (Nat.pow_le_pow_right (by decide) (show d ≤ 4 by omega)) (by decide)
/-- a value whose text is not too long -/
inductive Fit : Nat → Wv → Prop
  | non {d} : Fit d .non
  | bl {d} (b : Bool) : Fit d (.bl b)
  | int {d} {i : Int} (h : -10 < i) (h' : i < 10 ^ 21) : Fit d (.int i)
  | str {d} {s : Str} (h : s.length ≤ 3) : Fit d (.str s)
  | fr {d} {n e : Nat} (h : n < 10) (h' : e < 10) : Fit d (.fr n e)
  | lst {d} {ws : List Wv} (m : Nat) (l : ws.length ≤ 200) (h : ∀ w ∈ ws, Fit d w) (ht : ∀ w ∈ ws, (tx w).length ≤ m) (b : ws.length * m + ws.length ≤ 8000000) : Fit (d + 1) (.lst ws)
  | tup {d} {ws : List Wv} (m : Nat) (l : ws.length ≤ 200) (h : ∀ w ∈ ws, Fit d w) (ht : ∀ w ∈ ws, (tx w).length ≤ m) (b : ws.length * m + ws.length ≤ 8000000) : Fit (d + 1) (.tup ws)
theorem join_fit {m : Nat} {ws : List Wv} (h : ∀ w ∈ ws, (tx w).length ≤ m) : ((txs ws).map (·.length)).sum + (txs ws).length * (Str.ofString ",").length ≤ ws.length * m + ws.length ∧ (Txt.join (Str.ofString ",") (txs ws)).length ≤ ws.length * m + ws.length := by
  have a := sum_le h
  have c : (Str.ofString ",").length = 1 := by decide +kernel
  have d := PySem.StrLaws.join_length_le (Str.ofString ",") (txs ws)
  rw [show Str.join (Str.ofString ",") (txs ws) = Txt.join (Str.ofString ",") (txs ws) from (PySem.StrLaws.glued_eq_join _ _).symm] at d
  rw [txs_len, c, Nat.mul_one] at *
  exact ⟨by omega, by omega⟩
theorem Dep.fit {d : Nat} : d ≤ 5 → ∀ {w : Wv}, Dep d w → Fit d w := by
  induction d with
  | zero =>
    intro _ w h
    cases h with
    | non => exact .non
    | bl b => exact .bl b
    | int h h' => exact .int h h'
    | str h => exact .str h
    | fr h h' => exact .fr h h'
  | succ d ih =>
    intro d5 w h
    have p5 := pow5 d5
    have bd : ∀ ws : List Wv, ws.length ≤ 9 → ws.length * (30 * 10 ^ d) + ws.length ≤ 8000000 := fun ws l => by
      have : ws.length * (30 * 10 ^ d) ≤ 9 * (30 * 10 ^ d) := Nat.mul_le_mul_right _ l
      omega
    cases h with
    | non => exact .non
    | bl b => exact .bl b
    | int h h' => exact .int h h'
    | str h => exact .str h
    | fr h h' => exact .fr h h'
    | lst l h => exact .lst (30 * 10 ^ d) (by omega) (fun w m => ih (by omega) (h w m)) (fun w m => tx_len (h w m)) (bd _ l)
    | tup l h => exact .tup (30 * 10 ^ d) (by omega) (fun w m => ih (by omega) (h w m)) (fun w m => tx_len (h w m)) (bd _ l)
def spText (C : Addr) : Nat → Sp
  | 0 => fun _ _ _ _ => False
  | d + 1 => fun vs H Q _ => ∃ (v : V) (w : Wv), vs = [v] ∧ IsW C H v w ∧ Fit d w ∧ ∀ H', Same H H' → Q (.str (tx w)) H'
theorem sc_law_text : FnScope ["value", "part"] ["value"] (defScope s_law_text) := ⟨rfl, rfl, rfl, by decide +kernel, rfl, by decide +kernel, by decide +kernel⟩
theorem ok_law_textN (T : Txt K mg a) : ∀ n, n ≤ 6 → FnOk P w K mg base CX0 n a.a_law_text a.d_law_text ["value"] (spText a.C_Frac n)
  | 0, _ => fn_zero
  | d + 1, d6 => by
    have ih := ok_law_textN T d (by omega)
    refine T.fn_law_text.ok sc_law_text (fun vs H Q E h => ?_) (fun cdv A outer s H vs Q E hr h => ?_)
    · obtain ⟨v, w, rfl, _⟩ := h
      rfl
    · obtain ⟨v, w, rfl, hv, hd, k⟩ := h
      refine ⟨_, (pss_cons (ps_if (pt_val (pe_callB (call_isF T) (by rfl) T.no_isinstance (by decide +kernel) (pa_cons (pv 0) (pa_cons (pe_glob (v := .ref a.C_Frac) rfl T.mg_Frac rfl) pa_nil)))) (pss_one (ps_ret (pe_op op_add_str (pe_op op_add_str (pe_op op_add_str (pe_op op_add_str pe_str (pe_callTy callStr (by rfl) T.no_str (by decide +kernel) (pa_cons (pe_fldK K (pv 0)) pa_nil))) pe_str) (pe_callTy callStr (by rfl) T.no_str (by decide +kernel) (pa_cons (pe_fldK K (pv 0)) pa_nil))) pe_str))) pss_nil)
      (pss_cons (ps_if (pt_val (pe_callB (call_isK T .lst) (by rfl) T.no_isinstance (by decide +kernel) (pa_cons (pv 0) (pa_cons (pe_bltn (v := .ty "list") (u := .type "list") (by rfl) T.no_list (by decide +kernel) rfl) pa_nil)))) (pss_one (ps_ret (pe_op op_add_str (pe_op op_add_str pe_str (pe_join pe_str (pe_lc (own := [("part", 1)]) (by rfl) sc_law_text.nd (pi_told K (pv 0)) (blkOk_by (own := [("part", 1)]) (N := ["value", "part"]) (sc := defScope s_law_text) (by decide +kernel)) (fun _ _ _ _ _ => pg_name (i := 1) sc_law_text.nd rfl (Or.inl rfl)) (fun _ _ _ _ _ => pts_nil) (fun _ _ _ _ _ => (pe_call ih (hr.mono (by omega)) (by rfl) T.mg_law_text T.fn_law_text.kp T.b_law_text .nil pass0 (pa_cons (pv 1) pa_nil)))))) pe_str))) pss_nil)
      (pss_cons (ps_if (pt_val (pe_callB (call_isK T .tup) (by rfl) T.no_isinstance (by decide +kernel) (pa_cons (pv 0) (pa_cons (pe_bltn (v := .ty "tuple") (u := .type "tuple") (by rfl) T.no_tuple (by decide +kernel) rfl) pa_nil)))) (pss_one (ps_ret (pe_op op_add_str (pe_op op_add_str pe_str (pe_join pe_str (pe_lc (own := [("part", 1)]) (by rfl) sc_law_text.nd (pi_told K (pv 0)) (blkOk_by (own := [("part", 1)]) (N := ["value", "part"]) (sc := defScope s_law_text) (by decide +kernel)) (fun _ _ _ _ _ => pg_name (i := 1) sc_law_text.nd rfl (Or.inl rfl)) (fun _ _ _ _ _ => pts_nil) (fun _ _ _ _ _ => (pe_call ih (hr.mono (by omega)) (by rfl) T.mg_law_text T.fn_law_text.kp T.b_law_text .nil pass0 (pa_cons (pv 1) pa_nil)))))) pe_str))) pss_nil)
      (pss_cons (ps_if (pt_val (pe_callB (call_isK T .str) (by rfl) T.no_isinstance (by decide +kernel) (pa_cons (pv 0) (pa_cons (pe_bltn (v := .ty "str") (u := .type "str") (by rfl) T.no_str (by decide +kernel) rfl) pa_nil)))) (pss_one (ps_ret (pe_op op_add_str (pe_op op_add_str pe_str (pv 0)) pe_str))) pss_nil)
      (pss_one (ps_ret (pe_callTy callStr (by rfl) T.no_str (by decide +kernel) (pa_cons (pv 0) pa_nil)))))))), ?_⟩
      show (_ : TS) _ [some v, none] H
      walk_at "rd"
      have sl := sizeLine_eq
      refine ⟨v, _, rfl, hv.kn, _, rfl, ?_⟩
      cases hv with
      | fr hp =>
        cases hd with | fr h1 h2 =>
        rename_i p dx n e
        refine ite2 (fun _ => ?_) (fun h => absurd rfl h)
        have z1 := PyProof.Rows.toString_length_le (v := (n : Int)) (by omega) (k := 1) (by decide) (by omega)
        have z2 := PyProof.Rows.toString_length_le (v := (e : Int)) (by omega) (k := 1) (by decide) (by omega)
        have l1 : (Str.ofString "F(").length = 2 := by decide +kernel
        have l2 : (Str.ofString ",").length = 1 := by decide +kernel
        have l3 : (Str.ofString ")").length = 1 := by decide +kernel
        have z1' : (txS (.int n)).length ≤ 1 := z1
        have z2' : (txS (.int e)).length ≤ 1 := z2
        refine ⟨p, rfl, _, dx, _, hp, T.cl_Frac, T.na_Frac_num, _, fF_num _ _, .int n, .inr (.inr ⟨_, rfl, rfl, log_fit (by omega) (by omega)⟩), _, rfl, _, rfl, by omega, _, rfl, _, rfl, ?_, p, rfl, _, dx, _, hp, T.cl_Frac, T.na_Frac_den, _, fF_den _ _, .int e, .inr (.inr ⟨_, rfl, rfl, log_fit (by omega) (by omega)⟩), _, rfl, _, rfl, ?_, _, rfl, _, rfl, ?_, k _ (fun _ _ h => h)⟩
        all_goals
          simp only [len_app]
          omega
      | lst hp hs =>
        rename_i p vs ws
        cases hd with | @lst d' _ m9 l9 hw ht9 hb9 =>
        refine ite2 (fun h => nomatch h) (fun _ => ?_)
        refine ⟨_, .lst, rfl, .lst hp, (by intro z; cases z), _, rfl, ite2 (fun _ => ?_) (fun h => absurd rfl h)⟩
        unfold tM1
        walk_at "rd"
        have lo : (Str.ofString "[").length = 1 := by decide +kernel
        have lc : (Str.ofString "]").length = 1 := by decide +kernel
        have vl := hs.len
        refine ⟨⟨_, rfl⟩, true, vs, hp, lcl_goes goes_seq (fun D i H5 => H D = none ∧ Same H H5 ∧ H5 D = some (.lst ((txs (ws.take i)).map V.str))) (fun D hD => ⟨hD, same_upd hD, upd_same⟩)
          (fun D i H5 _ h => h.2.1 _ _ hp) (fun D i x H5 H5' hi ⟨n5, e5, a5⟩ ⟨eq5, hx5⟩ => ?_) (fun D H5 nD ⟨n5, e5, a5⟩ => ?_)⟩
        · subst eq5
          obtain ⟨w', hwi, hw'⟩ := (hs.same e5).at hx5
          walk_at "rd"
          refine ⟨x, w', rfl, hw', hw w' (List.mem_of_getElem? hwi), fun H6 e6 => ⟨_, e6 _ _ a5, small (by rw [List.length_map, txs_len, List.length_take]; omega), n5, fun b o hb => (upd_ne (ne_of_none hb n5)).trans (e6 _ _ (e5 _ _ hb)), ?_⟩⟩
          rw [List.take_add_one, hwi, txs_eq, txs_eq, List.map_append, List.map_append]
          rfl
        · rw [vl, List.take_length] at a5
          obtain ⟨j1, j2⟩ := join_fit ht9
          refine ⟨_, rfl, D, rfl, txs ws, .inl (SqL.of a5), by omega, _, rfl, _, rfl, by omega, _, rfl, _, rfl, ?_, k _ e5⟩
          rw [len_app]
          omega
      | tup hp hs =>
        rename_i p vs ws
        cases hd with | @tup d' _ m9 l9 hw ht9 hb9 =>
        refine ite2 (fun h => nomatch h) (fun _ => ?_)
        refine ⟨_, .tup, rfl, .tup hp, (by intro z; cases z), _, rfl, ite2 (fun h => nomatch h) (fun _ => ?_)⟩
        refine ⟨_, .tup, rfl, .tup hp, (by intro z; cases z), _, rfl, ite2 (fun _ => ?_) (fun h => absurd rfl h)⟩
        unfold tM1
        walk_at "rd"
        have lo : (Str.ofString "(").length = 1 := by decide +kernel
        have lc : (Str.ofString ")").length = 1 := by decide +kernel
        have vl := hs.len
        refine ⟨⟨_, rfl⟩, false, vs, hp, lcl_goes goes_seq (fun D i H5 => H D = none ∧ Same H H5 ∧ H5 D = some (.lst ((txs (ws.take i)).map V.str))) (fun D hD => ⟨hD, same_upd hD, upd_same⟩)
          (fun D i H5 _ h => h.2.1 _ _ hp) (fun D i x H5 H5' hi ⟨n5, e5, a5⟩ ⟨eq5, hx5⟩ => ?_) (fun D H5 nD ⟨n5, e5, a5⟩ => ?_)⟩
        · subst eq5
          obtain ⟨w', hwi, hw'⟩ := (hs.same e5).at hx5
          walk_at "rd"
          refine ⟨x, w', rfl, hw', hw w' (List.mem_of_getElem? hwi), fun H6 e6 => ⟨_, e6 _ _ a5, small (by rw [List.length_map, txs_len, List.length_take]; omega), n5, fun b o hb => (upd_ne (ne_of_none hb n5)).trans (e6 _ _ (e5 _ _ hb)), ?_⟩⟩
          rw [List.take_add_one, hwi, txs_eq, txs_eq, List.map_append, List.map_append]
          rfl
        · rw [vl, List.take_length] at a5
          obtain ⟨j1, j2⟩ := join_fit ht9
          refine ⟨_, rfl, D, rfl, txs ws, .inl (SqL.of a5), by omega, _, rfl, _, rfl, by omega, _, rfl, _, rfl, ?_, k _ e5⟩
          rw [len_app]
          omega
      | str s =>
        cases hd with | str h3 =>
        refine ite2 (fun h => nomatch h) (fun _ => ?_)
        refine ⟨_, .str, rfl, .str _, (by intro z; cases z), _, rfl, ite2 (fun h => nomatch h) (fun _ => ?_)⟩
        refine ⟨_, .str, rfl, .str _, (by intro z; cases z), _, rfl, ite2 (fun h => nomatch h) (fun _ => ?_)⟩
        refine ⟨_, .str, rfl, .str _, (by intro z; cases z), _, rfl, ite2 (fun _ => ?_) (fun h => absurd rfl h)⟩
        have l1 : (Str.ofString "'").length = 1 := by decide +kernel
        refine ⟨_, rfl, _, rfl, by omega, _, rfl, _, rfl, ?_, k _ (fun _ _ h => h)⟩
        rw [len_app]
        omega
      | non =>
        refine ite2 (fun h => nomatch h) (fun _ => ?_)
        refine ⟨_, .non, rfl, .non, (by intro z; cases z), _, rfl, ite2 (fun h => nomatch h) (fun _ => ?_)⟩
        refine ⟨_, .non, rfl, .non, (by intro z; cases z), _, rfl, ite2 (fun h => nomatch h) (fun _ => ?_)⟩
        refine ⟨_, .non, rfl, .non, (by intro z; cases z), _, rfl, ite2 (fun h => nomatch h) (fun _ => ?_)⟩
        exact ⟨.non, .inl ⟨rfl, rfl⟩, k _ (fun _ _ h => h)⟩
      | bl b =>
        refine ite2 (fun h => nomatch h) (fun _ => ?_)
        refine ⟨_, .bl, rfl, .bl b, (by intro z; cases z), _, rfl, ite2 (fun h => nomatch h) (fun _ => ?_)⟩
        refine ⟨_, .bl, rfl, .bl b, (by intro z; cases z), _, rfl, ite2 (fun h => nomatch h) (fun _ => ?_)⟩
        refine ⟨_, .bl, rfl, .bl b, (by intro z; cases z), _, rfl, ite2 (fun h => nomatch h) (fun _ => ?_)⟩
        exact ⟨.bl b, .inr (.inl ⟨b, rfl, rfl⟩), k _ (fun _ _ h => h)⟩
      | int i =>
        cases hd with | int h1 h2 =>
        refine ite2 (fun h => nomatch h) (fun _ => ?_)
        refine ⟨_, .int, rfl, .int i, (by intro z; cases z), _, rfl, ite2 (fun h => nomatch h) (fun _ => ?_)⟩
        refine ⟨_, .int, rfl, .int i, (by intro z; cases z), _, rfl, ite2 (fun h => nomatch h) (fun _ => ?_)⟩
        refine ⟨_, .int, rfl, .int i, (by intro z; cases z), _, rfl, ite2 (fun h => nomatch h) (fun _ => ?_)⟩
        exact ⟨.int i, .inr (.inr ⟨i, rfl, rfl, log_fit h1 h2⟩), k _ (fun _ _ h => h)⟩
theorem okH_law_textN (T : Txt K mg a) : ∀ n, n ≤ 6 → L2H.FnH P w K mg base CX0 n a.a_law_text a.d_law_text ["value"] (spText a.C_Frac n)
  | 0, _ => fnH_zero
  | d + 1, d6 => by
    have ih := okH_law_textN T d (by omega)
    refine okH T.fn_law_text sc_law_text (fun vs H Q E h => ?_) (fun cdv A outer s H vs Q E hp0 hot hr h => ?_)
    · obtain ⟨v, w, rfl, _⟩ := h
      rfl
    · obtain ⟨v, w, rfl, hv, hd, k⟩ := h
      refine ⟨_, (pss_cons (ps_if (pt_val (pe_callB (call_isF T) (by rfl) T.no_isinstance (by decide +kernel) (pa_cons (pv 0) (pa_cons (pe_glob (v := .ref a.C_Frac) rfl T.mg_Frac rfl) pa_nil)))) (pss_one (ps_ret (pe_op op_add_str (pe_op op_add_str (pe_op op_add_str (pe_op op_add_str pe_str (pe_callTy callStr (by rfl) T.no_str (by decide +kernel) (pa_cons (pe_fldK K (pv 0)) pa_nil))) pe_str) (pe_callTy callStr (by rfl) T.no_str (by decide +kernel) (pa_cons (pe_fldK K (pv 0)) pa_nil))) pe_str))) pss_nil)
      (pss_cons (ps_if (pt_val (pe_callB (call_isK T .lst) (by rfl) T.no_isinstance (by decide +kernel) (pa_cons (pv 0) (pa_cons (pe_bltn (v := .ty "list") (u := .type "list") (by rfl) T.no_list (by decide +kernel) rfl) pa_nil)))) (pss_one (ps_ret (pe_op op_add_str (pe_op op_add_str pe_str (pe_join pe_str (pe_lcH ⟨hp0, hot, List.mem_singleton.mpr rfl⟩ (own := [("part", 1)]) sc_law_text.nd (pi_listH (pv 0)) (blkOk_by (own := [("part", 1)]) (N := ["value", "part"]) (sc := defScope s_law_text) (by decide +kernel)) (fun _ _ _ _ _ => pg_name (i := 1) sc_law_text.nd rfl (Or.inl rfl)) (fun _ _ _ _ _ => (L2H.pe_callH ih (hr.mono (by omega)) ⟨hp0, hot, List.mem_singleton.mpr rfl⟩ (by rfl) T.mg_law_text T.fn_law_text.kp T.b_law_text (fun _ => passAt0) (pa_cons (pv 1) pa_nil)))))) pe_str))) pss_nil)
      (pss_cons (ps_if (pt_val (pe_callB (call_isK T .tup) (by rfl) T.no_isinstance (by decide +kernel) (pa_cons (pv 0) (pa_cons (pe_bltn (v := .ty "tuple") (u := .type "tuple") (by rfl) T.no_tuple (by decide +kernel) rfl) pa_nil)))) (pss_one (ps_ret (pe_op op_add_str (pe_op op_add_str pe_str (pe_join pe_str (pe_lcH ⟨hp0, hot, List.mem_singleton.mpr rfl⟩ (own := [("part", 1)]) sc_law_text.nd (pi_tupH (pv 0)) (blkOk_by (own := [("part", 1)]) (N := ["value", "part"]) (sc := defScope s_law_text) (by decide +kernel)) (fun _ _ _ _ _ => pg_name (i := 1) sc_law_text.nd rfl (Or.inl rfl)) (fun _ _ _ _ _ => (L2H.pe_callH ih (hr.mono (by omega)) ⟨hp0, hot, List.mem_singleton.mpr rfl⟩ (by rfl) T.mg_law_text T.fn_law_text.kp T.b_law_text (fun _ => passAt0) (pa_cons (pv 1) pa_nil)))))) pe_str))) pss_nil)
      (pss_cons (ps_if (pt_val (pe_callB (call_isK T .str) (by rfl) T.no_isinstance (by decide +kernel) (pa_cons (pv 0) (pa_cons (pe_bltn (v := .ty "str") (u := .type "str") (by rfl) T.no_str (by decide +kernel) rfl) pa_nil)))) (pss_one (ps_ret (pe_op op_add_str (pe_op op_add_str pe_str (pv 0)) pe_str))) pss_nil)
      (pss_one (ps_ret (pe_callTy callStr (by rfl) T.no_str (by decide +kernel) (pa_cons (pv 0) pa_nil)))))))), ?_⟩
      show (_ : TS) _ [some v, none] H
      walk_at "rd"
      have sl := sizeLine_eq
      refine ⟨v, _, rfl, hv.kn, _, rfl, ?_⟩
      cases hv with
      | fr hp =>
        cases hd with | fr h1 h2 =>
        rename_i p dx n e
        refine ite2 (fun _ => ?_) (fun h => absurd rfl h)
        have z1 := PyProof.Rows.toString_length_le (v := (n : Int)) (by omega) (k := 1) (by decide) (by omega)
        have z2 := PyProof.Rows.toString_length_le (v := (e : Int)) (by omega) (k := 1) (by decide) (by omega)
        have l1 : (Str.ofString "F(").length = 2 := by decide +kernel
        have l2 : (Str.ofString ",").length = 1 := by decide +kernel
        have l3 : (Str.ofString ")").length = 1 := by decide +kernel
        have z1' : (txS (.int n)).length ≤ 1 := z1
        have z2' : (txS (.int e)).length ≤ 1 := z2
        refine ⟨p, rfl, _, dx, _, hp, T.cl_Frac, T.na_Frac_num, _, fF_num _ _, .int n, .inr (.inr ⟨_, rfl, rfl, log_fit (by omega) (by omega)⟩), _, rfl, _, rfl, by omega, _, rfl, _, rfl, ?_, p, rfl, _, dx, _, hp, T.cl_Frac, T.na_Frac_den, _, fF_den _ _, .int e, .inr (.inr ⟨_, rfl, rfl, log_fit (by omega) (by omega)⟩), _, rfl, _, rfl, ?_, _, rfl, _, rfl, ?_, k _ (fun _ _ h => h)⟩
        all_goals
          simp only [len_app]
          omega
      | lst hp hs =>
        rename_i p vs ws
        cases hd with | @lst d' _ m9 l9 hw ht9 hb9 =>
        refine ite2 (fun h => nomatch h) (fun _ => ?_)
        refine ⟨_, .lst, rfl, .lst hp, (by intro z; cases z), _, rfl, ite2 (fun _ => ?_) (fun h => absurd rfl h)⟩
        unfold tM1
        walk_at "rd"
        have lo : (Str.ofString "[").length = 1 := by decide +kernel
        have lc : (Str.ofString "]").length = 1 := by decide +kernel
        have vl := hs.len
        refine ⟨⟨_, rfl⟩, ⟨_, SqL.of hp⟩, Rd.lcl_list (xs := vs) (fun D i H5 => H D = none ∧ Same H H5 ∧ H5 D = some (.lst ((txs (ws.take i)).map V.str))) (fun D hD => ⟨hD, same_upd hD, upd_same⟩)
          (fun D i H5 _ h => SqL.of (h.2.1 _ _ hp)) (fun D i x H5 hx5 ⟨n5, e5, a5⟩ => ?_) (fun D H5 nD ⟨n5, e5, a5⟩ => ?_)⟩
        · have hi := (List.getElem?_eq_some_iff.mp hx5).1
          obtain ⟨w', hwi, hw'⟩ := (hs.same e5).at hx5
          walk_at "rd"
          refine ⟨x, w', rfl, hw', hw w' (List.mem_of_getElem? hwi), fun H6 e6 => ⟨_, e6 _ _ a5, small (by rw [List.length_map, txs_len, List.length_take]; omega), n5, fun b o hb => (upd_ne (ne_of_none hb n5)).trans (e6 _ _ (e5 _ _ hb)), ?_⟩⟩
          rw [List.take_add_one, hwi, txs_eq, txs_eq, List.map_append, List.map_append]
          rfl
        · rw [vl, List.take_length] at a5
          obtain ⟨j1, j2⟩ := join_fit ht9
          refine ⟨_, rfl, D, rfl, txs ws, .inl (SqL.of a5), by omega, _, rfl, _, rfl, by omega, _, rfl, _, rfl, ?_, k _ e5⟩
          rw [len_app]
          omega
      | tup hp hs =>
        rename_i p vs ws
        cases hd with | @tup d' _ m9 l9 hw ht9 hb9 =>
        refine ite2 (fun h => nomatch h) (fun _ => ?_)
        refine ⟨_, .tup, rfl, .tup hp, (by intro z; cases z), _, rfl, ite2 (fun h => nomatch h) (fun _ => ?_)⟩
        refine ⟨_, .tup, rfl, .tup hp, (by intro z; cases z), _, rfl, ite2 (fun _ => ?_) (fun h => absurd rfl h)⟩
        unfold tM1
        walk_at "rd"
        have lo : (Str.ofString "(").length = 1 := by decide +kernel
        have lc : (Str.ofString ")").length = 1 := by decide +kernel
        have vl := hs.len
        refine ⟨⟨_, rfl⟩, ⟨_, SqT.of hp⟩, lcl_tup (xs := vs) (fun D i H5 => H D = none ∧ Same H H5 ∧ H5 D = some (.lst ((txs (ws.take i)).map V.str))) (fun D hD => ⟨hD, same_upd hD, upd_same⟩)
          (fun D i H5 _ h => SqT.of (h.2.1 _ _ hp)) (fun D i x H5 hx5 ⟨n5, e5, a5⟩ => ?_) (fun D H5 nD ⟨n5, e5, a5⟩ => ?_)⟩
        · have hi := (List.getElem?_eq_some_iff.mp hx5).1
          obtain ⟨w', hwi, hw'⟩ := (hs.same e5).at hx5
          walk_at "rd"
          refine ⟨x, w', rfl, hw', hw w' (List.mem_of_getElem? hwi), fun H6 e6 => ⟨_, e6 _ _ a5, small (by rw [List.length_map, txs_len, List.length_take]; omega), n5, fun b o hb => (upd_ne (ne_of_none hb n5)).trans (e6 _ _ (e5 _ _ hb)), ?_⟩⟩
          rw [List.take_add_one, hwi, txs_eq, txs_eq, List.map_append, List.map_append]
          rfl
        · rw [vl, List.take_length] at a5
          obtain ⟨j1, j2⟩ := join_fit ht9
          refine ⟨_, rfl, D, rfl, txs ws, .inl (SqL.of a5), by omega, _, rfl, _, rfl, by omega, _, rfl, _, rfl, ?_, k _ e5⟩
          rw [len_app]
          omega
      | str s =>
        cases hd with | str h3 =>
        refine ite2 (fun h => nomatch h) (fun _ => ?_)
        refine ⟨_, .str, rfl, .str _, (by intro z; cases z), _, rfl, ite2 (fun h => nomatch h) (fun _ => ?_)⟩
        refine ⟨_, .str, rfl, .str _, (by intro z; cases z), _, rfl, ite2 (fun h => nomatch h) (fun _ => ?_)⟩
        refine ⟨_, .str, rfl, .str _, (by intro z; cases z), _, rfl, ite2 (fun _ => ?_) (fun h => absurd rfl h)⟩
        have l1 : (Str.ofString "'").length = 1 := by decide +kernel
        refine ⟨_, rfl, _, rfl, by omega, _, rfl, _, rfl, ?_, k _ (fun _ _ h => h)⟩
        rw [len_app]
        omega
      | non =>
        refine ite2 (fun h => nomatch h) (fun _ => ?_)
        refine ⟨_, .non, rfl, .non, (by intro z; cases z), _, rfl, ite2 (fun h => nomatch h) (fun _ => ?_)⟩
        refine ⟨_, .non, rfl, .non, (by intro z; cases z), _, rfl, ite2 (fun h => nomatch h) (fun _ => ?_)⟩
        refine ⟨_, .non, rfl, .non, (by intro z; cases z), _, rfl, ite2 (fun h => nomatch h) (fun _ => ?_)⟩
        exact ⟨.non, .inl ⟨rfl, rfl⟩, k _ (fun _ _ h => h)⟩
      | bl b =>
        refine ite2 (fun h => nomatch h) (fun _ => ?_)
        refine ⟨_, .bl, rfl, .bl b, (by intro z; cases z), _, rfl, ite2 (fun h => nomatch h) (fun _ => ?_)⟩
        refine ⟨_, .bl, rfl, .bl b, (by intro z; cases z), _, rfl, ite2 (fun h => nomatch h) (fun _ => ?_)⟩
        refine ⟨_, .bl, rfl, .bl b, (by intro z; cases z), _, rfl, ite2 (fun h => nomatch h) (fun _ => ?_)⟩
        exact ⟨.bl b, .inr (.inl ⟨b, rfl, rfl⟩), k _ (fun _ _ h => h)⟩
      | int i =>
        cases hd with | int h1 h2 =>
        refine ite2 (fun h => nomatch h) (fun _ => ?_)
        refine ⟨_, .int, rfl, .int i, (by intro z; cases z), _, rfl, ite2 (fun h => nomatch h) (fun _ => ?_)⟩
        refine ⟨_, .int, rfl, .int i, (by intro z; cases z), _, rfl, ite2 (fun h => nomatch h) (fun _ => ?_)⟩
        refine ⟨_, .int, rfl, .int i, (by intro z; cases z), _, rfl, ite2 (fun h => nomatch h) (fun _ => ?_)⟩
        exact ⟨.int i, .inr (.inr ⟨i, rfl, rfl, log_fit h1 h2⟩), k _ (fun _ _ h => h)⟩
end

end K19
namespace K19
open PySem PySem.Spec PyProof.Rows L2 Own OwnSeq OwnSet OwnComb OwnSort OwnHot OwnExN OwnProj
local macro_rules | `(tactic| walk_at "rd") => `(tactic| simp only [tSeq, tAsg, tOp, tUn, tVar, gName, gSub, rIxL, rIxT, rSetL, tC, rI0, rI, rU, rEq, rNe, tCons, tNil, tCB, tLst, tTup, tIfS, tAnd, tOr, tNot, tAndV, tOrV, tNotV, tTest, tB, tIf, tRet, tDrop, tNext, tBreak, tCont, tCall, tCallS, L2.WE, tMakeS, rIsS, rIsB, tChain, gSeq, gRest, gCons, gNil, tFor_seq, tFor_enumS, tLc_seq, tLc_enumS, rAny, rAll, L2.tMeth, StX.tStar, rIn, tLstRg, tRg1, tRg2, rSetI, rSortedSet, rInDT, rInD, rNotInD, rEqD, rNeD, iComb, tFld, tMake, tMkO, sFld, tOst, tNever, tBits, clv, isB,
  Rd.tFor_rng1, Rd.tFor_rng2, Rd.tFor_list, Rd.tFor_tup, Rd.tLc_list, Rd.tLc_tup, Rd.tLc_rng1, Rd.LcTurn, tYes, wipe, Rd.rLenL, Rd.rLenT, Rd.rIntI, Rd.rIxH, rIxHT,  HO.tup.injEq, Rd.at0, Rd.at1, Rd.at2, Rd.at3, Rd.ixN40, Rd.ixN41, Rd.ixN42, Rd.ixN43, Rd.scal_ii, cxOf,
  List.length_cons, List.length_nil, List.length_map, List.map_cons, List.map_nil, upd_same, decide_eq_true_eq, decide_true, decide_false, if_true, if_false, Bool.false_eq_true, Bool.not_true, Bool.not_false, HO.lst.injEq, HO.ins.injEq, List.set_cons_zero, List.set_cons_succ, List.getElem?_cons_zero, List.getElem?_cons_succ, List.append_nil, List.nil_append, List.cons_append, Option.some.injEq, V.ref.injEq, V.int.injEq, V.bl.injEq, List.cons.injEq, exists_eq_left', exists_and_left, exists_eq_left, true_and, and_true, and_self, and_assoc, implies_true, reduceCtorEq, Nat.reduceAdd])

theorem fF_no (n d : Int) {m : Str} (h1 : ¬ m = "den") (h2 : ¬ m = "num") : (fF n d).lookup m = none := by
  unfold fF
  rw [lookup_putF, if_neg h1, lookup_putF, if_neg h2]
  all_goals rfl
/-- a fraction as an object -/
def FrV (C : Addr) (H : Hp) (p : Addr) (n d : Int) : Prop := ∃ dx, H p = some (.ins C dx (fF n d))
theorem FrV.same {C : Addr} {H H' : Hp} {p : Addr} {n d : Int} (e : Same H H') : FrV C H p n d → FrV C H' p n d := fun ⟨dx, h⟩ => ⟨dx, e _ _ h⟩
/-- the sign of the divisor on the greatest common divisor -/
def gS (n d : Int) : Int := if d < 0 then -((Nat.gcd n.natAbs d.natAbs : Nat) : Int) else ((Nat.gcd n.natAbs d.natAbs : Nat) : Int)
def LN (n d : Int) : Int := n.fdiv (gS n d)
def LD (n d : Int) : Int := d.fdiv (gS n d)
abbrev Big (x : Int) : Prop := x.natAbs < 2 ^ 4000
abbrev Mid (x : Int) : Prop := x.natAbs < 2 ^ 1900
theorem gcd_pos {n d : Int} (h : d ≠ 0) : 0 < Nat.gcd n.natAbs d.natAbs := Nat.gcd_pos_of_pos_right _ (by omega)
theorem gcd_le {n d : Int} (h : d ≠ 0) : Nat.gcd n.natAbs d.natAbs ≤ d.natAbs := Nat.le_of_dvd (by omega) (Nat.gcd_dvd_right _ _)
theorem gS_div {n d : Int} (h : d ≠ 0) (hb : Big d) : CDivM n (gS n d) := by
  have p := gcd_pos (n := n) h
  have l := gcd_le (n := n) h
  have e : (gS n d).natAbs = Nat.gcd n.natAbs d.natAbs := by
    unfold gS
    split
    · rw [Int.natAbs_neg, Int.natAbs_natCast]
    · rw [Int.natAbs_natCast]
  refine ⟨by omega, ?_⟩
  rw [e]
  have z : Nat.log2 (Nat.gcd n.natAbs d.natAbs) < 4000 := PySem.Flt.log2_lt_of (by decide) (Nat.lt_of_le_of_lt l hb)
  omega
theorem mid_mul {x y : Int} (hx : Mid x) (hy : Mid y) : CMulW x y ∧ (x * y).natAbs < 2 ^ 3800 := ⟨wide_mul hx hy (by decide) (by decide) (by decide), wide_lt hx hy⟩
theorem big_of {x : Int} (h : x.natAbs < 2 ^ 3800) : Big x := Nat.lt_of_lt_of_le h (Nat.pow_le_pow_right (by decide) (by decide))
/-! a value of which what may be changed is new since H0 -/
mutual
inductive IsN (C : Addr) (H0 H : Hp) : V → Wv → Prop
  | non : IsN C H0 H .non .non
  | bl (b : Bool) : IsN C H0 H (.bl b) (.bl b)
  | int (i : Int) : IsN C H0 H (.int i) (.int i)
  | str (s : Str) : IsN C H0 H (.str s) (.str s)
  | fr {p dx : Addr} {n d : Int} (h : H p = some (.ins C dx (fF n d))) : IsN C H0 H (.ref p) (.fr n d)
  | lst {p : Addr} {vs : List V} {ws : List Wv} (h : H p = some (.lst vs)) (n : H0 p = none) (e : IsNs C H0 H vs ws) : IsN C H0 H (.ref p) (.lst ws)
  | tup {p : Addr} {vs : List V} {ws : List Wv} (h : H p = some (.tup vs)) (e : IsNs C H0 H vs ws) : IsN C H0 H (.ref p) (.tup ws)
inductive IsNs (C : Addr) (H0 H : Hp) : List V → List Wv → Prop
  | nil : IsNs C H0 H [] []
  | cons {v : V} {w : Wv} {vs : List V} {ws : List Wv} (h : IsN C H0 H v w) (e : IsNs C H0 H vs ws) : IsNs C H0 H (v :: vs) (w :: ws)
end
mutual
theorem IsN.is {C : Addr} {H0 H : Hp} : ∀ {v : V} {w : Wv}, IsN C H0 H v w → IsW C H v w
  | _, _, .non => .non
  | _, _, .bl b => .bl b
  | _, _, .int i => .int i
  | _, _, .str s => .str s
  | _, _, .fr h => .fr h
  | _, _, .lst h _ e => .lst h (IsNs.is e)
  | _, _, .tup h e => .tup h (IsNs.is e)
theorem IsNs.is {C : Addr} {H0 H : Hp} : ∀ {vs : List V} {ws : List Wv}, IsNs C H0 H vs ws → IsWs C H vs ws
  | _, _, .nil => .nil
  | _, _, .cons h e => .cons (IsN.is h) (IsNs.is e)
end
/-! it stands in another heap, and was new in an older one -/
mutual
theorem IsN.go {C : Addr} {H0 H0' H H' : Hp} (e : ∀ q o, (∀ xs, o = .lst xs → H0 q = none) → H q = some o → H' q = some o) (f : ∀ q, H0 q = none → H0' q = none) : ∀ {v : V} {w : Wv}, IsN C H0 H v w → IsN C H0' H' v w
  | _, _, .non => .non
  | _, _, .bl b => .bl b
  | _, _, .int i => .int i
  | _, _, .str s => .str s
  | _, _, .fr h => .fr (e _ _ (fun _ z => by cases z) h)
  | _, _, .lst h n a => .lst (e _ _ (fun _ _ => n) h) (f _ n) (IsNs.go e f a)
  | _, _, .tup h a => .tup (e _ _ (fun _ z => by cases z) h) (IsNs.go e f a)
theorem IsNs.go {C : Addr} {H0 H0' H H' : Hp} (e : ∀ q o, (∀ xs, o = .lst xs → H0 q = none) → H q = some o → H' q = some o) (f : ∀ q, H0 q = none → H0' q = none) : ∀ {vs : List V} {ws : List Wv}, IsNs C H0 H vs ws → IsNs C H0' H' vs ws
  | _, _, .nil => .nil
  | _, _, .cons h a => .cons (IsN.go e f h) (IsNs.go e f a)
end
theorem IsN.same {C : Addr} {H0 H H' : Hp} {v : V} {w : Wv} (e : Same H H') (h : IsN C H0 H v w) : IsN C H0 H' v w := h.go (fun q o _ z => e q o z) fun _ z => z
theorem IsNs.at {C : Addr} {H0 H : Hp} : ∀ {vs : List V} {ws : List Wv} {i : Nat}, IsNs C H0 H vs ws → i < vs.length → ∃ v w, vs[i]? = some v ∧ ws[i]? = some w ∧ IsN C H0 H v w
  | _, _, _, .nil, h => absurd h (Nat.not_lt_zero _)
  | _, _, 0, .cons a _, _ => ⟨_, _, rfl, rfl, a⟩
  | _, _, i + 1, .cons _ a, h => IsNs.at (i := i) a (Nat.lt_of_succ_lt_succ h)
theorem IsN.but {K : PySem.W.Frag} {C b c : Addr} {ns : List Int} {H H1 H' : Hp} {v : V} {w : Wv} (B : BoxAt K H b c ns) (B1 : BoxAt K H1 b c ns) (e : But b H1 H') (h : IsN C H H1 v w) : IsN C H H' v w :=
  h.go (fun q o n z => e q o (fun eq => by
    subst eq
    obtain ⟨_, _, _, hb, _⟩ := B.ob
    obtain ⟨_, _, _, hb1, _⟩ := B1.ob
    rw [hb1] at z
    have z := (Option.some.inj z).symm
    rw [n _ z] at hb
    cases hb) z) fun _ z => z
theorem IsNs.but {K : PySem.W.Frag} {C b c : Addr} {ns : List Int} {H H1 H' : Hp} (B : BoxAt K H b c ns) (B1 : BoxAt K H1 b c ns) (e : But b H1 H') : ∀ {vs : List V} {ws : List Wv}, IsNs C H H1 vs ws → IsNs C H H' vs ws
  | _, _, .nil => .nil
  | _, _, .cons h a => .cons (h.but B B1 e) (IsNs.but B B1 e a)
theorem IsNs.len {C : Addr} {H0 H : Hp} : ∀ {vs : List V} {ws : List Wv}, IsNs C H0 H vs ws → vs.length = ws.length
  | _, _, .nil => rfl
  | _, _, .cons _ a => congrArg (· + 1) a.len
section
variable {P : Program} {w : World} {K : PySem.W.Frag} {mg : Str → Option Value} {base : Heap} {a : Ad}
/-! ### Frac.__init__ -/
def spFrac (C : Addr) : Sp := fun vs H Q _ => ∃ (p dx : Addr) (n d : Int), vs = [.ref p, .int n, .int d] ∧ H p = some (.ins C dx []) ∧ d ≠ 0 ∧ Big n ∧ Big d ∧ ∀ H', H' p = some (.ins C dx (fF (LN n d) (LD n d))) → (∀ b, b ≠ p → H' b = H b) → Q .non H'
theorem sc_Frac_init : FnScope ["self", "num", "den", "common"] ["self", "num", "den"] (defScope s_Frac_init) := ⟨rfl, rfl, rfl, by decide +kernel, rfl, by decide +kernel, by decide +kernel⟩
theorem ok_Frac_init (T : Txt K mg a) : FnOk P w K mg base CX0 2 a.a_Frac_init a.d_Frac_init ["self", "num", "den"] (spFrac a.C_Frac) := by
  refine T.fn_Frac_init.ok sc_Frac_init (fun vs H Q E h => ?_) (fun cdv A outer s H vs Q E hr h => ?_)
  · obtain ⟨p, dx, n, d, rfl, _⟩ := h
    rfl
  · obtain ⟨p, dx, n, d, rfl, hp, h0, bn, bd, k⟩ := h
    refine ⟨_, (pss_cons (ps_if (PW.pt (pw_or (pt_not (pt_val (pe_call (ok_is_whole T) (hr.mono (by decide)) (by rfl) T.mg_is_whole T.fn_is_whole.kp T.b_is_whole .nil pass0 (pa_cons (pv 1) pa_nil)))) (pw_or (pt_not (pt_val (pe_call (ok_is_whole T) (hr.mono (by decide)) (by rfl) T.mg_is_whole T.fn_is_whole.kp T.b_is_whole .nil pass0 (pa_cons (pv 2) pa_nil)))) (pw_or1 (pt_cmpR op_eq (pv 2) pe_int (nomark _)))))) (pss_one ps_never) pss_nil)
      (pss_cons (ps_set (i := 3) sc_Frac_init.nd rfl (Or.inl rfl) (pe_callBfun cr_gcd (by rfl) T.mg_gcd (pa_cons (pv 1) (pa_cons (pv 2) pa_nil))))
      (pss_cons (ps_if (pt_cmpR op_lt (pv 2) pe_int (nomark _)) (pss_one (ps_set (i := 3) sc_Frac_init.nd rfl (Or.inl rfl) (pe_un un_neg (pv 3)))) pss_nil)
      (pss_cons (ps_fld (pv 0) (pe_op op_fdivWN (pv 1) (pv 3)) rfl)
      (pss_one (ps_fld (pv 0) (pe_op op_fdivWN (pv 2) (pv 3)) rfl)))))), ?_⟩
    show (_ : TS) _ [some (V.ref p), some (V.int n), some (V.int d), none] H
    walk_at "rd"
    refine ⟨.int n, .int, rfl, .int n, _, rfl, ?_⟩
    rw [if_neg (by decide)]
    refine ⟨.int d, .int, rfl, .int d, _, rfl, ?_⟩
    rw [if_neg (by decide), if_neg h0]
    simp only [rGcd]
    walk_at "rd"
    have gd := gS_div (n := n) h0 bd
    refine ite2 (fun hn => ?_) (fun hn => ?_)
    · have e : gS n d = -((Nat.gcd n.natAbs d.natAbs : Nat) : Int) := if_pos hn
      rw [e] at gd
      refine ⟨gd, _, _, _, hp, T.cl_Frac, T.na_Frac_num, (by show 0 < 1000; decide), gd, T.cl_Frac, T.na_Frac_den, (by show 1 < 1000; decide), k _ ?_ fun b hb => by rw [upd_ne hb, upd_ne hb]⟩
      rw [upd_same]
      unfold fF LN LD
      rw [e]
    · have e : gS n d = ((Nat.gcd n.natAbs d.natAbs : Nat) : Int) := if_neg hn
      rw [e] at gd
      refine ⟨gd, _, _, _, hp, T.cl_Frac, T.na_Frac_num, (by show 0 < 1000; decide), gd, T.cl_Frac, T.na_Frac_den, (by show 1 < 1000; decide), k _ ?_ fun b hb => by rw [upd_ne hb, upd_ne hb]⟩
      rw [upd_same]
      unfold fF LN LD
      rw [e]
theorem b3 (T : Txt K mg a) : Binds K a.d_Frac_init ["self", "num", "den"] [] := by
  obtain ⟨ds, v, b⟩ := T.fn_Frac_init.binds1 (ps := ["self", "num", "den"]) 3 1 (by decide) rfl fun Tt kV doc pm an cdv ct us its hu hi => match us, its, hu, hi with | [_, _, _], [_], _, _ => ⟨_, rfl, by first | rfl | with_unfolding_all rfl | kernel_rfl⟩
  cases v
  exact b
theorem b2 (T : Txt K mg a) : ∃ ds, Vals [.int 1] ds ∧ Binds K a.d_Frac_init ["self", "num", "den"] ds :=
  T.fn_Frac_init.binds1 2 0 (by decide) rfl fun Tt kV doc pm an cdv ct us its hu hi => match us, its, hu, hi with | [_, _], [_], _, _ => ⟨_, rfl, by first | rfl | with_unfolding_all rfl | kernel_rfl⟩
/-- Frac(n, d) -/
theorem frac_made {C : Addr} {n d : Int} {H : Hp} {Q : VK} {E : XK} (hd : d ≠ 0) (bn : Big n) (bd : Big d) (k : ∀ x H', H x = none → FrV C H' x (LN n d) (LD n d) → Same H H' → Q (.ref x) H') :
    ∀ x dx, H x = none → H dx = none → dx ≠ x → spFrac C [.ref x, .int n, .int d] (upd (upd H dx (.own x)) x (.ins C dx [])) (fun v H2 => v = .non ∧ Q (.ref x) H2) E := fun x dx hx hdx hne =>
  ⟨x, dx, n, d, rfl, upd_same, hd, bn, bd, fun H' h1 h2 => ⟨rfl, k x H' hx ⟨dx, h1⟩ fun b o e => by
    rw [h2 b (ne_of_none e hx), upd_ne (ne_of_none e hx), upd_ne (ne_of_none e hdx)]
    exact e⟩⟩
theorem fr_made {C : Addr} {n : Nat} (hn : n < 3) {H1 : Hp} {x dx : Addr} {R : Hp → Prop} {E : XK} (hx : H1 x = none) (hdx : H1 dx = none) (hne : dx ≠ x) (k : ∀ H', H' x = some (.ins C dx (fF n 1)) → Same H1 H' → R H') :
    spFrac C [.ref x, .int n, .int 1] (upd (upd H1 dx (.own x)) x (.ins C dx [])) (fun v H2 => v = .non ∧ R H2) E := by
  have l : LN (n : Int) 1 = n := by match n, hn with | 0, _ => decide +kernel | 1, _ => decide +kernel | 2, _ => decide +kernel
  have d : LD (n : Int) 1 = 1 := by match n, hn with | 0, _ => decide +kernel | 1, _ => decide +kernel | 2, _ => decide +kernel
  have b : ∀ m : Nat, m < 3 → Big (m : Int) := fun m h => Nat.lt_of_lt_of_le (show ((m : Int)).natAbs < 2 ^ 2 by omega) (Nat.pow_le_pow_right (by decide) (by decide))
  refine ⟨x, dx, n, 1, rfl, upd_same, by decide, b n hn, b 1 (by decide), fun H' h1 h2 => ⟨rfl, ?_⟩⟩
  rw [l, d] at h1
  exact k H' h1 fun b o e => by
    rw [h2 b (ne_of_none e hx), upd_ne (ne_of_none e hx), upd_ne (ne_of_none e hdx)]
    exact e
theorem shp {C b c p : Addr} {ns : List Int} {H H1 : Hp} {xs : List V} {ws : List Wv} {d : Nat} {Q : VK} {E : XK} (B : BoxAt K H b c ns) (B1 : BoxAt K H1 b c ns) (e1 : But b H H1) (n : H1 p = none) (x9 : xs.length ≤ 9) (hx : IsNs C H H1 xs ws) (hd : ∀ w ∈ ws, Dep d w)
    (k : ∀ v w H', BoxAt K H' b c ns → But b H H' → IsN C H H' v w → (∃ l : Bool, w = if l = true then .lst ws else .tup ws) → Dep (d + 1) w → Q v H') : spShape K [.ref b, .ref p] (upd H1 p (.lst xs)) Q E := by
  have pb := B1.ne_new n
  have eP : But b H (upd H1 p (.lst xs)) := e1.updn (e1.free pb n)
  have BP := B.upd B1 pb eP
  refine ⟨b, c, p, ns, true, xs, rfl, BP, pb, upd_same, by omega, fun q l' H' B' e' qb hq hn => ?_⟩
  have hx2 : IsNs C H (upd H1 p (.lst xs)) xs ws := by
    have := same_upd (o := .lst xs) n
    exact IsNs.but B B1 (Same.but this) hx
  have hx' := IsNs.but B BP e' hx2
  have wl := hx.len
  cases l' with
  | true => exact k _ _ H' B' (eP.trans e') (.lst hq (eP.free qb (hn rfl)) hx') ⟨true, rfl⟩ (.lst (by omega) hd)
  | false => exact k _ _ H' B' (eP.trans e') (.tup hq hx') ⟨false, rfl⟩ (.tup (by omega) hd)
/-! ### _law_no_set -/
def spNo (K : PySem.W.Frag) (C : Addr) : Sp := fun vs H Q _ => ∃ (b c : Addr) (ns : List Int) (n : Nat), vs = [.ref b, .int n] ∧ BoxAt K H b c ns ∧ 1 ≤ n ∧ n ≤ 6 ∧
  ∀ v w H', BoxAt K H' b c ns → But b H H' → IsN C H H' v w → Dep 3 w → Q v H'
theorem sc_law_no_set : FnScope ["box", "size", "shape"] ["box", "size"] (defScope s_law_no_set) := ⟨rfl, rfl, rfl, by decide +kernel, rfl, by decide +kernel, by decide +kernel⟩
theorem ok_law_no_set (T : Txt K mg a) : FnOk P w K mg base CX0 5 a.a_law_no_set a.d_law_no_set ["box", "size"] (spNo K a.C_Frac) := by
  refine T.fn_law_no_set.ok sc_law_no_set (fun vs H Q E h => ?_) (fun cdv A outer s H vs Q E hr h => ?_)
  · obtain ⟨b, c, ns, n, rfl, _⟩ := h
    rfl
  · obtain ⟨b, c, ns, n, rfl, B, n1, n6, k⟩ := h
    obtain ⟨ds2, b2v, b2b⟩ := b2 T
    refine ⟨_, (pss_cons (ps_set (i := 2) sc_law_no_set.nd rfl (Or.inl rfl) (pe_call (ok_law_draw T) (hr.mono (by decide)) (by rfl) T.mg_law_draw T.fn_law_draw.kp T.b_law_draw .nil pass0 (pa_cons (pv 0) (pa_cons pe_int pa_nil))))
      (pss_cons (ps_if (pt_cmpR op_eq (pv 2) pe_int (nomark _)) (pss_one (ps_ret (pe_ix Rd.ixH (pe_lst (pa_cons pe_non (pa_cons pe_bl (pa_cons pe_int (pa_cons pe_str (pa_cons (pe_make T.mk_Frac (ok_Frac_init T) (hr.mono (by decide)) (by rfl) T.mg_Frac b2b b2v pass0 (pa_cons pe_int pa_nil)) (pa_cons (pe_un un_neg pe_int) (pa_cons pe_str pa_nil)))))))) (pe_call (ok_law_draw T) (hr.mono (by decide)) (by rfl) T.mg_law_draw T.fn_law_draw.kp T.b_law_draw .nil pass0 (pa_cons (pv 0) (pa_cons pe_int pa_nil))) (fun _ _ => rfl)))) pss_nil)
      (pss_cons (ps_if (pt_cmpR op_eq (pv 2) pe_int (nomark _)) (pss_one (ps_ret (pe_call (ok_law_shape T) (hr.mono (by decide)) (by rfl) T.mg_law_shape T.fn_law_shape.kp T.b_law_shape .nil pass0 (pa_cons (pv 0) (pa_cons (pe_lst (pa_cons (pe_op op_add (pv 1) (pe_op op_mul pe_int (pe_call (ok_law_draw T) (hr.mono (by decide)) (by rfl) T.mg_law_draw T.fn_law_draw.kp T.b_law_draw .nil pass0 (pa_cons (pv 0) (pa_cons pe_int pa_nil))))) pa_nil)) pa_nil))))) pss_nil)
      (pss_cons (ps_if (pt_cmpR op_eq (pv 2) pe_int (nomark _)) (pss_one (ps_ret (pe_call (ok_law_shape T) (hr.mono (by decide)) (by rfl) T.mg_law_shape T.fn_law_shape.kp T.b_law_shape .nil pass0 (pa_cons (pv 0) (pa_cons (pe_lst (pa_cons (pe_op op_sub (pe_un un_neg pe_int) (pe_call (ok_law_draw T) (hr.mono (by decide)) (by rfl) T.mg_law_draw T.fn_law_draw.kp T.b_law_draw .nil pass0 (pa_cons (pv 0) (pa_cons (pv 1) pa_nil)))) pa_nil)) pa_nil))))) pss_nil)
      (pss_cons (ps_if (pt_cmpR op_eq (pv 2) pe_int (nomark _)) (pss_one (ps_ret (pe_call (ok_law_shape T) (hr.mono (by decide)) (by rfl) T.mg_law_shape T.fn_law_shape.kp T.b_law_shape .nil pass0 (pa_cons (pv 0) (pa_cons (pe_lst (pa_cons (pe_op op_sub (pv 1) pe_int) (pa_cons (pe_op op_sub (pv 1) pe_int) pa_nil))) pa_nil))))) pss_nil)
      (pss_cons (ps_if (pt_cmpR op_eq (pv 2) pe_int (nomark _)) (pss_one (ps_ret (pe_call (ok_law_shape T) (hr.mono (by decide)) (by rfl) T.mg_law_shape T.fn_law_shape.kp T.b_law_shape .nil pass0 (pa_cons (pv 0) (pa_cons (pe_lst (pa_cons (pe_op op_sub (pv 1) pe_int) (pa_cons pe_int pa_nil))) pa_nil))))) pss_nil)
      (pss_cons (ps_if (pt_cmpR op_eq (pv 2) pe_int (nomark _)) (pss_one (ps_ret (pe_call (ok_law_shape T) (hr.mono (by decide)) (by rfl) T.mg_law_shape T.fn_law_shape.kp T.b_law_shape .nil pass0 (pa_cons (pv 0) (pa_cons (pe_lst (pa_cons (pe_ix Rd.ixH (pe_lst (pa_cons pe_bl (pa_cons pe_bl (pa_cons pe_non (pa_cons pe_str (pa_cons (pe_make T.mk_Frac (ok_Frac_init T) (hr.mono (by decide)) (by rfl) T.mg_Frac b2b b2v pass0 (pa_cons pe_int pa_nil)) (pa_cons (pe_tup (pa_cons pe_int pa_nil)) (pa_cons (pe_lst (pa_cons (pe_lst (pa_cons pe_int pa_nil)) pa_nil)) pa_nil)))))))) (pe_call (ok_law_draw T) (hr.mono (by decide)) (by rfl) T.mg_law_draw T.fn_law_draw.kp T.b_law_draw .nil pass0 (pa_cons (pv 0) (pa_cons pe_int pa_nil))) (fun _ _ => rfl)) pa_nil)) pa_nil))))) pss_nil)
      (pss_one (ps_ret (pe_call (ok_law_shape T) (hr.mono (by decide)) (by rfl) T.mg_law_shape T.fn_law_shape.kp T.b_law_shape .nil pass0 (pa_cons (pv 0) (pa_cons (pe_lst (pa_cons pe_int (pa_cons pe_bl pa_nil))) pa_nil)))))))))))), ?_⟩
    show (_ : TS) _ [some (V.ref b), some (V.int n), none] H
    walk_at "rd"
    have i3 : ∀ m : Int, -10 < m → m < 10 → ∀ d, Dep d (.int m) := fun m h h' d => .int h (by omega)
    have put : ∀ {H1 : Hp} {p : Addr} {xs : List V} {ws : List Wv}, BoxAt K H1 b c ns → But b H H1 → H1 p = none → xs.length ≤ 9 → IsNs a.C_Frac H H1 xs ws → (∀ w ∈ ws, Dep 2 w) → spShape K [.ref b, .ref p] (upd H1 p (.lst xs)) Q E0 :=
      fun B1 e1 n x9 hx hd => shp B B1 e1 n x9 hx hd fun v w H' B' e' hv _ hd' => k v w H' B' e' hv hd'
    have two : ∀ w1 w2 : Wv, Dep 2 w1 → Dep 2 w2 → ∀ w ∈ [w1, w2], Dep 2 w := fun w1 w2 h1 h2 w m => by
      rcases List.mem_cons.mp m with rfl | m
      · exact h1
      · rw [List.mem_singleton.mp m]; exact h2
    have one : ∀ w1 : Wv, Dep 2 w1 → ∀ w ∈ [w1], Dep 2 w := fun w1 h1 w m => by rw [List.mem_singleton.mp m]; exact h1
    refine drw B (by decide) (by decide) fun x H1 x7 B1 e1 => ⟨rfl, ite2 (fun _ => ?_) (fun _ => ⟨rfl, ite2 (fun _ => ?_) (fun _ => ⟨rfl, ite2 (fun _ => ?_) (fun _ => ⟨rfl, ite2 (fun _ => ?_) (fun _ => ⟨rfl, ite2 (fun _ => ?_) (fun _ => ⟨rfl, ite2 (fun _ => ?_) (fun _ => ?_)⟩)⟩)⟩)⟩)⟩)⟩
    · intro f dx hf hdx hne
      refine fr_made (n := 1) (by decide) hf hdx hne fun H2 hfr e2 => ⟨by decide, fun p hp => ?_⟩
      have B2 := B1.same e2
      have e02 := e1.trans (Same.but e2)
      have pb := B2.ne_new hp
      have eP : But b H (upd H2 p _) := e02.updn (o := .lst [V.non, V.bl true, V.int 3, V.str (Str.ofString "01"), V.ref f, V.int (-1), V.str (Str.ofString "")]) (e02.free pb hp)
      have BP := B.upd B2 pb eP
      refine drw BP (by decide) (by decide) fun y H3 y7 B3 e3 => ?_
      have hs : IsNs a.C_Frac H H2 [V.non, V.bl true, V.int 3, V.str (Str.ofString "01"), V.ref f, V.int (-1), V.str (Str.ofString "")] [.non, .bl true, .int 3, .str (Str.ofString "01"), .fr (1 : Nat) (1 : Nat), .int (-1), .str (Str.ofString "")] :=
        .cons .non (.cons (.bl _) (.cons (.int _) (.cons (.str _) (.cons (.fr hfr) (.cons (.int _) (.cons (.str _) .nil))))))
      have hs := IsNs.but B BP e3 (IsNs.but B B2 (Same.but (same_upd hp)) hs)
      obtain ⟨v, w, hv, hw, vw⟩ := hs.at (i := y) (show y < 7 by omega)
      refine ⟨_, _, rfl, e3 _ _ pb upd_same, v, atI_nat hv, k v w H3 B3 (eP.trans e3) vw ?_⟩
      have all : ∀ w ∈ [Wv.non, .bl true, .int 3, .str (Str.ofString "01"), .fr (1 : Nat) (1 : Nat), .int (-1), .str (Str.ofString "")], Dep 3 w := by
        intro w m
        simp only [List.mem_cons, List.not_mem_nil, or_false] at m
        rcases m with rfl | rfl | rfl | rfl | rfl | rfl | rfl
        · exact .non
        · exact .bl _
        · exact i3 _ (by decide) (by decide) _
        · exact .str (by decide +kernel)
        · exact .fr (by decide) (by decide)
        · exact i3 _ (by decide) (by decide) _
        · exact .str (by decide +kernel)
      exact all w (List.mem_of_getElem? hw)
    · refine drw B1 (by decide) (by decide) fun y H2 y2 B2 e2 => ⟨_, rfl, .inl ⟨by decide, by decide⟩, by decide, fun p hp => put B2 (e1.trans e2) hp (by show 1 ≤ 9; decide) (.cons (.int _) .nil) (one _ (.int (by omega) (by omega)))⟩
    · refine drw B1 (by omega) (by omega) fun y H2 y2 B2 e2 => ⟨_, rfl, by decide, fun p hp => put B2 (e1.trans e2) hp (by show 1 ≤ 9; decide) (.cons (.int _) .nil) (one _ (.int (by omega) (by omega)))⟩
    · exact ⟨by decide, fun p hp => put B1 e1 hp (by show 2 ≤ 9; decide) (.cons (.int _) (.cons (.int _) .nil)) (two _ _ (.int (by omega) (by omega)) (.int (by omega) (by omega)))⟩
    · exact ⟨by decide, fun p hp => put B1 e1 hp (by show 2 ≤ 9; decide) (.cons (.int _) (.cons (.int _) .nil)) (two _ _ (.int (by omega) (by omega)) (.int (by omega) (by omega)))⟩
    · intro f dx hf hdx hne
      refine fr_made (n := 0) (by decide) hf hdx hne fun H2 hfr e2 => ⟨by decide, fun p1 h1 => ⟨by decide, fun p2 h2 => ⟨by decide, fun p3 h3 => ⟨by decide, fun p hp => ?_⟩⟩⟩⟩
      have s1 := same_upd (o := .tup [V.int 0]) h1
      have s2 := same_upd (o := .lst [V.int 0]) h2
      have s3 := same_upd (o := .lst [V.ref p2]) h3
      have s := (s1.trans s2).trans s3
      have a1 : upd H2 p1 (.tup [V.int 0]) p1 = _ := upd_same
      have a2 : upd (upd H2 p1 (.tup [V.int 0])) p2 (.lst [V.int 0]) p2 = _ := upd_same
      have a3 : upd (upd (upd H2 p1 (.tup [V.int 0])) p2 (.lst [V.int 0])) p3 (.lst [V.ref p2]) p3 = _ := upd_same
      have a1 := s3 _ _ (s2 _ _ a1)
      have a2 := s3 _ _ a2
      have f2 := s1.free h2
      have f3 := s1.free (s2.free h3)
      generalize upd (upd (upd H2 p1 (.tup [V.int 0])) p2 (.lst [V.int 0])) p3 (.lst [V.ref p2]) = H5 at *
      have B5 := B1.same (e2.trans s)
      have e05 := e1.trans (Same.but (e2.trans s))
      have fre : ∀ q, H2 q = none → H q = none := fun q hq => (e1.trans (Same.but e2)).free ((B1.same e2).ne_new hq) hq
      have pb := B5.ne_new hp
      have eP : But b H (upd H5 p (.lst [V.bl true, V.bl false, V.non, V.str (Str.ofString "0"), V.ref f, V.ref p1, V.ref p3])) := e05.updn (e05.free pb hp)
      have BP := B.upd B5 pb eP
      refine drw BP (by decide) (by decide) fun y H3 y7 B3 e3 => ?_
      have hs : IsNs a.C_Frac H H5 [V.bl true, V.bl false, V.non, V.str (Str.ofString "0"), V.ref f, V.ref p1, V.ref p3] [.bl true, .bl false, .non, .str (Str.ofString "0"), .fr (0 : Nat) (1 : Nat), .tup [.int 0], .lst [.lst [.int 0]]] :=
        .cons (.bl _) (.cons (.bl _) (.cons .non (.cons (.str _) (.cons (.fr (s _ _ hfr)) (.cons (.tup a1 (.cons (.int _) .nil)) (.cons (.lst a3 (fre _ f3) (.cons (.lst a2 (fre _ f2) (.cons (.int _) .nil)) .nil)) .nil))))))
      have hs := IsNs.but B BP e3 (IsNs.but B B5 (Same.but (same_upd hp)) hs)
      obtain ⟨v, w, hv, hw, vw⟩ := hs.at (i := y) (show y < 7 by omega)
      refine ⟨_, _, rfl, e3 _ _ pb upd_same, v, atI_nat hv, by decide, fun q hq => put B3 (eP.trans e3) hq (by show 1 ≤ 9; decide) (.cons vw .nil) (one _ ?_)⟩
      have all : ∀ w ∈ [Wv.bl true, .bl false, .non, .str (Str.ofString "0"), .fr (0 : Nat) (1 : Nat), .tup [.int 0], .lst [.lst [.int 0]]], Dep 2 w := by
        intro w m
        simp only [List.mem_cons, List.not_mem_nil, or_false] at m
        rcases m with rfl | rfl | rfl | rfl | rfl | rfl | rfl
        · exact .bl _
        · exact .bl _
        · exact .non
        · exact .str (by decide +kernel)
        · exact .fr (by decide) (by decide)
        · exact .tup (by decide) fun w m => by rw [List.mem_singleton.mp m]; exact i3 _ (by decide) (by decide) _
        · exact .lst (by decide) fun w m => by rw [List.mem_singleton.mp m]; exact .lst (by decide) fun w m => by rw [List.mem_singleton.mp m]; exact i3 _ (by decide) (by decide) _
      exact all w (List.mem_of_getElem? hw)
    · exact ⟨by decide, fun p hp => put B1 e1 hp (by show 2 ≤ 9; decide) (.cons (.int _) (.cons (.bl _) .nil)) (two _ _ (i3 _ (by decide) (by decide) _) (.bl _))⟩
end

end K19
namespace K19
open PySem PySem.Spec PyProof.Rows L2 Own OwnSeq OwnSet OwnComb OwnSort OwnHot OwnExN OwnProj
local macro_rules | `(tactic| walk_at "rd") => `(tactic| simp only [tSeq, tAsg, tOp, tUn, tVar, gName, gSub, rIxL, rIxT, rSetL, tC, rI0, rI, rU, rEq, rNe, tCons, tNil, tCB, tLst, tTup, tIfS, tAnd, tOr, tNot, tAndV, tOrV, tNotV, tTest, tB, tIf, tRet, tDrop, tNext, tBreak, tCont, tCall, tCallS, L2.WE, tMakeS, rIsS, rIsB, tChain, gSeq, gRest, gCons, gNil, tFor_seq, tFor_enumS, tLc_seq, tLc_enumS, rAny, rAll, L2.tMeth, StX.tStar, rIn, tLstRg, tRg1, tRg2, rSetI, rSortedSet, rInDT, rInD, rNotInD, rEqD, rNeD, iComb, tFld, tMake, tMkO, sFld, tOst, tNever, tBits, clv, isB,
  Rd.tFor_rng1, Rd.tFor_rng2, Rd.tFor_list, Rd.tFor_tup, Rd.tLc_list, Rd.tLc_tup, Rd.tLc_rng1, Rd.LcTurn, tYes, wipe, Rd.rLenL, Rd.rLenT, Rd.rIntI, Rd.rIxH, rIxHT,  HO.tup.injEq, Rd.at0, Rd.at1, Rd.at2, Rd.at3, Rd.ixN40, Rd.ixN41, Rd.ixN42, Rd.ixN43, Rd.scal_ii, cxOf,
  List.length_cons, List.length_nil, List.length_map, List.map_cons, List.map_nil, upd_same, decide_eq_true_eq, decide_true, decide_false, if_true, if_false, Bool.false_eq_true, Bool.not_true, Bool.not_false, HO.lst.injEq, HO.ins.injEq, List.set_cons_zero, List.set_cons_succ, List.getElem?_cons_zero, List.getElem?_cons_succ, List.append_nil, List.nil_append, List.cons_append, Option.some.injEq, V.ref.injEq, V.int.injEq, V.bl.injEq, List.cons.injEq, exists_eq_left', exists_and_left, exists_eq_left, true_and, and_true, and_self, and_assoc, implies_true, reduceCtorEq, Nat.reduceAdd])

section
variable {P : Program} {w : World} {K : PySem.W.Frag} {mg : Str → Option Value} {base : Heap} {a : Ad}
/-! ### _law_right_set -/
def spRight (C : Addr) : Sp := fun vs H Q _ => ∃ (v : V) (w : Wv) (n : Nat), vs = [v, .int n] ∧ IsW C H v w ∧ Q (.bl (ascW n w)) H
theorem sc_law_right_set : FnScope ["value", "size", "last", "thing"] ["value", "size"] (defScope s_law_right_set) := ⟨rfl, rfl, rfl, by decide +kernel, rfl, by decide +kernel, by decide +kernel⟩
theorem ok_law_right_set (T : Txt K mg a) : FnOk P w K mg base CX0 3 a.a_law_right_set a.d_law_right_set ["value", "size"] (spRight a.C_Frac) := by
  refine T.fn_law_right_set.ok sc_law_right_set (fun vs H Q E h => ?_) (fun cdv A outer s H vs Q E hr h => ?_)
  · obtain ⟨v, w, n, rfl, _⟩ := h
    rfl
  · obtain ⟨v, w, n, rfl, hv, k⟩ := h
    refine ⟨_, (pss_cons (ps_if (PW.pt (pw_and (pt_not (pt_val (pe_callB (call_isK T .lst) (by rfl) T.no_isinstance (by decide +kernel) (pa_cons (pv 0) (pa_cons (pe_bltn (v := .ty "list") (u := .type "list") (by rfl) T.no_list (by decide +kernel) rfl) pa_nil))))) (pw_and1 (pt_not (pt_val (pe_callB (call_isK T .tup) (by rfl) T.no_isinstance (by decide +kernel) (pa_cons (pv 0) (pa_cons (pe_bltn (v := .ty "tuple") (u := .type "tuple") (by rfl) T.no_tuple (by decide +kernel) rfl) pa_nil)))))))) (pss_one (ps_ret pe_bl)) pss_nil)
      (pss_cons (ps_set (i := 2) sc_law_right_set.nd rfl (Or.inl rfl) (pe_un un_neg pe_int))
      (pss_cons (ps_for PassesOwn.never rfl (pi_told K (pv 0)) (pg_name (i := 3) sc_law_right_set.nd rfl (Or.inl rfl))
        (pss_cons (ps_if (PW.pt (pw_or (pt_not (pt_val (pe_call (ok_law_integer T) (hr.mono (by decide)) (by rfl) T.mg_law_integer T.fn_law_integer.kp T.b_law_integer .nil pass0 (pa_cons (pv 3) pa_nil)))) (pw_or (pt_cmpR op_le (pv 3) (pv 2) (nomark _)) (pw_or1 (pt_cmpR op_ge (pv 3) (pv 1) (nomark _)))))) (pss_one (ps_ret pe_bl)) pss_nil)
        (pss_one (ps_set (i := 2) sc_law_right_set.nd rfl (Or.inl rfl) (pv 3)))))
      (pss_one (ps_ret pe_bl))))), ?_⟩
    show (_ : TS) _ [some v, some (V.int n), none, none] H
    walk_at "rd"
    refine ⟨v, kd w, rfl, hv.kn, fun _ => by decide, ?_⟩
    cases hv with
    | lst hp hs =>
      rename_i p vs ws
      have vl := hs.len
      refine ⟨_, rfl, ite2 (fun h => nomatch h) (fun _ => ⟨p, rfl, ?_⟩)⟩
      refine ⟨true, vs, hp, loop_goes goes_seq (fun σ H' => ∃ o2 o3, σ = [some (V.ref p), some (V.int n), o2, o3] ∧ H' = H ∧ ascF 0 n ws = true)
        (fun i σ H' => ∃ (last : Int) (o3 : Option V), σ = [some (V.ref p), some (V.int n), some (V.int last), o3] ∧ H' = H ∧ -1 ≤ last ∧ ascF 0 n ws = ascF (last + 1) n (ws.drop i)) ⟨-1, none, rfl, rfl, by decide, rfl⟩
        (fun i σ H' _ ⟨_, _, _, e, _⟩ => e ▸ hp) ?_ (fun σ H' ⟨last, o3, e1, e2, _, e4⟩ => ⟨_, _, e1, e2, by rw [e4, List.drop_of_length_le (by omega)]; rfl⟩) ?_⟩
      · rintro bk hbk i x σ H3 H3' hi ⟨last, o3, rfl, rfl, l1, e4⟩ ⟨rfl, hx⟩
        obtain ⟨w', hw', xw⟩ := hs.at hx
        have dr : ws.drop i = w' :: ws.drop (i + 1) := by rw [List.drop_eq_getElem_cons (by omega), (List.getElem?_eq_some_iff.mp hw').2]
        rw [dr] at e4
        walk_at "rd"
        refine ⟨x, kd w', rfl, xw.kn, ?_⟩
        have no : ascF (last + 1) n (w' :: ws.drop (i + 1)) = false → Q (.bl false) H3' := fun z => by
          have k : Q (.bl (ascF 0 n ws)) H3' := k
          rw [e4, z] at k
          exact k
        cases xw with
        | int g =>
          refine ⟨_, rfl, ite2 (fun h => nomatch h) (fun _ => ⟨g, rfl, ite2 (fun hle => no ?_) (fun hgt => ⟨g, rfl, ite2 (fun hge => no ?_) (fun hlt => ⟨g, rfl, rfl, by omega, ?_⟩)⟩)⟩)⟩
          · unfold ascF
            rw [decide_eq_false (show ¬ last + 1 ≤ g by omega)]
            rfl
          · unfold ascF
            rw [decide_eq_false (show ¬ g ≤ (n : Int) - 1 by omega), Bool.and_false]
            rfl
          · rw [e4]
            show (decide (last + 1 ≤ g) && decide (g ≤ (n : Int) - 1) && ascF (g + 1) n (ws.drop (i + 1))) = _
            rw [decide_eq_true (show last + 1 ≤ g by omega), decide_eq_true (show g ≤ (n : Int) - 1 by omega)]
            rfl
        | _ => exact ⟨_, rfl, ite2 (fun _ => no rfl) (fun h => absurd rfl h)⟩
      · rintro σ H3 ⟨o2, o3, rfl, rfl, e⟩
        walk_at "rd"
        show Q (.bl true) _
        have k : Q (.bl (ascF 0 n ws)) H3 := k
        rw [e] at k
        exact k
    | tup hp hs =>
      rename_i p vs ws
      have vl := hs.len
      refine ⟨_, rfl, ite2 (fun _ => ⟨_, .tup, rfl, .tup hp, fun _ => by decide, _, rfl, ite2 (fun h => nomatch h) (fun _ => ⟨p, rfl, ?_⟩)⟩) (fun h => absurd rfl h)⟩
      refine ⟨false, vs, hp, loop_goes goes_seq (fun σ H' => ∃ o2 o3, σ = [some (V.ref p), some (V.int n), o2, o3] ∧ H' = H ∧ ascF 0 n ws = true)
        (fun i σ H' => ∃ (last : Int) (o3 : Option V), σ = [some (V.ref p), some (V.int n), some (V.int last), o3] ∧ H' = H ∧ -1 ≤ last ∧ ascF 0 n ws = ascF (last + 1) n (ws.drop i)) ⟨-1, none, rfl, rfl, by decide, rfl⟩
        (fun i σ H' _ ⟨_, _, _, e, _⟩ => e ▸ hp) ?_ (fun σ H' ⟨last, o3, e1, e2, _, e4⟩ => ⟨_, _, e1, e2, by rw [e4, List.drop_of_length_le (by omega)]; rfl⟩) ?_⟩
      · rintro bk hbk i x σ H3 H3' hi ⟨last, o3, rfl, rfl, l1, e4⟩ ⟨rfl, hx⟩
        obtain ⟨w', hw', xw⟩ := hs.at hx
        have dr : ws.drop i = w' :: ws.drop (i + 1) := by rw [List.drop_eq_getElem_cons (by omega), (List.getElem?_eq_some_iff.mp hw').2]
        rw [dr] at e4
        walk_at "rd"
        refine ⟨x, kd w', rfl, xw.kn, ?_⟩
        have no : ascF (last + 1) n (w' :: ws.drop (i + 1)) = false → Q (.bl false) H3' := fun z => by
          have k : Q (.bl (ascF 0 n ws)) H3' := k
          rw [e4, z] at k
          exact k
        cases xw with
        | int g =>
          refine ⟨_, rfl, ite2 (fun h => nomatch h) (fun _ => ⟨g, rfl, ite2 (fun hle => no ?_) (fun hgt => ⟨g, rfl, ite2 (fun hge => no ?_) (fun hlt => ⟨g, rfl, rfl, by omega, ?_⟩)⟩)⟩)⟩
          · unfold ascF
            rw [decide_eq_false (show ¬ last + 1 ≤ g by omega)]
            rfl
          · unfold ascF
            rw [decide_eq_false (show ¬ g ≤ (n : Int) - 1 by omega), Bool.and_false]
            rfl
          · rw [e4]
            show (decide (last + 1 ≤ g) && decide (g ≤ (n : Int) - 1) && ascF (g + 1) n (ws.drop (i + 1))) = _
            rw [decide_eq_true (show last + 1 ≤ g by omega), decide_eq_true (show g ≤ (n : Int) - 1 by omega)]
            rfl
        | _ => exact ⟨_, rfl, ite2 (fun _ => no rfl) (fun h => absurd rfl h)⟩
      · rintro σ H3 ⟨o2, o3, rfl, rfl, e⟩
        walk_at "rd"
        show Q (.bl true) _
        have k : Q (.bl (ascF 0 n ws)) H3 := k
        rw [e] at k
        exact k
    | non => exact ⟨_, rfl, ite2 (fun _ => ⟨_, .non, rfl, .non, fun _ => by decide, _, rfl, ite2 (fun _ => k) (fun h => absurd rfl h)⟩) (fun h => absurd rfl h)⟩
    | bl b => exact ⟨_, rfl, ite2 (fun _ => ⟨_, .bl, rfl, .bl b, fun _ => by decide, _, rfl, ite2 (fun _ => k) (fun h => absurd rfl h)⟩) (fun h => absurd rfl h)⟩
    | int b => exact ⟨_, rfl, ite2 (fun _ => ⟨_, .int, rfl, .int b, fun _ => by decide, _, rfl, ite2 (fun _ => k) (fun h => absurd rfl h)⟩) (fun h => absurd rfl h)⟩
    | str b => exact ⟨_, rfl, ite2 (fun _ => ⟨_, .str, rfl, .str b, fun _ => by decide, _, rfl, ite2 (fun _ => k) (fun h => absurd rfl h)⟩) (fun h => absurd rfl h)⟩
    | fr hp => exact ⟨_, rfl, ite2 (fun _ => ⟨_, .fr, rfl, .fr hp, fun _ => by decide, _, rfl, ite2 (fun _ => k) (fun h => absurd rfl h)⟩) (fun h => absurd rfl h)⟩
end

end K19
namespace K19
open PySem PySem.Spec PyProof.Rows L2 Own OwnSeq OwnSet OwnComb OwnSort OwnHot OwnExN OwnProj
local macro_rules | `(tactic| walk_at "rd") => `(tactic| simp only [tSeq, tAsg, tOp, tUn, tVar, gName, gSub, rIxL, rIxT, rSetL, tC, rI0, rI, rU, rEq, rNe, tCons, tNil, tCB, tLst, tTup, tIfS, tAnd, tOr, tNot, tAndV, tOrV, tNotV, tTest, tB, tIf, tRet, tDrop, tNext, tBreak, tCont, tCall, tCallS, L2.WE, tMakeS, rIsS, rIsB, tChain, gSeq, gRest, gCons, gNil, tFor_seq, tFor_enumS, tLc_seq, tLc_enumS, rAny, rAll, L2.tMeth, StX.tStar, rIn, tLstRg, tRg1, tRg2, rSetI, rSortedSet, rInDT, rInD, rNotInD, rEqD, rNeD, iComb, tFld, tMake, tMkO, sFld, tOst, tNever, tBits, clv, isB,
  Rd.tFor_rng1, Rd.tFor_rng2, Rd.tFor_list, Rd.tFor_tup, Rd.tLc_list, Rd.tLc_tup, Rd.tLc_rng1, Rd.LcTurn, tYes, wipe, Rd.rLenL, Rd.rLenT, Rd.rIntI, Rd.rIxH, rIxHT,  HO.tup.injEq, Rd.at0, Rd.at1, Rd.at2, Rd.at3, Rd.ixN40, Rd.ixN41, Rd.ixN42, Rd.ixN43, Rd.scal_ii, cxOf,
  List.length_cons, List.length_nil, List.length_map, List.map_cons, List.map_nil, upd_same, decide_eq_true_eq, decide_true, decide_false, if_true, if_false, Bool.false_eq_true, Bool.not_true, Bool.not_false, HO.lst.injEq, HO.ins.injEq, List.set_cons_zero, List.set_cons_succ, List.getElem?_cons_zero, List.getElem?_cons_succ, List.append_nil, List.nil_append, List.cons_append, Option.some.injEq, V.ref.injEq, V.int.injEq, V.bl.injEq, List.cons.injEq, exists_eq_left', exists_and_left, exists_eq_left, true_and, and_true, and_self, and_assoc, implies_true, reduceCtorEq, Nat.reduceAdd])

section
variable {P : Program} {w : World} {K : PySem.W.Frag} {mg : Str → Option Value} {base : Heap} {a : Ad}
/-! ### _law_truth, _law_mask -/
def spTruth : Sp := fun vs H Q _ => ∃ x y : Bool, vs = [.bl x, .bl y] ∧ Q (.bl (decide (x = y))) H
theorem sc_law_truth : FnScope ["actual", "due"] ["actual", "due"] (defScope s_law_truth) := ⟨rfl, rfl, rfl, by decide +kernel, rfl, by decide +kernel, by decide +kernel⟩
theorem ok_law_truth (T : Txt K mg a) : FnOk P w K mg base CX0 1 a.a_law_truth a.d_law_truth ["actual", "due"] spTruth := by
  refine T.fn_law_truth.ok sc_law_truth (fun vs H Q E h => ?_) (fun cdv A outer s H vs Q E hr h => ?_)
  · obtain ⟨x, y, rfl, _⟩ := h
    rfl
  · obtain ⟨x, y, rfl, k⟩ := h
    refine ⟨_, (pss_one (ps_ret (pe_and (pe_callB (call_isB .bl) (by rfl) T.no_isinstance (by decide +kernel) (pa_cons (pv 0) (pa_cons (pe_bltn (v := .ty "bool") (u := .type "bool") (by rfl) T.no_bool (by decide +kernel) rfl) pa_nil))) (pe_one (pe_cmpR op_eq (pv 0) (pv 1) (nomark _)))))), ?_⟩
    show (_ : TS) _ [some (V.bl x), some (V.bl y)] H
    walk_at "rd"
    refine ⟨.bl, .bl x, ?_⟩
    rw [if_pos rfl]
    exact ⟨rfl, k⟩
def spMask : Sp := fun vs H Q _ => ∃ (p : Addr) (l : Bool) (s : List Nat), vs = [.ref p] ∧ H p = some (sq l (iv s)) ∧ s.length ≤ 6 ∧ (∀ g ∈ s, g < 6) ∧ ∀ H', Same H H' → Q (.int (mk s : Nat)) H'
theorem sc_law_mask : FnScope ["things", "thing"] ["things"] (defScope s_law_mask) := ⟨rfl, rfl, rfl, by decide +kernel, rfl, by decide +kernel, by decide +kernel⟩
theorem ok_law_mask (T : Txt K mg a) : FnOk P w K mg base CX0 1 a.a_law_mask a.d_law_mask ["things"] spMask := by
  refine T.fn_law_mask.ok sc_law_mask (fun vs H Q E h => ?_) (fun cdv A outer s H vs Q E hr h => ?_)
  · obtain ⟨p, l, s, rfl, _⟩ := h
    rfl
  · obtain ⟨p, l, s', rfl, hp, s6, g6, k⟩ := h
    refine ⟨_, (pss_one (ps_ret (pe_callB (cr_sum rfl) (by rfl) T.no_sum (by decide +kernel) (pa_cons (pe_lc (own := [("thing", 1)]) (by rfl) sc_law_mask.nd (pi_told K (pv 0)) (blkOk_by (own := [("thing", 1)]) (N := ["things", "thing"]) (sc := defScope s_law_mask) (by decide +kernel)) (fun _ _ _ _ _ => pg_name (i := 1) sc_law_mask.nd rfl (Or.inl rfl)) (fun _ _ _ _ _ => pts_nil) (fun _ _ _ _ _ => (pe_op op_shl pe_int (pv 1)))) pa_nil)))), ?_⟩
    show (_ : TS) _ [some (V.ref p), none] H
    walk_at "rd"
    refine ⟨l, _, hp, lcl_goes goes_seq (fun D2 j H5 => H D2 = none ∧ Same H H5 ∧ H5 D2 = some (.lst (((s'.take j).map fun g => ((2 ^ g : Nat) : Int)).map V.int))) (fun D2 hD2 => ⟨hD2, same_upd hD2, upd_same⟩)
      (fun D2 j H5 _ h => h.2.1 _ _ hp) (fun D2 j y H5 H5' hj ⟨n5, e5', a5⟩ ⟨eq5, hy⟩ => ?_) (fun D2 H5 nD2 ⟨n5, e5', a5⟩ => ?_)⟩
    · subst eq5
      obtain ⟨g, hg, rfl⟩ := at_iv hy
      have g6 := g6 g (List.mem_of_getElem? hg)
      walk_at "rd"
      refine ⟨cpw (by omega), _, a5, small (by rw [List.length_map, List.length_map, List.length_take]; omega), n5, fun b o hb => (upd_ne (ne_of_none hb n5)).trans (e5' _ _ hb), ?_⟩
      rw [List.take_add_one, hg, List.map_append, List.map_append, pow_cast]
      rfl
    · rw [iv_len, List.take_length] at a5
      refine ⟨D2, _, rfl, SqL.of a5, ?_⟩
      rw [sum_cast]
      exact k _ e5'
end

end K19
namespace K19
open PySem PySem.Spec PyProof.Rows L2 Own OwnSeq OwnSet OwnComb OwnSort OwnHot OwnExN OwnProj
local macro_rules | `(tactic| walk_at "rd") => `(tactic| simp only [tSeq, tAsg, tOp, tUn, tVar, gName, gSub, rIxL, rIxT, rSetL, tC, rI0, rI, rU, rEq, rNe, tCons, tNil, tCB, tLst, tTup, tIfS, tAnd, tOr, tNot, tAndV, tOrV, tNotV, tTest, tB, tIf, tRet, tDrop, tNext, tBreak, tCont, tCall, tCallS, L2.WE, tMakeS, rIsS, rIsB, tChain, gSeq, gRest, gCons, gNil, tFor_seq, tFor_enumS, tLc_seq, tLc_enumS, rAny, rAll, L2.tMeth, StX.tStar, rIn, tLstRg, tRg1, tRg2, rSetI, rSortedSet, rInDT, rInD, rNotInD, rEqD, rNeD, iComb, tFld, tMake, tMkO, sFld, tOst, tNever, tBits, clv, isB,
  Rd.tFor_rng1, Rd.tFor_rng2, Rd.tFor_list, Rd.tFor_tup, Rd.tLc_list, Rd.tLc_tup, Rd.tLc_rng1, Rd.LcTurn, tYes, wipe, Rd.rLenL, Rd.rLenT, Rd.rIntI, Rd.rIxH, rIxHT,  HO.tup.injEq, Rd.at0, Rd.at1, Rd.at2, Rd.at3, Rd.ixN40, Rd.ixN41, Rd.ixN42, Rd.ixN43, Rd.scal_ii, cxOf,
  List.length_cons, List.length_nil, List.length_map, List.map_cons, List.map_nil, upd_same, decide_eq_true_eq, decide_true, decide_false, if_true, if_false, Bool.false_eq_true, Bool.not_true, Bool.not_false, HO.lst.injEq, HO.ins.injEq, List.set_cons_zero, List.set_cons_succ, List.getElem?_cons_zero, List.getElem?_cons_succ, List.append_nil, List.nil_append, List.cons_append, Option.some.injEq, V.ref.injEq, V.int.injEq, V.bl.injEq, List.cons.injEq, exists_eq_left', exists_and_left, exists_eq_left, true_and, and_true, and_self, and_assoc, implies_true, reduceCtorEq, Nat.reduceAdd])

theorem in_ext : ∀ {S S' : List Bool}, S.length = S'.length → (∀ m, m < S.length → In S m = In S' m) → S = S'
  | [], [], _, _ => rfl
  | x :: S, y :: S', l, h => by
    have h0 : x = y := h 0 (Nat.zero_lt_succ _)
    rw [h0, in_ext (Nat.succ.inj l) fun m hm => h (m + 1) (Nat.succ_lt_succ hm)]
  | [], _ :: _, l, _ => by cases l
  | _ :: _, [], l, _ => by cases l
/-- all parts of some sets, and () -/
def tpS (n : Nat) (ts : List Nat) : List Bool := (List.range (2 ^ n)).map fun m => decide (m = 0) || ts.any fun t => decide (Sub m t)
theorem tpS_fam {n : Nat} {ts : List Nat} (n1 : 1 ≤ n) (n6 : n ≤ 6) : Fam n (tpS n ts) where
  n1 := n1
  n6 := n6
  len := by unfold tpS; rw [List.length_map, List.length_range]
  zero := by
    unfold tpS
    rw [in_range, decide_eq_true (Nat.pow_pos (by decide) : 0 < 2 ^ n)]
    simp
  down := fun m m' s h => by
    unfold tpS at h ⊢
    rw [in_range, Bool.and_eq_true, decide_eq_true_eq, Bool.or_eq_true, decide_eq_true_eq, List.any_eq_true] at h ⊢
    have := sub_le s
    refine ⟨by omega, ?_⟩
    rcases h.2 with z | ⟨t, ht, z⟩
    · exact .inl (by omega)
    · exact .inr ⟨t, ht, decide_eq_true (sub_trans s (of_decide_eq_true z))⟩
section
variable {P : Program} {w : World} {K : PySem.W.Frag} {mg : Str → Option Value} {base : Heap} {a : Ad}
/-! ### _law_inside -/
def spInside (K : PySem.W.Frag) : Sp := fun vs H Q _ => ∃ (b c : Addr) (ns : List Int) (n : Nat), vs = [.ref b, .int n] ∧ BoxAt K H b c ns ∧ 1 ≤ n ∧ n ≤ 6 ∧ ∀ r (S : List Bool) H', BoxAt K H' b c ns → But b H H' → H r = none → H' r = some (.lst (S.map V.bl)) → Fam n S → Q (.ref r) H'
theorem sc_law_inside : FnScope ["box", "size", "tops", "mask", "out", "top", "k"] ["box", "size"] (defScope s_law_inside) := ⟨rfl, rfl, rfl, by decide +kernel, rfl, by decide +kernel, by decide +kernel⟩
theorem ok_law_inside (T : Txt K mg a) : FnOk P w K mg base CX0 2 a.a_law_inside a.d_law_inside ["box", "size"] (spInside K) := by
  refine T.fn_law_inside.ok sc_law_inside (fun vs H Q E h => ?_) (fun cdv A outer s H vs Q E hr h => ?_)
  · obtain ⟨b, c, ns, n, rfl, _⟩ := h
    rfl
  · obtain ⟨b, c, ns, n, rfl, B, n1, n6, k⟩ := h
    refine ⟨_, (pss_cons (ps_setLc (i := 2) (own := [("k", 6)]) (by rfl) sc_law_inside.nd rfl rfl (sw_true rfl rfl rfl (by decide +kernel)) (pi_range1 (by rfl) T.no_range (pa_cons (pe_call (ok_law_draw T) (hr.mono (by decide)) (by rfl) T.mg_law_draw T.fn_law_draw.kp T.b_law_draw .nil pass0 (pa_cons (pv 0) (pa_cons pe_int pa_nil))) pa_nil)) (blkOk_by (own := [("k", 6)]) (N := ["box", "size", "tops", "mask", "out", "top", "k"]) (sc := defScope s_law_inside) (by decide +kernel)) (fun _ _ _ _ _ => pg_name (i := 6) sc_law_inside.nd rfl (Or.inl rfl)) (fun _ _ _ _ _ => pts_nil) (fun _ _ _ _ _ => (pe_call (ok_law_draw T) (hr.mono (by decide)) (by rfl) T.mg_law_draw T.fn_law_draw.kp T.b_law_draw .nil pass0 (pa_cons (pv 0) (pa_cons (pe_op op_shl pe_int (pv 1)) pa_nil)))))
      (pss_cons (ps_if (pt_cmpR op_eq (pe_call (ok_law_draw T) (hr.mono (by decide)) (by rfl) T.mg_law_draw T.fn_law_draw.kp T.b_law_draw .nil pass0 (pa_cons (pv 0) (pa_cons pe_int pa_nil))) pe_int (nomark _)) (pss_one (ps_expr (pe_bm PySem.F.plainAttrs_list PySem.F.slot_list_append PySem.F.type_list_append mt_append (pv 2) (pa_cons (pe_op op_sub (pe_op op_shl pe_int (pv 1)) pe_int) pa_nil)))) pss_nil)
      (pss_cons (ps_setLc (i := 4) (own := [("mask", 3)]) (by rfl) sc_law_inside.nd rfl rfl (sw_true rfl rfl rfl (by decide +kernel)) (pi_range1 (by rfl) T.no_range (pa_cons (pe_op op_shl pe_int (pv 1)) pa_nil)) (blkOk_by (own := [("mask", 3)]) (N := ["box", "size", "tops", "mask", "out", "top", "k"]) (sc := defScope s_law_inside) (by decide +kernel)) (fun _ _ _ _ _ => pg_name (i := 3) sc_law_inside.nd rfl (Or.inl rfl)) (fun _ _ _ _ _ => pts_nil) (fun _ _ _ _ _ => (pe_cmpR op_eq (pv 3) pe_int (nomark _))))
      (pss_cons (ps_for PassesOwn.never rfl (pi_range1 (by rfl) T.no_range (pa_cons (pe_op op_shl pe_int (pv 1)) pa_nil)) (pg_name (i := 3) sc_law_inside.nd rfl (Or.inl rfl))
        (pss_one (ps_for PassesOwn.never rfl (pi_toldL K (pv 2)) (pg_name (i := 5) sc_law_inside.nd rfl (Or.inl rfl))
          (pss_one (ps_if (pt_cmpR op_eq (pe_op op_and (pv 3) (pv 5)) (pv 3) (nomark _)) (pss_one (ps_asg pe_bl (pg_sub (pv 4) (pv 3) set_list))) pss_nil)))))
      (pss_one (ps_ret (pv 4))))))), ?_⟩
    show (_ : TS) _ [some (V.ref b), some (V.int n), none, none, none, none, none] H
    have p64 := pow64 n6
    have pp := Nat.pow_pos (n := n) (show 0 < 2 by decide)
    refine cut (fun σ H1 => ∃ D ts, σ = [some (V.ref b), some (V.int n), some (V.ref D), none, none, none, none] ∧ BoxAt K H1 b c ns ∧ But b H H1 ∧ H D = none ∧ H1 D = some (.lst (iv ts)) ∧ ts.length ≤ 4) (fun R hR => ?_) (fun σ H1 h => ?_)
    · walk_at "rd"
      refine drw B (by decide) (by decide) fun x H1 x5 B1 e1 => ⟨_, rfl, by omega, by omega, ?_⟩
      rw [Int.toNat_natCast]
      refine Rd.lcl_rng (fun D i H5 => H1 D = none ∧ BoxAt K H5 b c ns ∧ But b H1 H5 ∧ ∃ ts, H5 D = some (.lst (iv ts)) ∧ ts.length = i) (fun D hD => ⟨hD, B1.same (same_upd hD), Same.but (same_upd hD), [], upd_same, rfl⟩)
        (fun D i H5 hi ⟨n5, B5, e5, ts, a5, tl⟩ => ?_) (fun D H5 _ ⟨n5, B5, e5, ts, a5, tl⟩ => hR _ _ ⟨D, ts, rfl, B5, e1.trans e5, e1.free (B1.ne_new n5) n5, a5, by omega⟩)
      have nb := B1.ne_new n5
      walk_at "rd"
      refine ⟨cpw (by omega), ?_⟩
      rw [pow_cast]
      refine drw B5 (by omega) (by omega) fun m H6 m6 B6 e6 => ?_
      have eU : But b H1 (upd H6 D (.lst (iv ts ++ [V.int m]))) := (e5.trans e6).updn n5
      exact ⟨iv ts, e6 _ _ nb a5, small (by rw [iv_len]; omega), n5, B1.upd B6 nb eU, eU, ts ++ [m], by unfold iv; rw [List.map_append]; rfl, by rw [List.length_append, tl]; rfl⟩
    obtain ⟨D, ts, rfl, B1, e1, D0, a1, t4⟩ := h
    have Db := B.ne_new D0
    refine cut (fun σ H2 => ∃ ts, σ = [some (V.ref b), some (V.int n), some (V.ref D), none, none, none, none] ∧ BoxAt K H2 b c ns ∧ But b H H2 ∧ H2 D = some (.lst (iv ts)) ∧ ts.length ≤ 5) (fun R hR => ?_) (fun σ H2 h => ?_)
    · walk_at "rd"
      refine drw B1 (by decide) (by decide) fun x H2 x8 B2 e2 => ⟨rfl, ite2 (fun _ => ?_) (fun _ => hR _ _ ⟨ts, rfl, B2, e1.trans e2, e2 _ _ Db a1, by omega⟩)⟩
      simp only [tBM, rAppend]
      walk_at "rd"
      have eU : But b H (upd H2 D (.lst (iv ts ++ [V.int (2 ^ n - 1 : Nat)]))) := (e1.trans e2).updn D0
      refine ⟨.inl ⟨rfl, _, SqL.of (e2 _ _ Db a1)⟩, cpw (by omega), iv ts, e2 _ _ Db a1, small (by rw [iv_len]; omega), ?_⟩
      rw [pow_cast, show ((2 ^ n : Nat) : Int) - 1 = ((2 ^ n - 1 : Nat) : Int) by omega]
      exact hR _ _ ⟨ts ++ [2 ^ n - 1], rfl, B.upd B2 Db eU, eU, by rw [upd_same]; unfold iv; rw [List.map_append]; rfl, by rw [List.length_append]; show ts.length + 1 ≤ 5; omega⟩
    obtain ⟨ts2, rfl, B2, e2, a2, t5⟩ := h
    refine cut (fun σ H3 => ∃ DI, σ = [some (V.ref b), some (V.int n), some (V.ref D), none, some (V.ref DI), none, none] ∧ Same H2 H3 ∧ H2 DI = none ∧ H3 DI = some (.lst (((List.range (2 ^ n)).map fun m => decide (m = 0)).map V.bl))) (fun R hR => ?_) (fun σ H3 h => ?_)
    · walk_at "rd"
      refine ⟨cpw (by omega), (pbd n6).1, (pbd n6).2.1, ?_⟩
      rw [(pbd n6).2.2.1]
      refine Rd.lcl_rng (fun D i H5 => H2 D = none ∧ Same H2 H5 ∧ H5 D = some (.lst (((List.range i).map fun m => decide (m = 0)).map V.bl))) (fun D hD => ⟨hD, same_upd hD, upd_same⟩) (fun D i H5 hi ⟨n5, e5, a5⟩ => ?_) (fun D H5 _ ⟨n5, e5, a5⟩ => hR _ _ ⟨D, rfl, e5, n5, a5⟩)
      walk_at "rd"
      rw [Int.zero_add]
      refine ⟨_, a5, small (by rw [List.length_map, List.length_map, List.length_range]; omega), n5, fun b o hb => (upd_ne (ne_of_none hb n5)).trans (e5 _ _ hb), ?_⟩
      rw [List.range_succ, List.map_append, List.map_append, show decide ((i : Int) = 0) = decide (i = 0) from decide_eq_decide.mpr ⟨fun z => by omega, fun z => by omega⟩]
      rfl
    obtain ⟨DI, rfl, e3, fI, aI⟩ := h
    walk_at "rd"
    refine ⟨cpw (by omega), (pbd n6).1, (pbd n6).2.1, ?_⟩
    rw [(pbd n6).2.2.1]
    refine Rd.loop_rngC (fun σ H7 => ∃ o3 o5, σ = [some (V.ref b), some (V.int n), some (V.ref D), o3, some (V.ref DI), o5, none] ∧ Same H2 H7 ∧ ∃ S' : List Bool, H7 DI = some (.lst (S'.map V.bl)) ∧ S'.length = 2 ^ n ∧ ∀ m, m < 2 ^ n → In S' m = (decide (m = 0) || (decide (m < 2 ^ n) && ts2.any fun t => decide (Sub m t))))
      (fun i σ H7 => ∃ o3 o5, σ = [some (V.ref b), some (V.int n), some (V.ref D), o3, some (V.ref DI), o5, none] ∧ Same H2 H7 ∧ ∃ S' : List Bool, H7 DI = some (.lst (S'.map V.bl)) ∧ S'.length = 2 ^ n ∧ ∀ m, m < 2 ^ n → In S' m = (decide (m = 0) || (decide (m < i) && ts2.any fun t => decide (Sub m t))))
      ⟨_, _, rfl, e3, _, aI, by rw [List.length_map, List.length_range], fun m hm => by rw [in_range, decide_eq_true hm, decide_eq_false (Nat.not_lt_zero m), Bool.true_and, Bool.false_and, Bool.or_false]⟩ ?_ (fun _ _ z => z) ?_
    · rintro bk hbk i σ H7 hi ⟨o3, o5, rfl, e7, S0, hS, Sl, Sm⟩
      walk_at "rd"
      rw [Int.zero_add]
      have a7 := e7 _ _ a2
      refine ⟨⟨_, SqL.of a7⟩, Rd.loop_listC (xs := iv ts2) (fun σ H7 => ∃ o5, σ = [some (V.ref b), some (V.int n), some (V.ref D), some (V.int i), some (V.ref DI), o5, none] ∧ Same H2 H7 ∧ ∃ S' : List Bool, H7 DI = some (.lst (S'.map V.bl)) ∧ S'.length = 2 ^ n ∧ ∀ m, m < 2 ^ n → In S' m = if m = i then (decide (i = 0) || ts2.any fun t => decide (Sub i t)) else In S0 m)
        (fun k σ H7 => ∃ o5, σ = [some (V.ref b), some (V.int n), some (V.ref D), some (V.int i), some (V.ref DI), o5, none] ∧ Same H2 H7 ∧ ∃ S' : List Bool, H7 DI = some (.lst (S'.map V.bl)) ∧ S'.length = 2 ^ n ∧ ∀ m, m < 2 ^ n → In S' m = if m = i then (decide (i = 0) || (ts2.take k).any fun t => decide (Sub i t)) else In S0 m)
        ⟨_, rfl, e7, S0, hS, Sl, fun m hm => ?_⟩ (fun k σ H7 _ ⟨_, _, e, _⟩ => SqL.of (e _ _ a2)) ?_ (fun σ H7 ⟨o5, q1, q2, S', q3, q4, q5⟩ => ⟨o5, q1, q2, S', q3, q4, by rw [iv_len, List.take_length] at q5; exact q5⟩) ?_⟩
      · by_cases y : m = i
        · rw [if_pos y, Sm m hm, y, decide_eq_false (Nat.lt_irrefl i), List.take_zero]
          rfl
        · rw [if_neg y]
      · rintro bk2 hbk2 j x σ H7' hx ⟨o5, rfl, e7', S', hS', Sl', Sm'⟩
        obtain ⟨g, hg, rfl⟩ := at_iv hx
        walk_at "rd"
        have tk : (ts2.take (j + 1)).any (fun t => decide (Sub i t)) = ((ts2.take j).any (fun t => decide (Sub i t)) || decide (Sub i g)) := by
          rw [List.take_add_one, hg, List.any_append]
          show (_ || (decide (Sub i g) || false)) = _
          rw [Bool.or_false]
        refine ite2 (fun hc => ⟨_, hS', i, ixN_of (by rw [List.length_map, Sl']; exact hi), fun b o hb => (upd_ne (ne_of_none hb fI)).trans (e7' _ _ hb), S'.set i true, by rw [List.map_set], by rw [List.length_set, Sl'], fun u hu => ?_⟩) (fun hc => ⟨e7', S', hS', Sl', fun u hu => ?_⟩)
        · rw [in_set (by rw [Sl']; exact hi)]
          by_cases y : u = i
          · rw [if_pos y, if_pos y, tk, decide_eq_true (sub_iff.mp hc), Bool.or_true, Bool.or_true]
          · rw [if_neg y, if_neg y, Sm' u hu, if_neg y]
        · rw [Sm' u hu]
          by_cases y : u = i
          · rw [if_pos y, if_pos y, tk, decide_eq_false (fun z => hc (sub_iff.mpr z)), Bool.or_false]
          · rw [if_neg y, if_neg y]
      · rintro σ H7' ⟨o5, rfl, e7', S', hS', Sl', Sm'⟩
        refine ⟨_, _, rfl, e7', S', hS', Sl', fun m hm => ?_⟩
        rw [Sm' m hm]
        by_cases y : m = i
        · rw [if_pos y, y, decide_eq_true (show i < i + 1 by omega), Bool.true_and]
        · rw [if_neg y, Sm m hm]
          by_cases y2 : m < i
          · rw [decide_eq_true y2, decide_eq_true (show m < i + 1 by omega)]
          · rw [decide_eq_false y2, decide_eq_false (show ¬ m < i + 1 by omega)]
    · rintro σ H7 ⟨o3, o5, rfl, e7, S', hS', Sl', Sm'⟩
      walk_at "rd"
      have eS : S' = tpS n ts2 := in_ext (by unfold tpS; rw [Sl', List.length_map, List.length_range]) fun m hm => by
        rw [Sl'] at hm
        rw [Sm' m hm]
        unfold tpS
        rw [in_range, decide_eq_true hm, Bool.true_and, Bool.true_and]
      rw [eS] at hS'
      exact k DI _ H7 (B2.same e7) (e2.trans (Same.but e7)) (e2.free (B2.ne_new fI) fI) hS' (tpS_fam n1 n6)
end

end K19
namespace K19
open PySem PySem.Spec PyProof.Rows L2 Own OwnSeq OwnSet OwnComb OwnSort OwnHot OwnExN OwnProj
local macro_rules | `(tactic| walk_at "rd") => `(tactic| simp only [tSeq, tAsg, tOp, tUn, tVar, gName, gSub, rIxL, rIxT, rSetL, tC, rI0, rI, rU, rEq, rNe, tCons, tNil, tCB, tLst, tTup, tIfS, tAnd, tOr, tNot, tAndV, tOrV, tNotV, tTest, tB, tIf, tRet, tDrop, tNext, tBreak, tCont, tCall, tCallS, L2.WE, tMakeS, rIsS, rIsB, tChain, gSeq, gRest, gCons, gNil, tFor_seq, tFor_enumS, tLc_seq, tLc_enumS, rAny, rAll, L2.tMeth, StX.tStar, rIn, tLstRg, tRg1, tRg2, rSetI, rSortedSet, rInDT, rInD, rNotInD, rEqD, rNeD, iComb, tFld, tMake, tMkO, sFld, tOst, tNever, tBits, clv, isB,
  Rd.tFor_rng1, Rd.tFor_rng2, Rd.tFor_list, Rd.tFor_tup, Rd.tLc_list, Rd.tLc_tup, Rd.tLc_rng1, Rd.LcTurn, tYes, wipe, Rd.rLenL, Rd.rLenT, Rd.rIntI, Rd.rIxH, rIxHT,  HO.tup.injEq, Rd.at0, Rd.at1, Rd.at2, Rd.at3, Rd.ixN40, Rd.ixN41, Rd.ixN42, Rd.ixN43, Rd.scal_ii, cxOf,
  List.length_cons, List.length_nil, List.length_map, List.map_cons, List.map_nil, upd_same, decide_eq_true_eq, decide_true, decide_false, if_true, if_false, Bool.false_eq_true, Bool.not_true, Bool.not_false, HO.lst.injEq, HO.ins.injEq, List.set_cons_zero, List.set_cons_succ, List.getElem?_cons_zero, List.getElem?_cons_succ, List.append_nil, List.nil_append, List.cons_append, Option.some.injEq, V.ref.injEq, V.int.injEq, V.bl.injEq, List.cons.injEq, exists_eq_left', exists_and_left, exists_eq_left, true_and, and_true, and_self, and_assoc, implies_true, reduceCtorEq, Nat.reduceAdd])

def seqW (l : Bool) (ws : List Wv) : Wv := if l = true then .lst ws else .tup ws
theorem isw_seq {C : Addr} {H : Hp} {p : Addr} {l : Bool} {xs : List V} {ws : List Wv} (h : H p = some (sq l xs)) (e : IsWs C H xs ws) : IsW C H (.ref p) (seqW l ws) := by
  cases l with
  | true => exact .lst h e
  | false => exact .tup h e
theorem dep_seq {d : Nat} {l : Bool} {ws : List Wv} (h : ws.length ≤ 9) (e : ∀ w ∈ ws, Dep d w) : Dep (d + 1) (seqW l ws) := by
  cases l with
  | true => exact .lst h e
  | false => exact .tup h e
theorem shpV {K : PySem.W.Frag} {C b c p : Addr} {ns : List Int} {H H1 : Hp} {l : Bool} {xs : List V} {ws : List Wv} {Q : VK} {E : XK} (B : BoxAt K H b c ns) (B1 : BoxAt K H1 b c ns) (e1 : But b H H1) (pb : p ≠ b) (hp : H1 p = some (sq l xs)) (x9 : xs.length ≤ 9) (hx : IsNs C H H1 xs ws)
    (k : ∀ q l' H', BoxAt K H' b c ns → But b H H' → But b H1 H' → q ≠ b → H' q = some (sq l' xs) → (l' = true → H q = none) → (l' = true → H1 q = none) → IsNs C H H' xs ws → Q (.ref q) H') : spShape K [.ref b, .ref p] H1 Q E :=
  ⟨b, c, p, ns, l, xs, rfl, B1, pb, hp, by omega, fun q l' H' B' e' qb hq hn => k q l' H' B' (e1.trans e') e' qb hq (fun h => e1.free qb (hn h)) hn (IsNs.but B B1 e' hx)⟩
theorem seqN {C : Addr} {H H' : Hp} {q : Addr} {l : Bool} {xs : List V} {ws : List Wv} (hq : H' q = some (sq l xs)) (n : l = true → H q = none) (h : IsNs C H H' xs ws) : IsN C H H' (.ref q) (seqW l ws) := by
  cases l with
  | true => exact .lst hq (n rfl) h
  | false => exact .tup hq h
theorem ints_n {C : Addr} {H H' : Hp} : ∀ s : List Nat, IsNs C H H' (iv s) (s.map fun g : Nat => Wv.int g)
  | [] => .nil
  | x :: s => .cons (.int _) (ints_n s)
theorem IsNs.app {C : Addr} {H H' : Hp} : ∀ {vs us : List V} {ws zs : List Wv}, IsNs C H H' vs ws → IsNs C H H' us zs → IsNs C H H' (vs ++ us) (ws ++ zs)
  | _, _, _, _, .nil, b => b
  | _, _, _, _, .cons h a, b => .cons h (a.app b)
/-- a heap without one object -/
def noD (D : Addr) (H : Hp) : Hp := fun q => if q = D then none else H q
theorem noD_upd {D : Addr} {H : Hp} {o : HO} : noD D (upd H D o) = noD D H := funext fun q => by
  unfold noD
  by_cases h : q = D
  · rw [if_pos h, if_pos h]
  · rw [if_neg h, if_neg h, upd_ne h]
theorem noD_get {D q : Addr} {H : Hp} {o : HO} (h : noD D H q = some o) : q ≠ D ∧ H q = some o := by
  unfold noD at h
  split at h
  · cases h
  · exact ⟨by assumption, h⟩
theorem noD_of {D q : Addr} {H : Hp} {o : HO} (n : q ≠ D) (h : H q = some o) : noD D H q = some o := by
  unfold noD
  rw [if_neg n]
  exact h
theorem IsNs.noD {K : PySem.W.Frag} {C b c D : Addr} {ns : List Int} {H H1 H' : Hp} (B : BoxAt K H b c ns) (B1 : BoxAt K H1 b c ns) (e : But b H1 H') {vs : List V} {ws : List Wv} (h : IsNs C H (noD D H1) vs ws) : IsNs C H (noD D H') vs ws :=
  h.go (fun q o n z => by
    obtain ⟨nd, z⟩ := noD_get z
    refine noD_of nd (e q o (fun eq => ?_) z)
    subst eq
    obtain ⟨_, _, _, hb, _⟩ := B.ob
    obtain ⟨_, _, _, hb1, _⟩ := B1.ob
    rw [hb1] at z
    rw [n _ (Option.some.inj z).symm] at hb
    cases hb) fun _ z => z
theorem IsNs.all {C D : Addr} {H H1 : Hp} {vs : List V} {ws : List Wv} (h : IsNs C H (K19.noD D H1) vs ws) : IsNs C H H1 vs ws := h.go (fun _ _ _ z => (noD_get z).2) fun _ z => z
theorem elemD {C D q : Addr} {H H' : Hp} {l : Bool} {s : List Nat} (hq : H' q = some (sq l (iv s))) (n : l = true → H q = none) (qD : q ≠ D) : IsN C H (noD D H') (.ref q) (seqW l (s.map fun g : Nat => Wv.int g)) := seqN (noD_of qD hq) n (ints_n s)
/-- what is new since H1, in which D stands -/
theorem IsN.since {K : PySem.W.Frag} {C b c D : Addr} {ns : List Int} {H H1 H' : Hp} {v : V} {w : Wv} {xs ys : List V} (B1 : BoxAt K H1 b c ns) (e1 : But b H H1) (hD : H1 D = some (.lst xs)) (hD' : H' D = some (.lst ys)) (h : IsN C H1 H' v w) : IsN C H (K19.noD D H') v w :=
  h.go (fun q o n z => noD_of (fun eq => by
    subst eq
    rw [hD'] at z
    rw [n _ (Option.some.inj z).symm] at hD
    cases hD) z) fun q z => e1.free (B1.ne_new z) z
theorem IsNs.take {C : Addr} {H H' : Hp} : ∀ {vs : List V} {ws : List Wv} (i : Nat), IsNs C H H' vs ws → IsNs C H H' (vs.take i) (ws.take i)
  | _, _, 0, _ => .nil
  | _, _, _ + 1, .nil => .nil
  | _, _, i + 1, .cons h a => .cons h (IsNs.take i a)
theorem IsNs.drop {C : Addr} {H H' : Hp} : ∀ {vs : List V} {ws : List Wv} (i : Nat), IsNs C H H' vs ws → IsNs C H H' (vs.drop i) (ws.drop i)
  | _, _, 0, h => h
  | _, _, _ + 1, .nil => .nil
  | _, _, i + 1, .cons _ a => IsNs.drop i a
def SetW (w : Wv) : Prop := ∃ (l : Bool) (s : List Nat), w = seqW l (s.map fun g : Nat => Wv.int g) ∧ s.length ≤ 6 ∧ ∀ g ∈ s, g < 6
theorem isn_set {C : Addr} {H H' : Hp} {v : V} {w : Wv} (h : IsN C H H' v w) (hs : SetW w) : ∃ q l s, v = .ref q ∧ H' q = some (sq l (iv s)) ∧ s.length ≤ 6 ∧ ∀ g ∈ s, g < 6 := by
  obtain ⟨l, s, rfl, s6, g6⟩ := hs
  cases l with
  | true =>
    cases h with
    | lst h _ e => exact ⟨_, true, s, rfl, by rw [h, e.is.ints]; rfl, s6, g6⟩
  | false =>
    cases h with
    | tup h e => exact ⟨_, false, s, rfl, by rw [h, e.is.ints]; rfl, s6, g6⟩
theorem SetW.dep {w : Wv} (h : SetW w) : Dep 3 w := by
  obtain ⟨l, s, rfl, s6, g6⟩ := h
  refine dep_seq (by rw [List.length_map]; omega) fun w m => ?_
  obtain ⟨g, hg, rfl⟩ := List.mem_map.mp m
  exact .int (by omega) (by have := g6 g hg; omega)
section
variable {P : Program} {w : World} {K : PySem.W.Frag} {mg : Str → Option Value} {base : Heap} {a : Ad}
theorem mem_ins {α : Type} {x w : α} {ws : List α} (y : Nat) (h : x ∈ ws) : x ∈ ws.take y ++ [w] ++ ws.drop y := by
  rw [← List.take_append_drop y ws] at h
  rcases List.mem_append.mp h with h | h
  · exact List.mem_append_left _ (List.mem_append_left _ h)
  · exact List.mem_append_right _ h
theorem len_ins {α : Type} {w : α} {ws : List α} (y : Nat) : (ws.take y ++ [w] ++ ws.drop y).length = ws.length + 1 := by
  rw [List.length_append, List.length_append, List.length_take, List.length_drop]
  show min y ws.length + 1 + (ws.length - y) = _
  omega
/-! ### _law_mixed -/
/-- the sets as drawn: each at least once -/
def MixOk (ss : List (List Nat)) (i : Nat) (ws : List Wv) : Prop := (∀ w ∈ ws, ∃ (l : Bool) (s : List Nat), w = seqW l (s.map fun g : Nat => Wv.int g) ∧ s ∈ ss) ∧ ∀ s ∈ ss.take i, ∃ l : Bool, seqW l (s.map fun g : Nat => Wv.int g) ∈ ws
def spMixed (K : PySem.W.Frag) (C : Addr) : Sp := fun vs H Q _ => ∃ (b c p : Addr) (ns : List Int) (us : List V) (ss : List (List Nat)), vs = [.ref b, .ref p] ∧ BoxAt K H b c ns ∧ p ≠ b ∧ H p = some (.lst us) ∧ Tups H us ss ∧ ss.length ≤ 64 ∧ (∀ s ∈ ss, s.length ≤ 6) ∧
  ∀ r xs ws H', BoxAt K H' b c ns → But b H H' → H r = none → H' r = some (.lst xs) → IsNs C H (noD r H') xs ws → ws.length ≤ 128 → MixOk ss ss.length ws → Q (.ref r) H'
theorem sc_law_mixed : FnScope ["box", "sets", "out", "things"] ["box", "sets"] (defScope s_law_mixed) := ⟨rfl, rfl, rfl, by decide +kernel, rfl, by decide +kernel, by decide +kernel⟩
theorem ok_law_mixed (T : Txt K mg a) : FnOk P w K mg base CX0 3 a.a_law_mixed a.d_law_mixed ["box", "sets"] (spMixed K a.C_Frac) := by
  refine T.fn_law_mixed.ok sc_law_mixed (fun vs H Q E h => ?_) (fun cdv A outer s H vs Q E hr h => ?_)
  · obtain ⟨b, c, p, ns, us, ss, rfl, _⟩ := h
    rfl
  · obtain ⟨b, c, p, ns, us, ss, rfl, B, pb, hp, tu, l64, s6, k⟩ := h
    refine ⟨_, (pss_cons (ps_set (i := 2) sc_law_mixed.nd rfl (Or.inl rfl) (pe_lst pa_nil))
      (pss_cons (ps_for PassesOwn.never rfl (pi_toldL K (pv 1)) (pg_name (i := 3) sc_law_mixed.nd rfl (Or.inl rfl))
        (pss_cons (ps_expr (pe_bm PySem.F.plainAttrs_list PySem.F.slot_list_insert PySem.F.type_list_insert mt_insert (pv 2) (pa_cons (pe_call (ok_law_draw T) (hr.mono (by decide)) (by rfl) T.mg_law_draw T.fn_law_draw.kp T.b_law_draw .nil pass0 (pa_cons (pv 0) (pa_cons (pe_op op_add (pe_callB (lenK K) (by rfl) T.no_len PySem.boot_len (pa_cons (pv 2) pa_nil)) pe_int) pa_nil))) (pa_cons (pe_call (ok_law_shape T) (hr.mono (by decide)) (by rfl) T.mg_law_shape T.fn_law_shape.kp T.b_law_shape .nil pass0 (pa_cons (pv 0) (pa_cons (pv 3) pa_nil))) pa_nil))))
        (pss_one (ps_if (pt_cmpR op_eq (pe_call (ok_law_draw T) (hr.mono (by decide)) (by rfl) T.mg_law_draw T.fn_law_draw.kp T.b_law_draw .nil pass0 (pa_cons (pv 0) (pa_cons pe_int pa_nil))) pe_int (nomark _)) (pss_one (ps_expr (pe_bm PySem.F.plainAttrs_list PySem.F.slot_list_insert PySem.F.type_list_insert mt_insert (pv 2) (pa_cons (pe_call (ok_law_draw T) (hr.mono (by decide)) (by rfl) T.mg_law_draw T.fn_law_draw.kp T.b_law_draw .nil pass0 (pa_cons (pv 0) (pa_cons (pe_op op_add (pe_callB (lenK K) (by rfl) T.no_len PySem.boot_len (pa_cons (pv 2) pa_nil)) pe_int) pa_nil))) (pa_cons (pe_call (ok_law_shape T) (hr.mono (by decide)) (by rfl) T.mg_law_shape T.fn_law_shape.kp T.b_law_shape .nil pass0 (pa_cons (pv 0) (pa_cons (pv 3) pa_nil))) pa_nil))))) pss_nil))))
      (pss_one (ps_ret (pv 2))))), ?_⟩
    show (_ : TS) _ [some (V.ref b), some (V.ref p), none, none] H
    have ul := tu.len
    walk_at "rd"
    refine ⟨by decide, fun D hD => ⟨⟨_, SqL.of (same_upd hD _ _ hp)⟩, ?_⟩⟩
    have Db := B.ne_new hD
    have pD : p ≠ D := fun z => by rw [z, hD] at hp; cases hp
    have eD : But b H (upd H D (.lst [])) := Same.but (same_upd hD)
    refine Rd.loop_listC (xs := us) (fun σ H' => ∃ o3 xs ws, σ = [some (V.ref b), some (V.ref p), some (V.ref D), o3] ∧ BoxAt K H' b c ns ∧ But b H H' ∧ H' D = some (.lst xs) ∧ IsNs a.C_Frac H (noD D H') xs ws ∧ ws.length ≤ 128 ∧ MixOk ss ss.length ws)
      (fun i σ H' => ∃ o3 xs ws, σ = [some (V.ref b), some (V.ref p), some (V.ref D), o3] ∧ BoxAt K H' b c ns ∧ But b H H' ∧ H' D = some (.lst xs) ∧ IsNs a.C_Frac H (noD D H') xs ws ∧ ws.length ≤ 2 * i ∧ MixOk ss i ws)
      ⟨none, [], [], rfl, B.same (same_upd hD), eD, upd_same, .nil, Nat.zero_le _, ⟨fun _ m => (by cases m), fun _ m => (by rw [List.take_zero] at m; cases m)⟩⟩ (fun i σ H' _ ⟨_, _, _, _, _, e, _⟩ => SqL.of (e _ _ pb hp)) ?_ (fun σ H' ⟨o3, xs, ws, q1, q2, q3, q4, q5, q6, q7⟩ => ⟨o3, xs, ws, q1, q2, q3, q4, q5, by omega, by rw [ul] at q7; exact q7⟩) ?_
    · rintro bk hbk i x σ H3 hx ⟨o3, xs, ws, rfl, B3, e3, hD3, hx3, wl, mo⟩
      obtain ⟨s', hs, t, rfl, ht⟩ := tu.at hx
      have sm := List.mem_of_getElem? hs
      have il := (List.getElem?_eq_some_iff.mp hs).1
      have tb : t ≠ b := fun z => by
        subst z
        obtain ⟨_, _, _, hb, _⟩ := B.ob
        rw [hb] at ht
        cases ht
      have xl := hx3.len
      -- one insert
      have ins : ∀ {H4 H6 : Hp} {xs4 : List V} {ws4 : List Wv} {y : Nat} {q : Addr} {l : Bool}, BoxAt K H4 b c ns → But b H H4 → H4 D = some (.lst xs4) → IsNs a.C_Frac H (noD D H4) xs4 ws4 → BoxAt K H6 b c ns → But b H4 H6 → q ≠ b → H6 q = some (sq l (iv s')) → (l = true → H4 q = none) →
          (∀ w ∈ ws4, ∃ (l : Bool) (s : List Nat), w = seqW l (s.map fun g : Nat => Wv.int g) ∧ s ∈ ss) →
          H6 D = some (.lst xs4) ∧ BoxAt K (upd H6 D (.lst (xs4.take y ++ [V.ref q] ++ xs4.drop y))) b c ns ∧ But b H (upd H6 D (.lst (xs4.take y ++ [V.ref q] ++ xs4.drop y))) ∧ IsNs a.C_Frac H (noD D (upd H6 D (.lst (xs4.take y ++ [V.ref q] ++ xs4.drop y)))) (xs4.take y ++ [V.ref q] ++ xs4.drop y) (ws4.take y ++ [seqW l (s'.map fun g : Nat => Wv.int g)] ++ ws4.drop y) ∧
          (∀ w ∈ ws4.take y ++ [seqW l (s'.map fun g : Nat => Wv.int g)] ++ ws4.drop y, ∃ (l : Bool) (s : List Nat), w = seqW l (s.map fun g : Nat => Wv.int g) ∧ s ∈ ss) := fun {H4 H6 xs4 ws4 y q l} B4 e4 hD4 hx4 B6 e6 qb hq hn al => by
        have hD6 := e6 _ _ Db hD4
        have qD : q ≠ D := fun z => by
          subst z
          cases l with
          | true => have := hn rfl; rw [hD4] at this; cases this
          | false => rw [hD6] at hq; cases hq
        have eU : But b H (upd H6 D (.lst (xs4.take y ++ [V.ref q] ++ xs4.drop y))) := (e4.trans e6).updn hD
        refine ⟨hD6, B.upd B6 Db eU, eU, ?_, fun w m => ?_⟩
        · rw [noD_upd]
          have hx6 := IsNs.noD B B4 e6 hx4
          exact ((hx6.take y).app (.cons (elemD hq (fun h => e4.free qb (hn h)) qD) .nil)).app (hx6.drop y)
        · rcases List.mem_append.mp m with m | m
          · rcases List.mem_append.mp m with m | m
            · exact al w (List.mem_of_mem_take m)
            · rw [List.mem_singleton.mp m]; exact ⟨l, s', rfl, sm⟩
          · exact al w (List.mem_of_mem_drop m)
      walk_at "rd"
      simp only [tBM]
      walk_at "rd"
      have mo1 : ∀ {ws4 : List Wv} {y : Nat} {l : Bool}, (∀ s ∈ ss.take i, ∃ l : Bool, seqW l (s.map fun g : Nat => Wv.int g) ∈ ws4) → ∀ s ∈ ss.take (i + 1), ∃ l' : Bool, seqW l' (s.map fun g : Nat => Wv.int g) ∈ ws4.take y ++ [seqW l (s'.map fun g : Nat => Wv.int g)] ++ ws4.drop y := fun {ws4 y l} h s m => by
        rw [List.take_add_one, hs] at m
        rcases List.mem_append.mp m with m | m
        · obtain ⟨l', m⟩ := h s m
          exact ⟨l', mem_ins y m⟩
        · rw [List.mem_singleton.mp m]
          exact ⟨l, List.mem_append_left _ (List.mem_append_right _ (List.mem_singleton.mpr rfl))⟩
      have t3 : ∀ {H4 : Hp}, But b H H4 → H4 t = some (sq false (iv s')) := fun e => e _ _ tb ht
      have sl := s6 s' sm
      refine ⟨.inl ⟨rfl, _, SqL.of hD3⟩, xs, .inl (SqL.of hD3), drw B3 (by omega) (by omega) fun y H4 y5 B4 e4 => ⟨b, c, t, ns, false, _, rfl, B4, tb, t3 (e3.trans e4), by rw [iv_len]; omega, fun q l H5 B5 e5 qb hq hn => ?_⟩⟩
      obtain ⟨i1, i2, i3, i4, i5⟩ := ins (y := y) B3 e3 hD3 hx3 B5 (e4.trans e5) qb hq (fun h => e4.free qb (hn h)) mo.1
      refine ⟨xs, y, rfl, i1, small (by omega), by omega, by omega, ?_⟩
      rw [Int.toNat_natCast]
      have m2 := mo1 (y := y) (l := l) mo.2
      have l2 := len_ins (w := seqW l (s'.map fun g : Nat => Wv.int g)) (ws := ws) y
      generalize ws.take y ++ [seqW l (s'.map fun g : Nat => Wv.int g)] ++ ws.drop y = ws4 at i4 i5 m2 l2
      have uD : upd H5 D (.lst (xs.take y ++ [V.ref q] ++ xs.drop y)) D = some (.lst (xs.take y ++ [V.ref q] ++ xs.drop y)) := upd_same
      generalize xs.take y ++ [V.ref q] ++ xs.drop y = xs4 at *
      generalize upd H5 D (.lst xs4) = H6 at *
      have xl4 := i4.len
      refine drw i2 (by decide) (by decide) fun z H7 z9 B7 e7 => ⟨rfl, ite2 (fun _ => ?_) (fun _ => ?_)⟩
      · have hD7 := e7 _ _ Db uD
        have hx7 := IsNs.noD B i2 e7 i4
        refine ⟨.inl ⟨rfl, _, SqL.of hD7⟩, xs4, .inl (SqL.of hD7), drw B7 (by omega) (by omega) fun y2 H8 y8 B8 e8 => ⟨b, c, t, ns, false, _, rfl, B8, tb, t3 ((i3.trans e7).trans e8), by rw [iv_len]; omega, fun q2 l2' H9 B9 e9 qb2 hq2 hn2 => ?_⟩⟩
        obtain ⟨j1, j2, j3, j4, j5⟩ := ins (y := y2) B7 (i3.trans e7) hD7 hx7 B9 (e8.trans e9) qb2 hq2 (fun h => e8.free qb2 (hn2 h)) i5
        refine ⟨xs4, y2, rfl, j1, small (by omega), by omega, by omega, ?_⟩
        rw [Int.toNat_natCast]
        exact ⟨j2, j3, _, j4, by rw [len_ins]; omega, j5, fun s m => by
          obtain ⟨l', m⟩ := m2 s m
          exact ⟨l', mem_ins y2 m⟩⟩
      · exact ⟨B7, i3.trans e7, xs4, e7 _ _ Db uD, ws4, IsNs.noD B i2 e7 i4, by omega, i5, m2⟩
    · rintro σ H3 ⟨o3, xs, ws, rfl, B3, e3, hD3, hx3, wl, mo⟩
      walk_at "rd"
      exact k D xs ws H3 B3 e3 hD hD3 hx3 wl mo
end

end K19
namespace K19
open PySem PySem.Spec PyProof.Rows L2 Own OwnSeq OwnSet OwnComb OwnSort OwnHot OwnExN OwnProj
local macro_rules | `(tactic| walk_at "rd") => `(tactic| simp only [tSeq, tAsg, tOp, tUn, tVar, gName, gSub, rIxL, rIxT, rSetL, tC, rI0, rI, rU, rEq, rNe, tCons, tNil, tCB, tLst, tTup, tIfS, tAnd, tOr, tNot, tAndV, tOrV, tNotV, tTest, tB, tIf, tRet, tDrop, tNext, tBreak, tCont, tCall, tCallS, L2.WE, tMakeS, rIsS, rIsB, tChain, gSeq, gRest, gCons, gNil, tFor_seq, tFor_enumS, tLc_seq, tLc_enumS, rAny, rAll, L2.tMeth, StX.tStar, rIn, tLstRg, tRg1, tRg2, rSetI, rSortedSet, rInDT, rInD, rNotInD, rEqD, rNeD, iComb, tFld, tMake, tMkO, sFld, tOst, tNever, tBits, clv, isB,
  Rd.tFor_rng1, Rd.tFor_rng2, Rd.tFor_list, Rd.tFor_tup, Rd.tLc_list, Rd.tLc_tup, Rd.tLc_rng1, Rd.LcTurn, tYes, wipe, Rd.rLenL, Rd.rLenT, Rd.rIntI, Rd.rIxH, rIxHT,  HO.tup.injEq, Rd.at0, Rd.at1, Rd.at2, Rd.at3, Rd.ixN40, Rd.ixN41, Rd.ixN42, Rd.ixN43, Rd.scal_ii, cxOf,
  List.length_cons, List.length_nil, List.length_map, List.map_cons, List.map_nil, upd_same, decide_eq_true_eq, decide_true, decide_false, if_true, if_false, Bool.false_eq_true, Bool.not_true, Bool.not_false, HO.lst.injEq, HO.ins.injEq, List.set_cons_zero, List.set_cons_succ, List.getElem?_cons_zero, List.getElem?_cons_succ, List.append_nil, List.nil_append, List.cons_append, Option.some.injEq, V.ref.injEq, V.int.injEq, V.bl.injEq, List.cons.injEq, exists_eq_left', exists_and_left, exists_eq_left, true_and, and_true, and_self, and_assoc, implies_true, reduceCtorEq, Nat.reduceAdd])

theorem bit_and (m k : Nat) : (Builtin.bitAnd ((m : Int) / 2 ^ (k : Int).toNat) 1 = 1) ↔ bit m k = true := by
  have e : (1 : Int) = ((1 : Nat) : Int) := rfl
  rw [shr_mod, e, and_nat]
  unfold bit
  rw [Nat.and_one_is_mod, decide_eq_true_eq]
  omega
theorem bit_and0 (m k : Nat) : (Builtin.bitAnd ((m : Int) / 2 ^ (k : Int).toNat) 1 = 0) ↔ bit m k = false := by
  have e : (1 : Int) = ((1 : Nat) : Int) := rfl
  rw [shr_mod, e, and_nat]
  unfold bit
  rw [Nat.and_one_is_mod, decide_eq_false_iff_not]
  omega
theorem asc_of_pw : ∀ {s : List Nat}, s.Pairwise (· < ·) → asc s = true
  | [], _ => rfl
  | x :: s, h => by
    cases h with
    | cons h1 h2 =>
      show (List.all _ _ && _) = true
      rw [asc_of_pw h2, Bool.and_true, List.all_eq_true]
      exact fun y hy => decide_eq_true (h1 y hy)
section
variable {P : Program} {w : World} {K : PySem.W.Frag} {mg : Str → Option Value} {base : Heap} {a : Ad}
/-! ### _law_added, _law_rank -/
def addM (n : Nat) (S : List Bool) (m : Nat) : List Nat := (List.range 6).filter fun k => !bit m k && (decide (m ||| 2 ^ k < 2 ^ n) && In S (m ||| 2 ^ k))
def spAdded : Sp := fun vs H Q _ => ∃ (p : Addr) (n : Nat) (S : List Bool) (m : Nat), vs = [.ref p, .int m] ∧ H p = some (.lst (S.map V.bl)) ∧ Fam n S ∧ m < 2 ^ n ∧ ∀ r H', H r = none → Same H H' → H' r = some (.tup (iv (addM n S m))) → Q (.ref r) H'
theorem sc_law_added : FnScope ["inside", "mask", "k"] ["inside", "mask"] (defScope s_law_added) := ⟨rfl, rfl, rfl, by decide +kernel, rfl, by decide +kernel, by decide +kernel⟩
theorem ok_law_added (T : Txt K mg a) : FnOk P w K mg base CX0 2 a.a_law_added a.d_law_added ["inside", "mask"] spAdded := by
  refine T.fn_law_added.ok sc_law_added (fun vs H Q E h => ?_) (fun cdv A outer s H vs Q E hr h => ?_)
  · obtain ⟨p, n, S, m, rfl, _⟩ := h
    rfl
  · obtain ⟨p, n, S, m, rfl, hp, F, ml, k⟩ := h
    refine ⟨_, (pss_one (ps_ret (pe_call (ok_law_things T) (hr.mono (by decide)) (by rfl) T.mg_law_things T.fn_law_things.kp T.b_law_things .nil pass0 (pa_cons (pe_callB (cr_sum rfl) (by rfl) T.no_sum (by decide +kernel) (pa_cons (pe_lc (own := [("k", 2)]) (by rfl) sc_law_added.nd (pi_range1 (by rfl) T.no_range (pa_cons pe_int pa_nil)) (blkOk_by (own := [("k", 2)]) (N := ["inside", "mask", "k"]) (sc := defScope s_law_added) (by decide +kernel)) (fun _ _ _ _ _ => pg_name (i := 2) sc_law_added.nd rfl (Or.inl rfl)) (fun _ _ _ _ _ => pts_one (PW.pt (pw_and (pt_cmpR op_eq (pe_op op_and (pe_op op_shr (pv 1) (pv 2)) pe_int) pe_int (nomark _)) (pw_and (pt_cmpR op_lt (pe_op op_or (pv 1) (pe_op op_shl pe_int (pv 2))) (pe_callB (lenK K) (by rfl) T.no_len PySem.boot_len (pa_cons (pv 0) pa_nil)) (nomark _)) (pw_and1 (pt_val (pe_ix Rd.ixH (pv 0) (pe_op op_or (pv 1) (pe_op op_shl pe_int (pv 2))) (fun _ _ => rfl)))))))) (fun _ _ _ _ _ => (pe_op op_shl pe_int (pv 2)))) pa_nil)) pa_nil)))), ?_⟩
    show (_ : TS) _ [some (V.ref p), some (V.int m), none] H
    have n6 := F.n6
    have p64 := pow64 n6
    walk_at "rd"
    rw [show Int.toNat 6 = 6 from rfl]
    refine ⟨by decide, by decide, Rd.lcl_rng (fun D i H5 => H D = none ∧ Same H H5 ∧ H5 D = some (.lst ((((List.range i).filter fun k => !bit m k && (decide (m ||| 2 ^ k < 2 ^ n) && In S (m ||| 2 ^ k))).map fun g => ((2 ^ g : Nat) : Int)).map V.int))) (fun D hD => ⟨hD, same_upd hD, upd_same⟩) (fun D i H5 hi ⟨n5, e5, a5⟩ => ?_) (fun D H5 _ ⟨n5, e5, a5⟩ => ?_)⟩
    · have rs := List.range_succ (n := i)
      walk_at "rd"
      rw [Int.zero_add]
      have skip : (!bit m i && (decide (m ||| 2 ^ i < 2 ^ n) && In S (m ||| 2 ^ i))) = false → H D = none ∧ Same H H5 ∧ H5 D = some (.lst ((((List.range (i + 1)).filter fun k => !bit m k && (decide (m ||| 2 ^ k < 2 ^ n) && In S (m ||| 2 ^ k))).map fun g => ((2 ^ g : Nat) : Int)).map V.int)) := fun z => ⟨n5, e5, by
        rw [rs, List.filter_append, List.filter_cons_of_neg (p := fun k => !bit m k && (decide (m ||| 2 ^ k < 2 ^ n) && In S (m ||| 2 ^ k))) (by rw [z]; decide), List.filter_nil, List.append_nil]
        exact a5⟩
      rw [pow_cast, or_nat]
      refine ⟨by omega, ite2 (fun h1 => ?_) (fun h1 => skip ?_)⟩
      · have h1 := (bit_and0 m i).mp h1
        refine ⟨cpw (by omega), _, .inl (SqL.of (e5 _ _ hp)), ?_⟩
        rw [List.length_map, F.len]
        refine ite2 (fun h2 => ?_) (fun h2 => skip ?_)
        · have h2 : m ||| 2 ^ i < 2 ^ n := by omega
          refine ⟨cpw (by omega), _, e5 _ _ hp, _, in_bool (by rw [F.len]; exact h2), _, rfl, ite2 (fun h3 => ?_) (fun h3 => skip ?_)⟩
          · refine ⟨cpw (by omega), _, a5, small ?_, n5, fun b o hb => (upd_ne (ne_of_none hb n5)).trans (e5 _ _ hb), ?_⟩
            · rw [List.length_map, List.length_map]
              have := List.length_filter_le (fun k => !bit m k && (decide (m ||| 2 ^ k < 2 ^ n) && In S (m ||| 2 ^ k))) (List.range i)
              rw [List.length_range] at this
              omega
            · rw [rs, List.filter_append, List.filter_cons_of_pos (p := fun k => !bit m k && (decide (m ||| 2 ^ k < 2 ^ n) && In S (m ||| 2 ^ k))) (by rw [h1, h3, decide_eq_true h2]; rfl), List.filter_nil, List.map_append, List.map_append]
              rfl
          · rw [Bool.eq_false_iff.mpr h3, Bool.and_false, Bool.and_false]
        · rw [decide_eq_false (show ¬ m ||| 2 ^ i < 2 ^ n by omega), Bool.false_and, Bool.and_false]
      · have h1 : bit m i = true := by
          cases z : bit m i with
          | true => rfl
          | false => exact absurd ((bit_and0 m i).mpr z) h1
        rw [h1]
        rfl
    · refine ⟨D, _, rfl, SqL.of a5, ?_⟩
      rw [sum_cast]
      have ls : ((List.range 6).filter fun k => !bit m k && (decide (m ||| 2 ^ k < 2 ^ n) && In S (m ||| 2 ^ k))) ∈ allS 6 := asc_in (Nat.le_refl _) (asc_of_pw (List.Pairwise.filter _ List.pairwise_lt_range)) fun g hg => List.mem_range.mp (List.mem_filter.mp hg).1
      refine ⟨_, rfl, fun r H6 r0 e6 a6 => k r H6 (e5.free r0) (e5.trans e6) ?_⟩
      rw [(allS_at ls (Nat.le_refl _)).1] at a6
      exact a6
def spRk : Sp := fun vs H Q _ => ∃ (p : Addr) (n : Nat) (S : List Bool) (m : Nat), vs = [.ref p, .int m] ∧ H p = some (.lst (S.map V.bl)) ∧ Fam n S ∧ m < 2 ^ n ∧ ∀ H', Same H H' → Q (.int (rk S m : Nat)) H'
theorem sc_law_rank : FnScope ["inside", "mask", "best", "part"] ["inside", "mask"] (defScope s_law_rank) := ⟨rfl, rfl, rfl, by decide +kernel, rfl, by decide +kernel, by decide +kernel⟩
theorem ok_law_rank (T : Txt K mg a) : FnOk P w K mg base CX0 2 a.a_law_rank a.d_law_rank ["inside", "mask"] spRk := by
  refine T.fn_law_rank.ok sc_law_rank (fun vs H Q E h => ?_) (fun cdv A outer s H vs Q E hr h => ?_)
  · obtain ⟨p, n, S, m, rfl, _⟩ := h
    rfl
  · obtain ⟨p, n, S, m, rfl, hp, F, ml, k⟩ := h
    refine ⟨_, (pss_cons (ps_set (i := 2) sc_law_rank.nd rfl (Or.inl rfl) pe_int)
      (pss_cons (ps_for PassesOwn.never rfl (pi_range1 (by rfl) T.no_range (pa_cons (pe_callB (lenK K) (by rfl) T.no_len PySem.boot_len (pa_cons (pv 0) pa_nil)) pa_nil)) (pg_name (i := 3) sc_law_rank.nd rfl (Or.inl rfl))
        (pss_one (ps_if (PW.pt (pw_and (pt_val (pe_ix Rd.ixH (pv 0) (pv 3) (fun _ _ => rfl))) (pw_and1 (pt_cmpR op_eq (pe_op op_and (pv 3) (pv 1)) (pv 3) (nomark _))))) (pss_one (ps_set (i := 2) sc_law_rank.nd rfl (Or.inl rfl) (pe_callB (call_max2 rfl) (by rfl) T.no_max (by decide +kernel) (pa_cons (pv 2) (pa_cons (pe_callB (lenK K) (by rfl) T.no_len PySem.boot_len (pa_cons (pe_call (ok_law_things T) (hr.mono (by decide)) (by rfl) T.mg_law_things T.fn_law_things.kp T.b_law_things .nil pass0 (pa_cons (pv 3) pa_nil)) pa_nil)) pa_nil))))) pss_nil)))
      (pss_one (ps_ret (pv 2))))), ?_⟩
    show (_ : TS) _ [some (V.ref p), some (V.int m), none, none] H
    have n6 := F.n6
    have p64 := pow64 n6
    have pp := Nat.pow_pos (n := n) (show 0 < 2 by decide)
    walk_at "rd"
    refine ⟨_, .inl (SqL.of hp), ?_⟩
    rw [List.length_map, F.len, Int.toNat_natCast]
    refine ⟨by omega, by omega, Rd.loop_rngC (fun σ H' => ∃ (bst : Nat) (o3 : Option V), σ = [some (V.ref p), some (V.int m), some (V.int bst), o3] ∧ Same H H' ∧ bst = rk S m)
      (fun i σ H' => ∃ (bst : Nat) (o3 : Option V), σ = [some (V.ref p), some (V.int m), some (V.int bst), o3] ∧ Same H H' ∧ (bst = 0 ∨ ∃ x, x < i ∧ In S x = true ∧ Sub x m ∧ pop x = bst) ∧ ∀ x, x < i → In S x = true → Sub x m → pop x ≤ bst) ⟨0, none, rfl, fun _ _ h => h, .inl rfl, fun x h => absurd h (Nat.not_lt_zero x)⟩ ?_ (fun σ H' ⟨bst, o3, q1, q2, q3, q4⟩ => ⟨bst, o3, q1, q2, ?_⟩) ?_⟩
    · rintro bk hbk i σ H2 hi ⟨bst, o3, rfl, e2, b1, b2⟩
      walk_at "rd"
      rw [Int.zero_add]
      have b1' : bst = 0 ∨ ∃ x, x < i + 1 ∧ In S x = true ∧ Sub x m ∧ pop x = bst := b1.imp id fun ⟨x, h, r⟩ => ⟨x, by omega, r⟩
      have no : (In S i = true → ¬ Sub i m) → ∃ b' : Nat, (bst : Int) = (b' : Int) ∧ Same H H2 ∧ (b' = 0 ∨ ∃ x, x < i + 1 ∧ In S x = true ∧ Sub x m ∧ pop x = b') ∧ ∀ x, x < i + 1 → In S x = true → Sub x m → pop x ≤ b' := fun h => ⟨bst, rfl, e2, b1', fun x hx h1 h2 => by
        by_cases y : x = i
        · exact absurd (y ▸ h2) (h (y ▸ h1))
        · exact b2 x (by omega) h1 h2⟩
      refine ⟨_, e2 _ _ hp, _, in_bool (by rw [F.len]; exact hi), _, rfl, ite2 (fun hc => ite2 (fun hs => ?_) (fun hs => no fun _ z => hs (sub_iff.mpr z))) (fun hc => no fun z => absurd z hc)⟩
      have hs := sub_iff.mp hs
      refine ⟨i, rfl, fun r H3 r0 e3 a3 => ⟨r, rfl, _, .inr (SqT.of a3), if pop i > bst then pop i else bst, ?_, e2.trans e3, ?_, fun x hx h1 h2 => ?_⟩⟩
      · rw [iv_len]
        show (if ((pop i : Nat) : Int) > (bst : Int) then ((pop i : Nat) : Int) else (bst : Int)) = _
        by_cases y : pop i > bst
        · rw [if_pos y, if_pos (by omega)]
        · rw [if_neg y, if_neg (by omega)]
      · by_cases y : pop i > bst
        · rw [if_pos y]
          exact .inr ⟨i, by omega, hc, hs, rfl⟩
        · rw [if_neg y]
          exact b1'
      · have : pop x ≤ bst ∨ pop x = pop i := by
          by_cases y : x = i
          · exact .inr (by rw [y])
          · exact .inl (b2 x (by omega) h1 h2)
        split <;> omega
    · refine rk_eq F ?_ fun x hx sx => q4 x (F.lt hx) hx sx
      rcases q3 with h | ⟨x, h1, h2, h3, h4⟩
      · exact ⟨0, F.zero, sub_zero m, by rw [h]; decide⟩
      · exact ⟨x, h2, h3, h4⟩
    · rintro σ H2 ⟨bst, o3, rfl, e2, rfl⟩
      walk_at "rd"
      exact k H2 e2
end

end K19
namespace K19
open PySem PySem.Spec PyProof.Rows L2 Own OwnSeq OwnSet OwnComb OwnSort OwnHot OwnExN OwnProj
local macro_rules | `(tactic| walk_at "rd") => `(tactic| simp only [tSeq, tAsg, tOp, tUn, tVar, gName, gSub, rIxL, rIxT, rSetL, tC, rI0, rI, rU, rEq, rNe, tCons, tNil, tCB, tLst, tTup, tIfS, tAnd, tOr, tNot, tAndV, tOrV, tNotV, tTest, tB, tIf, tRet, tDrop, tNext, tBreak, tCont, tCall, tCallS, L2.WE, tMakeS, rIsS, rIsB, tChain, gSeq, gRest, gCons, gNil, tFor_seq, tFor_enumS, tLc_seq, tLc_enumS, rAny, rAll, L2.tMeth, StX.tStar, rIn, tLstRg, tRg1, tRg2, rSetI, rSortedSet, rInDT, rInD, rNotInD, rEqD, rNeD, iComb, tFld, tMake, tMkO, sFld, tOst, tNever, tBits, clv, isB,
  Rd.tFor_rng1, Rd.tFor_rng2, Rd.tFor_list, Rd.tFor_tup, Rd.tLc_list, Rd.tLc_tup, Rd.tLc_rng1, Rd.LcTurn, tYes, wipe, Rd.rLenL, Rd.rLenT, Rd.rIntI, Rd.rIxH, rIxHT,  HO.tup.injEq, Rd.at0, Rd.at1, Rd.at2, Rd.at3, Rd.ixN40, Rd.ixN41, Rd.ixN42, Rd.ixN43, Rd.scal_ii, cxOf,
  List.length_cons, List.length_nil, List.length_map, List.map_cons, List.map_nil, upd_same, decide_eq_true_eq, decide_true, decide_false, if_true, if_false, Bool.false_eq_true, Bool.not_true, Bool.not_false, HO.lst.injEq, HO.ins.injEq, List.set_cons_zero, List.set_cons_succ, List.getElem?_cons_zero, List.getElem?_cons_succ, List.append_nil, List.nil_append, List.cons_append, Option.some.injEq, V.ref.injEq, V.int.injEq, V.bl.injEq, List.cons.injEq, exists_eq_left', exists_and_left, exists_eq_left, true_and, and_true, and_self, and_assoc, implies_true, reduceCtorEq, Nat.reduceAdd])

theorem neD_at {X : Cx} (K : PySem.W.Frag) (hu : X.A.units + 64 < cLine) (hK : X.K = K := by rfl) : OpR X (compareOp .NotEq) (rNeD K) := by
  subst hK
  exact op_neD hu
theorem bits_add : ((List.range 7).all fun n => (allS n).all fun s => (List.range 6).all fun k => bit (mk s) k == s.contains k && (s.contains k || (decide (mk s ||| 2 ^ k = mk s + 2 ^ k) && decide (mk s + 2 ^ k < 2 ^ n) == decide (k < n)))) = true := by decide +kernel
theorem addM_eq {n : Nat} {S : List Bool} {s : List Nat} (n6 : n ≤ 6) (hs : s ∈ allS n) : addM n S (mk s) = addL n S s := by
  have tb : ∀ k, k < 6 → bit (mk s) k = s.contains k ∧ (s.contains k = false → mk s ||| 2 ^ k = mk s + 2 ^ k ∧ (mk s + 2 ^ k < 2 ^ n ↔ k < n)) := fun k hk => by
    have z := List.all_eq_true.mp (List.all_eq_true.mp (List.all_eq_true.mp bits_add n (List.mem_range.mpr (by omega))) s hs) k (List.mem_range.mpr hk)
    rw [Bool.and_eq_true] at z
    refine ⟨eq_of_beq z.1, fun h => ?_⟩
    have z2 := z.2
    rw [h, Bool.false_or, Bool.and_eq_true, decide_eq_true_eq] at z2
    exact ⟨z2.1, decide_eq_decide.mp (eq_of_beq z2.2)⟩
  unfold addM addL
  refine asc_ext (List.Pairwise.filter _ List.pairwise_lt_range) (List.Pairwise.filter _ (by unfold restL; exact List.Pairwise.filter _ List.pairwise_lt_range)) fun g => ?_
  rw [List.mem_filter, List.mem_filter, List.mem_range, rest_mem, List.mem_range, Bool.and_eq_true, Bool.and_eq_true, Bool.not_eq_true', decide_eq_true_eq]
  constructor
  · rintro ⟨h1, h2, h3, h4⟩
    obtain ⟨t1, t2⟩ := tb g h1
    rw [t1] at h2
    obtain ⟨t3, t4⟩ := t2 h2
    rw [t3] at h3 h4
    exact ⟨⟨t4.mp h3, fun z => by rw [List.contains_iff_mem.mpr z] at h2; cases h2⟩, h4⟩
  · rintro ⟨⟨h1, h2⟩, h3⟩
    have g6 : g < 6 := by omega
    obtain ⟨t1, t2⟩ := tb g g6
    have h2 : s.contains g = false := Bool.eq_false_iff.mpr fun z => h2 (List.contains_iff_mem.mp z)
    obtain ⟨t3, t4⟩ := t2 h2
    exact ⟨g6, by rw [t1]; exact h2, by rw [t3]; exact t4.mpr h1, by rw [t3]; exact h3⟩
theorem Tups.keep {H H' : Hp} : ∀ {xs : List V} {ss : List (List Nat)}, (∀ q l, H q = some (.tup l) → H' q = some (.tup l)) → Tups H xs ss → Tups H' xs ss
  | [], [], _, _ => trivial
  | _ :: _, _ :: _, k, ⟨⟨q, e, h⟩, r⟩ => ⟨⟨q, e, k q _ h⟩, Tups.keep k r⟩
  | [], _ :: _, _, h => h.elim
  | _ :: _, [], _, h => h.elim

/-- all that is no list stands -/
def Kp (H H' : Hp) : Prop := ∀ q o, H q = some o → (∀ l, o ≠ .lst l) → H' q = some o
theorem Kp.trans {H H1 H2 : Hp} (x : Kp H H1) (y : Kp H1 H2) : Kp H H2 := fun q o h n => y q o (x q o h n) n
theorem Kp.same {H H' : Hp} (e : Same H H') : Kp H H' := fun q o h _ => e q o h
theorem Kp.but {b : Addr} {H H' : Hp} {l : List V} (e : But b H H') (h : H b = some (.lst l)) : Kp H H' := fun q o hq n => e q o (fun z => by rw [z, h] at hq; exact n l (Option.some.inj hq).symm) hq
theorem Kp.upd {p : Addr} {H : Hp} {l : List V} {o : HO} (h : H p = some (.lst l)) : Kp H (L2.upd H p o) := fun q o hq n => (upd_ne fun z => by rw [z, h] at hq; exact n l (Option.some.inj hq).symm).trans hq
theorem FamV.kp {C : Addr} {H H' : Hp} {f n : Nat} {S : List Bool} (e : Kp H H') (F : FamV C H f n S) : FamV C H' f n S :=
  let ⟨dx, t, ys, a, b, c⟩ := F.ob
  ⟨F.fam, dx, t, ys, e _ _ a (fun _ z => by cases z), e _ _ b (fun _ z => by cases z), Tups.keep (fun q l h => e q _ h (fun _ z => by cases z)) c⟩
/-- a def called by a name behind its first parameter -/
theorem kbm_of {K : PySem.W.Frag} {x qual : Str} {st : Stmt} {f : Addr} {fd : FuncData} {ps : List Str} (ks : List Str) (F : Fun K x qual st f fd)
    (h : ∀ (kV doc pm : Value) (an : Option Addr) (cdv ct : Value) (us ws : List Value), us.length = 1 → ws.length = ks.length → bindArgs (PySem.W.fnOf x qual (defArgs st) (defBody st) (defScope st) .none kV doc pm an cdv ct) ⟨us, ks.zip ws⟩ = pure (ps.zip (us ++ ws))) :
    KBn K fd ps 1 ks (fun us ws => us ++ ws) (fun vs zs => vs ++ zs) :=
  match F.ex with
  | ⟨_, _, kV, doc, pm, an, cdv, ct, _, e, _, _⟩ => ⟨fun s us ws _ l1 l2 => .of_eq (by rw [e]; exact h kV doc pm an cdv ct us ws l1 l2), fun r1 r2 => r1.append r2⟩
section
variable {P : Program} {w : World} {K : PySem.W.Frag} {mg : Str → Option Value} {base : Heap} {a : Ad}
theorem kbm_rank (T : Txt K mg a) : KBn K a.d_Family_rank ["self", "things"] 1 ["things"] (fun us ws => us ++ ws) (fun vs zs => vs ++ zs) :=
  kbm_of ["things"] T.fn_Family_rank fun kV doc pm an cdv ct us ws hu hw => match us, ws, hu, hw with | [_], [_], _, _ => by first | rfl | with_unfolding_all rfl | kernel_rfl
theorem kbm_addable (T : Txt K mg a) : KBn K a.d_Family_addable ["self", "taken"] 1 ["taken"] (fun us ws => us ++ ws) (fun vs zs => vs ++ zs) :=
  kbm_of ["taken"] T.fn_Family_addable fun kV doc pm an cdv ct us ws hu hw => match us, ws, hu, hw with | [_], [_], _, _ => by first | rfl | with_unfolding_all rfl | kernel_rfl
/-! ### _law_family -/
def spLFam (K : PySem.W.Frag) (C : Addr) : Sp := fun vs H Q _ => ∃ (b c f r : Addr) (ns : List Int) (n : Nat) (S : List Bool), vs = [.ref b, .ref f, .int n, .ref r] ∧ BoxAt K H b c ns ∧ r ≠ b ∧ H r = some (.lst (S.map V.bl)) ∧ FamV C H f n S ∧ ∀ H', BoxAt K H' b c ns → But b H H' → Q (.bl true) H'
theorem sc_law_family : FnScope ["box", "family", "size", "inside", "sets", "things", "full", "k", "mask", "rank", "taken"] ["box", "family", "size", "inside"] (defScope s_law_family) := ⟨rfl, rfl, rfl, by decide +kernel, rfl, by decide +kernel, by decide +kernel⟩
theorem ok_law_family (T : Txt K mg a) : FnOk P w K mg base CX0 6 a.a_law_family a.d_law_family ["box", "family", "size", "inside"] (spLFam K a.C_Family) := by
  refine T.fn_law_family.ok sc_law_family (fun vs H Q E h => ?_) (fun cdv A outer s H vs Q E hr h => ?_)
  · obtain ⟨b, c, f, r, ns, n, S, rfl, _⟩ := h
    rfl
  · obtain ⟨b, c, f, r, ns, n, S, rfl, B, rb, hr1, F, k⟩ := h
    refine ⟨_, (pss_cons (ps_set (i := 4) sc_law_family.nd rfl (Or.inl rfl) (pe_call (ok_law_ordered T) (hr.mono (by decide)) (by rfl) T.mg_law_ordered T.fn_law_ordered.kp T.b_law_ordered .nil pass0 (pa_cons (pv 3) pa_nil)))
      (pss_cons (ps_if (PW.pt (pw_or (pt_not (pt_val (pe_call (ok_law_integer T) (hr.mono (by decide)) (by rfl) T.mg_law_integer T.fn_law_integer.kp T.b_law_integer .nil pass0 (pa_cons (pe_fldK K (pv 1)) pa_nil)))) (pw_or (pt_cmpR op_ne (pe_fldK K (pv 1)) (pv 2) (nomark _)) (pw_or1 (pt_not (pt_val (pe_call (ok_law_are_sets T) (hr.mono (by decide)) (by rfl) T.mg_law_are_sets T.fn_law_are_sets.kp T.b_law_are_sets .nil pass0 (pa_cons (pe_fldK K (pv 1)) (pa_cons (pv 4) pa_nil))))))))) (pss_one (ps_ret pe_bl)) pss_nil)
      (pss_cons (ps_setLc (i := 6) (own := [("things", 5)]) (by rfl) sc_law_family.nd rfl rfl (sw_true rfl rfl rfl (by decide +kernel)) (pi_toldL K (pv 4)) (blkOk_by (own := [("things", 5)]) (N := ["box", "family", "size", "inside", "sets", "things", "full", "k", "mask", "rank", "taken"]) (sc := defScope s_law_family) (by decide +kernel)) (fun _ _ _ _ _ => pg_name (i := 5) sc_law_family.nd rfl (Or.inl rfl)) (fun _ _ _ _ _ => pts_one (pt_cmpR op_eq (pe_callB (lenK K) (by rfl) T.no_len PySem.boot_len (pa_cons (pe_call (ok_law_added T) (hr.mono (by decide)) (by rfl) T.mg_law_added T.fn_law_added.kp T.b_law_added .nil pass0 (pa_cons (pv 3) (pa_cons (pe_call (ok_law_mask T) (hr.mono (by decide)) (by rfl) T.mg_law_mask T.fn_law_mask.kp T.b_law_mask .nil pass0 (pa_cons (pv 5) pa_nil)) pa_nil))) pa_nil)) pe_int (nomark _))) (fun _ _ _ _ _ => (pv 5)))
      (pss_cons (ps_if (pt_not (pt_val (pe_call (ok_law_are_sets T) (hr.mono (by decide)) (by rfl) T.mg_law_are_sets T.fn_law_are_sets.kp T.b_law_are_sets .nil pass0 (pa_cons (pe_meth0 (pv 1) T.cl_Family T.mt_Family_full_sets (ok_Family_full_sets T) (hr.mono (by decide)) T.b_Family_full_sets .nil pass0) (pa_cons (pv 6) pa_nil))))) (pss_one (ps_ret pe_bl)) pss_nil)
      (pss_cons (ps_for PassesOwn.never rfl (pi_range1 (by rfl) T.no_range (pa_cons pe_int pa_nil)) (pg_name (i := 7) sc_law_family.nd rfl (Or.inl rfl))
        (pss_cons (ps_set (i := 8) sc_law_family.nd rfl (Or.inl rfl) (pe_call (ok_law_draw T) (hr.mono (by decide)) (by rfl) T.mg_law_draw T.fn_law_draw.kp T.b_law_draw .nil pass0 (pa_cons (pv 0) (pa_cons (pe_op op_shl pe_int (pv 2)) pa_nil))))
        (pss_cons (ps_set (i := 5) sc_law_family.nd rfl (Or.inl rfl) (pe_call (ok_law_things T) (hr.mono (by decide)) (by rfl) T.mg_law_things T.fn_law_things.kp T.b_law_things .nil pass0 (pa_cons (pv 8) pa_nil)))
        (pss_cons (ps_set (i := 9) sc_law_family.nd rfl (Or.inl rfl) (pe_meth (pv 1) T.cl_Family T.mt_Family_rank (ok_Family_rank T) (hr.mono (by decide)) T.b_Family_rank .nil pass0 (pa_cons (pe_call (ok_law_shape T) (hr.mono (by decide)) (by rfl) T.mg_law_shape T.fn_law_shape.kp T.b_law_shape .nil pass0 (pa_cons (pv 0) (pa_cons (pv 5) pa_nil))) pa_nil)))
        (pss_cons (ps_if (PW.pt (pw_or (pt_not (pt_val (pe_call (ok_law_integer T) (hr.mono (by decide)) (by rfl) T.mg_law_integer T.fn_law_integer.kp T.b_law_integer .nil pass0 (pa_cons (pv 9) pa_nil)))) (pw_or (pt_cmpR op_ne (pv 9) (pe_call (ok_law_rank T) (hr.mono (by decide)) (by rfl) T.mg_law_rank T.fn_law_rank.kp T.b_law_rank .nil pass0 (pa_cons (pv 3) (pa_cons (pv 8) pa_nil))) (nomark _)) (pw_or1 (pt_cmpR op_ne (OwnMethK.pe_methN (pv 1) T.cl_Family T.mt_Family_rank (ok_Family_rank T) (hr.mono (by decide)) (kbm_rank T) pass0 (pk_cons (pv 5) pk_nil)) (pv 9) (nomark _)))))) (pss_one (ps_ret pe_bl)) pss_nil)
        (pss_cons (ps_if (PW.pt (pw_or (pt_not (pt_val (pe_call (ok_law_truth T) (hr.mono (by decide)) (by rfl) T.mg_law_truth T.fn_law_truth.kp T.b_law_truth .nil pass0 (pa_cons (pe_cmpR (OwnIn.op_inOwn (ok_Family_contains T) (hr.mono (by decide)) T.mt_Family_contains.at_ T.mt_Family_contains.fn T.b_Family_contains pass0) (pv 5) (pv 1) (by with_unfolding_all rfl)) (pa_cons (pe_ix Rd.ixH (pv 3) (pv 8) (fun _ _ => rfl)) pa_nil))))) (pw_or1 (pt_not (pt_val (pe_call (ok_law_truth T) (hr.mono (by decide)) (by rfl) T.mg_law_truth T.fn_law_truth.kp T.b_law_truth .nil pass0 (pa_cons (pe_cmpR (OwnIn.op_inOwn (ok_Family_contains T) (hr.mono (by decide)) T.mt_Family_contains.at_ T.mt_Family_contains.fn T.b_Family_contains pass0) (pe_callTy call_list_of (by rfl) T.no_list (by decide +kernel) (pa_cons (pv 5) pa_nil)) (pv 1) (by with_unfolding_all rfl)) (pa_cons (pe_ix Rd.ixH (pv 3) (pv 8) (fun _ _ => rfl)) pa_nil)))))))) (pss_one (ps_ret pe_bl)) pss_nil)
        (pss_cons (ps_set (i := 10) sc_law_family.nd rfl (Or.inl rfl) (pe_ix Rd.ixH (pv 4) (pe_call (ok_law_draw T) (hr.mono (by decide)) (by rfl) T.mg_law_draw T.fn_law_draw.kp T.b_law_draw .nil pass0 (pa_cons (pv 0) (pa_cons (pe_callB (lenK K) (by rfl) T.no_len PySem.boot_len (pa_cons (pv 4) pa_nil)) pa_nil))) (fun _ _ => rfl)))
        (pss_cons (ps_if (pt_not (pt_val (pe_call (ok_law_is_set T) (hr.mono (by decide)) (by rfl) T.mg_law_is_set T.fn_law_is_set.kp T.b_law_is_set .nil pass0 (pa_cons (pe_meth (pv 1) T.cl_Family T.mt_Family_addable (ok_Family_addable T) (hr.mono (by decide)) T.b_Family_addable .nil pass0 (pa_cons (pe_call (ok_law_shape T) (hr.mono (by decide)) (by rfl) T.mg_law_shape T.fn_law_shape.kp T.b_law_shape .nil pass0 (pa_cons (pv 0) (pa_cons (pv 10) pa_nil))) pa_nil)) (pa_cons (pe_call (ok_law_added T) (hr.mono (by decide)) (by rfl) T.mg_law_added T.fn_law_added.kp T.b_law_added .nil pass0 (pa_cons (pv 3) (pa_cons (pe_call (ok_law_mask T) (hr.mono (by decide)) (by rfl) T.mg_law_mask T.fn_law_mask.kp T.b_law_mask .nil pass0 (pa_cons (pv 10) pa_nil)) pa_nil))) pa_nil))))) (pss_one (ps_ret pe_bl)) pss_nil)
        (pss_one (ps_if (PW.pt (pw_or (pt_not (pt_val (pe_call (ok_law_truth T) (hr.mono (by decide)) (by rfl) T.mg_law_truth T.fn_law_truth.kp T.b_law_truth .nil pass0 (pa_cons (pe_cmpR (OwnIn.op_inOwn (ok_Family_contains T) (hr.mono (by decide)) T.mt_Family_contains.at_ T.mt_Family_contains.fn T.b_Family_contains pass0) (pv 10) (pv 1) (by with_unfolding_all rfl)) (pa_cons pe_bl pa_nil))))) (pw_or1 (pt_cmpR (neD_at K hr.units) (OwnMethK.pe_methN (pv 1) T.cl_Family T.mt_Family_addable (ok_Family_addable T) (hr.mono (by decide)) (kbm_addable T) pass0 (pk_cons (pv 10) pk_nil)) (pe_meth (pv 1) T.cl_Family T.mt_Family_addable (ok_Family_addable T) (hr.mono (by decide)) T.b_Family_addable .nil pass0 (pa_cons (pv 10) pa_nil)) (nomark _))))) (pss_one (ps_ret pe_bl)) pss_nil))))))))))
      (pss_one (ps_ret pe_bl))))))), ?_⟩
    show (_ : TS) _ [some (V.ref b), some (V.ref f), some (V.int n), some (V.ref r), none, none, none, none, none, none, none] H
    have n6 := F.fam.n6
    have p64 := pow64 n6
    have pp := Nat.pow_pos (n := n) (show 0 < 2 by decide)
    have fl := famL_len (S := S) n6
    obtain ⟨dx, tt, ys, hf, ht, tv⟩ := id F.ob
    have al6 : ∀ s ∈ famL n S, s.length ≤ 6 := fun s h => Nat.le_trans (allS_at (famL_mem.mp h).1 n6).2.2.2.1 n6
    refine cut (fun σ H1 => ∃ sr us, σ = [some (V.ref b), some (V.ref f), some (V.int n), some (V.ref r), some (V.ref sr), none, none, none, none, none, none] ∧ Same H H1 ∧ H1 sr = some (.lst us) ∧ Tups H1 us (famL n S)) (fun R hR => ?_) (fun σ H1 h => ?_)
    · walk_at "rd"
      exact ⟨r, n, S, rfl, hr1, ⟨n6, F.fam.len⟩, fun sr us H1 s0 e1 a1 tu => hR _ _ ⟨sr, us, rfl, e1, a1, tu⟩⟩
    obtain ⟨sr, us, rfl, e1, a1, tu⟩ := h
    have ul := tu.len
    refine cut (fun σ H2 => σ = [some (V.ref b), some (V.ref f), some (V.int n), some (V.ref r), some (V.ref sr), none, none, none, none, none, none] ∧ H1 = H2) (fun R hR => ?_) (fun σ H2 h => ?_)
    · walk_at "rd"
      refine ⟨_, dx, ff tt n, e1 _ _ hf, T.cl_Family, T.na_Family_size, _, ff_size tt n, _, .int, rfl, .int _, _, rfl, ?_⟩
      rw [if_neg (by decide)]
      refine ⟨_, dx, ff tt n, e1 _ _ hf, T.cl_Family, T.na_Family_size, _, ff_size tt n, rfl, ?_⟩
      rw [if_neg (by simp)]
      refine ⟨_, dx, ff tt n, e1 _ _ hf, T.cl_Family, T.na_Family_sets, _, ff_sets tt n, tt, sr, ys, us, famL n S, rfl, e1 _ _ ht, a1, tv.same e1, tu, by omega, al6, _, rfl, ?_⟩
      rw [if_neg (by decide)]
      exact hR _ _ ⟨rfl, rfl⟩
    obtain ⟨rfl, rfl⟩ := h
    refine cut (fun σ H2 => ∃ fr vs, σ = [some (V.ref b), some (V.ref f), some (V.int n), some (V.ref r), some (V.ref sr), none, some (V.ref fr), none, none, none, none] ∧ Same H1 H2 ∧ H2 fr = some (.lst vs) ∧ Tups H2 vs (fullL n S)) (fun R hR => ?_) (fun σ H2 h => ?_)
    · walk_at "rd"
      refine ⟨⟨_, SqL.of a1⟩, Rd.lcl_list (xs := us) (fun D i H5 => H1 D = none ∧ Same H1 H5 ∧ ∃ vs, H5 D = some (.lst vs) ∧ Tups H5 vs (((famL n S).take i).filter fun s => decide (addL n S s = []))) (fun D hD => ⟨hD, same_upd hD, [], upd_same, trivial⟩)
        (fun D i H5 _ h => SqL.of (h.2.1 _ _ a1)) (fun D i x H5 hx ⟨n5, e5, vs, a5, tv5⟩ => ?_) (fun D H5 _ ⟨n5, e5, vs, a5, tv5⟩ => hR _ _ ⟨D, vs, rfl, e5, a5, by rw [ul, List.take_length] at tv5; exact tv5⟩)⟩
      obtain ⟨s', hs, t, rfl, ht5⟩ := (tu.same e5).at hx
      have sm := (famL_mem.mp (List.mem_of_getElem? hs)).1
      have sa := allS_at sm n6
      have vl : vs.length ≤ 64 := by
        have h1 := tv5.len
        have il := (List.getElem?_eq_some_iff.mp hs).1
        have := List.length_filter_le (fun s => decide (addL n S s = [])) ((famL n S).take i)
        rw [List.length_take] at this
        omega
      walk_at "rd"
      refine ⟨t, false, s', rfl, ht5, by omega, fun g hg => by have := sa.2.2.1 g hg; omega, fun H6 e6 => ⟨r, n, S, mk s', rfl, (e1.trans (e5.trans e6)) _ _ hr1, F.fam, sa.2.1, fun r6 H7 r0 e7 a7 => ⟨r6, rfl, _, .inr (SqT.of a7), ?_⟩⟩⟩
      rw [iv_len, addM_eq n6 sm, List.take_add_one, hs, List.filter_append, show (some s').toList = [s'] from rfl]
      have e67 := e6.trans e7
      have a57 := e67 _ _ a5
      have e57 := e5.trans e67
      by_cases z : addL n S s' = []
      · rw [if_pos (by rw [z]; rfl), List.filter_cons_of_pos (p := fun s => decide (addL n S s = [])) (decide_eq_true z)]
        exact ⟨vs, a57, small (by omega), n5, fun b o hb => (upd_ne (ne_of_none hb n5)).trans (e57 _ _ hb), Tups.upd a57 (Tups.app (tv5.same e67) ⟨⟨t, rfl, e67 _ _ ht5⟩, trivial⟩)⟩
      · rw [if_neg (fun y => z (List.eq_nil_of_length_eq_zero (by omega))), List.filter_cons_of_neg (p := fun s => decide (addL n S s = [])) (by rw [decide_eq_false z]; decide), List.filter_nil, List.append_nil]
        exact ⟨n5, e57, vs, a57, tv5.same e67⟩
    obtain ⟨fr, vs, rfl, e2, a2, tv2⟩ := h
    refine cut (fun σ H3 => σ = [some (V.ref b), some (V.ref f), some (V.int n), some (V.ref r), some (V.ref sr), none, some (V.ref fr), none, none, none, none] ∧ Same H2 H3) (fun R hR => ?_) (fun σ H3 h => ?_)
    · walk_at "rd"
      have e12 := e1.trans e2
      refine ⟨dx, ff tt n, e12 _ _ hf, ff_no tt n (by decide +kernel) (by decide +kernel), f, n, S, rfl, F.same e12, fun q zs H3 q0 e3 hq tz => ⟨q, fr, zs, vs, fullL n S, rfl, hq, e3 _ _ a2, tz, tv2.same e3, Nat.le_trans (List.length_filter_le _ _) (by omega), fun s h => al6 s (List.mem_filter.mp h).1, _, rfl, ?_⟩⟩
      rw [if_neg (by decide)]
      exact hR _ _ ⟨rfl, e3⟩
    obtain ⟨rfl, e3⟩ := h
    have e03 := (e1.trans e2).trans e3
    have B3 := B.same e03
    have F3 := F.same e03
    have r3 := e03 _ _ hr1
    have s3 := (e2.trans e3) _ _ a1
    have tu3 := tu.same (e2.trans e3)
    have sb : sr ≠ b := fun z => by
      subst z
      obtain ⟨_, _, _, hb, _⟩ := B3.ob
      rw [hb] at s3
      have z := HO.lst.inj (Option.some.inj s3)
      cases us with
      | nil => cases z
      | cons u us' =>
        cases us' with
        | nil => cases z
        | cons u2 r2 =>
          cases hq : famL n S with
          | nil => rw [hq] at tu; exact tu.elim
          | cons g1 gs =>
            cases gs with
            | nil => rw [hq] at tu; exact tu.2.elim
            | cons g2 gs2 =>
              rw [hq] at tu
              obtain ⟨q2, e, _⟩ := tu.2.1
              rw [e] at z
              cases z
    walk_at "rd"
    rw [show Int.toNat 4 = 4 from rfl]
    refine ⟨by decide, by decide, Rd.loop_rngC (fun σ H4 => ∃ o5 o7 o8 o9 o10, σ = [some (V.ref b), some (V.ref f), some (V.int n), some (V.ref r), some (V.ref sr), o5, some (V.ref fr), o7, o8, o9, o10] ∧ BoxAt K H4 b c ns ∧ But b H3 H4)
      (fun _ σ H4 => ∃ o5 o7 o8 o9 o10, σ = [some (V.ref b), some (V.ref f), some (V.int n), some (V.ref r), some (V.ref sr), o5, some (V.ref fr), o7, o8, o9, o10] ∧ BoxAt K H4 b c ns ∧ But b H3 H4) ⟨_, _, _, _, _, rfl, B3, But.refl _ _⟩ ?_ (fun _ _ z => z) ?_⟩
    · rintro bk hbk i σ H4 hi ⟨o5, o7, o8, o9, o10, rfl, B4, e4⟩
      obtain ⟨_, _, _, hb3, _⟩ := B3.ob
      have FF : ∀ {H' : Hp}, But b H3 H' → FamV a.C_Family H' f n S := fun e => F3.kp (Kp.but e hb3)
      have TU : ∀ {H' : Hp}, But b H3 H' → Tups H' us (famL n S) := fun e => Tups.keep (tup_but e hb3) tu3
      refine cut (fun σ H5 => ∃ m : Nat, σ = [some (V.ref b), some (V.ref f), some (V.int n), some (V.ref r), some (V.ref sr), o5, some (V.ref fr), some (V.int (0 + i)), some (V.int m), o9, o10] ∧ m < 2 ^ n ∧ BoxAt K H5 b c ns ∧ But b H3 H5) (fun R hR => ?_) (fun σ H5 h => ?_)
      · walk_at "rd"
        refine ⟨cpw (by omega), ?_⟩
        rw [pow_cast]
        exact drw B4 (by omega) (by omega) fun m H5 ml B5 e5 => hR _ _ ⟨m, rfl, by omega, B5, e4.trans e5⟩
      obtain ⟨m, rfl, ml, B5, e5⟩ := h
      have bi := bits_in n6 ml
      have sa := allS_at bi.2 n6
      refine cut (fun σ H6 => ∃ t, σ = [some (V.ref b), some (V.ref f), some (V.int n), some (V.ref r), some (V.ref sr), some (V.ref t), some (V.ref fr), some (V.int (0 + i)), some (V.int m), o9, o10] ∧ BoxAt K H6 b c ns ∧ But b H3 H6 ∧ t ≠ b ∧ H6 t = some (.tup (iv (bits m)))) (fun R hR => ?_) (fun σ H6 h => ?_)
      · walk_at "rd"
        exact ⟨m, rfl, fun t H6 t0 e6 a6 => hR _ _ ⟨t, rfl, B5.same e6, e5.trans (Same.but e6), B5.ne_new t0, a6⟩⟩
      obtain ⟨t, rfl, B6, e6, tb, t6⟩ := h
      refine cut (fun σ H7 => σ = [some (V.ref b), some (V.ref f), some (V.int n), some (V.ref r), some (V.ref sr), some (V.ref t), some (V.ref fr), some (V.int (0 + i)), some (V.int m), some (V.int (rk S m : Nat)), o10] ∧ BoxAt K H7 b c ns ∧ But b H3 H7 ∧ H7 t = some (.tup (iv (bits m)))) (fun R hR => ?_) (fun σ H7 h => ?_)
      · walk_at "rd"
        obtain ⟨dx6, t6', ys6, hf6, _⟩ := (FF e6).ob
        refine ⟨dx6, ff t6' n, hf6, ff_no t6' n (by decide +kernel) (by decide +kernel), b, c, t, ns, false, _, rfl, B6, tb, t6, by rw [iv_len]; omega, fun q l H7 B7 e7 qb hq hn => ⟨f, q, n, l, S, bits m, rfl, FF (e6.trans e7), hq, bi.2, fun H8 e8 => ?_⟩⟩
        rw [bi.1]
        exact hR _ _ ⟨rfl, B7.same e8, (e6.trans e7).trans (Same.but e8), e8 _ _ (e7 _ _ tb t6)⟩
      obtain ⟨rfl, B7, e7, t7⟩ := h
      refine cut (fun σ H8 => σ = [some (V.ref b), some (V.ref f), some (V.int n), some (V.ref r), some (V.ref sr), some (V.ref t), some (V.ref fr), some (V.int (0 + i)), some (V.int m), some (V.int (rk S m : Nat)), o10] ∧ BoxAt K H8 b c ns ∧ But b H3 H8 ∧ H8 t = some (.tup (iv (bits m)))) (fun R hR => ?_) (fun σ H8 h => ?_)
      · walk_at "rd"
        refine ⟨_, .int, rfl, .int _, _, rfl, ?_⟩
        rw [if_neg (by decide)]
        refine ⟨r, n, S, m, rfl, e7 _ _ rb r3, F.fam, ml, fun H8 e8 => ⟨rfl, ?_⟩⟩
        rw [if_neg (by simp)]
        simp only [OwnMethK.tMethN]
        walk_at "rd"
        have e78 := e7.trans (Same.but e8)
        obtain ⟨dx8, t8', ys8, hf8, _⟩ := (FF e78).ob
        refine ⟨dx8, ff t8' n, hf8, ff_no t8' n (by decide +kernel) (by decide +kernel), f, t, n, false, S, bits m, rfl, FF e78, e8 _ _ t7, bi.2, fun H9 e9 => ⟨rfl, ?_⟩⟩
        rw [bi.1, if_neg (by simp)]
        exact hR _ _ ⟨rfl, (B7.same e8).same e9, e78.trans (Same.but e9), e9 _ _ (e8 _ _ t7)⟩
      obtain ⟨rfl, B8, e8, t8⟩ := h
      have hasE : hasW n S (seqW false ((bits m).map fun g : Nat => Wv.int g)) = In S m := by
        unfold hasW
        rw [show ascW n (seqW false ((bits m).map fun g : Nat => Wv.int g)) = true from ascF_of sa.2.2.2.2 fun g hg => ⟨by omega, by have := sa.2.2.1 g hg; omega⟩, Bool.true_and, show numsW (seqW false ((bits m).map fun g : Nat => Wv.int g)) = bits m from nums_of _]
        rw [Bool.eq_iff_iff, List.contains_iff_mem, famL_mem, bi.1]
        exact ⟨fun z => z.2, fun z => ⟨bi.2, z⟩⟩
      refine cut (fun σ H9 => σ = [some (V.ref b), some (V.ref f), some (V.int n), some (V.ref r), some (V.ref sr), some (V.ref t), some (V.ref fr), some (V.int (0 + i)), some (V.int m), some (V.int (rk S m : Nat)), o10] ∧ BoxAt K H9 b c ns ∧ But b H3 H9) (fun R hR => ?_) (fun σ H9 h => ?_)
      · walk_at "rd"
        have one : ∀ (l : Bool), hasW n S (seqW l ((bits m).map fun g : Nat => Wv.int g)) = In S m := fun l => by cases l <;> exact hasE
        have ib : atI (S.map V.bl) (m : Nat) = some (V.bl (In S m)) := in_bool (by rw [F.fam.len]; exact ml)
        obtain ⟨dx8, t8', ys8, hf8, _⟩ := (FF e8).ob
        refine ⟨f, dx8, _, rfl, hf8, f, n, S, .ref t, seqW false ((bits m).map fun g : Nat => Wv.int g), rfl, FF e8, isw_seq t8 (ints_w _), fun H9 e9 => ⟨_, rfl, ?_⟩⟩
        have e89 := e8.trans (Same.but e9)
        refine ⟨_, e89 _ _ rb r3, _, ib, _, _, rfl, _, rfl, ?_⟩
        rw [one, decide_eq_true rfl, if_neg (by decide)]
        refine ⟨_, .inr (SqT.of (e9 _ _ t8)), fun l hl => ?_⟩
        have el := same_upd (o := .lst (iv (bits m))) hl
        have e9l := e89.trans (Same.but el)
        obtain ⟨dx9, t9', ys9, hf9, _⟩ := (FF e9l).ob
        refine ⟨f, dx9, _, rfl, hf9, f, n, S, .ref l, seqW true ((bits m).map fun g : Nat => Wv.int g), rfl, FF e9l, isw_seq (l := true) upd_same (ints_w _), fun H10 e10 => ⟨_, rfl, ?_⟩⟩
        refine ⟨_, (e9l.trans (Same.but e10)) _ _ rb r3, _, ib, _, _, rfl, _, rfl, ?_⟩
        rw [one, decide_eq_true rfl, if_neg (by decide)]
        exact hR _ _ ⟨rfl, ((B8.same e9).same el).same e10, e9l.trans (Same.but e10)⟩
      obtain ⟨rfl, B9, e9⟩ := h
      walk_at "rd"
      have em : [] ∈ famL n S := famL_mem.mpr ⟨nil_in n6, F.fam.zero⟩
      have upos : 0 < us.length := by rw [ul]; exact List.length_pos_of_mem em
      have s9 := e9 _ _ sb s3
      refine ⟨_, .inl (SqL.of s9), drw B9 (by omega) (by omega) fun y H10 y5 B10 e10 => ?_⟩
      obtain ⟨s', hs⟩ : ∃ s', (famL n S)[y]? = some s' := ⟨_, List.getElem?_eq_getElem (by omega)⟩
      have sm := List.mem_of_getElem? hs
      have smA := (famL_mem.mp sm).1
      have sa' := allS_at smA n6
      have e910 := e9.trans e10
      obtain ⟨q1, uq, hq10⟩ := (TU e910).get hs
      have q1b : q1 ≠ b := fun z => by
        subst z
        obtain ⟨_, _, _, hb, _⟩ := B10.ob
        rw [hb] at hq10
        cases hq10
      refine ⟨_, _, rfl, e10 _ _ sb s9, _, atI_nat uq, ?_⟩
      obtain ⟨dx0, t0, ys0, hf0, _⟩ := (FF e910).ob
      refine ⟨dx0, ff t0 n, hf0, ff_no t0 n (by decide +kernel) (by decide +kernel), b, c, q1, ns, false, _, rfl, B10, q1b, hq10, by rw [iv_len]; omega, fun q l H11 B11 e11 qb hq hn => ⟨f, q, l, n, S, s', rfl, FF (e910.trans e11), hq, sm, fun ra H12 ra0 e12 a12 => ?_⟩⟩
      have q11 := e11 _ _ q1b hq10
      refine ⟨q1, false, s', rfl, e12 _ _ q11, by omega, fun g hg => by have := sa'.2.2.1 g hg; omega, fun H13 e13 => ?_⟩
      have e913 := ((e910.trans e11).trans (Same.but e12)).trans (Same.but e13)
      refine ⟨r, n, S, mk s', rfl, e913 _ _ rb r3, F.fam, sa'.2.1, fun rd H14 rd0 e14 a14 => ?_⟩
      rw [addM_eq n6 smA] at a14
      refine ⟨ra, rd, false, addL n S s', rfl, e14 _ _ (e13 _ _ a12), a14, Nat.le_trans (add_len n S s') n6, _, rfl, ?_⟩
      rw [if_neg (by decide)]
      have e914 := e913.trans (Same.but e14)
      have q14 := e14 _ _ (e13 _ _ (e12 _ _ q11))
      obtain ⟨dx1, t1, ys1, hf1, _⟩ := (FF e914).ob
      have hasT : hasW n S (seqW false (s'.map fun g : Nat => Wv.int g)) = true := by
        unfold hasW
        rw [show ascW n (seqW false (s'.map fun g : Nat => Wv.int g)) = true from ascF_of sa'.2.2.2.2 fun g hg => ⟨by omega, by have := sa'.2.2.1 g hg; omega⟩, Bool.true_and, show numsW (seqW false (s'.map fun g : Nat => Wv.int g)) = s' from nums_of _]
        exact List.contains_iff_mem.mpr sm
      refine ⟨f, dx1, _, rfl, hf1, f, n, S, .ref q1, seqW false (s'.map fun g : Nat => Wv.int g), rfl, FF e914, isw_seq q14 (ints_w _), fun H15 e15 => ⟨_, rfl, _, _, rfl, _, rfl, ?_⟩⟩
      rw [hasT, decide_eq_true rfl, if_neg (by decide)]
      simp only [OwnMethK.tMethN]
      walk_at "rd"
      have e915 := e914.trans (Same.but e15)
      have q15 := e15 _ _ q14
      obtain ⟨dx2, t2, ys2, hf2, _⟩ := (FF e915).ob
      refine ⟨dx2, ff t2 n, hf2, ff_no t2 n (by decide +kernel) (by decide +kernel), f, q1, false, n, S, s', rfl, FF e915, q15, sm, fun rx H16 rx0 e16 a16 => ?_⟩
      have e916 := e915.trans (Same.but e16)
      obtain ⟨dx3, t3, ys3, hf3, _⟩ := (FF e916).ob
      refine ⟨dx3, ff t3 n, hf3, ff_no t3 n (by decide +kernel) (by decide +kernel), f, q1, false, n, S, s', rfl, FF e916, e16 _ _ q15, sm, fun ry H17 ry0 e17 a17 => ⟨_, dp_set (e17 _ _ a16), _, dp_set a17, sh_set _, sh_set _, ?_⟩⟩
      rw [eqv_set, decide_eq_true rfl]
      rw [if_neg (by decide)]
      exact ⟨(((((B11.same e12).same e13).same e14).same e15).same e16).same e17, e916.trans (Same.but e17)⟩
    · rintro σ H4 ⟨o5, o7, o8, o9, o10, rfl, B4, e4⟩
      walk_at "rd"
      exact k _ B4 ((Same.but e03).trans e4)
end

end K19
namespace K19
open PySem PySem.Spec PyProof.Rows L2 Own OwnSeq OwnSet OwnComb OwnSort OwnHot OwnExN OwnProj
local macro_rules | `(tactic| walk_at "rd") => `(tactic| simp only [tSeq, tAsg, tOp, tUn, tVar, gName, gSub, rIxL, rIxT, rSetL, tC, rI0, rI, rU, rEq, rNe, tCons, tNil, tCB, tLst, tTup, tIfS, tAnd, tOr, tNot, tAndV, tOrV, tNotV, tTest, tB, tIf, tRet, tDrop, tNext, tBreak, tCont, tCall, tCallS, L2.WE, tMakeS, rIsS, rIsB, tChain, gSeq, gRest, gCons, gNil, tFor_seq, tFor_enumS, tLc_seq, tLc_enumS, rAny, rAll, L2.tMeth, StX.tStar, rIn, tLstRg, tRg1, tRg2, rSetI, rSortedSet, rInDT, rInD, rNotInD, rEqD, rNeD, iComb, tFld, tMake, tMkO, sFld, tOst, tNever, tBits, clv, isB,
  Rd.tFor_rng1, Rd.tFor_rng2, Rd.tFor_list, Rd.tFor_tup, Rd.tLc_list, Rd.tLc_tup, Rd.tLc_rng1, Rd.LcTurn, tYes, wipe, Rd.rLenL, Rd.rLenT, Rd.rIntI, Rd.rIxH, rIxHT,  HO.tup.injEq, Rd.at0, Rd.at1, Rd.at2, Rd.at3, Rd.ixN40, Rd.ixN41, Rd.ixN42, Rd.ixN43, Rd.scal_ii, cxOf,
  List.length_cons, List.length_nil, List.length_map, List.map_cons, List.map_nil, upd_same, decide_eq_true_eq, decide_true, decide_false, if_true, if_false, Bool.false_eq_true, Bool.not_true, Bool.not_false, HO.lst.injEq, HO.ins.injEq, List.set_cons_zero, List.set_cons_succ, List.getElem?_cons_zero, List.getElem?_cons_succ, List.append_nil, List.nil_append, List.cons_append, Option.some.injEq, V.ref.injEq, V.int.injEq, V.bl.injEq, List.cons.injEq, exists_eq_left', exists_and_left, exists_eq_left, true_and, and_true, and_self, and_assoc, implies_true, reduceCtorEq, Nat.reduceAdd])

theorem nums_seq (l : Bool) (s : List Nat) : numsW (seqW l (s.map fun g : Nat => Wv.int g)) = s := by
  cases l <;> exact nums_of s
theorem asc_seqW {n : Nat} {s : List Nat} (n6 : n ≤ 6) (h : s ∈ allS n) (l : Bool) : ascW n (seqW l (s.map fun g : Nat => Wv.int g)) = true := by
  have sa := allS_at h n6
  have z : ascF 0 n (s.map fun g : Nat => Wv.int g) = true := ascF_of sa.2.2.2.2 fun g hg => ⟨by omega, by have := sa.2.2.1 g hg; omega⟩
  cases l <;> exact z
theorem mix_mem {ss : List (List Nat)} {ws : List Wv} (mo : MixOk ss ss.length ws) {s : List Nat} : s ∈ ws.map numsW ↔ s ∈ ss := by
  constructor
  · intro h
    obtain ⟨w, hw, rfl⟩ := List.mem_map.mp h
    obtain ⟨l, s, rfl, hs⟩ := mo.1 w hw
    rw [nums_seq]
    exact hs
  · intro h
    obtain ⟨l, hl⟩ := mo.2 s (by rw [List.take_length]; exact h)
    exact List.mem_map.mpr ⟨_, hl, nums_seq l s⟩
theorem mk_nil : mk [] = 0 := rfl
/-- the sets as drawn are right, none is missing -/
theorem mix_ok {n : Nat} {S : List Bool} {ws : List Wv} (F : Fam n S) (mo : MixOk (famL n S) (famL n S).length ws) : (∀ w ∈ ws, ascW n w = true) ∧ (∀ s ∈ allS n, missB (ws.map numsW) s = false) ∧ SOf n (ws.map numsW) = S := by
  have n6 := F.n6
  have mem : ∀ {s : List Nat}, (ws.map numsW).contains s = true ↔ s ∈ famL n S := fun {s} => List.contains_iff_mem.trans (mix_mem mo)
  refine ⟨fun w hw => ?_, fun s hs => ?_, in_ext (by unfold SOf; rw [List.length_map, List.length_range, F.len]) fun m hm => ?_⟩
  · obtain ⟨l, s, rfl, hs⟩ := mo.1 w hw
    exact asc_seqW n6 (famL_mem.mp hs).1 l
  · unfold missB
    cases z : In S (mk s) with
    | true => rw [mem.mpr (famL_mem.mpr ⟨hs, z⟩)]; rfl
    | false =>
      rw [show decide (s = []) = false from decide_eq_false fun e => by rw [e, mk_nil, F.zero] at z; cases z]
      cases y : (ws.map numsW).any (subL s) with
      | false => rw [Bool.or_false, Bool.and_false]
      | true =>
        obtain ⟨t, ht, st⟩ := List.any_eq_true.mp y
        obtain ⟨tm, ti⟩ := famL_mem.mp ((mix_mem mo).mp ht)
        rw [F.down _ _ (sub_mk n6 hs tm st) ti] at z
        cases z
  · unfold SOf at hm
    rw [List.length_map, List.length_range] at hm
    unfold SOf
    rw [in_range, decide_eq_true hm, Bool.true_and, Bool.eq_iff_iff, mem, famL_mem, (bits_in n6 hm).1]
    exact ⟨fun z => z.2, fun z => ⟨(bits_in n6 hm).2, z⟩⟩
/-- .. among more things -/
theorem mix_up {n z : Nat} {S : List Bool} {ws : List Wv} (F : Fam n S) (nz : n ≤ z) (z6 : z ≤ 6) (mo : MixOk (famL n S) (famL n S).length ws) : (∀ w ∈ ws, ascW z w = true) ∧ (∀ s ∈ allS z, missB (ws.map numsW) s = false) := by
  have n6 := F.n6
  have mem : ∀ {s : List Nat}, (ws.map numsW).contains s = true ↔ s ∈ famL n S := fun {s} => List.contains_iff_mem.trans (mix_mem mo)
  refine ⟨fun w hw => ?_, fun s hs => ?_⟩
  · obtain ⟨l, s, rfl, hs⟩ := mo.1 w hw
    have sa := allS_at (famL_mem.mp hs).1 n6
    exact asc_seqW z6 (asc_in z6 sa.2.2.2.2 fun g hg => by have := sa.2.2.1 g hg; omega) l
  · unfold missB
    cases y : (ws.map numsW).contains s with
    | true => rfl
    | false =>
      have no : s ∉ famL n S := fun h => by rw [mem.mpr h] at y; cases y
      rw [show decide (s = []) = false from decide_eq_false fun e => no (e ▸ famL_mem.mpr ⟨nil_in n6, F.zero⟩)]
      cases y2 : (ws.map numsW).any (subL s) with
      | false => rfl
      | true =>
        exfalso
        obtain ⟨t, ht, st⟩ := List.any_eq_true.mp y2
        obtain ⟨tm, ti⟩ := famL_mem.mp ((mix_mem mo).mp ht)
        have sm : s ∈ allS n := asc_in n6 (allS_at hs z6).2.2.2.2 fun g hg => (allS_at tm n6).2.2.1 g (List.contains_iff_mem.mp (List.all_eq_true.mp st g hg))
        exact no (famL_mem.mpr ⟨sm, F.down _ _ (sub_mk n6 sm tm st) ti⟩)
theorem famL_inj {n : Nat} {S R : List Bool} (n6 : n ≤ 6) (lS : S.length = 2 ^ n) (lR : R.length = 2 ^ n) (h : famL n S = famL n R) : S = R := in_ext (lS.trans lR.symm) fun m hm => by
  rw [lS] at hm
  obtain ⟨b1, b2⟩ := bits_in n6 hm
  have z : bits m ∈ famL n S ↔ bits m ∈ famL n R := by rw [h]
  rw [famL_mem, famL_mem, b1] at z
  rw [Bool.eq_iff_iff]
  exact ⟨fun x => (z.mp ⟨b2, x⟩).2, fun x => (z.mpr ⟨b2, x⟩).2⟩
theorem subs_up : ((List.range 64).all fun t => (List.range 64).all fun m => !decide (Sub t m) || decide (t = m) || (List.range 6).any fun k => !bit t k && decide (Sub (t ||| 2 ^ k) m)) = true := by decide +kernel
theorem fam_drop {n t : Nat} {S : List Bool} (F : Fam n S) (t0 : t ≠ 0) (ht : In S t = true) (mx : addM n S t = []) : Fam n (S.set t false) := by
  have tl := F.lt ht
  have tS : t < S.length := by rw [F.len]; exact tl
  have p64 := pow64 F.n6
  refine ⟨F.n1, F.n6, by rw [List.length_set, F.len], by rw [in_set tS, if_neg (Ne.symm t0)]; exact F.zero, fun m m' s h => ?_⟩
  rw [in_set tS] at h ⊢
  by_cases e : m = t
  · rw [if_pos e] at h; cases h
  rw [if_neg e] at h
  by_cases e' : m' = t
  · exfalso
    subst e'
    have ml := F.lt h
    have z := List.all_eq_true.mp (List.all_eq_true.mp subs_up m' (List.mem_range.mpr (by omega))) m (List.mem_range.mpr (by omega))
    rw [decide_eq_true s, decide_eq_false (Ne.symm e), Bool.not_true, Bool.or_false, Bool.false_or, List.any_eq_true] at z
    obtain ⟨k, hk, y⟩ := z
    rw [Bool.and_eq_true, decide_eq_true_eq] at y
    have i := F.down _ _ y.2 h
    have : k ∈ addM n S m' := List.mem_filter.mpr ⟨hk, by rw [y.1, i, decide_eq_true (F.lt i)]; rfl⟩
    rw [mx] at this
    cases this
  · rw [if_neg e']
    exact F.down _ _ s h
theorem fam_grow {n M : Nat} {S R : List Bool} (F : Fam n S) (hM : M < 2 ^ n) (hR : R.length = 2 ^ n) (h : ∀ m, m < 2 ^ n → In R m = (In S m || decide (Sub m M))) : Fam n R := by
  have pp := Nat.pow_pos (n := n) (show 0 < 2 by decide)
  refine ⟨F.n1, F.n6, hR, by rw [h 0 pp, F.zero]; rfl, fun m m' s i => ?_⟩
  have ml : m < 2 ^ n := by
    rcases Nat.lt_or_ge m R.length with z | z
    · rw [hR] at z
      exact z
    · unfold In at i
      rw [List.getD_eq_getElem?_getD, List.getElem?_eq_none z] at i
      cases i
  have := sub_le s
  rw [h m ml, Bool.or_eq_true, decide_eq_true_eq] at i
  rw [h m' (by omega), Bool.or_eq_true, decide_eq_true_eq]
  exact i.imp (fun z => F.down _ _ s z) fun z => sub_trans s z
/-! ### rows of truths as data -/
theorem dp_bools {K : PySem.W.Frag} {H : Hp} : ∀ S : List Bool, DpAll K H (S.map V.bl) (S.map PyData.bool)
  | [] => .nil
  | b :: S => .cons (.bl b) (dp_bools S)
theorem lay_bools : ∀ S : List Bool, PyData.canLayAll0 (S.map PyData.bool) = true ∧ PyData.depthAll (S.map PyData.bool) = 0
  | [] => ⟨by simp [PyData.canLayAll0], by simp [PyData.depthAll]⟩
  | g :: s => by
    obtain ⟨a, b⟩ := lay_bools s
    refine ⟨?_, ?_⟩
    · simp only [List.map_cons, PyData.canLayAll0, PyData.canLay0, a, Bool.and_self]
    · simp only [List.map_cons, PyData.depthAll, PyData.depth, b, Nat.max_self]
theorem sh_bools (S : List Bool) : SeqAt.shaped (.list (S.map PyData.bool)) = true := by
  unfold SeqAt.shaped
  rw [show (PyData.list (S.map PyData.bool)).canLay0 = PyData.canLayAll0 (S.map PyData.bool) by simp only [PyData.canLay0], (lay_bools S).1]
  simp only [PyData.depth, Bool.true_and, (lay_bools S).2]
  decide
theorem eqv_bools0 : ∀ S R : List Bool, PyData.eqvAll (S.map PyData.bool) (R.map PyData.bool) = decide (S = R)
  | [], [] => by simp [PyData.eqvAll]
  | [], _ :: _ => by simp [PyData.eqvAll]
  | _ :: _, [] => by simp [PyData.eqvAll]
  | x :: s, y :: t => by
    simp only [List.map_cons, PyData.eqvAll, PyData.eqv, eqv_bools0 s t]
    cases x <;> cases y <;> by_cases h2 : s = t <;> simp [h2]
theorem eqv_bools (S R : List Bool) : PyData.eqv (.list (S.map PyData.bool)) (.list (R.map PyData.bool)) = decide (S = R) := by
  simp only [PyData.eqv]
  exact eqv_bools0 S R
/-- a family made of what is right -/
theorem fam_made {C D WC IC NC p : Addr} {H : Hp} {n : Nat} {l : Bool} {xs : List V} {ws : List Wv} {Q : Addr → Hp → Prop} {E : XK} (n1 : 1 ≤ n) (n6 : n ≤ 6) (hp : H p = some (sq l xs)) (hx : IsWs D H xs ws) (l2 : ws.length ≤ 200) (ok : ∀ w ∈ ws, ascW n w = true) (nm : ∀ s ∈ allS n, missB (ws.map numsW) s = false)
    (k : ∀ g H', H g = none → Same H H' → FamV C H' g n (SOf n (ws.map numsW)) → Q g H') :
    ∀ x dx, H x = none → H dx = none → dx ≠ x → spFam C D WC IC NC [.ref x, .int n, .ref p] (upd (upd H dx (.own x)) x (.ins C dx [])) (fun v H2 => v = .non ∧ Q x H2) E := fun x dx hx0 hdx ne => by
  have s1 : Same H (upd H dx (.own x)) := same_upd hdx
  have s2 : Same (upd H dx (.own x)) (upd (upd H dx (.own x)) x (.ins C dx [])) := same_upd ((upd_ne ne.symm).trans hx0)
  have s12 := s1.trans s2
  have al : ∀ s ∈ ws.map numsW, s ∈ allS n := fun t ht => by
    obtain ⟨w', hw, rfl⟩ := List.mem_map.mp ht
    have a := ok w' hw
    cases w' with
    | lst us =>
      have a : ascF 0 n us = true := a
      obtain ⟨_, h2, h3⟩ := ascF_at (by decide) a
      exact asc_in n6 h2 fun g hg => by have := h3 g hg; omega
    | tup us =>
      have a : ascF 0 n us = true := a
      obtain ⟨_, h2, h3⟩ := ascF_at (by decide) a
      exact asc_in n6 h2 fun g hg => by have := h3 g hg; omega
    | _ => cases a
  refine ⟨x, dx, .int n, .int n, p, l, xs, ws, rfl, upd_same, .int _, s12 _ _ hp, hx.same s12, l2, fun m em m1 m6 _ _ t ys H3 H4 e3 ht tt e4 => ⟨rfl, ?_⟩, fun z => ?_, fun m i w' em m1 m6 hw hf _ => ?_, fun m i s em m1 m6 _ hs hm _ => ?_⟩
  · obtain rfl : n = m := by injection em with em; omega
    subst e4
    have x3 := e3 _ _ upd_same
    have F := sof_fam n1 n6 al nm
    refine k x _ hx0 (fun b o hb => (upd_ne (ne_of_none hb hx0)).trans (e3 _ _ (s12 _ _ hb))) ⟨F, dx, t, ys, upd_same, (upd_ne fun z => by rw [z, x3] at ht; cases ht).trans ht, ?_⟩
    rw [sof_list n6]
    exact Tups.keep (fun z l h => (upd_ne fun e => by rw [e, x3] at h; cases h).trans h) tt
  · have z : (decide ((1 : Int) ≤ (n : Int)) && decide ((n : Int) ≤ 6)) = false := z
    rw [decide_eq_true (show (1 : Int) ≤ (n : Int) by omega), decide_eq_true (show (n : Int) ≤ 6 by omega)] at z
    cases z
  · obtain rfl : n = m := by injection em with em; omega
    rw [ok w' (List.mem_of_getElem? hw)] at hf
    cases hf
  · obtain rfl : n = m := by injection em with em; omega
    rw [nm s (List.mem_of_getElem? hs)] at hm
    cases hm

end K19
namespace K19
open PySem PySem.Spec PyProof.Rows L2 Own OwnSeq OwnSet OwnComb OwnSort OwnHot OwnExN OwnProj
local macro_rules | `(tactic| walk_at "rd") => `(tactic| simp only [tSeq, tAsg, tOp, tUn, tVar, gName, gSub, rIxL, rIxT, rSetL, tC, rI0, rI, rU, rEq, rNe, tCons, tNil, tCB, tLst, tTup, tIfS, tAnd, tOr, tNot, tAndV, tOrV, tNotV, tTest, tB, tIf, tRet, tDrop, tNext, tBreak, tCont, tCall, tCallS, L2.WE, tMakeS, rIsS, rIsB, tChain, gSeq, gRest, gCons, gNil, tFor_seq, tFor_enumS, tLc_seq, tLc_enumS, rAny, rAll, L2.tMeth, StX.tStar, rIn, tLstRg, tRg1, tRg2, rSetI, rSortedSet, rInDT, rInD, rNotInD, rEqD, rNeD, iComb, tFld, tMake, tMkO, sFld, tOst, tNever, tBits, clv, isB,
  Rd.tFor_rng1, Rd.tFor_rng2, Rd.tFor_list, Rd.tFor_tup, Rd.tLc_list, Rd.tLc_tup, Rd.tLc_rng1, Rd.LcTurn, tYes, wipe, Rd.rLenL, Rd.rLenT, Rd.rIntI, Rd.rIxH, rIxHT,  HO.tup.injEq, Rd.at0, Rd.at1, Rd.at2, Rd.at3, Rd.ixN40, Rd.ixN41, Rd.ixN42, Rd.ixN43, Rd.scal_ii, cxOf,
  List.length_cons, List.length_nil, List.length_map, List.map_cons, List.map_nil, upd_same, decide_eq_true_eq, decide_true, decide_false, if_true, if_false, Bool.false_eq_true, Bool.not_true, Bool.not_false, HO.lst.injEq, HO.ins.injEq, List.set_cons_zero, List.set_cons_succ, List.getElem?_cons_zero, List.getElem?_cons_succ, List.append_nil, List.nil_append, List.cons_append, Option.some.injEq, V.ref.injEq, V.int.injEq, V.bl.injEq, List.cons.injEq, exists_eq_left', exists_and_left, exists_eq_left, true_and, and_true, and_self, and_assoc, implies_true, reduceCtorEq, Nat.reduceAdd])

theorem tLc_rng2 {ta : TA} {g : TG} {tt : TT} {te : TE} {vs : List Nat} {σ : L2.St} {H : Hp} {Q : VK} : tLc (iRng2 ta) g tt te vs σ H Q = ta σ H (fun ws H1 => ∃ i j : Int, ws = [.int i, .int j] ∧ (-(2 ^ 62) ≤ i ∧ i < 2 ^ 62 ∧ -(2 ^ 62) ≤ j ∧ j < 2 ^ 62) ∧ Rd.LcL (Itr i (j - i).toNat) g tt te vs σ H1 Q) := rfl
theorem newo {H : Hp} {p : Addr} (o : HO) (h : H p = none) : Same H (upd H p o) ∧ upd H p o p = some o := ⟨same_upd h, upd_same⟩
/-- values that are no set -/
def L14 (n : Nat) : List Wv := [.non, .int 0, .bl true, .str (Str.ofString "0"), .str (Str.ofString ""), .tup [.int 0, .int 0], .tup [.int 1, .int 0], .tup [.bl true], .lst [.bl false], .tup [.non], .tup [.int n], .tup [.int (-1)], .tup [.tup []], .fr (0 : Nat) (1 : Nat)]
theorem l14 (n : Nat) : ∀ w ∈ L14 n, ascW n w = false := by
  intro w m
  unfold L14 at m
  simp only [List.mem_cons, List.not_mem_nil, or_false] at m
  have z1 : ∀ x : Int, ascF 0 n [.int x, .int 0] = false := fun x => by
    unfold ascF
    unfold ascF
    by_cases h : (0 : Int) ≤ x
    · rw [decide_eq_false (show ¬ x + 1 ≤ 0 by omega)]
      simp
    · rw [decide_eq_false h]
      simp
  rcases m with rfl | rfl | rfl | rfl | rfl | rfl | rfl | rfl | rfl | rfl | rfl | rfl | rfl | rfl
  · rfl
  · rfl
  · rfl
  · rfl
  · rfl
  · exact z1 0
  · exact z1 1
  · rfl
  · rfl
  · rfl
  · show (decide ((0 : Int) ≤ (n : Int)) && decide ((n : Int) ≤ (n : Int) - 1) && _) = false
    rw [decide_eq_false (show ¬ (n : Int) ≤ (n : Int) - 1 by omega), Bool.and_false, Bool.false_and]
  · rfl
  · rfl
  · rfl
section
variable {P : Program} {w : World} {K : PySem.W.Frag} {mg : Str → Option Value} {base : Heap} {a : Ad}
theorem NoF.same {H H' : Hp} {v : V} {d : Kd} (e : Same H H') (h : NoF H v d) : NoF H' v d := by
  cases h with
  | non => exact .non
  | bl b => exact .bl b
  | int i => exact .int i
  | str x => exact .str x
  | lst h => exact .lst (e _ _ h)
  | tup h => exact .tup (e _ _ h)
theorem NoF.ty (T : Txt K mg a) {H : Hp} {v : V} {d : Kd} (h : NoF H v d) : ∃ t, TyX K H v t ∧ PySem.W.notFirst K a.C_Family t = true := by
  cases h with
  | non => exact ⟨_, .base .non, T.nf_NoneType⟩
  | bl b => exact ⟨_, .base (.bl b), T.nf_bool⟩
  | int i => exact ⟨_, .base (.int i), T.nf_int⟩
  | str x => exact ⟨_, .base (.str x), T.nf_str⟩
  | lst h => exact ⟨_, .base (.lst h), T.nf_list⟩
  | tup h => exact ⟨_, .base (.tup h), T.nf_tuple⟩
end
section
variable {P : Program} {w : World} {K : PySem.W.Frag} {mg : Str → Option Value} {base : Heap} {a : Ad}
/-! ### _law_others -/
def spOthers (K : PySem.W.Frag) (C : Addr) : Sp := fun vs H Q _ => ∃ (b c f r : Addr) (ns : List Int) (n : Nat) (S : List Bool), vs = [.ref b, .ref f, .int n, .ref r] ∧ BoxAt K H b c ns ∧ r ≠ b ∧ H r = some (.lst (S.map V.bl)) ∧ FamV C H f n S ∧ ∀ H', BoxAt K H' b c ns → But b H H' → Q (.bl true) H'
theorem sc_law_others : FnScope ["box", "family", "size", "inside", "value", "many", "varied", "mask", "part", "tops", "other", "wider"] ["box", "family", "size", "inside"] (defScope s_law_others) := ⟨rfl, rfl, rfl, by decide +kernel, rfl, by decide +kernel, by decide +kernel⟩
theorem ok_law_others (T : Txt K mg a) : FnOk P w K mg base CX0 8 a.a_law_others a.d_law_others ["box", "family", "size", "inside"] (spOthers K a.C_Family) := by
  refine T.fn_law_others.ok sc_law_others (fun vs H Q E h => ?_) (fun cdv A outer s H vs Q E hr h => ?_)
  · obtain ⟨b, c, f, r, ns, n, S, rfl, _⟩ := h
    rfl
  · obtain ⟨b, c, f, r, ns, n, S, rfl, B, rb, hr1, F, k⟩ := h
    obtain ⟨ds2, b2v, b2b⟩ := b2 T
    refine ⟨_, (pss_cons (ps_for PassesOwn.never rfl (pi_toldL K (pe_lst (pa_cons pe_non (pa_cons pe_int (pa_cons pe_bl (pa_cons pe_str (pa_cons pe_str (pa_cons (pe_tup (pa_cons pe_int (pa_cons pe_int pa_nil))) (pa_cons (pe_tup (pa_cons pe_int (pa_cons pe_int pa_nil))) (pa_cons (pe_tup (pa_cons pe_bl pa_nil)) (pa_cons (pe_lst (pa_cons pe_bl pa_nil)) (pa_cons (pe_tup (pa_cons pe_non pa_nil)) (pa_cons (pe_tup (pa_cons (pv 2) pa_nil)) (pa_cons (pe_tup (pa_cons (pe_un un_neg pe_int) pa_nil)) (pa_cons (pe_tup (pa_cons (pe_tup pa_nil) pa_nil)) (pa_cons (pe_make T.mk_Frac (ok_Frac_init T) (hr.mono (by decide)) (by rfl) T.mg_Frac b2b b2v pass0 (pa_cons pe_int pa_nil)) pa_nil)))))))))))))))) (pg_name (i := 4) sc_law_others.nd rfl (Or.inl rfl))
        (pss_one (ps_if (pt_not (pt_val (pe_call (ok_law_truth T) (hr.mono (by decide)) (by rfl) T.mg_law_truth T.fn_law_truth.kp T.b_law_truth .nil pass0 (pa_cons (pe_cmpR (OwnIn.op_inOwn (ok_Family_contains T) (hr.mono (by decide)) T.mt_Family_contains.at_ T.mt_Family_contains.fn T.b_Family_contains pass0) (pv 4) (pv 1) (by with_unfolding_all rfl)) (pa_cons pe_bl pa_nil))))) (pss_one (ps_ret pe_bl)) pss_nil)))
      (pss_cons (ps_for PassesOwn.never rfl (pi_toldL K (pe_lst (pa_cons pe_non (pa_cons (pe_fldK K (pv 1)) (pa_cons (pv 2) (pa_cons pe_bl (pa_cons pe_str (pa_cons (pe_lst pa_nil) pa_nil)))))))) (pg_name (i := 4) sc_law_others.nd rfl (Or.inl rfl))
        (pss_one (ps_if (pt_not (pt_val (pe_call (ok_law_truth T) (hr.mono (by decide)) (by rfl) T.mg_law_truth T.fn_law_truth.kp T.b_law_truth .nil pass0 (pa_cons (pe_cmpR (op_eqOwn (ok_Family_eq T) (hr.mono (by decide)) T.mt_Family_eq.at_ T.mt_Family_eq.fn T.b_Family_eq pass0) (pv 1) (pv 4) (nomark _)) (pa_cons pe_bl pa_nil))))) (pss_one (ps_ret pe_bl)) pss_nil)))
      (pss_cons (ps_set (i := 5) sc_law_others.nd rfl (Or.inl rfl) (pe_callB (lenK K) (by rfl) T.no_len PySem.boot_len (pa_cons (pv 3) pa_nil)))
      (pss_cons (ps_set (i := 6) sc_law_others.nd rfl (Or.inl rfl) (pe_callTy call_list_of (by rfl) T.no_list (by decide +kernel) (pa_cons (pv 3) pa_nil)))
      (pss_cons (ps_set (i := 7) sc_law_others.nd rfl (Or.inl rfl) (pe_call (ok_law_draw T) (hr.mono (by decide)) (by rfl) T.mg_law_draw T.fn_law_draw.kp T.b_law_draw .nil pass0 (pa_cons (pv 0) (pa_cons (pv 5) pa_nil))))
      (pss_cons (ps_setLc (i := 9) (own := [("part", 8)]) (by rfl) sc_law_others.nd rfl rfl (sw_true rfl rfl rfl (by decide +kernel)) (pi_range2 (by rfl) T.no_range (pa_cons pe_int (pa_cons (pv 5) pa_nil))) (blkOk_by (own := [("part", 8)]) (N := ["box", "family", "size", "inside", "value", "many", "varied", "mask", "part", "tops", "other", "wider"]) (sc := defScope s_law_others) (by decide +kernel)) (fun _ _ _ _ _ => pg_name (i := 8) sc_law_others.nd rfl (Or.inl rfl)) (fun _ _ _ _ _ => pts_one (PW.pt (pw_and (pt_val (pe_ix Rd.ixH (pv 3) (pv 8) (fun _ _ => rfl))) (pw_and1 (pt_cmpR op_eq (pe_callB (lenK K) (by rfl) T.no_len PySem.boot_len (pa_cons (pe_call (ok_law_added T) (hr.mono (by decide)) (by rfl) T.mg_law_added T.fn_law_added.kp T.b_law_added .nil pass0 (pa_cons (pv 3) (pa_cons (pv 8) pa_nil))) pa_nil)) pe_int (nomark _)))))) (fun _ _ _ _ _ => (pv 8)))
      (pss_cons (ps_if (PW.pt (pw_and (pt_val (pe_ix Rd.ixH (pv 3) (pv 7) (fun _ _ => rfl))) (pw_and1 (pt_cmpR op_gt (pe_callB (lenK K) (by rfl) T.no_len PySem.boot_len (pa_cons (pv 9) pa_nil)) pe_int (nomark _))))) (pss_one (ps_asg pe_bl (pg_sub (pv 6) (pe_ix Rd.ixH (pv 9) (pe_call (ok_law_draw T) (hr.mono (by decide)) (by rfl) T.mg_law_draw T.fn_law_draw.kp T.b_law_draw .nil pass0 (pa_cons (pv 0) (pa_cons (pe_callB (lenK K) (by rfl) T.no_len PySem.boot_len (pa_cons (pv 9) pa_nil)) pa_nil))) (fun _ _ => rfl)) set_list))) (pss_one (ps_for PassesOwn.never rfl (pi_range1 (by rfl) T.no_range (pa_cons (pv 5) pa_nil)) (pg_name (i := 8) sc_law_others.nd rfl (Or.inl rfl))
          (pss_one (ps_if (pt_cmpR op_eq (pe_op op_and (pv 8) (pv 7)) (pv 8) (nomark _)) (pss_one (ps_asg pe_bl (pg_sub (pv 6) (pv 8) set_list))) pss_nil)))))
      (pss_cons (ps_set (i := 10) sc_law_others.nd rfl (Or.inl rfl) (pe_make T.mk_Family (ok_Family_init T) (hr.mono (by decide)) (by rfl) T.mg_Family T.b_Family_init .nil passN (pa_cons (pv 2) (pa_cons (pe_call (ok_law_mixed T) (hr.mono (by decide)) (by rfl) T.mg_law_mixed T.fn_law_mixed.kp T.b_law_mixed .nil pass0 (pa_cons (pv 0) (pa_cons (pe_call (ok_law_ordered T) (hr.mono (by decide)) (by rfl) T.mg_law_ordered T.fn_law_ordered.kp T.b_law_ordered .nil pass0 (pa_cons (pv 6) pa_nil)) pa_nil))) pa_nil))))
      (pss_cons (ps_if (PW.pt (pw_or (pt_not (pt_val (pe_call (ok_law_family T) (hr.mono (by decide)) (by rfl) T.mg_law_family T.fn_law_family.kp T.b_law_family .nil pass0 (pa_cons (pv 0) (pa_cons (pv 10) (pa_cons (pv 2) (pa_cons (pv 6) pa_nil))))))) (pw_or1 (pt_not (pt_val (pe_call (ok_law_truth T) (hr.mono (by decide)) (by rfl) T.mg_law_truth T.fn_law_truth.kp T.b_law_truth .nil pass0 (pa_cons (pe_cmpR (op_eqOwn (ok_Family_eq T) (hr.mono (by decide)) T.mt_Family_eq.at_ T.mt_Family_eq.fn T.b_Family_eq pass0) (pv 1) (pv 10) (nomark _)) (pa_cons (pe_cmpR (eqD_at K hr.units) (pv 3) (pv 6) (nomark _)) pa_nil)))))))) (pss_one (ps_ret pe_bl)) pss_nil)
      (pss_cons (ps_if (pt_cmpR op_lt (pv 2) pe_int (nomark _)) (pss_cons (ps_set (i := 11) sc_law_others.nd rfl (Or.inl rfl) (pe_make T.mk_Family (ok_Family_init T) (hr.mono (by decide)) (by rfl) T.mg_Family T.b_Family_init .nil passN (pa_cons (pe_op op_add (pv 2) pe_int) (pa_cons (pe_call (ok_law_mixed T) (hr.mono (by decide)) (by rfl) T.mg_law_mixed T.fn_law_mixed.kp T.b_law_mixed .nil pass0 (pa_cons (pv 0) (pa_cons (pe_call (ok_law_ordered T) (hr.mono (by decide)) (by rfl) T.mg_law_ordered T.fn_law_ordered.kp T.b_law_ordered .nil pass0 (pa_cons (pv 3) pa_nil)) pa_nil))) pa_nil))))
        (pss_one (ps_if (PW.pt (pw_or (pt_not (pt_val (pe_call (ok_law_truth T) (hr.mono (by decide)) (by rfl) T.mg_law_truth T.fn_law_truth.kp T.b_law_truth .nil pass0 (pa_cons (pe_cmpR (op_eqOwn (ok_Family_eq T) (hr.mono (by decide)) T.mt_Family_eq.at_ T.mt_Family_eq.fn T.b_Family_eq pass0) (pv 1) (pv 11) (nomark _)) (pa_cons pe_bl pa_nil))))) (pw_or1 (pt_not (pt_val (pe_call (ok_law_truth T) (hr.mono (by decide)) (by rfl) T.mg_law_truth T.fn_law_truth.kp T.b_law_truth .nil pass0 (pa_cons (pe_cmpR (op_eqOwn (ok_Family_eq T) (hr.mono (by decide)) T.mt_Family_eq.at_ T.mt_Family_eq.fn T.b_Family_eq pass0) (pv 11) (pv 1) (nomark _)) (pa_cons pe_bl pa_nil)))))))) (pss_one (ps_ret pe_bl)) pss_nil))) pss_nil)
      (pss_one (ps_ret (pe_call (ok_law_truth T) (hr.mono (by decide)) (by rfl) T.mg_law_truth T.fn_law_truth.kp T.b_law_truth .nil pass0 (pa_cons (pe_cmpR (op_eqOwn (ok_Family_eq T) (hr.mono (by decide)) T.mt_Family_eq.at_ T.mt_Family_eq.fn T.b_Family_eq pass0) (pv 10) (pv 1) (nomark _)) (pa_cons (pe_cmpR (eqD_at K hr.units) (pv 3) (pv 6) (nomark _)) pa_nil))))))))))))))), ?_⟩
    show (_ : TS) _ [some (V.ref b), some (V.ref f), some (V.int n), some (V.ref r), none, none, none, none, none, none, none, none] H
    have n6 := F.fam.n6
    have n1 := F.fam.n1
    have p64 := pow64 n6
    have pp := Nat.pow_pos (n := n) (show 0 < 2 by decide)
    have fl := famL_len (S := S) n6
    refine cut (fun σ H1 => ∃ o4, σ = [some (V.ref b), some (V.ref f), some (V.int n), some (V.ref r), o4, none, none, none, none, none, none, none] ∧ Same H H1) (fun R hR => ?_) (fun σ H1 h => ?_)
    · walk_at "rd"
      refine ⟨by decide, fun p1 h1 => ⟨by decide, fun p2 h2 => ⟨by decide, fun p3 h3 => ⟨by decide, fun p4 h4 => ⟨by decide, fun p5 h5 => ⟨by decide, fun p6 h6 => ⟨by decide, fun p7 h7 => ⟨by decide, fun p8 h8 => ⟨by decide, fun p9 h9 => ?_⟩⟩⟩⟩⟩⟩⟩⟩⟩
      intro x dx hx hdx hne
      obtain ⟨s1, z1⟩ := newo (.tup [V.int 0, V.int 0]) h1
      obtain ⟨s2, z2⟩ := newo (.tup [V.int 1, V.int 0]) h2
      obtain ⟨s3, z3⟩ := newo (.tup [V.bl true]) h3
      obtain ⟨s4, z4⟩ := newo (.lst [V.bl false]) h4
      obtain ⟨s5, z5⟩ := newo (.tup [V.non]) h5
      obtain ⟨s6, z6⟩ := newo (.tup [V.int n]) h6
      obtain ⟨s7, z7⟩ := newo (.tup [V.int (-1)]) h7
      obtain ⟨s8, z8⟩ := newo (.tup []) h8
      obtain ⟨s9, z9⟩ := newo (.tup [V.ref p8]) h9
      refine fr_made (n := 0) (by decide) hx hdx hne fun H10 hfr u9 => ?_
      have u8 := s9.trans u9
      have u7 := s8.trans u8
      have u6 := s7.trans u7
      have u5 := s6.trans u6
      have u4 := s5.trans u5
      have u3 := s4.trans u4
      have u2 := s3.trans u3
      have u1 := s2.trans u2
      have u0 := s1.trans u1
      have vs : IsWs a.C_Frac H10 [V.non, V.int 0, V.bl true, V.str (Str.ofString "0"), V.str (Str.ofString ""), V.ref p1, V.ref p2, V.ref p3, V.ref p4, V.ref p5, V.ref p6, V.ref p7, V.ref p9, V.ref x] (L14 n) :=
        .cons .non (.cons (.int _) (.cons (.bl _) (.cons (.str _) (.cons (.str _) (.cons (.tup (u1 _ _ z1) (.cons (.int _) (.cons (.int _) .nil))) (.cons (.tup (u2 _ _ z2) (.cons (.int _) (.cons (.int _) .nil))) (.cons (.tup (u3 _ _ z3) (.cons (.bl _) .nil)) (.cons (.lst (u4 _ _ z4) (.cons (.bl _) .nil))
          (.cons (.tup (u5 _ _ z5) (.cons .non .nil)) (.cons (.tup (u6 _ _ z6) (.cons (.int _) .nil)) (.cons (.tup (u7 _ _ z7) (.cons (.int _) .nil)) (.cons (.tup (u9 _ _ z9) (.cons (.tup (u8 _ _ z8) .nil) .nil)) (.cons (.fr hfr) .nil)))))))))))))
      clear s1 s2 s3 s4 s5 s6 s7 s8 s9 z1 z2 z3 z4 z5 z6 z7 z8 z9 u1 u2 u3 u4 u5 u6 u7 u8 u9 hx hdx h1 h2 h3 h4 h5 h6 h7 h8 h9
      generalize [V.non, V.int 0, V.bl true, V.str (Str.ofString "0"), V.str (Str.ofString ""), V.ref p1, V.ref p2, V.ref p3, V.ref p4, V.ref p5, V.ref p6, V.ref p7, V.ref p9, V.ref x] = xs at vs ⊢
      refine ⟨by decide, fun q hq => ⟨⟨_, SqL.of upd_same⟩, ?_⟩⟩
      obtain ⟨sq, zq⟩ := newo (.lst xs) hq
      have vq := vs.same sq
      have uq := u0.trans sq
      generalize upd H10 q (.lst xs) = H11 at sq zq vq uq ⊢
      refine Rd.loop_listC (xs := xs) (fun σ H' => ∃ o4, σ = [some (V.ref b), some (V.ref f), some (V.int n), some (V.ref r), o4, none, none, none, none, none, none, none] ∧ Same H11 H')
        (fun _ σ H' => ∃ o4, σ = [some (V.ref b), some (V.ref f), some (V.int n), some (V.ref r), o4, none, none, none, none, none, none, none] ∧ Same H11 H') ⟨none, rfl, Same.refl _⟩ (fun i σ H' _ ⟨_, _, e⟩ => SqL.of (e _ _ zq)) ?_ (fun _ _ z => z) ?_
      · rintro bk hbk i y σ H3 hy ⟨o4, rfl, e3⟩
        obtain ⟨w', hw', yw⟩ := (vq.same e3).at hy
        have e03 := uq.trans e3
        have F3 := F.same e03
        obtain ⟨dx3, t3, ys3, hf3, _⟩ := F3.ob
        have no : hasW n S w' = false := by
          unfold hasW
          rw [l14 n w' (List.mem_of_getElem? hw')]
          rfl
        walk_at "rd"
        refine ⟨f, dx3, _, rfl, hf3, f, n, S, y, w', rfl, F3, yw, fun H4 e4 => ⟨_, rfl, _, _, rfl, _, rfl, ?_⟩⟩
        rw [no]
        rw [if_neg (by decide)]
        exact e3.trans e4
      · rintro σ H3 ⟨o4, rfl, e3⟩
        exact hR _ _ ⟨o4, rfl, uq.trans e3⟩
    obtain ⟨o4, rfl, e1⟩ := h
    refine cut (fun σ H2 => ∃ o4, σ = [some (V.ref b), some (V.ref f), some (V.int n), some (V.ref r), o4, none, none, none, none, none, none, none] ∧ Same H H2) (fun R hR => ?_) (fun σ H2 h => ?_)
    · walk_at "rd"
      obtain ⟨dx, tt, ys, hf, ht, tv⟩ := (F.same e1).ob
      refine ⟨_, dx, ff tt n, hf, T.cl_Family, T.na_Family_sets, _, ff_sets tt n, by decide, fun p1 h1 => ⟨by decide, fun q hq => ⟨⟨_, SqL.of upd_same⟩, ?_⟩⟩⟩
      obtain ⟨s1, z1⟩ := newo (.lst []) h1
      obtain ⟨sq, zq⟩ := newo (.lst [V.non, V.ref tt, V.int n, V.bl true, V.str (Str.ofString ""), V.ref p1]) hq
      have al : ∀ y ∈ [V.non, V.ref tt, V.int n, V.bl true, V.str (Str.ofString ""), V.ref p1], ∃ d, NoF (upd (upd H1 p1 (.lst [])) q (.lst [V.non, V.ref tt, V.int n, V.bl true, V.str (Str.ofString ""), V.ref p1])) y d := fun y m => by
        simp only [List.mem_cons, List.not_mem_nil, or_false] at m
        rcases m with rfl | rfl | rfl | rfl | rfl | rfl
        · exact ⟨_, .non⟩
        · exact ⟨_, .tup (sq _ _ (s1 _ _ ht))⟩
        · exact ⟨_, .int _⟩
        · exact ⟨_, .bl _⟩
        · exact ⟨_, .str _⟩
        · exact ⟨_, .lst (sq _ _ z1)⟩
      have uq := e1.trans (s1.trans sq)
      generalize upd (upd H1 p1 (.lst [])) q (.lst [V.non, V.ref tt, V.int n, V.bl true, V.str (Str.ofString ""), V.ref p1]) = H11 at al uq zq ⊢
      generalize [V.non, V.ref tt, V.int n, V.bl true, V.str (Str.ofString ""), V.ref p1] = xs at al zq
      refine Rd.loop_listC (xs := xs) (fun σ H' => ∃ o4, σ = [some (V.ref b), some (V.ref f), some (V.int n), some (V.ref r), o4, none, none, none, none, none, none, none] ∧ Same H11 H')
        (fun _ σ H' => ∃ o4, σ = [some (V.ref b), some (V.ref f), some (V.int n), some (V.ref r), o4, none, none, none, none, none, none, none] ∧ Same H11 H') ⟨o4, rfl, Same.refl _⟩ (fun i σ H' _ ⟨_, _, e⟩ => SqL.of (e _ _ zq)) ?_ (fun _ _ z => z) ?_
      · rintro bk hbk i y σ H3 hy ⟨o4, rfl, e3⟩
        obtain ⟨d, nd⟩ := al y (List.mem_of_getElem? hy)
        have nd := nd.same e3
        have F3 := F.same (uq.trans e3)
        obtain ⟨dx3, t3, ys3, hf3, _⟩ := F3.ob
        obtain ⟨ty, t1, t2⟩ := nd.ty T
        walk_at "rd"
        refine ⟨f, dx3, _, ty, rfl, hf3, t1, t2, f, n, S, F3, .inr ⟨y, d, rfl, nd, _, _, rfl, _, rfl, ?_⟩⟩
        rw [if_neg (by decide)]
        exact e3
      · rintro σ H3 ⟨o4, rfl, e3⟩
        exact hR _ _ ⟨o4, rfl, uq.trans e3⟩
    obtain ⟨o4', rfl, e2⟩ := h
    have r2 := e2 _ _ hr1
    have mkf : ∀ {H6 : Hp} {vr : Addr} {z y : Nat} {R' : List Bool} {Q' : Addr → Hp → Prop} {zi : Int}, BoxAt K H6 b c ns → H6 vr = some (.lst (R'.map V.bl)) → Fam y R' → y ≤ z → z ≤ 6 → zi = (z : Int) → (∀ g H8 R2, BoxAt K H8 b c ns → But b H6 H8 → FamV a.C_Family H8 g z R2 → (y = z → R2 = R') → Q' g H8) →
        spOrd [V.ref vr] H6 (fun x H1 => spMixed K a.C_Frac [V.ref b, x] H1 (fun x H1 => ∀ (x_1 dx : Addr), H1 x_1 = none → H1 dx = none → dx ≠ x_1 → spFam a.C_Family a.C_Frac a.C_WrongSize a.C_InvalidFamily a.C_NotClosed [V.ref x_1, V.int zi, x] (upd (upd H1 dx (HO.own x_1)) x_1 (HO.ins a.C_Family dx [])) (fun v H2 => v = V.non ∧ Q' x_1 H2) fun _ _ _ => False) E0) E0 := fun {H6 vr z y R' Q' zi} B6 hv6 F' yz z6 ez k' => by
      subst ez
      refine ⟨vr, y, R', rfl, hv6, ⟨F'.n6, F'.len⟩, fun sr us H7 s0 e7 a7 tu => ⟨b, c, sr, ns, us, famL y R', rfl, B6.same e7, B6.ne_new s0, a7, tu, ?_, fun s hs => ?_, fun q xs ws H8 B8 e8 q0 hq hx wl mo => ?_⟩⟩
      · have := famL_len (S := R') F'.n6
        have := pow64 F'.n6
        omega
      · exact Nat.le_trans (allS_at (famL_mem.mp hs).1 F'.n6).2.2.2.1 F'.n6
      · obtain ⟨m1, m2⟩ := mix_up F' yz z6 mo
        refine fam_made (Nat.le_trans F'.n1 yz) z6 (l := true) hq hx.all.is (by omega) m1 m2 (fun g H9 g0 e9 F9 => ?_)
        exact k' g H9 _ (B8.same e9) (((Same.but e7).trans e8).trans (Same.but e9)) F9 fun e => by subst e; exact (mix_ok F' mo).2.2
    refine cut (fun σ H3 => σ = [some (V.ref b), some (V.ref f), some (V.int n), some (V.ref r), o4', some (V.int (2 ^ n : Nat)), none, none, none, none, none, none] ∧ H2 = H3) (fun R hR => ?_) (fun σ H3 h => ?_)
    · walk_at "rd"
      refine ⟨_, .inl (SqL.of r2), ?_⟩
      rw [List.length_map, F.fam.len]
      exact hR _ _ ⟨rfl, rfl⟩
    obtain ⟨rfl, rfl⟩ := h
    refine cut (fun σ H3 => ∃ vr, σ = [some (V.ref b), some (V.ref f), some (V.int n), some (V.ref r), o4', some (V.int (2 ^ n : Nat)), some (V.ref vr), none, none, none, none, none] ∧ Same H H3 ∧ H vr = none ∧ H3 vr = some (.lst (S.map V.bl))) (fun R hR => ?_) (fun σ H3 h => ?_)
    · walk_at "rd"
      exact ⟨_, .inl (SqL.of r2), fun l hl => hR _ _ ⟨l, rfl, e2.trans (same_upd hl), e2.free hl, upd_same⟩⟩
    obtain ⟨vr, rfl, e3, v0, hv⟩ := h
    have vb := B.ne_new v0
    have rv : r ≠ vr := fun z => by rw [z, v0] at hr1; cases hr1
    refine cut (fun σ H4 => ∃ m : Nat, σ = [some (V.ref b), some (V.ref f), some (V.int n), some (V.ref r), o4', some (V.int (2 ^ n : Nat)), some (V.ref vr), some (V.int m), none, none, none, none] ∧ m < 2 ^ n ∧ BoxAt K H4 b c ns ∧ But b H H4 ∧ H4 vr = some (.lst (S.map V.bl))) (fun R hR => ?_) (fun σ H4 h => ?_)
    · walk_at "rd"
      exact drw (B.same e3) (by omega) (by omega) fun m H5 ml B5 e5 => hR _ _ ⟨m, rfl, by omega, B5, (Same.but e3).trans e5, e5 _ _ vb hv⟩
    obtain ⟨m, rfl, ml, B4, e4, hv4⟩ := h
    refine cut (fun σ H5 => ∃ tr ts, σ = [some (V.ref b), some (V.ref f), some (V.int n), some (V.ref r), o4', some (V.int (2 ^ n : Nat)), some (V.ref vr), some (V.int m), none, some (V.ref tr), none, none] ∧ Same H4 H5 ∧ H4 tr = none ∧ H5 tr = some (.lst (iv ts)) ∧ ts.length ≤ 64 ∧ ∀ t ∈ ts, t ≠ 0 ∧ In S t = true ∧ addM n S t = []) (fun R hR => ?_) (fun σ H5 h => ?_)
    · walk_at "rd"
      rw [tLc_rng2]
      walk_at "rd"
      have r4 := e4 _ _ rb hr1
      refine ⟨by decide, by decide, by omega, by omega, Rd.lcl_rng (fun D i H5 => H4 D = none ∧ Same H4 H5 ∧ ∃ ts, H5 D = some (.lst (iv ts)) ∧ ts.length ≤ i ∧ ∀ t ∈ ts, t ≠ 0 ∧ In S t = true ∧ addM n S t = []) (fun D hD => ⟨hD, same_upd hD, [], upd_same, Nat.le_refl _, fun t h => by cases h⟩) (fun D i H5 hi ⟨n5, e5, ts, a5, tl, tok⟩ => ?_) (fun D H5 _ ⟨n5, e5, ts, a5, tl, tok⟩ => hR _ _ ⟨D, ts, rfl, e5, n5, a5, by omega, tok⟩)⟩
      have i1 : 1 + i < 2 ^ n := by omega
      walk_at "rd"
      rw [show (1 : Int) + (i : Int) = ((1 + i : Nat) : Int) by omega]
      have stay : H4 D = none ∧ Same H4 H5 ∧ ∃ ts, H5 D = some (.lst (iv ts)) ∧ ts.length ≤ i + 1 ∧ ∀ t ∈ ts, t ≠ 0 ∧ In S t = true ∧ addM n S t = [] := ⟨n5, e5, ts, a5, by omega, tok⟩
      refine ⟨_, e5 _ _ r4, _, in_bool (by rw [F.fam.len]; exact i1), _, rfl, ite2 (fun hc => ⟨r, n, S, 1 + i, rfl, e5 _ _ r4, F.fam, i1, fun q H6 q0 e6 a6 => ⟨q, rfl, _, .inr (SqT.of a6), ite2 (fun h0 => ?_) (fun h0 => ?_)⟩⟩) (fun hc => stay)⟩
      · rw [iv_len] at h0
        refine ⟨iv ts, e6 _ _ a5, small (by rw [iv_len]; omega), n5, fun b o hb => (upd_ne (ne_of_none hb n5)).trans (e6 _ _ (e5 _ _ hb)), ts ++ [1 + i], by unfold iv; rw [List.map_append]; rfl, by rw [List.length_append]; show ts.length + 1 ≤ _; omega, fun t ht => ?_⟩
        rcases List.mem_append.mp ht with ht | ht
        · exact tok t ht
        · rw [List.mem_singleton.mp ht]
          exact ⟨by omega, hc, List.eq_nil_of_length_eq_zero (by omega)⟩
      · exact ⟨n5, e5.trans e6, ts, e6 _ _ a5, by omega, tok⟩
    obtain ⟨tr, ts, rfl, e5, t0, ht5, tl, tok⟩ := h
    refine cut (fun σ H6 => ∃ o8 S', σ = [some (V.ref b), some (V.ref f), some (V.int n), some (V.ref r), o4', some (V.int (2 ^ n : Nat)), some (V.ref vr), some (V.int m), o8, some (V.ref tr), none, none] ∧ BoxAt K H6 b c ns ∧ But b H H6 ∧ H6 vr = some (.lst (S'.map V.bl)) ∧ Fam n S') (fun R hR => ?_) (fun σ H6 h => ?_)
    · walk_at "rd"
      have e45 := e4.trans (Same.but e5)
      have B5 := B4.same e5
      have r5 := e45 _ _ rb hr1
      have hv5 := e5 _ _ hv4
      have grow : -(2 : Int) ^ 62 ≤ ((2 ^ n : Nat) : Int) ∧ ((2 ^ n : Nat) : Int) < 2 ^ 62 ∧ Rd.Loop (Itr 0 (((2 ^ n : Nat) : Int)).toNat) (gName 8) (tIfS (tTest (tOp rEq (tOp (rI0 fun i j => V.int (Builtin.bitAnd i j)) (tVar 8) (tVar 7)) (tVar 8))) (tAsg (tC (V.bl true)) (gSub (tVar 6) (tVar 8) rSetL)) tNext) { nx := R, rt := Q }
          [some (V.ref b), some (V.ref f), some (V.int ↑n), some (V.ref r), o4', some (V.int ↑(2 ^ n)), some (V.ref vr), some (V.int ↑m), none, some (V.ref tr), none, none] H5 := by
        refine ⟨by omega, by omega, ?_⟩
        rw [Int.toNat_natCast]
        refine Rd.loop_rngC (fun σ H7 => ∃ o8, σ = [some (V.ref b), some (V.ref f), some (V.int ↑n), some (V.ref r), o4', some (V.int ↑(2 ^ n)), some (V.ref vr), some (V.int ↑m), o8, some (V.ref tr), none, none] ∧ BoxAt K H7 b c ns ∧ But b H H7 ∧ ∃ S' : List Bool, H7 vr = some (.lst (S'.map V.bl)) ∧ S'.length = 2 ^ n ∧ ∀ x, x < 2 ^ n → In S' x = (In S x || (decide (x < 2 ^ n) && decide (Sub x m))))
          (fun i σ H7 => ∃ o8, σ = [some (V.ref b), some (V.ref f), some (V.int ↑n), some (V.ref r), o4', some (V.int ↑(2 ^ n)), some (V.ref vr), some (V.int ↑m), o8, some (V.ref tr), none, none] ∧ BoxAt K H7 b c ns ∧ But b H H7 ∧ ∃ S' : List Bool, H7 vr = some (.lst (S'.map V.bl)) ∧ S'.length = 2 ^ n ∧ ∀ x, x < 2 ^ n → In S' x = (In S x || (decide (x < i) && decide (Sub x m))))
          ⟨none, rfl, B5, e45, S, hv5, F.fam.len, fun x _ => by rw [decide_eq_false (Nat.not_lt_zero x), Bool.false_and, Bool.or_false]⟩ ?_ (fun _ _ z => z) ?_
        · rintro bk hbk i σ H7 hi ⟨o8, rfl, B7, e7, S', hS', Sl', Sm'⟩
          walk_at "rd"
          rw [Int.zero_add]
          have step : ∀ x, x ≠ i → (decide (x < i + 1) && decide (Sub x m)) = (decide (x < i) && decide (Sub x m)) := fun x ne => by
            by_cases y : x < i
            · rw [decide_eq_true y, decide_eq_true (show x < i + 1 by omega)]
            · rw [decide_eq_false y, decide_eq_false (show ¬ x < i + 1 by omega)]
          refine ite2 (fun hc => ?_) (fun hc => ⟨B7, e7, S', hS', Sl', fun x hx => ?_⟩)
          · have eU : But b H (upd H7 vr (.lst ((S'.set i true).map V.bl))) := e7.updn v0
            refine ⟨_, hS', i, ixN_of (by rw [List.length_map, Sl']; exact hi), ?_⟩
            rw [← List.map_set]
            refine ⟨B.upd B7 vb eU, eU, S'.set i true, rfl, by rw [List.length_set, Sl'], fun x hx => ?_⟩
            rw [in_set (by rw [Sl']; exact hi)]
            by_cases y : x = i
            · rw [if_pos y, y, decide_eq_true (show i < i + 1 by omega), decide_eq_true (sub_iff.mp hc), Bool.and_true, Bool.or_true]
            · rw [if_neg y, Sm' x hx, step x y]
          · rw [Sm' x hx]
            by_cases y : x = i
            · rw [y, decide_eq_false (fun z => hc (sub_iff.mpr z)), Bool.and_false, Bool.and_false]
            · rw [step x y]
        · rintro σ H7 ⟨o8, rfl, B7, e7, S', hS', Sl', Sm'⟩
          exact hR _ _ ⟨o8, S', rfl, B7, e7, hS', fam_grow F.fam ml Sl' fun x hx => by rw [Sm' x hx, decide_eq_true hx, Bool.true_and]⟩
      refine ⟨_, r5, _, in_bool (by rw [F.fam.len]; exact ml), _, rfl, ite2 (fun hc => ⟨_, .inl (SqL.of ht5), ite2 (fun hl => ⟨_, .inl (SqL.of ht5), ?_⟩) (fun _ => grow)⟩) (fun _ => grow)⟩
      rw [iv_len] at hl ⊢
      refine drw B5 (by omega) (by omega) fun y H6 yl B6 e6 => ?_
      have trb : tr ≠ b := B4.ne_new t0
      obtain ⟨t, ht⟩ : ∃ t, ts[y]? = some t := ⟨_, List.getElem?_eq_getElem (by omega)⟩
      obtain ⟨k0, k1, k2⟩ := tok t (List.mem_of_getElem? ht)
      have tn := F.fam.lt k1
      have eU : But b H (upd H6 vr (.lst ((S.set t false).map V.bl))) := (e45.trans e6).updn v0
      refine ⟨_, _, rfl, e6 _ _ trb ht5, _, iv_at ht, _, _, rfl, e6 _ _ vb hv5, t, ixN_of (by rw [List.length_map, F.fam.len]; exact tn), ?_⟩
      rw [← List.map_set]
      exact hR _ _ ⟨none, _, rfl, B.upd B6 vb eU, eU, upd_same, fam_drop F.fam k0 k1 k2⟩
    obtain ⟨o8, S', rfl, B6, e6, hv6, F'⟩ := h
    refine cut (fun σ H7 => ∃ g, σ = [some (V.ref b), some (V.ref f), some (V.int n), some (V.ref r), o4', some (V.int (2 ^ n : Nat)), some (V.ref vr), some (V.int m), o8, some (V.ref tr), some (V.ref g), none] ∧ BoxAt K H7 b c ns ∧ But b H H7 ∧ H7 vr = some (.lst (S'.map V.bl)) ∧ FamV a.C_Family H7 g n S') (fun R hR => ?_) (fun σ H7 h => ?_)
    · walk_at "rd"
      exact mkf B6 hv6 F' (Nat.le_refl _) n6 rfl fun g H8 R2 B8 e8 F8 er => hR _ _ ⟨g, rfl, B8, e6.trans e8, e8 _ _ vb hv6, er rfl ▸ F8⟩
    obtain ⟨g, rfl, B7, e7, hv7, F7⟩ := h
    have key : ∀ {u : Nat} {R2 : List Bool}, u = n → R2.length = 2 ^ n → (decide (n = u) && decide (famL n S = famL u R2)) = decide (S = R2) := fun {u R2} e l => by
      subst e
      rw [decide_eq_true rfl, Bool.true_and]
      exact decide_eq_decide.mpr ⟨fun z => famL_inj n6 F.fam.len l z, fun z => by rw [z]⟩
    refine cut (fun σ H8 => σ = [some (V.ref b), some (V.ref f), some (V.int n), some (V.ref r), o4', some (V.int (2 ^ n : Nat)), some (V.ref vr), some (V.int m), o8, some (V.ref tr), some (V.ref g), none] ∧ BoxAt K H8 b c ns ∧ But b H H8 ∧ H8 vr = some (.lst (S'.map V.bl)) ∧ FamV a.C_Family H8 g n S') (fun R hR => ?_) (fun σ H8 h => ?_)
    · walk_at "rd"
      refine ⟨b, c, g, vr, ns, n, S', rfl, B7, vb, hv7, F7, fun H8 B8 e8 => ⟨_, rfl, ?_⟩⟩
      rw [if_neg (by decide)]
      have e08 := e7.trans e8
      obtain ⟨_, _, _, hb7, _⟩ := B7.ob
      obtain ⟨_, _, _, hb0, _⟩ := B.ob
      have F8 := F.kp (Kp.but e08 hb0)
      have G8 := F7.kp (Kp.but e8 hb7)
      have v8 := e8 _ _ vb hv7
      obtain ⟨dx8, t8, ys8, hf8, _⟩ := F8.ob
      obtain ⟨dy8, u8, zs8, hg8, _⟩ := G8.ob
      refine ⟨f, dx8, _, .ref a.C_Family, rfl, hf8, .base (.ins hg8 T.cl_Family T.cg_Family T.cget T.ctk T.mr_Family), T.nf_Fam, f, n, S, F8, .inl ⟨g, n, S', rfl, G8, _, .lst (SqL.of (e08 _ _ rb hr1)) (dp_bools S), _, .lst (SqL.of v8) (dp_bools S'), sh_bools _, sh_bools _, _, _, rfl, _, rfl, ?_⟩⟩
      rw [eqv_bools, key rfl F'.len, decide_eq_true rfl, if_neg (by decide)]
      exact hR _ _ ⟨rfl, B8, e08, v8, G8⟩
    obtain ⟨rfl, B8, e8, hv8, F8⟩ := h
    refine cut (fun σ H9 => ∃ o11, σ = [some (V.ref b), some (V.ref f), some (V.int n), some (V.ref r), o4', some (V.int (2 ^ n : Nat)), some (V.ref vr), some (V.int m), o8, some (V.ref tr), some (V.ref g), o11] ∧ BoxAt K H9 b c ns ∧ But b H H9 ∧ H9 vr = some (.lst (S'.map V.bl)) ∧ FamV a.C_Family H9 g n S') (fun R hR => ?_) (fun σ H9 h => ?_)
    · walk_at "rd"
      refine ite2 (fun h6 => ?_) (fun _ => hR _ _ ⟨none, rfl, B8, e8, hv8, F8⟩)
      refine mkf (z := n + 1) B8 (e8 _ _ rb hr1) F.fam (by omega) (by omega) (by omega) fun q H9 R2 B9 e9 Q9 _ => ?_
      obtain ⟨_, _, _, hb8, _⟩ := B8.ob
      obtain ⟨_, _, _, hb0, _⟩ := B.ob
      have e09 := e8.trans e9
      have F9 := F.kp (Kp.but e09 hb0)
      have G9 := F8.kp (Kp.but e9 hb8)
      obtain ⟨dx9, t9, ys9, hf9, _⟩ := F9.ob
      obtain ⟨dy9, u9, zs9, hq9, _⟩ := Q9.ob
      refine ⟨f, dx9, _, .ref a.C_Family, rfl, hf9, .base (.ins hq9 T.cl_Family T.cg_Family T.cget T.ctk T.mr_Family), T.nf_Fam, f, n, S, F9, .inl ⟨q, n + 1, R2, rfl, Q9, _, _, rfl, _, rfl, ?_⟩⟩
      rw [decide_eq_false (show ¬ n = n + 1 by omega), Bool.false_and, decide_eq_true rfl, if_neg (by decide)]
      refine ⟨q, dy9, _, .ref a.C_Family, rfl, hq9, .base (.ins hf9 T.cl_Family T.cg_Family T.cget T.ctk T.mr_Family), T.nf_Fam, q, n + 1, R2, Q9, .inl ⟨f, n, S, rfl, F9, _, _, rfl, _, rfl, ?_⟩⟩
      rw [decide_eq_false (show ¬ n + 1 = n by omega), Bool.false_and, decide_eq_true rfl, if_neg (by decide)]
      exact hR _ _ ⟨_, rfl, B9, e09, e9 _ _ vb hv8, G9⟩
    obtain ⟨o11, rfl, B9, e9, hv9, F9⟩ := h
    walk_at "rd"
    obtain ⟨_, _, _, hb0, _⟩ := B.ob
    have FF := F.kp (Kp.but e9 hb0)
    obtain ⟨dx9, t9, ys9, hf9, _⟩ := FF.ob
    obtain ⟨dy9, u9, zs9, hg9, _⟩ := F9.ob
    refine ⟨g, dy9, _, .ref a.C_Family, rfl, hg9, .base (.ins hf9 T.cl_Family T.cg_Family T.cget T.ctk T.mr_Family), T.nf_Fam, g, n, S', F9, .inl ⟨f, n, S, rfl, FF, _, .lst (SqL.of (e9 _ _ rb hr1)) (dp_bools S), _, .lst (SqL.of hv9) (dp_bools S'), sh_bools _, sh_bools _, _, _, rfl, ?_⟩⟩
    rw [eqv_bools, show (decide (n = n) && decide (famL n S' = famL n S)) = decide (S = S') from by rw [← key rfl F'.len, Bool.eq_iff_iff]; simp [eq_comm], decide_eq_true rfl]
    exact k _ B9 e9
end

end K19
namespace K19
open PySem PySem.Spec PyProof.Rows L2 Own OwnSeq OwnSet OwnComb OwnSort OwnHot OwnExN OwnProj
local macro_rules | `(tactic| walk_at "rd") => `(tactic| simp only [tSeq, tAsg, tOp, tUn, tVar, gName, gSub, rIxL, rIxT, rSetL, tC, rI0, rI, rU, rEq, rNe, tCons, tNil, tCB, tLst, tTup, tIfS, tAnd, tOr, tNot, tAndV, tOrV, tNotV, tTest, tB, tIf, tRet, tDrop, tNext, tBreak, tCont, tCall, tCallS, L2.WE, tMakeS, rIsS, rIsB, tChain, gSeq, gRest, gCons, gNil, tFor_seq, tFor_enumS, tLc_seq, tLc_enumS, rAny, rAll, L2.tMeth, StX.tStar, rIn, tLstRg, tRg1, tRg2, rSetI, rSortedSet, rInDT, rInD, rNotInD, rEqD, rNeD, iComb, tFld, tMake, tMkO, sFld, tOst, tNever, tBits, clv, isB,
  Rd.tFor_rng1, Rd.tFor_rng2, Rd.tFor_list, Rd.tFor_tup, Rd.tLc_list, Rd.tLc_tup, Rd.tLc_rng1, Rd.LcTurn, tYes, wipe, Rd.rLenL, Rd.rLenT, Rd.rIntI, Rd.rIxH, rIxHT,  HO.tup.injEq, Rd.at0, Rd.at1, Rd.at2, Rd.at3, Rd.ixN40, Rd.ixN41, Rd.ixN42, Rd.ixN43, Rd.scal_ii, cxOf,
  List.length_cons, List.length_nil, List.length_map, List.map_cons, List.map_nil, upd_same, decide_eq_true_eq, decide_true, decide_false, if_true, if_false, Bool.false_eq_true, Bool.not_true, Bool.not_false, HO.lst.injEq, HO.ins.injEq, List.set_cons_zero, List.set_cons_succ, List.getElem?_cons_zero, List.getElem?_cons_succ, List.append_nil, List.nil_append, List.cons_append, Option.some.injEq, V.ref.injEq, V.int.injEq, V.bl.injEq, List.cons.injEq, exists_eq_left', exists_and_left, exists_eq_left, true_and, and_true, and_self, and_assoc, implies_true, reduceCtorEq, Nat.reduceAdd])

theorem pi_seqH {X : Cx} {tg l : Expr} {tl : TE} (K : PySem.W.Frag) (hl : PE X l tl) (hK : X.K = K := by rfl) : L2H.PIH X tg l (iSeq K tl) := hK ▸ ⟨fun pins s σ H R I h => thn (hl.run pins s σ H _ I h) fun v s1 ⟨x, H1, I1, r1, a, b, xs, e, hx, q⟩ => by
  subst e
  cases r1
  cases b with
  | true =>
    obtain ⟨its, rv, p, _⟩ := I1.list (SqL.of hx)
    exact wpAny_pyIter_list p.isList ⟨s1.heap.objs.size, [s1.heap.objs.size], _, _, H1, rfl, I1.kept (t' := s1.toks) fun b o e => Heap.get?_push_of_some _ e, turnL a _, ⟨_, Heap.get?_push_size _ rfl, rfl, rfl⟩, fun b hb => by
      rw [List.mem_singleton.mp hb]
      exact I1.fpOk (Nat.le_refl _) (I1.hok.fresh (Nat.le_refl _)), q⟩
  | false =>
    obtain ⟨its, rv, p, _⟩ := I1.tuple (SqT.of hx)
    exact wpAny_pyIter_tuple (show s1.heap.IsTuple a its.toArray from p) ⟨s1.heap.objs.size, [s1.heap.objs.size], _, _, H1, rfl, I1.kept (t' := s1.toks) fun b o e => Heap.get?_push_of_some _ e, turnT a _, ⟨_, Heap.get?_push_size _ rfl, rfl, rfl⟩, fun b hb => by
      rw [List.mem_singleton.mp hb]
      exact I1.fpOk (Nat.le_refl _) (I1.hok.fresh (Nat.le_refl _)), q⟩⟩
theorem uH {k : Nat} {A : Around} (r : L2H.RoomH k A) : A.units + 64 < cLine := by have := r.un; omega
section
variable {P : Program} {w : World} {K : PySem.W.Frag} {mg : Str → Option Value} {base : Heap} {a : Ad}
theorem okH_law_things (T : Txt K mg a) : L2H.FnH P w K mg base CX0 1 a.a_law_things a.d_law_things ["mask"] spThings := by
  refine okH T.fn_law_things sc_law_things (fun vs H Q E h => ?_) (fun cdv A outer s H vs Q E hp0 hot hr h => ?_)
  · obtain ⟨m, rfl, _⟩ := h
    rfl
  · obtain ⟨m, rfl, k⟩ := h
    refine ⟨_, (pss_one (ps_ret (pe_callTy call_tuple_of (by rfl) T.no_tuple (by decide +kernel) (pa_cons (OwnHotC.pe_lcHT ⟨hp0, hot, List.mem_singleton.mpr rfl⟩ (own := [("thing", 1)]) sc_law_things.nd (L2H.pi_range1H (by rfl) T.no_range (pa_cons pe_int pa_nil)) (blkOk_by (own := [("thing", 1)]) (N := ["mask", "thing"]) (sc := defScope s_law_things) (by decide +kernel)) (fun _ _ _ _ _ => pg_name (i := 1) sc_law_things.nd rfl (Or.inl rfl)) (fun _ _ _ _ _ => pts_one (pt_cmpR op_eq (pe_op op_mod (pe_callTy Rd.call_intI (by rfl) T.no_int (by decide +kernel) (pa_cons (pe_op op_shr (pv 0) (pv 1)) pa_nil)) pe_int) pe_int (nomark _))) (fun _ _ _ _ _ => (pv 1))) pa_nil)))), ?_⟩
    show (_ : TS) _ [some (V.int m), none] H
    walk_at "rd"
    refine ⟨by decide, by decide, Rd.lcl_rng (fun D i H5 => H D = none ∧ Same H H5 ∧ H5 D = some (.lst (iv ((List.range i).filter (bit m))))) (fun D hD => ⟨hD, same_upd hD, upd_same⟩) (fun D i H5 hi ⟨n5, e5, a5⟩ => ?_) (fun D H5 _ ⟨n5, e5, a5⟩ => ?_)⟩
    · walk_at "rd"
      have iq : (0 + (i : Int)).toNat = i := by omega
      have bt : ((m : Int) / 2 ^ i % 2 = 1) = (bit m i = true) := by
        unfold bit
        rw [decide_eq_true_eq]
        have z : (m : Int) / 2 ^ i % 2 = ((m / 2 ^ i % 2 : Nat) : Int) := by
          rw [Int.natCast_emod, Int.natCast_ediv]
          rfl
        rw [z]
        exact propext ⟨fun h => by omega, fun h => by omega⟩
      have i6 : i < 6 := hi
      have fl : ((List.range i).filter (bit m)).length ≤ i := by
        have := List.length_filter_le (bit m) (List.range i)
        rwa [List.length_range] at this
      refine ⟨by omega, by decide, ?_⟩
      rw [iq, List.range_succ, List.filter_append]
      refine ite2 (fun h => ⟨_, a5, small (by rw [iv_len]; omega), n5, fun b o hb => (upd_ne (ne_of_none hb n5)).trans (e5 _ _ hb), ?_⟩) (fun h => ⟨n5, e5, ?_⟩)
      · rw [bt] at h
        rw [List.filter_cons_of_pos h, Int.zero_add]
        unfold iv
        rw [List.map_append]
        rfl
      · rw [bt] at h
        rw [List.filter_cons_of_neg h, List.filter_nil, List.append_nil]
        exact a5
    · exact ⟨D, rfl, _, .inl ⟨SqL.of a5, fun r hr => k r _ (e5.free hr) (e5.trans (same_upd hr)) upd_same⟩⟩
theorem okH_law_mask (T : Txt K mg a) : L2H.FnH P w K mg base CX0 1 a.a_law_mask a.d_law_mask ["things"] spMask := by
  refine okH T.fn_law_mask sc_law_mask (fun vs H Q E h => ?_) (fun cdv A outer s H vs Q E hp0 hot hr h => ?_)
  · obtain ⟨p, l, s, rfl, _⟩ := h
    rfl
  · obtain ⟨p, l, s', rfl, hp, s6, g6, k⟩ := h
    refine ⟨_, (pss_one (ps_ret (pe_callB (OwnSumH.cr_sumH K ⟨hp0, hot, List.mem_singleton.mpr rfl⟩) (by rfl) T.no_sum (by decide +kernel) (pa_cons (pe_lcH ⟨hp0, hot, List.mem_singleton.mpr rfl⟩ (own := [("thing", 1)]) sc_law_mask.nd (pi_seqH K (pv 0)) (blkOk_by (own := [("thing", 1)]) (N := ["things", "thing"]) (sc := defScope s_law_mask) (by decide +kernel)) (fun _ _ _ _ _ => pg_name (i := 1) sc_law_mask.nd rfl (Or.inl rfl)) (fun _ _ _ _ _ => (pe_op op_shl pe_int (pv 1)))) pa_nil)))), ?_⟩
    show (_ : TS) _ [some (V.ref p), none] H
    walk_at "rd"
    refine ⟨l, _, hp, lcl_goes goes_seq (fun D2 j H5 => H D2 = none ∧ Same H H5 ∧ H5 D2 = some (.lst (((s'.take j).map fun g => ((2 ^ g : Nat) : Int)).map V.int))) (fun D2 hD2 => ⟨hD2, same_upd hD2, upd_same⟩)
      (fun D2 j H5 _ h => h.2.1 _ _ hp) (fun D2 j y H5 H5' hj ⟨n5, e5', a5⟩ ⟨eq5, hy⟩ => ?_) (fun D2 H5 nD2 ⟨n5, e5', a5⟩ => ?_)⟩
    · subst eq5
      obtain ⟨g, hg, rfl⟩ := at_iv hy
      have g6 := g6 g (List.mem_of_getElem? hg)
      walk_at "rd"
      refine ⟨cpw (by omega), _, a5, small (by rw [List.length_map, List.length_map, List.length_take]; omega), n5, fun b o hb => (upd_ne (ne_of_none hb n5)).trans (e5' _ _ hb), ?_⟩
      rw [List.take_add_one, hg, List.map_append, List.map_append, pow_cast]
      rfl
    · rw [iv_len, List.take_length] at a5
      refine ⟨D2, _, rfl, SqL.of a5, ?_⟩
      rw [sum_cast]
      exact k _ e5'
theorem okH_law_ordered (T : Txt K mg a) : L2H.FnH P w K mg base CX0 2 a.a_law_ordered a.d_law_ordered ["inside"] spOrd := by
  refine okH T.fn_law_ordered sc_law_ordered (fun vs H Q E h => ?_) (fun cdv A outer s H vs Q E hp0 hot hr h => ?_)
  · obtain ⟨p, n, S, rfl, _⟩ := h
    rfl
  · obtain ⟨p, n, S, rfl, hp, ⟨n6, Slen⟩, k⟩ := h
    refine ⟨_, (pss_cons (ps_set (i := 1) sc_law_ordered.nd rfl (Or.inl rfl) (pe_callB (sortedK K (uH hr)) (by rfl) T.no_sorted (by decide +kernel) (pa_cons (OwnHotC.pe_lcHT ⟨hp0, hot, List.mem_singleton.mpr rfl⟩ (own := [("mask", 2)]) sc_law_ordered.nd (L2H.pi_range1H (by rfl) T.no_range (pa_cons (pe_callB Rd.call_lenL (by rfl) T.no_len PySem.boot_len (pa_cons (pv 0) pa_nil)) pa_nil)) (blkOk_by (own := [("mask", 2)]) (N := ["inside", "pairs", "mask", "pair"]) (sc := defScope s_law_ordered) (by decide +kernel)) (fun _ _ _ _ _ => pg_name (i := 2) sc_law_ordered.nd rfl (Or.inl rfl)) (fun _ _ _ _ _ => pts_one (pt_val (pe_ix Rd.ixH (pv 0) (pv 2) (fun _ _ => rfl)))) (fun _ _ _ _ _ => (pe_tup (pa_cons (pe_callB (lenK K) (by rfl) T.no_len PySem.boot_len (pa_cons (L2H.pe_callH (okH_law_things T) (hr.mono (by decide)) ⟨hp0, hot, List.mem_singleton.mpr rfl⟩ (by rfl) T.mg_law_things T.fn_law_things.kp T.b_law_things (fun _ => passAt0) (pa_cons (pv 2) pa_nil)) pa_nil)) (pa_cons (L2H.pe_callH (okH_law_things T) (hr.mono (by decide)) ⟨hp0, hot, List.mem_singleton.mpr rfl⟩ (by rfl) T.mg_law_things T.fn_law_things.kp T.b_law_things (fun _ => passAt0) (pa_cons (pv 2) pa_nil)) pa_nil))))) pa_nil)))
      (pss_one (ps_ret (pe_lcH ⟨hp0, hot, List.mem_singleton.mpr rfl⟩ (own := [("pair", 3)]) sc_law_ordered.nd (pi_listH (pv 1)) (blkOk_by (own := [("pair", 3)]) (N := ["inside", "pairs", "mask", "pair"]) (sc := defScope s_law_ordered) (by decide +kernel)) (fun _ _ _ _ _ => pg_name (i := 3) sc_law_ordered.nd rfl (Or.inl rfl)) (fun _ _ _ _ _ => (pe_ix ixHT (pv 3) pe_int (fun _ _ => rfl))))))), ?_⟩
    show (_ : TS) _ [some (V.ref p), none, none, none] H
    have p64 := pow64 n6
    walk_at "rd"
    refine ⟨_, SqL.of hp, ?_⟩
    rw [List.length_map, Slen, Int.toNat_natCast]
    refine ⟨by have : 0 < 2 ^ n := Nat.pow_pos (by decide); omega, by omega, ?_⟩
    refine Rd.lcl_rng (fun D i H5 => H D = none ∧ Same H H5 ∧ ∃ L : List (Addr × List Nat), H5 D = some (.lst (L.map fun x => V.ref x.1)) ∧ (∀ x ∈ L, PrAt H5 x) ∧ L.map (·.2) = ((List.range i).filter (In S)).map bits) (fun D hD => ⟨hD, same_upd hD, [], upd_same, (fun _ h => by cases h), rfl⟩) (fun D i H5 hi ⟨n5, e5, L, a5, pL, eL⟩ => ?_) (fun D H5 _ ⟨n5, e5, L, a5, pL, eL⟩ => ?_)
    · have Ll : L.length ≤ i := by
        have z := congrArg List.length eL
        rw [List.length_map, List.length_map] at z
        have := List.length_filter_le (In S) (List.range i)
        rw [List.length_range] at this
        omega
      have rs := List.range_succ (n := i)
      walk_at "rd"
      rw [Int.zero_add]
      refine ⟨_, e5 _ _ hp, _, in_bool (by rw [Slen]; exact hi), _, rfl, ite2 (fun hc => ?_) (fun hc => ⟨n5, e5, L, a5, pL, ?_⟩)⟩
      · refine ⟨i, rfl, fun r1 H6 h1 e6 a6 => ⟨r1, rfl, _, .inr (SqT.of a6), i, rfl, fun r2 H7 h2 e7 a7 => ⟨by decide, fun q hq => ?_⟩⟩⟩
        have e8 : Same H7 (upd H7 q (.tup [V.int (iv (bits i)).length, V.ref r2])) := same_upd hq
        have a8 := (e8 _ _ (e7 _ _ (e6 _ _ a5)))
        have e9 := ((e5.trans e6).trans e7).trans e8
        refine ⟨_, a8, small (by rw [List.length_map]; omega), n5, fun b o hb => (upd_ne (ne_of_none hb n5)).trans (e9 _ _ hb), L ++ [(q, bits i)], by rw [List.map_append]; rfl, fun x hx => ?_, ?_⟩
        · refine PrAt.upd a8 ?_
          rcases List.mem_append.mp hx with hx | hx
          · exact (pL x hx).same ((e6.trans e7).trans e8)
          · obtain rfl := List.mem_singleton.mp hx
            refine ⟨r2, ?_, e8 _ _ a7⟩
            rw [iv_len]
            exact upd_same
        · rw [List.map_append, eL, rs, List.filter_append, List.filter_cons_of_pos hc, List.map_append]
          rfl
      · rw [rs, List.filter_append, List.filter_cons_of_neg hc, List.filter_nil, List.append_nil]
        exact eL
    · have Lm : (L.map (·.2)).Perm (famL n S) := by
        rw [eL]
        have z := (perm_masks n6).filter fun s => In S (mk s)
        rw [List.filter_map] at z
        rw [show (List.range (2 ^ n)).filter (In S) = (List.range (2 ^ n)).filter ((fun s => In S (mk s)) ∘ bits) from List.filter_congr fun m hm => by
          show In S m = In S (mk (bits m))
          rw [(bits_in n6 (List.mem_range.mp hm)).1]]
        exact z
      have sorted := sorted_eq n6 Lm
      refine ⟨D, L.map fun x => (x.1, enc x.2), rfl, ?_, fun b hb => ?_, ?_, ?_, fun b hb => ?_, ?_, fun q hq => ?_⟩
      · rw [List.map_map]
        exact SqL.of a5
      · obtain ⟨x, hx, rfl⟩ := List.mem_map.mp hb
        exact (pL x hx).dp
      · rw [List.map_map]
        intro d hd d' hd'
        obtain ⟨x, _, rfl⟩ := List.mem_map.mp hd
        obtain ⟨y, _, rfl⟩ := List.mem_map.mp hd'
        exact alike_enc _ _
      · rw [List.map_map]
        refine .inl fun d hd => ?_
        obtain ⟨x, _, rfl⟩ := List.mem_map.mp hd
        exact ⟨_, _, rfl⟩
      · obtain ⟨x, hx, rfl⟩ := List.mem_map.mp hb
        show (enc x.2).depth ≤ 60
        rw [enc_depth]
        decide
      · rw [List.length_map, show L.length = ((List.range (2 ^ n)).filter (In S)).length by have z := congrArg List.length eL; rwa [List.length_map, List.length_map] at z]
        have := List.length_filter_le (In S) (List.range (2 ^ n))
        rw [List.length_range] at this
        exact Nat.le_of_lt (small (by omega))
      · rw [sort_pairs, List.map_map]
        rw [← sort_sets] at sorted
        refine ⟨q, rfl, ⟨_, SqL.of upd_same⟩, ?_⟩
        have pM : ∀ x ∈ L.mergeSort fun x y => leS x.2 y.2, PrAt H5 x := fun x hx => pL x (List.mem_mergeSort.mp hx)
        generalize (L.mergeSort fun x y => leS x.2 y.2) = M at *
        have e6 : Same H5 (upd H5 q (HO.lst (List.map ((fun b => V.ref b.fst) ∘ fun x => (x.fst, enc x.snd)) M))) := same_upd hq
        have pM := fun x hx => (pM x hx).same e6
        have aM : upd H5 q (HO.lst (List.map ((fun b => V.ref b.fst) ∘ fun x => (x.fst, enc x.snd)) M)) q = some (.lst (M.map fun x => V.ref x.1)) := upd_same
        have fq : H q = none := e5.free hq
        revert pM aM
        generalize upd H5 q (HO.lst (List.map ((fun b => V.ref b.fst) ∘ fun x => (x.fst, enc x.snd)) M)) = H6 at e6
        intro pM aM
        have Ml : M.length < 65 := by
          have z := congrArg List.length sorted
          rw [List.length_map] at z
          have := List.length_filter_le (fun s => In S (mk s)) (allS n)
          rw [allS_len n6] at this
          omega
        refine Rd.lcl_list (xs := M.map fun x => V.ref x.1) (fun D2 i H7 => H6 D2 = none ∧ Same H6 H7 ∧ ∃ us, H7 D2 = some (.lst us) ∧ us.length = i ∧ Tups H7 us ((M.map (·.2)).take i)) (fun D2 hD => ⟨hD, same_upd hD, [], upd_same, rfl, trivial⟩) (fun D2 i H7 _ p => p.2.1.seq (SqL.of aM)) (fun D2 i x H7 hx ⟨n7, e7, us, a7, ul, tu⟩ => ?_) (fun D2 H7 _ ⟨n7, e7, us, a7, ul, tu⟩ => ?_)
        · rw [List.getElem?_map] at hx
          obtain ⟨m, hm, rfl⟩ : ∃ m, M[i]? = some m ∧ x = V.ref m.1 := by
            cases e : M[i]? with
            | none => rw [e] at hx; cases hx
            | some m => rw [e] at hx; exact ⟨m, rfl, (Option.some.inj hx).symm⟩
          have il := (List.getElem?_eq_some_iff.mp hm).1
          obtain ⟨t, b1, b2⟩ := pM m (List.mem_of_getElem? hm)
          walk_at "rd"
          have e8 : Same H6 (upd H7 D2 (.lst (us ++ [V.ref t]))) := fun b o hb => (upd_ne (ne_of_none hb n7)).trans (e7 _ _ hb)
          refine ⟨_, e7 _ _ b1, _, rfl, _, a7, small (by omega), n7, e8, by rw [List.length_append, ul]; rfl, ?_⟩
          rw [List.take_add_one, List.getElem?_map, hm]
          exact Tups.app (Tups.upd a7 tu) ⟨⟨t, rfl, e8 _ _ b2⟩, trivial⟩
        · rw [List.take_of_length_le (by rw [List.length_map, List.length_map]; exact Nat.le_refl _), sorted] at tu
          exact k D2 us H7 (e5.free (e6.free n7)) ((e5.trans e6).trans e7) a7 tu
end

end K19
namespace K19
open PySem PySem.Spec PyProof.Rows L2 Own OwnSeq OwnSet OwnComb OwnSort OwnHot OwnExN OwnProj
local macro_rules | `(tactic| walk_at "rd") => `(tactic| simp only [tSeq, tAsg, tOp, tUn, tVar, gName, gSub, rIxL, rIxT, rSetL, tC, rI0, rI, rU, rEq, rNe, tCons, tNil, tCB, tLst, tTup, tIfS, tAnd, tOr, tNot, tAndV, tOrV, tNotV, tTest, tB, tIf, tRet, tDrop, tNext, tBreak, tCont, tCall, tCallS, L2.WE, tMakeS, rIsS, rIsB, tChain, gSeq, gRest, gCons, gNil, tFor_seq, tFor_enumS, tLc_seq, tLc_enumS, rAny, rAll, L2.tMeth, StX.tStar, rIn, tLstRg, tRg1, tRg2, rSetI, rSortedSet, rInDT, rInD, rNotInD, rEqD, rNeD, iComb, tFld, tMake, tMkO, sFld, tOst, tNever, tBits, clv, isB,
  Rd.tFor_rng1, Rd.tFor_rng2, Rd.tFor_list, Rd.tFor_tup, Rd.tLc_list, Rd.tLc_tup, Rd.tLc_rng1, Rd.LcTurn, tYes, wipe, Rd.rLenL, Rd.rLenT, Rd.rIntI, Rd.rIxH, rIxHT,  HO.tup.injEq, Rd.at0, Rd.at1, Rd.at2, Rd.at3, Rd.ixN40, Rd.ixN41, Rd.ixN42, Rd.ixN43, Rd.scal_ii, cxOf,
  List.length_cons, List.length_nil, List.length_map, List.map_cons, List.map_nil, upd_same, decide_eq_true_eq, decide_true, decide_false, if_true, if_false, Bool.false_eq_true, Bool.not_true, Bool.not_false, HO.lst.injEq, HO.ins.injEq, List.set_cons_zero, List.set_cons_succ, List.getElem?_cons_zero, List.getElem?_cons_succ, List.append_nil, List.nil_append, List.cons_append, Option.some.injEq, V.ref.injEq, V.int.injEq, V.bl.injEq, List.cons.injEq, exists_eq_left', exists_and_left, exists_eq_left, true_and, and_true, and_self, and_assoc, implies_true, reduceCtorEq, Nat.reduceAdd])

/-- a part, what it lacks being below k -/
def rch (k m t : Nat) : Bool := decide (Sub m t) && decide (t - m < 2 ^ k)
theorem rch_step : ((List.range 6).all fun k => (List.range 64).all fun m => (List.range 64).all fun t => rch (k + 1) m t == (rch k m t || (!bit m k && rch k (m + 2 ^ k) t))) = true := by decide +kernel
theorem rch_zero : ((List.range 64).all fun m => (List.range 64).all fun t => rch 0 m t == decide (m = t)) = true := by decide +kernel
/-- what is needed when k things are through -/
def ndd (ss : List (List Nat)) (k m : Nat) : Bool := decide (m = 0) || ss.any fun t => rch k m (mk t)
theorem ndd_step {ss : List (List Nat)} {k m : Nat} (hk : k < 6) (hm : m < 64) (ht : ∀ t ∈ ss, mk t < 64) : ndd ss (k + 1) m = (ndd ss k m || (!bit m k && ndd ss k (m + 2 ^ k))) := by
  have pp := Nat.pow_pos (n := k) (show 0 < 2 by decide)
  unfold ndd
  rw [decide_eq_false (show ¬ m + 2 ^ k = 0 by omega), Bool.false_or, Bool.or_assoc]
  congr 1
  induction ss with
  | nil => simp
  | cons t ss ih =>
    have z := beq_iff_eq.mp (List.all_eq_true.mp (List.all_eq_true.mp (List.all_eq_true.mp rch_step k (List.mem_range.mpr hk)) m (List.mem_range.mpr hm)) (mk t) (List.mem_range.mpr (ht t List.mem_cons_self)))
    rw [List.any_cons, List.any_cons, List.any_cons, z, ih fun t h => ht t (List.mem_cons_of_mem _ h)]
    cases rch k m (mk t) <;> cases bit m k <;> cases rch k (m + 2 ^ k) (mk t) <;> simp
theorem ndd_zero {n m : Nat} {ss : List (List Nat)} (n6 : n ≤ 6) (hm : m < 2 ^ n) (ht : ∀ t ∈ ss, t ∈ allS n) : ndd ss 0 m = (decide (m = 0) || ss.contains (bits m)) := by
  have p64 := pow64 n6
  unfold ndd
  congr 1
  rw [Bool.eq_iff_iff, List.any_eq_true, List.contains_iff_mem]
  have z : ∀ t ∈ ss, rch 0 m (mk t) = decide (m = mk t) := fun t h => by
    have := (allS_at (ht t h) n6).2.1
    exact beq_iff_eq.mp (List.all_eq_true.mp (List.all_eq_true.mp rch_zero m (List.mem_range.mpr (by omega))) (mk t) (List.mem_range.mpr (by omega)))
  constructor
  · rintro ⟨t, h, e⟩
    rw [z t h, decide_eq_true_eq] at e
    rw [e, (allS_at (ht t h) n6).1]
    exact h
  · intro h
    exact ⟨bits m, h, by rw [z _ h, (bits_in n6 hm).1, decide_eq_true rfl]⟩
theorem ndd_end {n : Nat} {ss : List (List Nat)} {s : List Nat} (n6 : n ≤ 6) (hs : s ∈ allS n) (ht : ∀ t ∈ ss, t ∈ allS n) : ndd ss n (mk s) = (decide (s = []) || ss.any (subL s)) := by
  have sa := allS_at hs n6
  unfold ndd
  congr 1
  · exact decide_eq_decide.mpr ⟨fun z => by have := sa.1; rw [z, show bits 0 = [] by decide] at this; exact this.symm, fun z => by rw [z]; rfl⟩
  · rw [Bool.eq_iff_iff, List.any_eq_true, List.any_eq_true]
    have z : ∀ t ∈ ss, rch n (mk s) (mk t) = subL s t := fun t h => by
      have ta := (allS_at (ht t h) n6).2.1
      unfold rch
      rw [sub_of n6 hs (ht t h), decide_eq_true (show mk t - mk s < 2 ^ n by omega), Bool.and_true]
    exact ⟨fun ⟨t, h, e⟩ => ⟨t, h, by rw [← z t h]; exact e⟩, fun ⟨t, h, e⟩ => ⟨t, h, by rw [z t h]; exact e⟩⟩
theorem bit_le {m k : Nat} (h : bit m k = true) : 2 ^ k ≤ m := by
  unfold bit at h
  have h := of_decide_eq_true h
  rcases Nat.lt_or_ge m (2 ^ k) with z | z
  · rw [Nat.div_eq_of_lt z] at h
    cases h
  · exact z
theorem bit_low : ((List.range 6).all fun k => (List.range 64).all fun m => !bit m k || (!bit (m - 2 ^ k) k)) = true := by decide +kernel
theorem bit_off {m k : Nat} (hk : k < 6) (hm : m < 64) (h : bit m k = true) : bit (m - 2 ^ k) k = false := by
  have z := List.all_eq_true.mp (List.all_eq_true.mp bit_low k (List.mem_range.mpr hk)) m (List.mem_range.mpr hm)
  rw [h, Bool.not_true, Bool.false_or, Bool.not_eq_true'] at z
  exact z
theorem first_of {α : Type} {p : α → Bool} {s : α} : ∀ {l r : List α}, l.filter p = s :: r → ∃ i, l[i]? = some s ∧ p s = true ∧ ∀ t ∈ l.take i, p t = false
  | [], _, h => by cases h
  | x :: l, r, h => by
    by_cases z : p x = true
    · rw [List.filter_cons_of_pos z] at h
      injection h with h1 h2
      subst h1
      exact ⟨0, rfl, z, fun t m => by cases m⟩
    · rw [List.filter_cons_of_neg z] at h
      obtain ⟨i, h1, h2, h3⟩ := first_of h
      refine ⟨i + 1, h1, h2, fun t m => ?_⟩
      rcases List.mem_cons.mp m with rfl | m
      · exact Bool.eq_false_iff.mpr z
      · exact h3 t m
theorem asc_mem {n : Nat} {w : Wv} (n6 : n ≤ 6) (a : ascW n w = true) : numsW w ∈ allS n := by
  cases w with
  | lst us =>
    have a : ascF 0 n us = true := a
    obtain ⟨_, h2, h3⟩ := ascF_at (by decide) a
    exact asc_in n6 h2 fun g hg => by have := h3 g hg; omega
  | tup us =>
    have a : ascF 0 n us = true := a
    obtain ⟨_, h2, h3⟩ := ascF_at (by decide) a
    exact asc_in n6 h2 fun g hg => by have := h3 g hg; omega
  | _ => cases a
section
variable {P : Program} {w : World} {K : PySem.W.Frag} {mg : Str → Option Value} {base : Heap} {a : Ad}
/-! ### _law_missing -/
def spMissing (C : Addr) : Sp := fun vs H Q _ => ∃ (p : Addr) (n : Nat) (l : Bool) (xs : List V) (ws : List Wv), vs = [.ref p, .int n] ∧ H p = some (sq l xs) ∧ IsWs C H xs ws ∧ 1 ≤ n ∧ n ≤ 6 ∧ (∀ w ∈ ws, ascW n w = true) ∧
  ((∀ s ∈ allS n, missB (ws.map numsW) s = false) → ∀ H', Same H H' → Q .non H') ∧
  ∀ i s, (allS n)[i]? = some s → missB (ws.map numsW) s = true → (∀ t ∈ (allS n).take i, missB (ws.map numsW) t = false) → ∀ q H', Same H H' → H' q = some (.tup (iv s)) → Q (.ref q) H'
theorem sc_law_missing : FnScope ["sets", "size", "mask", "there", "things", "need", "thing", "gone"] ["sets", "size"] (defScope s_law_missing) := ⟨rfl, rfl, rfl, by decide +kernel, rfl, by decide +kernel, by decide +kernel⟩
theorem ok_law_missing (T : Txt K mg a) : FnOk P w K mg base CX0 4 a.a_law_missing a.d_law_missing ["sets", "size"] (spMissing a.C_Frac) := by
  refine T.fn_law_missing.ok sc_law_missing (fun vs H Q E h => ?_) (fun cdv A outer s H vs Q E hr h => ?_)
  · obtain ⟨p, n, l, xs, ws, rfl, _⟩ := h
    rfl
  · obtain ⟨p, n, l, xs, ws, rfl, hp, hx, n1, n6, ok, k1, k2⟩ := h
    refine ⟨_, (pss_cons (ps_set (i := 3) sc_law_missing.nd rfl (Or.inr rfl) (pe_lc (own := [("mask", 2)]) (by rfl) sc_law_missing.nd (pi_range1 (by rfl) T.no_range (pa_cons (pe_op op_shl pe_int (pv 1)) pa_nil)) (blkOk_by (own := [("mask", 2)]) (N := ["sets", "size", "mask", "there", "things", "need", "thing", "gone"]) (sc := defScope s_law_missing) (by decide +kernel)) (fun _ _ _ _ _ => pg_name (i := 2) sc_law_missing.nd rfl (Or.inl rfl)) (fun _ _ _ _ _ => pts_nil) (fun _ _ _ _ _ => pe_bl)))
      (pss_cons (ps_for PassesOwn.never rfl (pi_told K (pv 0)) (pg_name (i := 4) sc_law_missing.nd rfl (Or.inl rfl))
        (pss_one (ps_asg pe_bl (pg_sub (pv 3) (pe_call (ok_law_mask T) (hr.mono (by decide)) (by rfl) T.mg_law_mask T.fn_law_mask.kp T.b_law_mask .nil pass0 (pa_cons (pv 4) pa_nil)) set_list))))
      (pss_cons (ps_set (i := 5) sc_law_missing.nd rfl (Or.inr rfl) (pe_callTy call_list_of (by rfl) T.no_list (by decide +kernel) (pa_cons (pv 3) pa_nil)))
      (pss_cons (ps_asg pe_bl (pg_sub (pv 5) pe_int set_list))
      (pss_cons (ps_for PassesOwn.never rfl (pi_range1 (by rfl) T.no_range (pa_cons (pv 1) pa_nil)) (pg_name (i := 6) sc_law_missing.nd rfl (Or.inl rfl))
        (pss_one (ps_for PassesOwn.never rfl (pi_range1 (by rfl) T.no_range (pa_cons (pe_op op_shl pe_int (pv 1)) pa_nil)) (pg_name (i := 2) sc_law_missing.nd rfl (Or.inl rfl))
          (pss_one (ps_if (PW.pt (pw_and (pt_cmpR op_eq (pe_op op_and (pe_op op_shr (pv 2) (pv 6)) pe_int) pe_int (nomark _)) (pw_and1 (pt_val (pe_ix Rd.ixH (pv 5) (pv 2) (fun _ _ => rfl)))))) (pss_one (ps_asg pe_bl (pg_sub (pv 5) (pe_op op_sub (pv 2) (pe_op op_shl pe_int (pv 6))) set_list))) pss_nil)))))
      (pss_cons (ps_set (i := 7) sc_law_missing.nd rfl (Or.inl rfl) (pe_call (ok_law_ordered T) (hr.mono (by decide)) (by rfl) T.mg_law_ordered T.fn_law_ordered.kp T.b_law_ordered .nil pass0 (pa_cons (pe_lc (own := [("mask", 2)]) (by rfl) sc_law_missing.nd (pi_range1 (by rfl) T.no_range (pa_cons (pe_op op_shl pe_int (pv 1)) pa_nil)) (blkOk_by (own := [("mask", 2)]) (N := ["sets", "size", "mask", "there", "things", "need", "thing", "gone"]) (sc := defScope s_law_missing) (by decide +kernel)) (fun _ _ _ _ _ => pg_name (i := 2) sc_law_missing.nd rfl (Or.inl rfl)) (fun _ _ _ _ _ => pts_nil) (fun _ _ _ _ _ => (pe_and (pe_ix Rd.ixH (pv 5) (pv 2) (fun _ _ => rfl)) (pe_one (pe_not (pe_ix Rd.ixH (pv 3) (pv 2) (fun _ _ => rfl))))))) pa_nil)))
      (pss_cons (ps_if (pt_cmpR op_eq (pe_callB (lenK K) (by rfl) T.no_len PySem.boot_len (pa_cons (pv 7) pa_nil)) pe_int (nomark _)) (pss_one (ps_ret pe_non)) pss_nil)
      (pss_one (ps_ret (pe_ix Rd.ixH (pv 7) pe_int (fun _ _ => rfl))))))))))), ?_⟩
    show (_ : TS) _ [some (V.ref p), some (V.int n), none, none, none, none, none, none] H
    have p64 := pow64 n6
    have pp := Nat.pow_pos (n := n) (show 0 < 2 by decide)
    obtain ⟨ss, hss⟩ : ∃ ss, ss = ws.map numsW := ⟨_, rfl⟩
    have mem : ∀ t ∈ ss, t ∈ allS n := fun t ht => by
      rw [hss] at ht
      obtain ⟨w', hw, rfl⟩ := List.mem_map.mp ht
      exact asc_mem n6 (ok w' hw)
    have mem64 : ∀ t ∈ ss, mk t < 64 := fun t ht => by
      have := (allS_at (mem t ht) n6).2.1
      omega
    rw [← hss] at k1 k2
    refine cut (fun σ H1 => ∃ D, σ = [some (V.ref p), some (V.int n), none, some (V.ref D), none, none, none, none] ∧ Same H H1 ∧ H D = none ∧ H1 D = some (.lst (((List.range (2 ^ n)).map fun _ => false).map V.bl))) (fun R hR => ?_) (fun σ H1 h => ?_)
    · walk_at "rd"
      refine ⟨cpw (by omega), (pbd n6).1, (pbd n6).2.1, ?_⟩
      rw [(pbd n6).2.2.1]
      refine Rd.lcl_rng (fun D i H5 => H D = none ∧ Same H H5 ∧ H5 D = some (.lst (((List.range i).map fun _ => false).map V.bl))) (fun D hD => ⟨hD, same_upd hD, upd_same⟩) (fun D i H5 hi ⟨n5, e5, a5⟩ => ?_) (fun D H5 _ ⟨n5, e5, a5⟩ => hR _ _ ⟨D, rfl, e5, n5, a5⟩)
      walk_at "rd"
      refine ⟨_, a5, small (by rw [List.length_map, List.length_map, List.length_range]; omega), n5, fun b o hb => (upd_ne (ne_of_none hb n5)).trans (e5 _ _ hb), ?_⟩
      rw [List.range_succ, List.map_append, List.map_append]
      rfl
    obtain ⟨D, rfl, e1, D0, hD⟩ := h
    refine cut (fun σ H2 => ∃ o4, σ = [some (V.ref p), some (V.int n), none, some (V.ref D), o4, none, none, none] ∧ Same H H2 ∧ H2 D = some (.lst ((SOf n ss).map V.bl))) (fun R hR => ?_) (fun σ H2 h => ?_)
    · walk_at "rd"
      have hp1 := e1 _ _ hp
      have hx1 := hx.same e1
      have xl := hx.len
      have pD : p ≠ D := fun z => by rw [z, D0] at hp; cases hp
      refine ⟨l, xs, hp1, loop_goes goes_seq (fun σ H' => ∃ o4, σ = [some (V.ref p), some (V.int n), none, some (V.ref D), o4, none, none, none] ∧ Same H H' ∧ H' D = some (.lst ((SOf n ss).map V.bl)))
        (fun i σ H' => ∃ o4, σ = [some (V.ref p), some (V.int n), none, some (V.ref D), o4, none, none, none] ∧ Same H H' ∧ H' D = some (.lst ((SOf n ((ws.take i).map numsW)).map V.bl))) ⟨none, rfl, e1, hD⟩ (fun i σ H' _ ⟨_, _, e, _⟩ => e _ _ hp) ?_
        (fun σ H' ⟨o4, q1, q2, q3⟩ => ⟨o4, q1, q2, by rw [hss]; rw [xl, List.take_length] at q3; exact q3⟩) (fun σ H' ⟨o4, q1, q2, q3⟩ => hR _ _ ⟨o4, q1, q2, q3⟩)⟩
      rintro bk hbk i x σ H3 H3' hi ⟨o4, rfl, e3, hD3⟩ ⟨rfl, hxi⟩
      obtain ⟨w', hw', xw⟩ := (hx.same e3).at hxi
      have aw := ok w' (List.mem_of_getElem? hw')
      obtain ⟨q, l2, rfl, hq⟩ := asc_seq xw aw
      have sm := asc_mem n6 aw
      have sa := allS_at sm n6
      walk_at "rd"
      refine ⟨q, l2, numsW w', rfl, hq, Nat.le_trans sa.2.2.2.1 n6, fun g hg => by have := sa.2.2.1 g hg; omega, fun H5 e5 => ⟨_, _, rfl, e5 _ _ hD3, mk (numsW w'), ixN_of ?_, fun b o hb => (upd_ne (ne_of_none hb D0)).trans (e5 _ _ (e3 _ _ hb)), ?_⟩⟩
      · unfold SOf
        rw [List.length_map, List.length_map, List.length_range]
        exact sa.2.1
      · rw [← List.map_set]
        congr 1
        refine in_ext (by unfold SOf; rw [List.length_set, List.length_map, List.length_map]) fun m hm => ?_
        have hm : m < 2 ^ n := by unfold SOf at hm; rw [List.length_set, List.length_map, List.length_range] at hm; exact hm
        rw [in_set (by unfold SOf; rw [List.length_map, List.length_range]; exact sa.2.1)]
        unfold SOf
        rw [in_range, in_range, decide_eq_true hm, Bool.true_and, Bool.true_and, List.take_add_one, hw', List.map_append]
        by_cases y : m = mk (numsW w')
        · rw [if_pos y, y, sa.1]
          exact (List.contains_iff_mem.mpr (List.mem_append_right _ (List.mem_singleton.mpr rfl))).symm
        · rw [if_neg y, Bool.eq_iff_iff, List.contains_iff_mem, List.contains_iff_mem, List.mem_append]
          refine ⟨.inl, fun h => h.elim id fun h => ?_⟩
          have : bits m = numsW w' := List.mem_singleton.mp h
          exact absurd (by rw [← this, (bits_in n6 hm).1]) y
    obtain ⟨o4, rfl, e2, hD2⟩ := h
    refine cut (fun σ H3 => ∃ N, σ = [some (V.ref p), some (V.int n), none, some (V.ref D), o4, some (V.ref N), none, none] ∧ Same H H3 ∧ H3 D = some (.lst ((SOf n ss).map V.bl)) ∧ H N = none ∧ N ≠ D ∧ H3 N = some (.lst ((SOf n ss).map V.bl))) (fun R hR => ?_) (fun σ H3 h => ?_)
    · walk_at "rd"
      exact ⟨_, .inl (SqL.of hD2), fun N hN => hR _ _ ⟨N, rfl, e2.trans (same_upd hN), same_upd hN _ _ hD2, e2.free hN, (fun z => by rw [z, hD2] at hN; cases hN), upd_same⟩⟩
    obtain ⟨N, rfl, e3, hD3, N0, ND, hN3⟩ := h
    refine cut (fun σ H4 => ∃ S', σ = [some (V.ref p), some (V.int n), none, some (V.ref D), o4, some (V.ref N), none, none] ∧ Same H H4 ∧ H4 D = some (.lst ((SOf n ss).map V.bl)) ∧ H4 N = some (.lst (S'.map V.bl)) ∧ S'.length = 2 ^ n ∧ ∀ m, m < 2 ^ n → In S' m = ndd ss 0 m) (fun R hR => ?_) (fun σ H4 h => ?_)
    · walk_at "rd"
      have Sl : (SOf n ss).length = 2 ^ n := by unfold SOf; rw [List.length_map, List.length_range]
      refine ⟨_, hN3, 0, ixN_of (by rw [List.length_map, Sl]; exact pp), ?_⟩
      rw [← List.map_set]
      refine hR _ _ ⟨(SOf n ss).set 0 true, rfl, fun b o hb => (upd_ne (ne_of_none hb N0)).trans (e3 _ _ hb), (upd_ne (Ne.symm ND)).trans hD3, upd_same, by rw [List.length_set, Sl], fun m hm => ?_⟩
      rw [in_set (by rw [Sl]; exact pp), ndd_zero n6 hm mem]
      by_cases y : m = 0
      · rw [if_pos y, decide_eq_true y]
        rfl
      · rw [if_neg y, decide_eq_false y, Bool.false_or]
        unfold SOf
        rw [in_range, decide_eq_true hm, Bool.true_and]
    obtain ⟨S0, rfl, e4, hD4, hN4, Sl0, Sm0⟩ := h
    refine cut (fun σ H5 => ∃ o2 o6 S', σ = [some (V.ref p), some (V.int n), o2, some (V.ref D), o4, some (V.ref N), o6, none] ∧ Same H H5 ∧ H5 D = some (.lst ((SOf n ss).map V.bl)) ∧ H5 N = some (.lst (S'.map V.bl)) ∧ S'.length = 2 ^ n ∧ ∀ m, m < 2 ^ n → In S' m = ndd ss n m) (fun R hR => ?_) (fun σ H5 h => ?_)
    · walk_at "rd"
      rw [Int.toNat_natCast]
      refine ⟨by omega, by omega, Rd.loop_rngC (fun σ H5 => ∃ o2 o6 S', σ = [some (V.ref p), some (V.int n), o2, some (V.ref D), o4, some (V.ref N), o6, none] ∧ Same H H5 ∧ H5 D = some (.lst ((SOf n ss).map V.bl)) ∧ H5 N = some (.lst (S'.map V.bl)) ∧ S'.length = 2 ^ n ∧ ∀ m, m < 2 ^ n → In S' m = ndd ss n m)
        (fun k σ H5 => ∃ o2 o6 S', σ = [some (V.ref p), some (V.int n), o2, some (V.ref D), o4, some (V.ref N), o6, none] ∧ Same H H5 ∧ H5 D = some (.lst ((SOf n ss).map V.bl)) ∧ H5 N = some (.lst (S'.map V.bl)) ∧ S'.length = 2 ^ n ∧ ∀ m, m < 2 ^ n → In S' m = ndd ss k m)
        ⟨none, none, S0, rfl, e4, hD4, hN4, Sl0, Sm0⟩ ?_ (fun _ _ z => z) (fun σ H5 z => hR _ _ z)⟩
      rintro bk hbk k σ H5 hk ⟨o2, o6, Sk, rfl, e5, hD5, hN5, Slk, Smk⟩
      have k6 : k < 6 := by omega
      have kp := Nat.pow_pos (n := k) (show 0 < 2 by decide)
      walk_at "rd"
      rw [Int.zero_add]
      refine ⟨cpw (by omega), (pbd n6).1, (pbd n6).2.1, ?_⟩
      rw [(pbd n6).2.2.1]
      refine Rd.loop_rngC (fun σ H6 => ∃ o2 S', σ = [some (V.ref p), some (V.int n), o2, some (V.ref D), o4, some (V.ref N), some (V.int k), none] ∧ Same H H6 ∧ H6 D = some (.lst ((SOf n ss).map V.bl)) ∧ H6 N = some (.lst (S'.map V.bl)) ∧ S'.length = 2 ^ n ∧ ∀ m, m < 2 ^ n → In S' m = ndd ss (k + 1) m)
        (fun i σ H6 => ∃ o2 S', σ = [some (V.ref p), some (V.int n), o2, some (V.ref D), o4, some (V.ref N), some (V.int k), none] ∧ Same H H6 ∧ H6 D = some (.lst ((SOf n ss).map V.bl)) ∧ H6 N = some (.lst (S'.map V.bl)) ∧ S'.length = 2 ^ n ∧ ∀ m, m < 2 ^ n → In S' m = (ndd ss k m || (decide (m + 2 ^ k < i) && (!bit m k && ndd ss k (m + 2 ^ k)))))
        ⟨o2, Sk, rfl, e5, hD5, hN5, Slk, fun m hm => by rw [Smk m hm, decide_eq_false (Nat.not_lt_zero _), Bool.false_and, Bool.or_false]⟩ ?_ (fun σ H6 ⟨o2, S', q1, q2, q3, q4, q5, q6⟩ => ⟨o2, S', q1, q2, q3, q4, q5, fun m hm => ?_⟩) ?_
      · rintro bk2 hbk2 i σ H6 hi ⟨o2, S', rfl, e6, hD6, hN6, Sl', Sm'⟩
        walk_at "rd"
        rw [Int.zero_add]
        have stay : (bit i k = true → ndd ss k i = true → False) → ∀ m, m < 2 ^ n → In S' m = (ndd ss k m || (decide (m + 2 ^ k < i + 1) && (!bit m k && ndd ss k (m + 2 ^ k)))) := fun no m hm => by
          rw [Sm' m hm]
          by_cases y : m + 2 ^ k = i
          · rw [decide_eq_false (show ¬ m + 2 ^ k < i by omega), Bool.false_and, Bool.or_false]
            have : (!bit m k && ndd ss k (m + 2 ^ k)) = false := by
              cases z1 : bit m k with
              | true => rfl
              | false =>
                cases z2 : ndd ss k (m + 2 ^ k) with
                | false => rfl
                | true =>
                  exfalso
                  refine no ?_ (y ▸ z2)
                  rw [← y]
                  unfold bit at z1 ⊢
                  have z1 := of_decide_eq_false z1
                  refine decide_eq_true ?_
                  rw [Nat.add_div_right _ kp]
                  omega
            rw [this, Bool.and_false, Bool.or_false]
          · by_cases y2 : m + 2 ^ k < i
            · rw [decide_eq_true y2, decide_eq_true (show m + 2 ^ k < i + 1 by omega)]
            · rw [decide_eq_false y2, decide_eq_false (show ¬ m + 2 ^ k < i + 1 by omega)]
        refine ⟨by omega, ite2 (fun h1 => ?_) (fun h1 => ⟨e6, hD6, _, hN6, Sl', stay fun z _ => h1 ((bit_and i k).mpr z)⟩)⟩
        have h1 := (bit_and i k).mp h1
        have il := bit_le h1
        have ri : In S' i = ndd ss k i := by
          rw [Sm' i hi, h1]
          simp
        refine ⟨_, hN6, _, in_bool (by rw [Sl']; exact hi), _, rfl, ite2 (fun h2 => ?_) (fun h2 => ⟨e6, hD6, _, hN6, Sl', stay fun _ z => h2 (ri.trans z)⟩)⟩
        rw [ri] at h2
        refine ⟨cpw (by omega), _, hN6, i - 2 ^ k, ?_, fun b o hb => (upd_ne (ne_of_none hb N0)).trans (e6 _ _ hb), (upd_ne (Ne.symm ND)).trans hD6, ?_⟩
        · rw [pow_cast, show (i : Int) - ((2 ^ k : Nat) : Int) = ((i - 2 ^ k : Nat) : Int) by omega]
          exact ixN_of (by rw [List.length_map, Sl']; omega)
        · rw [← List.map_set]
          refine ⟨_, rfl, by rw [List.length_set, Sl'], fun m hm => ?_⟩
          rw [in_set (by rw [Sl']; omega)]
          by_cases y : m = i - 2 ^ k
          · rw [if_pos y, show m + 2 ^ k = i by omega, h2, decide_eq_true (show i < i + 1 by omega), y, bit_off k6 (by omega) h1]
            simp
          · rw [if_neg y, Sm' m hm]
            by_cases y2 : m + 2 ^ k < i
            · rw [decide_eq_true y2, decide_eq_true (show m + 2 ^ k < i + 1 by omega)]
            · rw [decide_eq_false y2, decide_eq_false (show ¬ m + 2 ^ k < i + 1 by omega)]
      · rw [q6 m hm, ndd_step k6 (by omega) mem64]
        by_cases y : m + 2 ^ k < 2 ^ n
        · rw [decide_eq_true y, Bool.true_and]
        · rw [decide_eq_false y, Bool.false_and, Bool.or_false]
          have : ndd ss k (m + 2 ^ k) = false := by
            unfold ndd
            rw [decide_eq_false (show ¬ m + 2 ^ k = 0 by omega), Bool.false_or, List.any_eq_false]
            intro t ht z
            unfold rch at z
            rw [Bool.and_eq_true, decide_eq_true_eq] at z
            have := sub_le z.1
            have := (allS_at (mem t ht) n6).2.1
            omega
          rw [this, Bool.and_false, Bool.or_false]
      · rintro σ H6 ⟨o2, S', rfl, e6, hD6, hN6, Sl', Sm'⟩
        exact ⟨o2, some (V.int k), rfl, e6, hD6, S', hN6, Sl', Sm'⟩
    obtain ⟨o2, o6, S5, rfl, e5, hD5, hN5, Sl5, Sm5⟩ := h
    walk_at "rd"
    refine ⟨cpw (by omega), (pbd n6).1, (pbd n6).2.1, ?_⟩
    rw [(pbd n6).2.2.1]
    refine Rd.lcl_rng (fun D2 i H6 => H5 D2 = none ∧ Same H5 H6 ∧ H6 D2 = some (.lst (((List.range i).map fun m => ndd ss n m && !In (SOf n ss) m).map V.bl))) (fun D2 hD => ⟨hD, same_upd hD, upd_same⟩) (fun D2 i H6 hi ⟨n5, e6, a6⟩ => ?_) (fun D2 H6 _ ⟨n5, e6, a6⟩ => ?_)
    · walk_at "rd"
      rw [Int.zero_add]
      have h6 := e5.trans e6
      have nx : ∀ c : Bool, c = (ndd ss n i && !In (SOf n ss) i) → ∃ acc, H6 D2 = some (.lst acc) ∧ acc.length < sizeLine ∧ H5 D2 = none ∧ Same H5 (upd H6 D2 (.lst (acc ++ [V.bl c]))) ∧ acc ++ [V.bl c] = ((List.range (i + 1)).map fun m => ndd ss n m && !In (SOf n ss) m).map V.bl := fun c ec =>
        ⟨_, a6, small (by rw [List.length_map, List.length_map, List.length_range]; omega), n5, fun b o hb => (upd_ne (ne_of_none hb n5)).trans (e6 _ _ hb), by rw [List.range_succ, List.map_append, List.map_append, ec]; rfl⟩
      have Sl : (SOf n ss).length = 2 ^ n := by unfold SOf; rw [List.length_map, List.length_range]
      refine ⟨_, e6 _ _ hN5, _, in_bool (by rw [Sl5]; exact hi), _, rfl, ite2 (fun h1 => ⟨_, e6 _ _ hD5, _, in_bool (by rw [Sl]; exact hi), _, rfl, nx _ ?_⟩) (fun h1 => nx _ ?_)⟩
      · rw [← Sm5 i hi, h1, Bool.true_and]
      · rw [← Sm5 i hi, Bool.eq_false_iff.mpr h1, Bool.false_and]
    · have e06 := e5.trans e6
      have gl : famL n ((List.range (2 ^ n)).map fun m => ndd ss n m && !In (SOf n ss) m) = (allS n).filter (missB ss) := List.filter_congr fun s hs => by
        rw [in_range, decide_eq_true (allS_at hs n6).2.1, Bool.true_and, ndd_end n6 hs mem, sof_at n6 hs, Bool.and_comm]
        rfl
      refine ⟨D2, n, _, rfl, a6, ⟨n6, by rw [List.length_map, List.length_range]⟩, fun r us H7 r0 e7 a7 tu => ⟨r, rfl, _, .inl (SqL.of a7), ?_⟩⟩
      rw [gl] at tu
      have ul := tu.len
      have e07 := e06.trans e7
      cases hf : (allS n).filter (missB ss) with
      | nil =>
        rw [hf] at ul
        rw [if_pos (by rw [ul]; rfl)]
        exact k1 (fun s hs => by
          cases z : missB ss s with
          | false => rfl
          | true =>
            have := List.mem_filter.mpr ⟨hs, z⟩
            rw [hf] at this
            cases this) _ e07
      | cons s0 rest =>
        rw [hf] at ul tu
        rw [if_neg (by rw [ul, List.length_cons]; omega)]
        obtain ⟨q, uq, hq⟩ := tu.get (i := 0) rfl
        obtain ⟨i, f1, f2, f3⟩ := first_of hf
        exact ⟨r, rfl, _, a7, _, atI_nat (j := 0) uq, k2 i s0 f1 f2 f3 q _ e07 hq⟩
end

end K19
namespace K19
open PySem PySem.Spec PyProof.Rows L2 Own OwnSeq OwnSet OwnComb OwnSort OwnHot OwnExN OwnProj
local macro_rules | `(tactic| walk_at "rd") => `(tactic| simp only [tSeq, tAsg, tOp, tUn, tVar, gName, gSub, rIxL, rIxT, rSetL, tC, rI0, rI, rU, rEq, rNe, tCons, tNil, tCB, tLst, tTup, tIfS, tAnd, tOr, tNot, tAndV, tOrV, tNotV, tTest, tB, tIf, tRet, tDrop, tNext, tBreak, tCont, tCall, tCallS, L2.WE, tMakeS, rIsS, rIsB, tChain, gSeq, gRest, gCons, gNil, tFor_seq, tFor_enumS, tLc_seq, tLc_enumS, rAny, rAll, L2.tMeth, StX.tStar, rIn, tLstRg, tRg1, tRg2, rSetI, rSortedSet, rInDT, rInD, rNotInD, rEqD, rNeD, iComb, tFld, tMake, tMkO, sFld, tOst, tNever, tBits, clv, isB,
  Rd.tFor_rng1, Rd.tFor_rng2, Rd.tFor_list, Rd.tFor_tup, Rd.tLc_list, Rd.tLc_tup, Rd.tLc_rng1, Rd.LcTurn, tYes, wipe, Rd.rLenL, Rd.rLenT, Rd.rIntI, Rd.rIxH, rIxHT,  HO.tup.injEq, Rd.at0, Rd.at1, Rd.at2, Rd.at3, Rd.ixN40, Rd.ixN41, Rd.ixN42, Rd.ixN43, Rd.scal_ii, cxOf,
  List.length_cons, List.length_nil, List.length_map, List.map_cons, List.map_nil, upd_same, decide_eq_true_eq, decide_true, decide_false, if_true, if_false, Bool.false_eq_true, Bool.not_true, Bool.not_false, HO.lst.injEq, HO.ins.injEq, List.set_cons_zero, List.set_cons_succ, List.getElem?_cons_zero, List.getElem?_cons_succ, List.append_nil, List.nil_append, List.cons_append, Option.some.injEq, V.ref.injEq, V.int.injEq, V.bl.injEq, List.cons.injEq, exists_eq_left', exists_and_left, exists_eq_left, true_and, and_true, and_self, and_assoc, implies_true, reduceCtorEq, Nat.reduceAdd])

section
variable {P : Program} {w : World} {K : PySem.W.Frag} {mg : Str → Option Value} {base : Heap} {a : Ad}
/-! ### _law_missing, an exception being handled -/
theorem okH_law_missing (T : Txt K mg a) : L2H.FnH P w K mg base CX0 4 a.a_law_missing a.d_law_missing ["sets", "size"] (spMissing a.C_Frac) := by
  refine okH T.fn_law_missing sc_law_missing (fun vs H Q E h => ?_) (fun cdv A outer s H vs Q E hp0 hot hr h => ?_)
  · obtain ⟨p, n, l, xs, ws, rfl, _⟩ := h
    rfl
  · obtain ⟨p, n, l, xs, ws, rfl, hp, hx, n1, n6, ok, k1, k2⟩ := h
    refine ⟨_, (pss_cons (ps_set (i := 3) sc_law_missing.nd rfl (Or.inr rfl) (pe_lcH ⟨hp0, hot, List.mem_singleton.mpr rfl⟩ (own := [("mask", 2)]) sc_law_missing.nd (L2H.pi_range1H (by rfl) T.no_range (pa_cons (pe_op op_shl pe_int (pv 1)) pa_nil)) (blkOk_by (own := [("mask", 2)]) (N := ["sets", "size", "mask", "there", "things", "need", "thing", "gone"]) (sc := defScope s_law_missing) (by decide +kernel)) (fun _ _ _ _ _ => pg_name (i := 2) sc_law_missing.nd rfl (Or.inl rfl)) (fun _ _ _ _ _ => pe_bl)))
      (pss_cons (L2H.ps_forH (passes_of rfl) ⟨hp0, hot, List.mem_singleton.mpr rfl⟩ (pi_seqH K (pv 0)) (pg_name (i := 4) sc_law_missing.nd rfl (Or.inl rfl))
        (pss_one (ps_asg pe_bl (pg_sub (pv 3) (L2H.pe_callH (okH_law_mask T) (hr.mono (by decide)) ⟨hp0, hot, List.mem_singleton.mpr rfl⟩ (by rfl) T.mg_law_mask T.fn_law_mask.kp T.b_law_mask (fun _ => passAt0) (pa_cons (pv 4) pa_nil)) set_list))))
      (pss_cons (ps_set (i := 5) sc_law_missing.nd rfl (Or.inr rfl) (pe_callTy call_list_of (by rfl) T.no_list (by decide +kernel) (pa_cons (pv 3) pa_nil)))
      (pss_cons (ps_asg pe_bl (pg_sub (pv 5) pe_int set_list))
      (pss_cons (L2H.ps_forH (passes_of rfl) ⟨hp0, hot, List.mem_singleton.mpr rfl⟩ (L2H.pi_range1H (by rfl) T.no_range (pa_cons (pv 1) pa_nil)) (pg_name (i := 6) sc_law_missing.nd rfl (Or.inl rfl))
        (pss_one (L2H.ps_forH (passes_of rfl) ⟨hp0, hot, List.mem_singleton.mpr rfl⟩ (L2H.pi_range1H (by rfl) T.no_range (pa_cons (pe_op op_shl pe_int (pv 1)) pa_nil)) (pg_name (i := 2) sc_law_missing.nd rfl (Or.inl rfl))
          (pss_one (ps_if (PW.pt (pw_and (pt_cmpR op_eq (pe_op op_and (pe_op op_shr (pv 2) (pv 6)) pe_int) pe_int (nomark _)) (pw_and1 (pt_val (pe_ix Rd.ixH (pv 5) (pv 2) (fun _ _ => rfl)))))) (pss_one (ps_asg pe_bl (pg_sub (pv 5) (pe_op op_sub (pv 2) (pe_op op_shl pe_int (pv 6))) set_list))) pss_nil)))))
      (pss_cons (ps_set (i := 7) sc_law_missing.nd rfl (Or.inl rfl) (L2H.pe_callH (okH_law_ordered T) (hr.mono (by decide)) ⟨hp0, hot, List.mem_singleton.mpr rfl⟩ (by rfl) T.mg_law_ordered T.fn_law_ordered.kp T.b_law_ordered (fun _ => passAt0) (pa_cons (pe_lcH ⟨hp0, hot, List.mem_singleton.mpr rfl⟩ (own := [("mask", 2)]) sc_law_missing.nd (L2H.pi_range1H (by rfl) T.no_range (pa_cons (pe_op op_shl pe_int (pv 1)) pa_nil)) (blkOk_by (own := [("mask", 2)]) (N := ["sets", "size", "mask", "there", "things", "need", "thing", "gone"]) (sc := defScope s_law_missing) (by decide +kernel)) (fun _ _ _ _ _ => pg_name (i := 2) sc_law_missing.nd rfl (Or.inl rfl)) (fun _ _ _ _ _ => (pe_and (pe_ix Rd.ixH (pv 5) (pv 2) (fun _ _ => rfl)) (pe_one (pe_not (pe_ix Rd.ixH (pv 3) (pv 2) (fun _ _ => rfl))))))) pa_nil)))
      (pss_cons (ps_if (pt_cmpR op_eq (pe_callB (lenK K) (by rfl) T.no_len PySem.boot_len (pa_cons (pv 7) pa_nil)) pe_int (nomark _)) (pss_one (ps_ret pe_non)) pss_nil)
      (pss_one (ps_ret (pe_ix Rd.ixH (pv 7) pe_int (fun _ _ => rfl))))))))))), ?_⟩
    show (_ : TS) _ [some (V.ref p), some (V.int n), none, none, none, none, none, none] H
    have p64 := pow64 n6
    have pp := Nat.pow_pos (n := n) (show 0 < 2 by decide)
    obtain ⟨ss, hss⟩ : ∃ ss, ss = ws.map numsW := ⟨_, rfl⟩
    have mem : ∀ t ∈ ss, t ∈ allS n := fun t ht => by
      rw [hss] at ht
      obtain ⟨w', hw, rfl⟩ := List.mem_map.mp ht
      exact asc_mem n6 (ok w' hw)
    have mem64 : ∀ t ∈ ss, mk t < 64 := fun t ht => by
      have := (allS_at (mem t ht) n6).2.1
      omega
    rw [← hss] at k1 k2
    refine cut (fun σ H1 => ∃ D, σ = [some (V.ref p), some (V.int n), none, some (V.ref D), none, none, none, none] ∧ Same H H1 ∧ H D = none ∧ H1 D = some (.lst (((List.range (2 ^ n)).map fun _ => false).map V.bl))) (fun R hR => ?_) (fun σ H1 h => ?_)
    · walk_at "rd"
      refine ⟨cpw (by omega), (pbd n6).1, (pbd n6).2.1, ?_⟩
      rw [(pbd n6).2.2.1]
      refine Rd.lcl_rng (fun D i H5 => H D = none ∧ Same H H5 ∧ H5 D = some (.lst (((List.range i).map fun _ => false).map V.bl))) (fun D hD => ⟨hD, same_upd hD, upd_same⟩) (fun D i H5 hi ⟨n5, e5, a5⟩ => ?_) (fun D H5 _ ⟨n5, e5, a5⟩ => hR _ _ ⟨D, rfl, e5, n5, a5⟩)
      walk_at "rd"
      refine ⟨_, a5, small (by rw [List.length_map, List.length_map, List.length_range]; omega), n5, fun b o hb => (upd_ne (ne_of_none hb n5)).trans (e5 _ _ hb), ?_⟩
      rw [List.range_succ, List.map_append, List.map_append]
      rfl
    obtain ⟨D, rfl, e1, D0, hD⟩ := h
    refine cut (fun σ H2 => ∃ o4, σ = [some (V.ref p), some (V.int n), none, some (V.ref D), o4, none, none, none] ∧ Same H H2 ∧ H2 D = some (.lst ((SOf n ss).map V.bl))) (fun R hR => ?_) (fun σ H2 h => ?_)
    · walk_at "rd"
      have hp1 := e1 _ _ hp
      have hx1 := hx.same e1
      have xl := hx.len
      have pD : p ≠ D := fun z => by rw [z, D0] at hp; cases hp
      refine ⟨l, xs, hp1, loop_goes goes_seq (fun σ H' => ∃ o4, σ = [some (V.ref p), some (V.int n), none, some (V.ref D), o4, none, none, none] ∧ Same H H' ∧ H' D = some (.lst ((SOf n ss).map V.bl)))
        (fun i σ H' => ∃ o4, σ = [some (V.ref p), some (V.int n), none, some (V.ref D), o4, none, none, none] ∧ Same H H' ∧ H' D = some (.lst ((SOf n ((ws.take i).map numsW)).map V.bl))) ⟨none, rfl, e1, hD⟩ (fun i σ H' _ ⟨_, _, e, _⟩ => e _ _ hp) ?_
        (fun σ H' ⟨o4, q1, q2, q3⟩ => ⟨o4, q1, q2, by rw [hss]; rw [xl, List.take_length] at q3; exact q3⟩) (fun σ H' ⟨o4, q1, q2, q3⟩ => hR _ _ ⟨o4, q1, q2, q3⟩)⟩
      rintro bk hbk i x σ H3 H3' hi ⟨o4, rfl, e3, hD3⟩ ⟨rfl, hxi⟩
      obtain ⟨w', hw', xw⟩ := (hx.same e3).at hxi
      have aw := ok w' (List.mem_of_getElem? hw')
      obtain ⟨q, l2, rfl, hq⟩ := asc_seq xw aw
      have sm := asc_mem n6 aw
      have sa := allS_at sm n6
      walk_at "rd"
      refine ⟨q, l2, numsW w', rfl, hq, Nat.le_trans sa.2.2.2.1 n6, fun g hg => by have := sa.2.2.1 g hg; omega, fun H5 e5 => ⟨_, _, rfl, e5 _ _ hD3, mk (numsW w'), ixN_of ?_, fun b o hb => (upd_ne (ne_of_none hb D0)).trans (e5 _ _ (e3 _ _ hb)), ?_⟩⟩
      · unfold SOf
        rw [List.length_map, List.length_map, List.length_range]
        exact sa.2.1
      · rw [← List.map_set]
        congr 1
        refine in_ext (by unfold SOf; rw [List.length_set, List.length_map, List.length_map]) fun m hm => ?_
        have hm : m < 2 ^ n := by unfold SOf at hm; rw [List.length_set, List.length_map, List.length_range] at hm; exact hm
        rw [in_set (by unfold SOf; rw [List.length_map, List.length_range]; exact sa.2.1)]
        unfold SOf
        rw [in_range, in_range, decide_eq_true hm, Bool.true_and, Bool.true_and, List.take_add_one, hw', List.map_append]
        by_cases y : m = mk (numsW w')
        · rw [if_pos y, y, sa.1]
          exact (List.contains_iff_mem.mpr (List.mem_append_right _ (List.mem_singleton.mpr rfl))).symm
        · rw [if_neg y, Bool.eq_iff_iff, List.contains_iff_mem, List.contains_iff_mem, List.mem_append]
          refine ⟨.inl, fun h => h.elim id fun h => ?_⟩
          have : bits m = numsW w' := List.mem_singleton.mp h
          exact absurd (by rw [← this, (bits_in n6 hm).1]) y
    obtain ⟨o4, rfl, e2, hD2⟩ := h
    refine cut (fun σ H3 => ∃ N, σ = [some (V.ref p), some (V.int n), none, some (V.ref D), o4, some (V.ref N), none, none] ∧ Same H H3 ∧ H3 D = some (.lst ((SOf n ss).map V.bl)) ∧ H N = none ∧ N ≠ D ∧ H3 N = some (.lst ((SOf n ss).map V.bl))) (fun R hR => ?_) (fun σ H3 h => ?_)
    · walk_at "rd"
      exact ⟨_, .inl (SqL.of hD2), fun N hN => hR _ _ ⟨N, rfl, e2.trans (same_upd hN), same_upd hN _ _ hD2, e2.free hN, (fun z => by rw [z, hD2] at hN; cases hN), upd_same⟩⟩
    obtain ⟨N, rfl, e3, hD3, N0, ND, hN3⟩ := h
    refine cut (fun σ H4 => ∃ S', σ = [some (V.ref p), some (V.int n), none, some (V.ref D), o4, some (V.ref N), none, none] ∧ Same H H4 ∧ H4 D = some (.lst ((SOf n ss).map V.bl)) ∧ H4 N = some (.lst (S'.map V.bl)) ∧ S'.length = 2 ^ n ∧ ∀ m, m < 2 ^ n → In S' m = ndd ss 0 m) (fun R hR => ?_) (fun σ H4 h => ?_)
    · walk_at "rd"
      have Sl : (SOf n ss).length = 2 ^ n := by unfold SOf; rw [List.length_map, List.length_range]
      refine ⟨_, hN3, 0, ixN_of (by rw [List.length_map, Sl]; exact pp), ?_⟩
      rw [← List.map_set]
      refine hR _ _ ⟨(SOf n ss).set 0 true, rfl, fun b o hb => (upd_ne (ne_of_none hb N0)).trans (e3 _ _ hb), (upd_ne (Ne.symm ND)).trans hD3, upd_same, by rw [List.length_set, Sl], fun m hm => ?_⟩
      rw [in_set (by rw [Sl]; exact pp), ndd_zero n6 hm mem]
      by_cases y : m = 0
      · rw [if_pos y, decide_eq_true y]
        rfl
      · rw [if_neg y, decide_eq_false y, Bool.false_or]
        unfold SOf
        rw [in_range, decide_eq_true hm, Bool.true_and]
    obtain ⟨S0, rfl, e4, hD4, hN4, Sl0, Sm0⟩ := h
    refine cut (fun σ H5 => ∃ o2 o6 S', σ = [some (V.ref p), some (V.int n), o2, some (V.ref D), o4, some (V.ref N), o6, none] ∧ Same H H5 ∧ H5 D = some (.lst ((SOf n ss).map V.bl)) ∧ H5 N = some (.lst (S'.map V.bl)) ∧ S'.length = 2 ^ n ∧ ∀ m, m < 2 ^ n → In S' m = ndd ss n m) (fun R hR => ?_) (fun σ H5 h => ?_)
    · walk_at "rd"
      rw [Int.toNat_natCast]
      refine ⟨by omega, by omega, Rd.loop_rngC (fun σ H5 => ∃ o2 o6 S', σ = [some (V.ref p), some (V.int n), o2, some (V.ref D), o4, some (V.ref N), o6, none] ∧ Same H H5 ∧ H5 D = some (.lst ((SOf n ss).map V.bl)) ∧ H5 N = some (.lst (S'.map V.bl)) ∧ S'.length = 2 ^ n ∧ ∀ m, m < 2 ^ n → In S' m = ndd ss n m)
        (fun k σ H5 => ∃ o2 o6 S', σ = [some (V.ref p), some (V.int n), o2, some (V.ref D), o4, some (V.ref N), o6, none] ∧ Same H H5 ∧ H5 D = some (.lst ((SOf n ss).map V.bl)) ∧ H5 N = some (.lst (S'.map V.bl)) ∧ S'.length = 2 ^ n ∧ ∀ m, m < 2 ^ n → In S' m = ndd ss k m)
        ⟨none, none, S0, rfl, e4, hD4, hN4, Sl0, Sm0⟩ ?_ (fun _ _ z => z) (fun σ H5 z => hR _ _ z)⟩
      rintro bk hbk k σ H5 hk ⟨o2, o6, Sk, rfl, e5, hD5, hN5, Slk, Smk⟩
      have k6 : k < 6 := by omega
      have kp := Nat.pow_pos (n := k) (show 0 < 2 by decide)
      walk_at "rd"
      rw [Int.zero_add]
      refine ⟨cpw (by omega), (pbd n6).1, (pbd n6).2.1, ?_⟩
      rw [(pbd n6).2.2.1]
      refine Rd.loop_rngC (fun σ H6 => ∃ o2 S', σ = [some (V.ref p), some (V.int n), o2, some (V.ref D), o4, some (V.ref N), some (V.int k), none] ∧ Same H H6 ∧ H6 D = some (.lst ((SOf n ss).map V.bl)) ∧ H6 N = some (.lst (S'.map V.bl)) ∧ S'.length = 2 ^ n ∧ ∀ m, m < 2 ^ n → In S' m = ndd ss (k + 1) m)
        (fun i σ H6 => ∃ o2 S', σ = [some (V.ref p), some (V.int n), o2, some (V.ref D), o4, some (V.ref N), some (V.int k), none] ∧ Same H H6 ∧ H6 D = some (.lst ((SOf n ss).map V.bl)) ∧ H6 N = some (.lst (S'.map V.bl)) ∧ S'.length = 2 ^ n ∧ ∀ m, m < 2 ^ n → In S' m = (ndd ss k m || (decide (m + 2 ^ k < i) && (!bit m k && ndd ss k (m + 2 ^ k)))))
        ⟨o2, Sk, rfl, e5, hD5, hN5, Slk, fun m hm => by rw [Smk m hm, decide_eq_false (Nat.not_lt_zero _), Bool.false_and, Bool.or_false]⟩ ?_ (fun σ H6 ⟨o2, S', q1, q2, q3, q4, q5, q6⟩ => ⟨o2, S', q1, q2, q3, q4, q5, fun m hm => ?_⟩) ?_
      · rintro bk2 hbk2 i σ H6 hi ⟨o2, S', rfl, e6, hD6, hN6, Sl', Sm'⟩
        walk_at "rd"
        rw [Int.zero_add]
        have stay : (bit i k = true → ndd ss k i = true → False) → ∀ m, m < 2 ^ n → In S' m = (ndd ss k m || (decide (m + 2 ^ k < i + 1) && (!bit m k && ndd ss k (m + 2 ^ k)))) := fun no m hm => by
          rw [Sm' m hm]
          by_cases y : m + 2 ^ k = i
          · rw [decide_eq_false (show ¬ m + 2 ^ k < i by omega), Bool.false_and, Bool.or_false]
            have : (!bit m k && ndd ss k (m + 2 ^ k)) = false := by
              cases z1 : bit m k with
              | true => rfl
              | false =>
                cases z2 : ndd ss k (m + 2 ^ k) with
                | false => rfl
                | true =>
                  exfalso
                  refine no ?_ (y ▸ z2)
                  rw [← y]
                  unfold bit at z1 ⊢
                  have z1 := of_decide_eq_false z1
                  refine decide_eq_true ?_
                  rw [Nat.add_div_right _ kp]
                  omega
            rw [this, Bool.and_false, Bool.or_false]
          · by_cases y2 : m + 2 ^ k < i
            · rw [decide_eq_true y2, decide_eq_true (show m + 2 ^ k < i + 1 by omega)]
            · rw [decide_eq_false y2, decide_eq_false (show ¬ m + 2 ^ k < i + 1 by omega)]
        refine ⟨by omega, ite2 (fun h1 => ?_) (fun h1 => ⟨e6, hD6, _, hN6, Sl', stay fun z _ => h1 ((bit_and i k).mpr z)⟩)⟩
        have h1 := (bit_and i k).mp h1
        have il := bit_le h1
        have ri : In S' i = ndd ss k i := by
          rw [Sm' i hi, h1]
          simp
        refine ⟨_, hN6, _, in_bool (by rw [Sl']; exact hi), _, rfl, ite2 (fun h2 => ?_) (fun h2 => ⟨e6, hD6, _, hN6, Sl', stay fun _ z => h2 (ri.trans z)⟩)⟩
        rw [ri] at h2
        refine ⟨cpw (by omega), _, hN6, i - 2 ^ k, ?_, fun b o hb => (upd_ne (ne_of_none hb N0)).trans (e6 _ _ hb), (upd_ne (Ne.symm ND)).trans hD6, ?_⟩
        · rw [pow_cast, show (i : Int) - ((2 ^ k : Nat) : Int) = ((i - 2 ^ k : Nat) : Int) by omega]
          exact ixN_of (by rw [List.length_map, Sl']; omega)
        · rw [← List.map_set]
          refine ⟨_, rfl, by rw [List.length_set, Sl'], fun m hm => ?_⟩
          rw [in_set (by rw [Sl']; omega)]
          by_cases y : m = i - 2 ^ k
          · rw [if_pos y, show m + 2 ^ k = i by omega, h2, decide_eq_true (show i < i + 1 by omega), y, bit_off k6 (by omega) h1]
            simp
          · rw [if_neg y, Sm' m hm]
            by_cases y2 : m + 2 ^ k < i
            · rw [decide_eq_true y2, decide_eq_true (show m + 2 ^ k < i + 1 by omega)]
            · rw [decide_eq_false y2, decide_eq_false (show ¬ m + 2 ^ k < i + 1 by omega)]
      · rw [q6 m hm, ndd_step k6 (by omega) mem64]
        by_cases y : m + 2 ^ k < 2 ^ n
        · rw [decide_eq_true y, Bool.true_and]
        · rw [decide_eq_false y, Bool.false_and, Bool.or_false]
          have : ndd ss k (m + 2 ^ k) = false := by
            unfold ndd
            rw [decide_eq_false (show ¬ m + 2 ^ k = 0 by omega), Bool.false_or, List.any_eq_false]
            intro t ht z
            unfold rch at z
            rw [Bool.and_eq_true, decide_eq_true_eq] at z
            have := sub_le z.1
            have := (allS_at (mem t ht) n6).2.1
            omega
          rw [this, Bool.and_false, Bool.or_false]
      · rintro σ H6 ⟨o2, S', rfl, e6, hD6, hN6, Sl', Sm'⟩
        exact ⟨o2, some (V.int k), rfl, e6, hD6, S', hN6, Sl', Sm'⟩
    obtain ⟨o2, o6, S5, rfl, e5, hD5, hN5, Sl5, Sm5⟩ := h
    walk_at "rd"
    refine ⟨cpw (by omega), (pbd n6).1, (pbd n6).2.1, ?_⟩
    rw [(pbd n6).2.2.1]
    refine Rd.lcl_rng (fun D2 i H6 => H5 D2 = none ∧ Same H5 H6 ∧ H6 D2 = some (.lst (((List.range i).map fun m => ndd ss n m && !In (SOf n ss) m).map V.bl))) (fun D2 hD => ⟨hD, same_upd hD, upd_same⟩) (fun D2 i H6 hi ⟨n5, e6, a6⟩ => ?_) (fun D2 H6 _ ⟨n5, e6, a6⟩ => ?_)
    · walk_at "rd"
      rw [Int.zero_add]
      have h6 := e5.trans e6
      have nx : ∀ c : Bool, c = (ndd ss n i && !In (SOf n ss) i) → ∃ acc, H6 D2 = some (.lst acc) ∧ acc.length < sizeLine ∧ H5 D2 = none ∧ Same H5 (upd H6 D2 (.lst (acc ++ [V.bl c]))) ∧ acc ++ [V.bl c] = ((List.range (i + 1)).map fun m => ndd ss n m && !In (SOf n ss) m).map V.bl := fun c ec =>
        ⟨_, a6, small (by rw [List.length_map, List.length_map, List.length_range]; omega), n5, fun b o hb => (upd_ne (ne_of_none hb n5)).trans (e6 _ _ hb), by rw [List.range_succ, List.map_append, List.map_append, ec]; rfl⟩
      have Sl : (SOf n ss).length = 2 ^ n := by unfold SOf; rw [List.length_map, List.length_range]
      refine ⟨_, e6 _ _ hN5, _, in_bool (by rw [Sl5]; exact hi), _, rfl, ite2 (fun h1 => ⟨_, e6 _ _ hD5, _, in_bool (by rw [Sl]; exact hi), _, rfl, nx _ ?_⟩) (fun h1 => nx _ ?_)⟩
      · rw [← Sm5 i hi, h1, Bool.true_and]
      · rw [← Sm5 i hi, Bool.eq_false_iff.mpr h1, Bool.false_and]
    · have e06 := e5.trans e6
      have gl : famL n ((List.range (2 ^ n)).map fun m => ndd ss n m && !In (SOf n ss) m) = (allS n).filter (missB ss) := List.filter_congr fun s hs => by
        rw [in_range, decide_eq_true (allS_at hs n6).2.1, Bool.true_and, ndd_end n6 hs mem, sof_at n6 hs, Bool.and_comm]
        rfl
      refine ⟨D2, n, _, rfl, a6, ⟨n6, by rw [List.length_map, List.length_range]⟩, fun r us H7 r0 e7 a7 tu => ⟨r, rfl, _, .inl (SqL.of a7), ?_⟩⟩
      rw [gl] at tu
      have ul := tu.len
      have e07 := e06.trans e7
      cases hf : (allS n).filter (missB ss) with
      | nil =>
        rw [hf] at ul
        rw [if_pos (by rw [ul]; rfl)]
        exact k1 (fun s hs => by
          cases z : missB ss s with
          | false => rfl
          | true =>
            have := List.mem_filter.mpr ⟨hs, z⟩
            rw [hf] at this
            cases this) _ e07
      | cons s0 rest =>
        rw [hf] at ul tu
        rw [if_neg (by rw [ul, List.length_cons]; omega)]
        obtain ⟨q, uq, hq⟩ := tu.get (i := 0) rfl
        obtain ⟨i, f1, f2, f3⟩ := first_of hf
        exact ⟨r, rfl, _, a7, _, atI_nat (j := 0) uq, k2 i s0 f1 f2 f3 q _ e07 hq⟩
end

end K19
namespace K19
open PySem PySem.Spec PyProof.Rows L2 Own OwnSeq OwnSet OwnComb OwnSort OwnHot OwnExN OwnProj
local macro_rules | `(tactic| walk_at "rd") => `(tactic| simp only [tSeq, tAsg, tOp, tUn, tVar, gName, gSub, rIxL, rIxT, rSetL, tC, rI0, rI, rU, rEq, rNe, tCons, tNil, tCB, tLst, tTup, tIfS, tAnd, tOr, tNot, tAndV, tOrV, tNotV, tTest, tB, tIf, tRet, tDrop, tNext, tBreak, tCont, tCall, tCallS, L2.WE, tMakeS, rIsS, rIsB, tChain, gSeq, gRest, gCons, gNil, tFor_seq, tFor_enumS, tLc_seq, tLc_enumS, rAny, rAll, L2.tMeth, StX.tStar, rIn, tLstRg, tRg1, tRg2, rSetI, rSortedSet, rInDT, rInD, rNotInD, rEqD, rNeD, iComb, tFld, tMake, tMkO, sFld, tOst, tNever, tBits, clv, isB,
  Rd.tFor_rng1, Rd.tFor_rng2, Rd.tFor_list, Rd.tFor_tup, Rd.tLc_list, Rd.tLc_tup, Rd.tLc_rng1, Rd.LcTurn, tYes, wipe, Rd.rLenL, Rd.rLenT, Rd.rIntI, Rd.rIxH, rIxHT,  HO.tup.injEq, Rd.at0, Rd.at1, Rd.at2, Rd.at3, Rd.ixN40, Rd.ixN41, Rd.ixN42, Rd.ixN43, Rd.scal_ii, cxOf,
  List.length_cons, List.length_nil, List.length_map, List.map_cons, List.map_nil, upd_same, decide_eq_true_eq, decide_true, decide_false, if_true, if_false, Bool.false_eq_true, Bool.not_true, Bool.not_false, HO.lst.injEq, HO.ins.injEq, List.set_cons_zero, List.set_cons_succ, List.getElem?_cons_zero, List.getElem?_cons_succ, List.append_nil, List.nil_append, List.cons_append, Option.some.injEq, V.ref.injEq, V.int.injEq, V.bl.injEq, List.cons.injEq, exists_eq_left', exists_and_left, exists_eq_left, true_and, and_true, and_self, and_assoc, implies_true, reduceCtorEq, Nat.reduceAdd])

/-- the first part that is no set -/
def PlaceOk (n : Nat) (ws : List Wv) (i : Nat) (plc : V) : Prop := (plc = .non ∧ ∀ w ∈ ws.take i, ascW n w = true) ∨ ∃ (j : Nat) (w : Wv), plc = .int j ∧ ws[j]? = some w ∧ ascW n w = false ∧ ∀ u ∈ ws.take j, ascW n u = true
theorem fam_madeX {C D WC IC NC p : Addr} {H : Hp} {vz : V} {wz : Wv} {l : Bool} {xs : List V} {ws : List Wv} {Q : Addr → Hp → Prop} {E : XK} (hz : IsW D H vz wz) (hp : H p = some (sq l xs)) (hx : IsWs D H xs ws) (l2 : ws.length ≤ 200)
    (k1 : ∀ n : Nat, wz = .int n → 1 ≤ n → n ≤ 6 → (∀ w ∈ ws, ascW n w = true) → (∀ s ∈ allS n, missB (ws.map numsW) s = false) → ∀ g H', H g = none → Same H H' → FamV C H' g n (SOf n (ws.map numsW)) → Q g H')
    (k2 : inW 1 6 wz = false → ∀ d H', H d = none → H' d = some (.xd [("many", vz)]) → Same H H' → E (.ref WC) (some d) H')
    (k3 : ∀ (n : Nat) (i : Nat) (w : Wv), wz = .int n → 1 ≤ n → n ≤ 6 → ws[i]? = some w → ascW n w = false → (∀ u ∈ ws.take i, ascW n u = true) → ∀ d H', H d = none → H' d = some (.xd [("at", .int (i : Nat))]) → Same H H' → E (.ref IC) (some d) H')
    (k4 : ∀ (n : Nat) (i : Nat) (s : List Nat), wz = .int n → 1 ≤ n → n ≤ 6 → (∀ w ∈ ws, ascW n w = true) → (allS n)[i]? = some s → missB (ws.map numsW) s = true → (∀ t ∈ (allS n).take i, missB (ws.map numsW) t = false) → ∀ t d H', H d = none → H' d = some (.xd [("missing", .ref t)]) → H' t = some (.tup (iv s)) → Same H H' → E (.ref NC) (some d) H') :
    ∀ x dx, H x = none → H dx = none → dx ≠ x → spFam C D WC IC NC [.ref x, vz, .ref p] (upd (upd H dx (.own x)) x (.ins C dx [])) (fun v H2 => v = .non ∧ Q x H2) E := fun x dx hx0 hdx ne => by
  have s1 : Same H (upd H dx (.own x)) := same_upd hdx
  have s2 : Same (upd H dx (.own x)) (upd (upd H dx (.own x)) x (.ins C dx [])) := same_upd ((upd_ne ne.symm).trans hx0)
  have s12 := s1.trans s2
  refine ⟨x, dx, vz, wz, p, l, xs, ws, rfl, upd_same, hz.same s12, s12 _ _ hp, hx.same s12, l2, fun n em n1 n6 ok nm t ys H3 H4 e3 ht tt e4 => ⟨rfl, ?_⟩, fun z d H' hd ed e => k2 z d H' (s12.free hd) ed (s12.trans e), fun n i w' em n1 n6 hw hf hb d H' hd ed e => k3 n i w' em n1 n6 hw hf hb d H' (s12.free hd) ed (s12.trans e), fun n i s em n1 n6 ok hs hm hb t d H' hd ed ht e => k4 n i s em n1 n6 ok hs hm hb t d H' (s12.free hd) ed ht (s12.trans e)⟩
  have al : ∀ s ∈ ws.map numsW, s ∈ allS n := fun t ht => by
    obtain ⟨w', hw, rfl⟩ := List.mem_map.mp ht
    exact asc_mem n6 (ok w' hw)
  subst e4
  have x3 := e3 _ _ upd_same
  refine k1 n em n1 n6 ok nm x _ hx0 (fun b o hb => (upd_ne (ne_of_none hb hx0)).trans (e3 _ _ (s12 _ _ hb))) ⟨sof_fam n1 n6 al nm, dx, t, ys, upd_same, (upd_ne fun z => by rw [z, x3] at ht; cases ht).trans ht, ?_⟩
  rw [sof_list n6]
  exact Tups.keep (fun z l h => (upd_ne fun e => by rw [e, x3] at h; cases h).trans h) tt
theorem in16 {n : Nat} (n1 : 1 ≤ n) (n6 : n ≤ 6) : inW 1 6 (.int n) = true := by
  show (decide (1 ≤ (n : Int)) && decide ((n : Int) ≤ 6)) = true
  rw [decide_eq_true (by omega), decide_eq_true (by omega)]
  rfl
theorem in16_of {wz : Wv} (h : inW 1 6 wz = true) : ∃ n : Nat, wz = .int n ∧ 1 ≤ n ∧ n ≤ 6 := by
  cases wz with
  | int g =>
    have h : (decide (1 ≤ g) && decide (g ≤ 6)) = true := h
    rw [Bool.and_eq_true, decide_eq_true_eq, decide_eq_true_eq] at h
    exact ⟨g.toNat, by rw [Int.toNat_of_nonneg (by omega)], by omega, by omega⟩
  | _ => cases h
/-- the text of what is passed is not too long -/
theorem made_fit {wz : Wv} {l : Bool} {ws : List Wv} (dz : Dep 3 wz) (l2 : ws.length ≤ 130) (hd : ∀ w ∈ ws, Dep 3 w) : Fit 5 (.lst [wz, seqW l ws]) := by
  have tl : ∀ w ∈ ws, (tx w).length ≤ 30000 := fun w m => tx_len (hd w m)
  have b1 : ws.length * 30000 ≤ 130 * 30000 := Nat.mul_le_mul_right _ l2
  have f : Fit 4 (seqW l ws) := by
    cases l with
    | true => exact .lst 30000 (by omega) (fun w m => (hd w m).fit (by decide)) tl (by omega)
    | false => exact .tup 30000 (by omega) (fun w m => (hd w m).fit (by decide)) tl (by omega)
  have j := (join_fit tl).2
  have t2 : (tx (seqW l ws)).length ≤ 3910000 := by
    cases l with
    | true =>
      show ((Str.ofString "[" ++ Txt.join (Str.ofString ",") (txs ws)) ++ Str.ofString "]").length ≤ _
      rw [len_app, len_app, show (Str.ofString "[").length = 1 by decide +kernel, show (Str.ofString "]").length = 1 by decide +kernel]
      omega
    | false =>
      show ((Str.ofString "(" ++ Txt.join (Str.ofString ",") (txs ws)) ++ Str.ofString ")").length ≤ _
      rw [len_app, len_app, show (Str.ofString "(").length = 1 by decide +kernel, show (Str.ofString ")").length = 1 by decide +kernel]
      omega
  refine .lst 3910000 (by show 2 ≤ 200; decide) (fun w m => ?_) (fun w m => ?_) (by show 2 * 3910000 + 2 ≤ 8000000; decide)
  · rcases List.mem_cons.mp m with rfl | m
    · exact dz.up.fit (by decide)
    · rw [List.mem_singleton.mp m]; exact f
  · rcases List.mem_cons.mp m with rfl | m
    · have : (tx w).length ≤ 30 * 10 ^ 3 := tx_len dz
      omega
    · rw [List.mem_singleton.mp m]; exact t2
section
variable {P : Program} {w : World} {K : PySem.W.Frag} {mg : Str → Option Value} {base : Heap} {a : Ad}
theorem ok_law_text (T : Txt K mg a) : FnOk P w K mg base CX0 6 a.a_law_text a.d_law_text ["value"] (spText a.C_Frac 6) := ok_law_textN T 6 (Nat.le_refl _)
theorem okH_law_text (T : Txt K mg a) : L2H.FnH P w K mg base CX0 6 a.a_law_text a.d_law_text ["value"] (spText a.C_Frac 6) := okH_law_textN T 6 (Nat.le_refl _)
/-! ### _law_made -/
def spMade (C : Addr) : Sp := fun vs H Q _ => ∃ (vz : V) (wz : Wv) (p : Addr) (l : Bool) (xs : List V) (ws : List Wv), vs = [vz, .ref p] ∧ IsW C H vz wz ∧ Dep 3 wz ∧ H p = some (sq l xs) ∧ IsWs C H xs ws ∧ ws.length ≤ 130 ∧ (∀ w ∈ ws, Dep 3 w) ∧ ∀ H', Same H H' → Q (.bl true) H'
theorem sc_law_made : FnScope ["size", "sets", "kept", "place", "at", "right", "family", "e", "due"] ["size", "sets"] (defScope s_law_made) := ⟨rfl, rfl, rfl, by decide +kernel, rfl, by decide +kernel, by decide +kernel⟩
theorem ok_law_made (T : Txt K mg a) : FnOk P w K mg base CX0 8 a.a_law_made a.d_law_made ["size", "sets"] (spMade a.C_Frac) := by
  refine T.fn_law_made.ok sc_law_made (fun vs H Q E h => ?_) (fun cdv A outer s H vs Q E hr h => ?_)
  · obtain ⟨vz, wz, p, l, xs, ws, rfl, _⟩ := h
    rfl
  · obtain ⟨vz, wz, p, l, xs, ws, rfl, hz, dz, hp, hx, l130, hd, k⟩ := h
    refine ⟨_, (pss_cons (ps_set (i := 2) sc_law_made.nd rfl (Or.inl rfl) (pe_call (ok_law_text T) (hr.mono (by decide)) (by rfl) T.mg_law_text T.fn_law_text.kp T.b_law_text .nil pass0 (pa_cons (pe_lst (pa_cons (pv 0) (pa_cons (pv 1) pa_nil))) pa_nil)))
      (pss_cons (ps_set (i := 3) sc_law_made.nd rfl (Or.inl rfl) pe_non)
      (pss_cons (ps_if (PW.pt (pw_and (pt_val (pe_call (ok_law_integer T) (hr.mono (by decide)) (by rfl) T.mg_law_integer T.fn_law_integer.kp T.b_law_integer .nil pass0 (pa_cons (pv 0) pa_nil))) (pw_and1 (pt_chain op_le op_le pe_int (pv 0) pe_int)))) (pss_one (ps_for PassesOwn.never rfl (pi_range1 (by rfl) T.no_range (pa_cons (pe_callB (lenK K) (by rfl) T.no_len PySem.boot_len (pa_cons (pv 1) pa_nil)) pa_nil)) (pg_name (i := 4) sc_law_made.nd rfl (Or.inl rfl))
          (pss_one (ps_if (PW.pt (pw_and (pt_cmpR op_isN (pv 3) pe_non (nomark _)) (pw_and1 (pt_not (pt_val (pe_call (ok_law_right_set T) (hr.mono (by decide)) (by rfl) T.mg_law_right_set T.fn_law_right_set.kp T.b_law_right_set .nil pass0 (pa_cons (pe_ix ixHS (pv 1) (pv 4) (fun _ _ => rfl)) (pa_cons (pv 0) pa_nil)))))))) (pss_one (ps_set (i := 3) sc_law_made.nd rfl (Or.inl rfl) (pv 4))) pss_nil)))) pss_nil)
      (pss_cons (ps_set (i := 5) sc_law_made.nd rfl (Or.inl rfl) (pe_and (pe_call (ok_law_integer T) (hr.mono (by decide)) (by rfl) T.mg_law_integer T.fn_law_integer.kp T.b_law_integer .nil pass0 (pa_cons (pv 0) pa_nil)) (pe_one (pe_chain op_le op_le pe_int (pv 0) pe_int))))
      (pss_cons (OwnProj.ps_try_hds rfl rfl takesN0
        (fun W pn xe tk _ => (pss_one (ps_set (i := 6) sc_law_made.nd rfl (Or.inl rfl) (pe_makeS T.mk_Family (ok_Family_init T) (hr.mono (by decide)) (by rfl) T.mg_Family T.b_Family_init .nil (fun σ => L2N.passAt tk σ) (pa_cons (pv 0) (pa_cons (pv 1) pa_nil))))))
        (OwnProj.Hds.named (i := 7) sc_law_made.nd rfl rfl ⟨rfl, by decide, .inl T.mg_WrongSize⟩ (fun ea oe cls d pn hz hf => (pss_one (ps_ret (pe_and (pe_not (pv 5)) (pe_and (pe_cmpR op_eq (L2H.pe_callH (okH_law_text T) ((roomM hr).mono (by decide)) ⟨(ea, oe), hotN hz hf, List.mem_cons_self⟩ (by rfl) T.mg_law_text T.fn_law_text.kp T.b_law_text (fun _ => passAt0) (pa_cons (pe_xf T.xf_WrongSize T.na_WrongSize_many hz.zc hf (pv 7)) pa_nil)) (L2H.pe_callH (okH_law_text T) ((roomM hr).mono (by decide)) ⟨(ea, oe), hotN hz hf, List.mem_cons_self⟩ (by rfl) T.mg_law_text T.fn_law_text.kp T.b_law_text (fun _ => passAt0) (pa_cons (pv 0) pa_nil)) (nomark _)) (pe_one (pe_cmpR op_eq (L2H.pe_callH (okH_law_text T) ((roomM hr).mono (by decide)) ⟨(ea, oe), hotN hz hf, List.mem_cons_self⟩ (by rfl) T.mg_law_text T.fn_law_text.kp T.b_law_text (fun _ => passAt0) (pa_cons (pe_lst (pa_cons (pv 0) (pa_cons (pv 1) pa_nil))) pa_nil)) (pv 2) (nomark _))))))))
        (OwnProj.Hds.named (i := 7) sc_law_made.nd rfl rfl ⟨rfl, by decide, .inl T.mg_InvalidFamily⟩ (fun ea oe cls d pn hz hf => (pss_one (ps_ret (pe_and (pv 5) (pe_and (pe_cmpR op_notN (pv 3) pe_non (nomark _)) (pe_and (L2H.pe_callH (okH_law_integer T) ((roomM hr).mono (by decide)) ⟨(ea, oe), hotN hz hf, List.mem_cons_self⟩ (by rfl) T.mg_law_integer T.fn_law_integer.kp T.b_law_integer (fun _ => passAt0) (pa_cons (pe_xf T.xf_InvalidFamily T.na_InvalidFamily_at hz.zc hf (pv 7)) pa_nil)) (pe_and (pe_cmpR op_eq (pe_xf T.xf_InvalidFamily T.na_InvalidFamily_at hz.zc hf (pv 7)) (pv 3) (nomark _)) (pe_one (pe_cmpR op_eq (L2H.pe_callH (okH_law_text T) ((roomM hr).mono (by decide)) ⟨(ea, oe), hotN hz hf, List.mem_cons_self⟩ (by rfl) T.mg_law_text T.fn_law_text.kp T.b_law_text (fun _ => passAt0) (pa_cons (pe_lst (pa_cons (pv 0) (pa_cons (pv 1) pa_nil))) pa_nil)) (pv 2) (nomark _))))))))))
        (OwnProj.Hds.named (i := 7) sc_law_made.nd rfl rfl ⟨rfl, by decide, .inl T.mg_NotClosed⟩ (fun ea oe cls d pn hz hf => (pss_cons (ps_if (PW.pt (pw_or (pt_not (pt_val (pv 5))) (pw_or1 (pt_cmpR op_notN (pv 3) pe_non (nomark _))))) (pss_one (ps_ret pe_bl)) pss_nil)
          (pss_cons (ps_set (i := 8) sc_law_made.nd rfl (Or.inl rfl) (L2H.pe_callH (okH_law_missing T) ((roomM hr).mono (by decide)) ⟨(ea, oe), hotN hz hf, List.mem_cons_self⟩ (by rfl) T.mg_law_missing T.fn_law_missing.kp T.b_law_missing (fun _ => passAt0) (pa_cons (pv 1) (pa_cons (pv 0) pa_nil))))
          (pss_one (ps_ret (pe_and (pe_cmpR op_notN (pv 8) pe_non (nomark _)) (pe_and (L2H.pe_callH (okH_law_is_set T) ((roomM hr).mono (by decide)) ⟨(ea, oe), hotN hz hf, List.mem_cons_self⟩ (by rfl) T.mg_law_is_set T.fn_law_is_set.kp T.b_law_is_set (fun _ => passAt0) (pa_cons (pe_xf T.xf_NotClosed T.na_NotClosed_missing hz.zc hf (pv 7)) (pa_cons (pv 8) pa_nil))) (pe_one (pe_cmpR op_eq (L2H.pe_callH (okH_law_text T) ((roomM hr).mono (by decide)) ⟨(ea, oe), hotN hz hf, List.mem_cons_self⟩ (by rfl) T.mg_law_text T.fn_law_text.kp T.b_law_text (fun _ => passAt0) (pa_cons (pe_lst (pa_cons (pv 0) (pa_cons (pv 1) pa_nil))) pa_nil)) (pv 2) (nomark _))))))))))
        .nil))))
      (pss_cons (ps_if (PW.pt (pw_or (pt_not (pt_val (pv 5))) (pw_or (pt_cmpR op_notN (pv 3) pe_non (nomark _)) (pw_or1 (pt_cmpR op_notN (pe_call (ok_law_missing T) (hr.mono (by decide)) (by rfl) T.mg_law_missing T.fn_law_missing.kp T.b_law_missing .nil pass0 (pa_cons (pv 1) (pa_cons (pv 0) pa_nil))) pe_non (nomark _)))))) (pss_one (ps_ret pe_bl)) pss_nil)
      (pss_one (ps_ret (pe_and (pe_call (ok_law_integer T) (hr.mono (by decide)) (by rfl) T.mg_law_integer T.fn_law_integer.kp T.b_law_integer .nil pass0 (pa_cons (pe_fldK K (pv 6)) pa_nil)) (pe_and (pe_cmpR op_eq (pe_fldK K (pv 6)) (pv 0) (nomark _)) (pe_one (pe_cmpR op_eq (pe_call (ok_law_text T) (hr.mono (by decide)) (by rfl) T.mg_law_text T.fn_law_text.kp T.b_law_text .nil pass0 (pa_cons (pe_lst (pa_cons (pv 0) (pa_cons (pv 1) pa_nil))) pa_nil)) (pv 2) (nomark _))))))))))))), ?_⟩
    show (_ : TS) _ [some vz, some (V.ref p), none, none, none, none, none, none, none] H
    have xl := hx.len
    have kt : ∀ {H4 : Hp} {QQ : VK} {p1 : Addr}, Same H H4 → H4 p1 = none → (∀ H', Same (upd H4 p1 (.lst [vz, .ref p])) H' → QQ (.str (tx (.lst [wz, seqW l ws]))) H') → spText a.C_Frac 6 [.ref p1] (upd H4 p1 (.lst [vz, .ref p])) QQ E0 := fun {H4 QQ p1} e4 n4 kk => by
      refine ⟨.ref p1, .lst [wz, seqW l ws], rfl, ?_, made_fit dz l130 hd, kk⟩
      have e := e4.trans (same_upd (o := .lst [vz, .ref p]) n4)
      exact .lst upd_same (.cons (hz.same e) (.cons (isw_seq (e _ _ hp) (hx.same e)) .nil))
    refine cut (fun σ H' => σ = [some vz, some (V.ref p), some (V.str (tx (.lst [wz, seqW l ws]))), none, none, none, none, none, none] ∧ Same H H') (fun R hR => ?_) (fun σ H1 h => ?_)
    · walk_at "rd"
      exact ⟨by decide, fun q hq => kt (Same.refl _) hq fun H' e' => hR _ _ ⟨rfl, (same_upd hq).trans e'⟩⟩
    obtain ⟨rfl, e1⟩ := h
    refine cut (fun σ H' => σ = [some vz, some (V.ref p), some (V.str (tx (.lst [wz, seqW l ws]))), some .non, none, none, none, none, none] ∧ H1 = H') (fun R hR => ?_) (fun σ H' h => ?_)
    · walk_at "rd"
      exact hR _ _ ⟨rfl, rfl⟩
    obtain ⟨rfl, rfl⟩ := h
    have hp1 := e1 _ _ hp
    have hx1 := hx.same e1
    have hz1 := hz.same e1
    refine cut (fun σ H' => ∃ plc o5, σ = [some vz, some (V.ref p), some (V.str (tx (.lst [wz, seqW l ws]))), some plc, o5, none, none, none, none] ∧ H1 = H' ∧ (inW 1 6 wz = false → plc = .non) ∧ (∀ n : Nat, wz = .int n → inW 1 6 wz = true → PlaceOk n ws ws.length plc)) (fun R hR => ?_) (fun σ H' h => ?_)
    · walk_at "rd"
      refine ⟨vz, kd wz, rfl, hz1.kn, _, rfl, ?_⟩
      have skip : inW 1 6 wz = false → R [some vz, some (V.ref p), some (V.str (tx (.lst [wz, seqW l ws]))), some .non, none, none, none, none, none] H1 := fun hw => hR _ _ ⟨_, _, rfl, rfl, fun _ => rfl, fun n e h => by rw [hw] at h; cases h⟩
      cases hz with
      | int i =>
        refine ite2 (fun _ => ⟨i, rfl, ite2 (fun h1 => ⟨i, rfl, ite2 (fun h2 => ?_) (fun h2 => skip ?_)⟩) (fun h1 => skip ?_)⟩) (fun h => absurd rfl h)
        · obtain ⟨n, rfl⟩ : ∃ n : Nat, i = (n : Int) := ⟨i.toNat, by omega⟩
          refine ⟨xs, seqOr hp1, by omega, by omega, ?_⟩
          rw [Int.toNat_natCast]
          refine Rd.loop_rngC (fun σ H' => ∃ plc o5, σ = [some (V.int n), some (V.ref p), some (V.str (tx (.lst [.int n, seqW l ws]))), some plc, o5, none, none, none, none] ∧ H' = H1 ∧ PlaceOk n ws xs.length plc)
            (fun i σ H' => ∃ plc o5, σ = [some (V.int n), some (V.ref p), some (V.str (tx (.lst [.int n, seqW l ws]))), some plc, o5, none, none, none, none] ∧ H' = H1 ∧ PlaceOk n ws i plc) ⟨_, _, rfl, rfl, .inl ⟨rfl, fun w m => by rw [List.take_zero] at m; cases m⟩⟩ ?_ (fun _ _ z => z) ?_
          · rintro bk hbk i σ H3 hi ⟨plc, o5, rfl, rfl, po⟩
            obtain ⟨x, hx2⟩ : ∃ x, xs[i]? = some x := ⟨_, List.getElem?_eq_getElem hi⟩
            obtain ⟨w', hw', xw⟩ := hx1.at hx2
            walk_at "rd"
            refine ite2 (fun e0 => ?_) (fun e0 => ?_)
            · have all : ∀ w ∈ ws.take i, ascW n w = true := by
                rcases po with ⟨_, h⟩ | ⟨j, _, h, _⟩
                · exact h
                · rw [e0] at h; cases h
              unfold rIxHS
              refine ⟨p, xs, _, x, l, rfl, rfl, hp1, (by rw [Int.zero_add]; exact atI_nat hx2), x, w', n, rfl, xw, _, rfl, ?_⟩
              cases z : ascW n w' with
              | true =>
                rw [if_neg (by decide)]
                refine ⟨rfl, .inl ⟨e0, fun u m => ?_⟩⟩
                rw [List.take_add_one, hw', List.mem_append] at m
                rcases m with m | m
                · exact all u m
                · rw [List.mem_singleton.mp m]; exact z
              | false =>
                rw [if_pos (by decide)]
                exact ⟨rfl, .inr ⟨i, w', by rw [Int.zero_add], hw', z, all⟩⟩
            · rcases po with ⟨h, _⟩ | h
              · exact absurd h e0
              · exact .inr h
          · rintro σ H3 ⟨plc, o5, rfl, rfl, po⟩
            rw [xl] at po
            exact hR _ _ ⟨plc, o5, rfl, rfl, (fun h => by rw [in16 (by omega) (by omega)] at h; cases h), fun m e _ => by cases e; exact po⟩
        · show (decide (1 ≤ i) && decide (i ≤ 6)) = false
          rw [decide_eq_false h2, Bool.and_false]
        · show (decide (1 ≤ i) && decide (i ≤ 6)) = false
          rw [decide_eq_false h1, Bool.false_and]
      | _ => exact ite2 (fun h => nomatch h) (fun _ => skip rfl)
    obtain ⟨plc, o5, rfl, rfl, pl1, pl2⟩ := h
    refine cut (fun σ H' => σ = [some vz, some (V.ref p), some (V.str (tx (.lst [wz, seqW l ws]))), some plc, o5, some (V.bl (inW 1 6 wz)), none, none, none] ∧ H1 = H') (fun R hR => ?_) (fun σ H' h => ?_)
    · walk_at "rd"
      refine ⟨vz, kd wz, rfl, hz1.kn, _, rfl, ?_⟩
      cases hz with
      | int i =>
        refine ite2 (fun _ => ⟨i, rfl, ?_⟩) (fun h => absurd rfl h)
        have RR : R [some (V.int i), some (V.ref p), some (V.str (tx (.lst [.int i, seqW l ws]))), some plc, o5, some (V.bl (decide (1 ≤ i) && decide (i ≤ 6))), none, none, none] H1 := hR _ _ ⟨rfl, rfl⟩
        refine ite2 (fun h1 => ⟨i, rfl, ?_⟩) (fun h1 => ?_)
        · rw [decide_eq_true h1, Bool.true_and] at RR
          exact RR
        · rw [decide_eq_false h1, Bool.false_and] at RR
          exact RR
      | _ => exact ite2 (fun h => nomatch h) (fun _ => hR _ _ ⟨rfl, rfl⟩)
    obtain ⟨rfl, rfl⟩ := h
    refine cut (fun σ H' => ∃ (f n : Nat), wz = .int n ∧ 1 ≤ n ∧ n ≤ 6 ∧ (∀ w ∈ ws, ascW n w = true) ∧ (∀ s ∈ allS n, missB (ws.map numsW) s = false) ∧ σ = [some vz, some (V.ref p), some (V.str (tx (.lst [wz, seqW l ws]))), some .non, o5, some (V.bl true), some (V.ref f), none, none] ∧ Same H1 H' ∧ FamV a.C_Family H' f n (SOf n (ws.map numsW))) (fun R hR => ?_) (fun σ H' h => ?_)
    · walk_at "rd"
      have place : ∀ {n : Nat} {i : Nat} {w' : Wv}, wz = .int n → inW 1 6 wz = true → ws[i]? = some w' → ascW n w' = false → (∀ u ∈ ws.take i, ascW n u = true) → plc = .int i := fun {n i w'} en hw hw' hno hok => by
        rcases pl2 n en hw with ⟨_, h⟩ | ⟨j, w2, e, h1, h2, h3⟩
        · rw [h w' (by rw [List.take_length]; exact List.mem_of_getElem? hw')] at hno
          cases hno
        · rw [e]
          have : ¬ i < j := fun lt => by
            rw [h3 w' (List.mem_of_getElem? (by rw [List.getElem?_take_of_lt lt]; exact hw'))] at hno
            cases hno
          have : ¬ j < i := fun lt => by
            rw [hok w2 (List.mem_of_getElem? (by rw [List.getElem?_take_of_lt lt]; exact h1))] at h2
            cases h2
          rw [show i = j by omega]
      have noplace : ∀ {n : Nat}, wz = .int n → inW 1 6 wz = true → (∀ w ∈ ws, ascW n w = true) → plc = .non := fun {n} en hw ok => by
        rcases pl2 n en hw with ⟨h, _⟩ | ⟨j, w', _, h1, h2, _⟩
        · exact h
        · rw [ok w' (List.mem_of_getElem? h1)] at h2
          cases h2
      refine fam_madeX hz1 hp1 hx1 (by omega) (fun n en n1 n6 ok nm g H' g0 e F => ?_) (fun hw d H' hd0 hd1 e => ?_) (fun n i w' en n1 n6 hw' hno hok d H' hd0 hd1 e => ?_) (fun n i s' en n1 n6 ok hs hm hb t d H' hd0 hd1 ht e => ?_)
      · have hw : inW 1 6 wz = true := by rw [en]; exact in16 n1 n6
        exact hR _ _ ⟨g, n, en, n1, n6, ok, nm, by rw [hw, noplace en hw ok], e, F⟩
      · refine ⟨true, T.xm_WrongSize, fun _ ea hea => ?_, fun z => absurd z.symm Bool.false_ne_true⟩
        have xs1 : List.lookup ("many" : Str) [(("many" : Str), vz)] = some vz := by rw [lookup_put, if_pos rfl]
        simp only [OwnProj.slotAt, OwnProj.endsAt, tXf]
        walk_at "rd"
        rw [hw]
        simp only [tXf]
        walk_at "rd"
        refine ⟨_, hd1, _, xs1, vz, wz, rfl, hz1.same e, dz.up.up.fit (by decide), fun H2 e2 => ⟨vz, wz, rfl, hz1.same (e.trans e2), dz.up.up.fit (by decide), fun H3 e3 => ⟨rfl, ?_⟩⟩⟩
        rw [if_pos rfl]
        have EE := ((e1.trans e).trans e2).trans e3
        refine ⟨by decide, fun q hq => kt EE hq fun H4 e4 => ⟨rfl, ?_⟩⟩
        rw [decide_eq_true rfl]
        exact k _ ((EE.trans (same_upd hq)).trans e4)
      · refine ⟨false, T.xm_InvalidFamily_WrongSize, (fun z => absurd z Bool.false_ne_true), fun _ => ⟨true, T.xm_InvalidFamily, fun _ ea hea => ?_, (fun z => absurd z.symm Bool.false_ne_true)⟩⟩
        have xs1 : List.lookup ("at" : Str) [(("at" : Str), V.int (i : Nat))] = some (V.int (i : Nat)) := by rw [lookup_put, if_pos rfl]
        have hw : inW 1 6 wz = true := by rw [en]; exact in16 n1 n6
        obtain rfl := place en hw hw' hno hok
        simp only [OwnProj.slotAt, OwnProj.endsAt, tXf]
        walk_at "rd"
        rw [hw]
        simp only [tXf]
        walk_at "rd"
        refine ⟨_, hd1, _, xs1, .int i, .int, rfl, .int _, _, rfl, ?_⟩
        rw [if_pos (by decide)]
        refine ⟨_, hd1, _, xs1, rfl, ?_⟩
        rw [if_pos rfl]
        have EE := e1.trans e
        refine ⟨by decide, fun q hq => kt EE hq fun H4 e4 => ⟨rfl, ?_⟩⟩
        rw [decide_eq_true rfl]
        exact k _ ((EE.trans (same_upd hq)).trans e4)
      · refine ⟨false, T.xm_NotClosed_WrongSize, (fun z => absurd z Bool.false_ne_true), fun _ => ⟨false, T.xm_NotClosed_InvalidFamily, (fun z => absurd z Bool.false_ne_true), fun _ => ⟨true, T.xm_NotClosed, fun _ ea hea => ?_, (fun z => absurd z.symm Bool.false_ne_true)⟩⟩⟩
        have xs1 : List.lookup ("missing" : Str) [(("missing" : Str), V.ref t)] = some (V.ref t) := by rw [lookup_put, if_pos rfl]
        have hw : inW 1 6 wz = true := by rw [en]; exact in16 n1 n6
        obtain rfl := noplace en hw ok
        simp only [OwnProj.slotAt, OwnProj.endsAt, tXf]
        walk_at "rd"
        rw [hw]
        simp only [tXf]
        walk_at "rd"
        subst en
        obtain rfl : vz = .int n := by cases hz; rfl
        refine ⟨p, n, l, xs, ws, rfl, e _ _ hp1, hx1.same e, n1, n6, ok, fun z => ?_, fun i2 s2 g1 g2 g3 q H2 e2 hq => ?_⟩
        · rw [z s' (List.mem_of_getElem? hs)] at hm
          cases hm
        have : ¬ i < i2 := fun lt => by
          rw [g3 s' (List.mem_of_getElem? (by rw [List.getElem?_take_of_lt lt]; exact hs))] at hm
          cases hm
        have : ¬ i2 < i := fun lt => by
          rw [hb s2 (List.mem_of_getElem? (by rw [List.getElem?_take_of_lt lt]; exact g1))] at g2
          cases g2
        obtain rfl : i = i2 := by omega
        obtain rfl : s2 = s' := Option.some.inj (g1.symm.trans hs)
        show (if _ then _ else _)
        rw [if_pos (by simp)]
        refine ⟨_, e2 _ _ hd1, _, xs1, t, q, false, s2, rfl, e2 _ _ ht, hq, Nat.le_trans (allS_at (List.mem_of_getElem? hs) n6).2.2.2.1 n6, _, rfl, ?_⟩
        rw [if_pos rfl]
        have EE := (e1.trans e).trans e2
        refine ⟨by decide, fun q hq => kt EE hq fun H4 e4 => ⟨rfl, ?_⟩⟩
        rw [decide_eq_true rfl]
        exact k _ ((EE.trans (same_upd hq)).trans e4)
    obtain ⟨f, n, rfl, n1, n6, ok, nm, rfl, e2, F⟩ := h
    walk_at "rd"
    obtain rfl : vz = .int n := by cases hz; rfl
    refine ⟨p, n, l, xs, ws, rfl, e2 _ _ hp1, hx1.same e2, n1, n6, ok, fun _ H2 e3 => ?_, fun i2 s2 g1 g2 _ _ _ _ _ => ?_⟩
    · show (if _ then _ else _)
      rw [if_neg (by simp)]
      obtain ⟨dx, tt, ys, hf, _⟩ := (F.same e3).ob
      refine ⟨_, dx, _, hf, T.cl_Family, T.na_Family_size, _, ff_size tt n, _, .int, rfl, .int _, _, rfl, ?_⟩
      rw [if_pos (by decide)]
      refine ⟨_, dx, _, hf, T.cl_Family, T.na_Family_size, _, ff_size tt n, rfl, ?_⟩
      rw [if_pos rfl]
      have EE := (e1.trans e2).trans e3
      refine ⟨by decide, fun q hq => kt EE hq fun H4 e4 => ⟨rfl, ?_⟩⟩
      rw [decide_eq_true rfl]
      exact k _ ((EE.trans (same_upd hq)).trans e4)
    · rw [nm s2 (List.mem_of_getElem? g1)] at g2
      cases g2
end

end K19
namespace K19
open PySem PySem.Spec PyProof.Rows L2 Own OwnSeq OwnSet OwnComb OwnSort OwnHot OwnExN OwnProj
local macro_rules | `(tactic| walk_at "rd") => `(tactic| simp only [tSeq, tAsg, tOp, tUn, tVar, gName, gSub, rIxL, rIxT, rSetL, tC, rI0, rI, rU, rEq, rNe, tCons, tNil, tCB, tLst, tTup, tIfS, tAnd, tOr, tNot, tAndV, tOrV, tNotV, tTest, tB, tIf, tRet, tDrop, tNext, tBreak, tCont, tCall, tCallS, L2.WE, tMakeS, rIsS, rIsB, tChain, gSeq, gRest, gCons, gNil, tFor_seq, tFor_enumS, tLc_seq, tLc_enumS, rAny, rAll, L2.tMeth, StX.tStar, rIn, tLstRg, tRg1, tRg2, rSetI, rSortedSet, rInDT, rInD, rNotInD, rEqD, rNeD, iComb, tFld, tMake, tMkO, sFld, tOst, tNever, tBits, clv, isB,
  Rd.tFor_rng1, Rd.tFor_rng2, Rd.tFor_list, Rd.tFor_tup, Rd.tLc_list, Rd.tLc_tup, Rd.tLc_rng1, Rd.LcTurn, tYes, wipe, Rd.rLenL, Rd.rLenT, Rd.rIntI, Rd.rIxH, rIxHT,  HO.tup.injEq, Rd.at0, Rd.at1, Rd.at2, Rd.at3, Rd.ixN40, Rd.ixN41, Rd.ixN42, Rd.ixN43, Rd.scal_ii, cxOf,
  List.length_cons, List.length_nil, List.length_map, List.map_cons, List.map_nil, upd_same, decide_eq_true_eq, decide_true, decide_false, if_true, if_false, Bool.false_eq_true, Bool.not_true, Bool.not_false, HO.lst.injEq, HO.ins.injEq, List.set_cons_zero, List.set_cons_succ, List.getElem?_cons_zero, List.getElem?_cons_succ, List.append_nil, List.nil_append, List.cons_append, Option.some.injEq, V.ref.injEq, V.int.injEq, V.bl.injEq, List.cons.injEq, exists_eq_left', exists_and_left, exists_eq_left, true_and, and_true, and_self, and_assoc, implies_true, reduceCtorEq, Nat.reduceAdd])

theorem sqi {y n : Nat} (h : y < n) : seqIndex? (y : Int) n = some y := by
  unfold seqIndex?
  simp
  omega
theorem IsNs.erase {C : Addr} {H H' : Hp} : ∀ {vs : List V} {ws : List Wv} (i : Nat), IsNs C H H' vs ws → IsNs C H H' (vs.eraseIdx i) (ws.eraseIdx i)
  | _, _, _, .nil => .nil
  | _, _, 0, .cons _ a => a
  | _, _, i + 1, .cons h a => .cons h (IsNs.erase i a)
theorem mix_dep {n : Nat} {S : List Bool} {ws : List Wv} (F : Fam n S) (mo : MixOk (famL n S) (famL n S).length ws) : ∀ w ∈ ws, Dep 3 w := fun w hw => by
  obtain ⟨l, s, rfl, hs⟩ := mo.1 w hw
  have sa := allS_at (famL_mem.mp hs).1 F.n6
  have := F.n6
  exact SetW.dep ⟨l, s, rfl, by omega, fun g hg => by have := sa.2.2.1 g hg; omega⟩
section
variable {P : Program} {w : World} {K : PySem.W.Frag} {mg : Str → Option Value} {base : Heap} {a : Ad}
/-! ### _law_faults -/
def spFaults (K : PySem.W.Frag) : Sp := fun vs H Q _ => ∃ (b c r : Addr) (ns : List Int) (n : Nat) (S : List Bool), vs = [.ref b, .int n, .ref r] ∧ BoxAt K H b c ns ∧ r ≠ b ∧ H r = some (.lst (S.map V.bl)) ∧ Fam n S ∧ ∀ H', BoxAt K H' b c ns → But b H H' → Q (.bl true) H'
theorem sc_law_faults : FnScope ["box", "size", "inside", "sets", "sizes", "k", "more", "shape", "at"] ["box", "size", "inside"] (defScope s_law_faults) := ⟨rfl, rfl, rfl, by decide +kernel, rfl, by decide +kernel, by decide +kernel⟩
theorem ok_law_faults (T : Txt K mg a) : FnOk P w K mg base CX0 9 a.a_law_faults a.d_law_faults ["box", "size", "inside"] (spFaults K) := by
  refine T.fn_law_faults.ok sc_law_faults (fun vs H Q E h => ?_) (fun cdv A outer s H vs Q E hr h => ?_)
  · obtain ⟨b, c, r, ns, n, S, rfl, _⟩ := h
    rfl
  · obtain ⟨b, c, r, ns, n, S, rfl, B, rb, hr1, F, k⟩ := h
    obtain ⟨ds2, b2v, b2b⟩ := b2 T
    refine ⟨_, (pss_cons (ps_set (i := 3) sc_law_faults.nd rfl (Or.inl rfl) (pe_call (ok_law_ordered T) (hr.mono (by decide)) (by rfl) T.mg_law_ordered T.fn_law_ordered.kp T.b_law_ordered .nil pass0 (pa_cons (pv 2) pa_nil)))
      (pss_cons (ps_set (i := 4) sc_law_faults.nd rfl (Or.inl rfl) (pe_lst (pa_cons pe_int (pa_cons pe_int (pa_cons (pe_un un_neg pe_int) (pa_cons pe_bl (pa_cons pe_bl (pa_cons pe_non (pa_cons pe_str (pa_cons (pe_make T.mk_Frac (ok_Frac_init T) (hr.mono (by decide)) (by rfl) T.mg_Frac b2b b2v pass0 (pa_cons pe_int pa_nil)) (pa_cons (pe_op op_pow pe_int pe_int) (pa_cons (pe_lst (pa_cons pe_int pa_nil)) (pa_cons (pe_tup pa_nil) (pa_cons pe_str pa_nil))))))))))))))
      (pss_cons (ps_for PassesOwn.never rfl (pi_range1 (by rfl) T.no_range (pa_cons pe_int pa_nil)) (pg_name (i := 5) sc_law_faults.nd rfl (Or.inl rfl))
        (pss_cons (ps_set (i := 6) sc_law_faults.nd rfl (Or.inl rfl) (pe_call (ok_law_mixed T) (hr.mono (by decide)) (by rfl) T.mg_law_mixed T.fn_law_mixed.kp T.b_law_mixed .nil pass0 (pa_cons (pv 0) (pa_cons (pv 3) pa_nil))))
        (pss_cons (ps_set (i := 7) sc_law_faults.nd rfl (Or.inl rfl) (pe_call (ok_law_draw T) (hr.mono (by decide)) (by rfl) T.mg_law_draw T.fn_law_draw.kp T.b_law_draw .nil pass0 (pa_cons (pv 0) (pa_cons pe_int pa_nil))))
        (pss_cons (ps_if (pt_cmpR op_gt (pv 7) pe_int (nomark _)) (pss_one (ps_for PassesOwn.never rfl (pi_range1 (by rfl) T.no_range (pa_cons (pe_op op_add pe_int (pe_call (ok_law_draw T) (hr.mono (by decide)) (by rfl) T.mg_law_draw T.fn_law_draw.kp T.b_law_draw .nil pass0 (pa_cons (pv 0) (pa_cons pe_int pa_nil)))) pa_nil)) (pg_name (i := 8) sc_law_faults.nd rfl (Or.inl rfl))
            (pss_one (ps_if (pt_cmpR op_gt (pe_callB (lenK K) (by rfl) T.no_len PySem.boot_len (pa_cons (pv 6) pa_nil)) pe_int (nomark _)) (pss_one (ps_expr (pe_bm PySem.F.plainAttrs_list PySem.F.slot_list_pop PySem.F.type_list_pop mt_popAt (pv 6) (pa_cons (pe_call (ok_law_draw T) (hr.mono (by decide)) (by rfl) T.mg_law_draw T.fn_law_draw.kp T.b_law_draw .nil pass0 (pa_cons (pv 0) (pa_cons (pe_callB (lenK K) (by rfl) T.no_len PySem.boot_len (pa_cons (pv 6) pa_nil)) pa_nil))) pa_nil)))) pss_nil)))) pss_nil)
        (pss_cons (ps_if (pt_cmpR op_gt (pv 7) pe_int (nomark _)) (pss_one (ps_for PassesOwn.never rfl (pi_range1 (by rfl) T.no_range (pa_cons (pe_call (ok_law_draw T) (hr.mono (by decide)) (by rfl) T.mg_law_draw T.fn_law_draw.kp T.b_law_draw .nil pass0 (pa_cons (pv 0) (pa_cons pe_int pa_nil))) pa_nil)) (pg_name (i := 8) sc_law_faults.nd rfl (Or.inl rfl))
            (pss_one (ps_expr (pe_bm PySem.F.plainAttrs_list PySem.F.slot_list_insert PySem.F.type_list_insert mt_insert (pv 6) (pa_cons (pe_call (ok_law_draw T) (hr.mono (by decide)) (by rfl) T.mg_law_draw T.fn_law_draw.kp T.b_law_draw .nil pass0 (pa_cons (pv 0) (pa_cons (pe_op op_add (pe_callB (lenK K) (by rfl) T.no_len PySem.boot_len (pa_cons (pv 6) pa_nil)) pe_int) pa_nil))) (pa_cons (pe_call (ok_law_no_set T) (hr.mono (by decide)) (by rfl) T.mg_law_no_set T.fn_law_no_set.kp T.b_law_no_set .nil pass0 (pa_cons (pv 0) (pa_cons (pv 1) pa_nil))) pa_nil))))))) pss_nil)
        (pss_one (ps_if (PW.pt (pw_or (pt_not (pt_val (pe_call (ok_law_made T) (hr.mono (by decide)) (by rfl) T.mg_law_made T.fn_law_made.kp T.b_law_made .nil pass0 (pa_cons (pv 1) (pa_cons (pe_call (ok_law_shape T) (hr.mono (by decide)) (by rfl) T.mg_law_shape T.fn_law_shape.kp T.b_law_shape .nil pass0 (pa_cons (pv 0) (pa_cons (pv 6) pa_nil))) pa_nil))))) (pw_or1 (pt_not (pt_val (pe_call (ok_law_made T) (hr.mono (by decide)) (by rfl) T.mg_law_made T.fn_law_made.kp T.b_law_made .nil pass0 (pa_cons (pe_ix Rd.ixH (pv 4) (pe_call (ok_law_draw T) (hr.mono (by decide)) (by rfl) T.mg_law_draw T.fn_law_draw.kp T.b_law_draw .nil pass0 (pa_cons (pv 0) (pa_cons pe_int pa_nil))) (fun _ _ => rfl)) (pa_cons (pv 6) pa_nil)))))))) (pss_one (ps_ret pe_bl)) pss_nil)))))))
      (pss_one (ps_ret (pe_and (pe_call (ok_law_made T) (hr.mono (by decide)) (by rfl) T.mg_law_made T.fn_law_made.kp T.b_law_made .nil pass0 (pa_cons (pv 1) (pa_cons (pe_lst pa_nil) pa_nil))) (pe_and (pe_call (ok_law_made T) (hr.mono (by decide)) (by rfl) T.mg_law_made T.fn_law_made.kp T.b_law_made .nil pass0 (pa_cons (pv 1) (pa_cons (pe_lst (pa_cons (pe_tup pa_nil) pa_nil)) pa_nil))) (pe_one (pe_call (ok_law_made T) (hr.mono (by decide)) (by rfl) T.mg_law_made T.fn_law_made.kp T.b_law_made .nil pass0 (pa_cons (pv 1) (pa_cons (pe_lst (pa_cons (pe_lst pa_nil) pa_nil)) pa_nil))))))))))), ?_⟩
    show (_ : TS) _ [some (V.ref b), some (V.int n), some (V.ref r), none, none, none, none, none, none] H
    have n6 := F.n6
    have n1 := F.n1
    have p64 := pow64 n6
    have fl := famL_len (S := S) n6
    refine cut (fun σ H1 => ∃ sr us, σ = [some (V.ref b), some (V.int n), some (V.ref r), some (V.ref sr), none, none, none, none, none] ∧ Same H H1 ∧ H sr = none ∧ H1 sr = some (.lst us) ∧ Tups H1 us (famL n S)) (fun R hR => ?_) (fun σ H1 h => ?_)
    · walk_at "rd"
      exact ⟨r, n, S, rfl, hr1, ⟨n6, F.len⟩, fun sr us H1 s0 e1 a1 tu => hR _ _ ⟨sr, us, rfl, e1, s0, a1, tu⟩⟩
    obtain ⟨sr, us, rfl, e1, sr0, a1, tu⟩ := h
    have srb := B.ne_new sr0
    refine cut (fun σ H2 => ∃ zr vs, σ = [some (V.ref b), some (V.int n), some (V.ref r), some (V.ref sr), some (V.ref zr), none, none, none, none] ∧ Same H H2 ∧ Same H1 H2 ∧ H zr = none ∧ H2 zr = some (.lst vs) ∧ ∃ zs, IsNs a.C_Frac H H2 vs zs ∧ zs.length = 12 ∧ ∀ w ∈ zs, Dep 3 w) (fun R hR => ?_) (fun σ H2 h => ?_)
    · walk_at "rd"
      intro x dx hx hdx hne
      refine fr_made (n := 2) (by decide) hx hdx hne fun H5 hfr e5 => ⟨⟨by decide, by decide, by decide⟩, by decide, fun p1 h1 => ⟨by decide, fun p2 h2 => ⟨by decide, fun q hq => ?_⟩⟩⟩
      obtain ⟨s1, z1⟩ := newo (.lst [V.int 1]) h1
      obtain ⟨s2, z2⟩ := newo (.tup []) h2
      obtain ⟨sq, zq⟩ := newo (.lst [V.int 0, V.int 7, V.int (-1), V.bl true, V.bl false, V.non, V.str (Str.ofString "3"), V.ref x, V.int (10 ^ Int.toNat 20), V.ref p1, V.ref p2, V.str (Str.ofString "")]) hq
      have u := (e5.trans s1).trans (s2.trans sq)
      have f1 : H p1 = none := (e1.trans e5).free h1
      have vs : IsNs a.C_Frac H _ [V.int 0, V.int 7, V.int (-1), V.bl true, V.bl false, V.non, V.str (Str.ofString "3"), V.ref x, V.int (10 ^ Int.toNat 20), V.ref p1, V.ref p2, V.str (Str.ofString "")] [.int 0, .int 7, .int (-1), .bl true, .bl false, .non, .str (Str.ofString "3"), .fr (2 : Nat) (1 : Nat), .int (10 ^ Int.toNat 20), .lst [.int 1], .tup [], .str (Str.ofString "")] :=
        .cons (.int _) (.cons (.int _) (.cons (.int _) (.cons (.bl _) (.cons (.bl _) (.cons .non (.cons (.str _) (.cons (.fr (sq _ _ (s2 _ _ (s1 _ _ hfr)))) (.cons (.int _) (.cons (.lst (sq _ _ (s2 _ _ z1)) f1 (.cons (.int _) .nil)) (.cons (.tup (sq _ _ z2) .nil) (.cons (.str _) .nil)))))))))))
      refine hR _ _ ⟨q, _, rfl, e1.trans u, u, ((e1.trans e5).trans (s1.trans s2)).free hq, zq, _, vs, rfl, fun w m => ?_⟩
      simp only [List.mem_cons, List.not_mem_nil, or_false] at m
      rcases m with rfl | rfl | rfl | rfl | rfl | rfl | rfl | rfl | rfl | rfl | rfl | rfl
      · exact .int (by decide) (by decide)
      · exact .int (by decide) (by decide)
      · exact .int (by decide) (by decide)
      · exact .bl _
      · exact .bl _
      · exact .non
      · exact .str (by decide +kernel)
      · exact .fr (by decide) (by decide)
      · exact .int (by decide) (by decide)
      · exact .lst (by decide) fun w m => by rw [List.mem_singleton.mp m]; exact .int (by decide) (by decide)
      · exact .tup (by decide) fun w m => by cases m
      · exact .str (by decide +kernel)
    obtain ⟨zr, vs, rfl, e2, e12, zr0, hz2, zs, hzs, zl, zd⟩ := h
    have zrb := B.ne_new zr0
    refine cut (fun σ H3 => ∃ o5 o6 o7 o8, σ = [some (V.ref b), some (V.int n), some (V.ref r), some (V.ref sr), some (V.ref zr), o5, o6, o7, o8] ∧ BoxAt K H3 b c ns ∧ But b H2 H3) (fun R hR => ?_) (fun σ H3 h => ?_)
    · walk_at "rd"
      rw [show Int.toNat 3 = 3 from rfl]
      have B2 := B.same e2
      obtain ⟨_, _, _, hb2, _⟩ := B2.ob
      refine ⟨by decide, by decide, Rd.loop_rngC (fun σ H3 => ∃ o5 o6 o7 o8, σ = [some (V.ref b), some (V.int n), some (V.ref r), some (V.ref sr), some (V.ref zr), o5, o6, o7, o8] ∧ BoxAt K H3 b c ns ∧ But b H2 H3)
        (fun _ σ H3 => ∃ o5 o6 o7 o8, σ = [some (V.ref b), some (V.int n), some (V.ref r), some (V.ref sr), some (V.ref zr), o5, o6, o7, o8] ∧ BoxAt K H3 b c ns ∧ But b H2 H3) ⟨_, _, _, _, rfl, B2, But.refl _ _⟩ ?_ (fun _ _ z => z) (fun σ H3 z => hR _ _ z)⟩
      rintro bk hbk i σ H3 hi ⟨o5, o6, o7, o8, rfl, B3, e3⟩
      refine cut (fun σ H4 => ∃ D xs ws, σ = [some (V.ref b), some (V.int n), some (V.ref r), some (V.ref sr), some (V.ref zr), some (V.int (0 + i)), some (V.ref D), o7, o8] ∧ BoxAt K H4 b c ns ∧ But b H3 H4 ∧ H3 D = none ∧ H4 D = some (.lst xs) ∧ IsNs a.C_Frac H3 (noD D H4) xs ws ∧ ws.length ≤ 128 ∧ ∀ w ∈ ws, Dep 3 w) (fun R hR => ?_) (fun σ H4 h => ?_)
      · walk_at "rd"
        refine ⟨b, c, sr, ns, us, famL n S, rfl, B3, srb, e3 _ _ srb (e12 _ _ a1), Tups.keep (tup_but e3 hb2) (tu.same e12), by omega, fun s hs => Nat.le_trans (allS_at (famL_mem.mp hs).1 n6).2.2.2.1 n6, fun D xs ws H4 B4 e4 D0 hD hx wl mo => hR _ _ ⟨D, xs, ws, rfl, B4, e4, D0, hD, hx, wl, mix_dep F mo⟩⟩
      obtain ⟨D, xs, ws, rfl, B4, e4, D0, hD4, hx4, wl4, wd4⟩ := h
      have Db := B3.ne_new D0
      refine cut (fun σ H5 => ∃ (m : Nat) (xs : List V) (ws : List Wv), σ = [some (V.ref b), some (V.int n), some (V.ref r), some (V.ref sr), some (V.ref zr), some (V.int (0 + i)), some (V.ref D), some (V.int m), o8] ∧ BoxAt K H5 b c ns ∧ But b H3 H5 ∧ H5 D = some (.lst xs) ∧ IsNs a.C_Frac H3 (noD D H5) xs ws ∧ ws.length ≤ 128 ∧ ∀ w ∈ ws, Dep 3 w) (fun R hR => ?_) (fun σ H5 h => ?_)
      · walk_at "rd"
        exact drw B4 (by decide) (by decide) fun m H5 ml B5 e5 => hR _ _ ⟨m, xs, ws, rfl, B5, e4.trans e5, e5 _ _ Db hD4, IsNs.noD B3 B4 e5 hx4, wl4, wd4⟩
      obtain ⟨m, xs5, ws5, rfl, B5, e5, hD5, hx5, wl5, wd5⟩ := h
      refine cut (fun σ H6 => ∃ (o8 : Option V) (xs : List V) (ws : List Wv), σ = [some (V.ref b), some (V.int n), some (V.ref r), some (V.ref sr), some (V.ref zr), some (V.int (0 + i)), some (V.ref D), some (V.int m), o8] ∧ BoxAt K H6 b c ns ∧ But b H3 H6 ∧ H6 D = some (.lst xs) ∧ IsNs a.C_Frac H3 (noD D H6) xs ws ∧ ws.length ≤ 128 ∧ ∀ w ∈ ws, Dep 3 w) (fun R hR => ?_) (fun σ H6 h => ?_)
      · walk_at "rd"
        refine ite2 (fun _ => ?_) (fun _ => hR _ _ ⟨o8, xs5, ws5, rfl, B5, e5, hD5, hx5, wl5, wd5⟩)
        refine drw B5 (by decide) (by decide) fun x H6 x3 B6 e6 => ⟨_, rfl, by omega, by omega, ?_⟩
        refine Rd.loop_rngC (fun σ H6 => ∃ (o8 : Option V) (xs : List V) (ws : List Wv), σ = [some (V.ref b), some (V.int n), some (V.ref r), some (V.ref sr), some (V.ref zr), some (V.int (0 + i)), some (V.ref D), some (V.int m), o8] ∧ BoxAt K H6 b c ns ∧ But b H3 H6 ∧ H6 D = some (.lst xs) ∧ IsNs a.C_Frac H3 (noD D H6) xs ws ∧ ws.length ≤ 128 ∧ ∀ w ∈ ws, Dep 3 w) (fun _ σ H6 => ∃ (o8 : Option V) (xs : List V) (ws : List Wv), σ = [some (V.ref b), some (V.int n), some (V.ref r), some (V.ref sr), some (V.ref zr), some (V.int (0 + i)), some (V.ref D), some (V.int m), o8] ∧ BoxAt K H6 b c ns ∧ But b H3 H6 ∧ H6 D = some (.lst xs) ∧ IsNs a.C_Frac H3 (noD D H6) xs ws ∧ ws.length ≤ 128 ∧ ∀ w ∈ ws, Dep 3 w) ⟨o8, xs5, ws5, rfl, B6, e5.trans e6, e6 _ _ Db hD5, IsNs.noD B3 B5 e6 hx5, wl5, wd5⟩ ?_ (fun _ _ z => z) (fun σ H6 z => hR _ _ z)
        rintro bk2 hbk2 j σ H6 hj ⟨o8, xs6, ws6, rfl, B6, e6, hD6, hx6, wl6, wd6⟩
        walk_at "rd"
        have xl6 := hx6.len
        refine ⟨_, .inl (SqL.of hD6), ite2 (fun h0 => ?_) (fun _ => ⟨B6, e6, xs6, hD6, ws6, hx6, wl6, wd6⟩)⟩
        simp only [tBM, rPopAt]
        walk_at "rd"
        refine ⟨.inl ⟨rfl, _, SqL.of hD6⟩, xs6, .inl (SqL.of hD6), drw B6 h0 (by omega) fun y H7 yl B7 e7 => ?_⟩
        have yl : y < xs6.length := by omega
        have eU : But b H3 (upd H7 D (.lst (xs6.eraseIdx y))) := (e6.trans e7).updn D0
        refine ⟨xs6, y, rfl, e7 _ _ Db hD6, by omega, by omega, y, sqi yl, _, List.getElem?_eq_getElem yl, B3.upd B7 Db eU, eU, ws6.eraseIdx y, ?_, ?_, fun w m => wd6 w (List.mem_of_mem_eraseIdx m)⟩
        · rw [noD_upd]
          exact (IsNs.noD B3 B6 e7 hx6).erase y
        · have := List.length_eraseIdx_le ws6 y
          omega
      obtain ⟨o8, xs6, ws6, rfl, B6, e6, hD6, hx6, wl6, wd6⟩ := h
      refine cut (fun σ H7 => ∃ (o8 : Option V) (xs : List V) (ws : List Wv), σ = [some (V.ref b), some (V.int n), some (V.ref r), some (V.ref sr), some (V.ref zr), some (V.int (0 + i)), some (V.ref D), some (V.int m), o8] ∧ BoxAt K H7 b c ns ∧ But b H3 H7 ∧ H7 D = some (.lst xs) ∧ IsNs a.C_Frac H3 (noD D H7) xs ws ∧ ws.length ≤ 130 ∧ ∀ w ∈ ws, Dep 3 w) (fun R hR => ?_) (fun σ H7 h => ?_)
      · walk_at "rd"
        refine ite2 (fun _ => ?_) (fun _ => hR _ _ ⟨o8, xs6, ws6, rfl, B6, e6, hD6, hx6, by omega, wd6⟩)
        refine drw B6 (by decide) (by decide) fun x H7 x3 B7 e7 => ⟨_, rfl, by omega, by omega, ?_⟩
        refine Rd.loop_rngC (fun σ H6 => ∃ (o8 : Option V) (xs : List V) (ws : List Wv), σ = [some (V.ref b), some (V.int n), some (V.ref r), some (V.ref sr), some (V.ref zr), some (V.int (0 + i)), some (V.ref D), some (V.int m), o8] ∧ BoxAt K H6 b c ns ∧ But b H3 H6 ∧ H6 D = some (.lst xs) ∧ IsNs a.C_Frac H3 (noD D H6) xs ws ∧ ws.length ≤ 130 ∧ ∀ w ∈ ws, Dep 3 w) (fun j σ H6 => ∃ (o8 : Option V) (xs : List V) (ws : List Wv), σ = [some (V.ref b), some (V.int n), some (V.ref r), some (V.ref sr), some (V.ref zr), some (V.int (0 + i)), some (V.ref D), some (V.int m), o8] ∧ BoxAt K H6 b c ns ∧ But b H3 H6 ∧ H6 D = some (.lst xs) ∧ IsNs a.C_Frac H3 (noD D H6) xs ws ∧ ws.length ≤ 128 + j ∧ ∀ w ∈ ws, Dep 3 w) ⟨o8, xs6, ws6, rfl, B7, e6.trans e7, e7 _ _ Db hD6, IsNs.noD B3 B6 e7 hx6, by omega, wd6⟩ ?_ (fun σ H7 ⟨o8, xs, ws, q1, q2, q3, q4, q5, q6, q7⟩ => ⟨o8, xs, ws, q1, q2, q3, q4, q5, by omega, q7⟩) (fun σ H6 z => hR _ _ z)
        rintro bk2 hbk2 j σ H8 hj ⟨o8, xs8, ws8, rfl, B8, e8, hD8, hx8, wl8, wd8⟩
        walk_at "rd"
        have xl8 := hx8.len
        simp only [tBM]
        walk_at "rd"
        refine ⟨.inl ⟨rfl, _, SqL.of hD8⟩, xs8, .inl (SqL.of hD8), drw B8 (by omega) (by omega) fun y H9 yl B9 e9 => ⟨b, c, ns, n, rfl, B9, n1, n6, fun v w' H10 B10 e10 vw dw => ?_⟩⟩
        have e910 := e9.trans e10
        have hD9 := e9 _ _ Db hD8
        have hD10 := e10 _ _ Db hD9
        have eU : But b H3 (upd H10 D (.lst (xs8.take y ++ [v] ++ xs8.drop y))) := (e8.trans e910).updn D0
        have hx10 := IsNs.noD B3 B8 e910 hx8
        have vw' := vw.since B9 (e8.trans e9) hD9 hD10
        refine ⟨xs8, y, rfl, hD10, small (by omega), by omega, by omega, ?_⟩
        rw [Int.toNat_natCast]
        refine ⟨B3.upd B10 Db eU, eU, ws8.take y ++ [w'] ++ ws8.drop y, ?_, by rw [len_ins]; omega, fun w m => ?_⟩
        · rw [noD_upd]
          exact ((hx10.take y).app (.cons vw' .nil)).app (hx10.drop y)
        · rcases List.mem_append.mp m with m | m
          · rcases List.mem_append.mp m with m | m
            · exact wd8 w (List.mem_of_mem_take m)
            · rw [List.mem_singleton.mp m]; exact dw
          · exact wd8 w (List.mem_of_mem_drop m)
      obtain ⟨o8, xs7, ws7, rfl, B7, e7, hD7, hx7, wl7, wd7⟩ := h
      walk_at "rd"
      have hx7' := hx7.all.is
      have xl7 := hx7.len
      refine ⟨b, c, D, ns, true, xs7, rfl, B7, Db, hD7, by omega, fun q l' H8 B8 e8 qb hq _ => ?_⟩
      have mv : ∀ {H8 : Hp}, But b H7 H8 → H8 D = some (.lst xs7) ∧ IsWs a.C_Frac H8 xs7 ws7 := fun {H8} e8 => ⟨e8 _ _ Db hD7, (IsNs.noD B3 B7 e8 hx7).all.is⟩
      refine ⟨.int n, .int n, q, l', xs7, ws7, rfl, .int _, .int (by omega) (by omega), hq, (mv e8).2, wl7, wd7, fun H9 e9 => ⟨_, rfl, ?_⟩⟩
      rw [if_neg (by decide)]
      refine drw (B8.same e9) (by decide) (by decide) fun y H10 y12 B10 e10 => ?_
      have e710 := (e8.trans (Same.but e9)).trans e10
      have e210 := (e3.trans e7).trans e710
      obtain ⟨v, w', hv, hw, vw⟩ := (IsNs.but B B2 e210 hzs).at (i := y) (by rw [hzs.len, zl]; omega)
      refine ⟨_, _, rfl, e210 _ _ zrb hz2, v, atI_nat hv, v, w', D, true, xs7, ws7, rfl, vw.is, zd w' (List.mem_of_getElem? hw), (mv e710).1, (mv e710).2, wl7, wd7, fun H11 e11 => ⟨_, rfl, ?_⟩⟩
      rw [if_neg (by decide)]
      exact ⟨B10.same e11, e210.trans (Same.but e11)⟩
    obtain ⟨o5, o6, o7, o8, rfl, B3, e3⟩ := h
    walk_at "rd"
    have di : Dep 3 (.int (n : Int)) := .int (by omega) (by omega)
    refine ⟨by decide, fun p1 h1 => ⟨.int n, .int n, p1, true, [], [], rfl, .int _, di, upd_same, .nil, by decide, fun w m => (by cases m), fun H4 e4 => ⟨_, rfl, ?_⟩⟩⟩
    rw [if_pos rfl]
    have u4 := (same_upd (o := .lst []) h1).trans e4
    refine ⟨by decide, fun p2 h2 => ⟨by decide, fun p3 h3 => ?_⟩⟩
    obtain ⟨s2, z2⟩ := newo (.tup []) h2
    obtain ⟨s3, z3⟩ := newo (.lst [V.ref p2]) h3
    refine ⟨.int n, .int n, p3, true, [.ref p2], [.tup []], rfl, .int _, di, z3, .cons (.tup (s3 _ _ z2) .nil) .nil, by decide, fun w m => by rw [List.mem_singleton.mp m]; exact .tup (by decide) fun _ m => (by cases m), fun H5 e5 => ⟨_, rfl, ?_⟩⟩
    rw [if_pos rfl]
    have u5 := (s2.trans s3).trans e5
    refine ⟨by decide, fun p4 h4 => ⟨by decide, fun p5 h5 => ?_⟩⟩
    obtain ⟨s4, z4⟩ := newo (.lst []) h4
    obtain ⟨s5, z5⟩ := newo (.lst [V.ref p4]) h5
    refine ⟨.int n, .int n, p5, true, [.ref p4], [.lst []], rfl, .int _, di, z5, .cons (.lst (s5 _ _ z4) .nil) .nil, by decide, fun w m => by rw [List.mem_singleton.mp m]; exact .lst (by decide) fun _ m => (by cases m), fun H6 e6 => ?_⟩
    have u6 := (u4.trans u5).trans ((s4.trans s5).trans e6)
    exact k _ (B3.same u6) (((Same.but e2).trans e3).trans (Same.but u6))
end

end K19
namespace K19
open PySem PySem.Spec PyProof.Rows L2 Own OwnSeq OwnSet OwnComb OwnSort OwnHot OwnExN OwnProj
local macro_rules | `(tactic| walk_at "rd") => `(tactic| simp only [tSeq, tAsg, tOp, tUn, tVar, gName, gSub, rIxL, rIxT, rSetL, tC, rI0, rI, rU, rEq, rNe, tCons, tNil, tCB, tLst, tTup, tIfS, tAnd, tOr, tNot, tAndV, tOrV, tNotV, tTest, tB, tIf, tRet, tDrop, tNext, tBreak, tCont, tCall, tCallS, L2.WE, tMakeS, rIsS, rIsB, tChain, gSeq, gRest, gCons, gNil, tFor_seq, tFor_enumS, tLc_seq, tLc_enumS, rAny, rAll, L2.tMeth, StX.tStar, rIn, tLstRg, tRg1, tRg2, rSetI, rSortedSet, rInDT, rInD, rNotInD, rEqD, rNeD, iComb, tFld, tMake, tMkO, sFld, tOst, tNever, tBits, clv, isB,
  Rd.tFor_rng1, Rd.tFor_rng2, Rd.tFor_list, Rd.tFor_tup, Rd.tLc_list, Rd.tLc_tup, Rd.tLc_rng1, Rd.LcTurn, tYes, wipe, Rd.rLenL, Rd.rLenT, Rd.rIntI, Rd.rIxH, rIxHT,  HO.tup.injEq, Rd.at0, Rd.at1, Rd.at2, Rd.at3, Rd.ixN40, Rd.ixN41, Rd.ixN42, Rd.ixN43, Rd.scal_ii, cxOf,
  List.length_cons, List.length_nil, List.length_map, List.map_cons, List.map_nil, upd_same, decide_eq_true_eq, decide_true, decide_false, if_true, if_false, Bool.false_eq_true, Bool.not_true, Bool.not_false, HO.lst.injEq, HO.ins.injEq, List.set_cons_zero, List.set_cons_succ, List.getElem?_cons_zero, List.getElem?_cons_succ, List.append_nil, List.nil_append, List.cons_append, Option.some.injEq, V.ref.injEq, V.int.injEq, V.bl.injEq, List.cons.injEq, exists_eq_left', exists_and_left, exists_eq_left, true_and, and_true, and_self, and_assoc, implies_true, reduceCtorEq, Nat.reduceAdd])

/-- what stood in H0 stands -/
def St (H0 H H' : Hp) : Prop := ∀ q o, H0 q ≠ none → H q = some o → H' q = some o
theorem St.refl (H0 H : Hp) : St H0 H H := fun _ _ _ h => h
theorem St.trans {H0 H H1 H2 : Hp} (x : St H0 H H1) (y : St H0 H1 H2) : St H0 H H2 := fun q o n h => y q o n (x q o n h)
theorem St.same {H0 H H1 : Hp} (e : Same H H1) : St H0 H H1 := fun q o _ h => e q o h
theorem St.upd {H0 H : Hp} {q : Addr} {o : HO} (h : H0 q = none) : St H0 H (L2.upd H q o) := fun b _ n e => (upd_ne fun z => n (by rw [z]; exact h)).trans e
theorem BoxAt.st {K : PySem.W.Frag} {H0 H H' : Hp} {b c : Addr} {ns : List Int} (B0 : BoxAt K H0 b c ns) (B : BoxAt K H b c ns) (s : St H0 H H') : BoxAt K H' b c ns := by
  obtain ⟨n1, n2, n3, h, u, v⟩ := B.ob
  obtain ⟨m1, m2, m3, h0, _⟩ := B0.ob
  refine ⟨B.ne, B.len, ⟨n1, n2, n3, s _ _ (by rw [h0]; exact Option.some_ne_none _) h, u, v⟩, ?_⟩
  have go : H0 c ≠ none → SqL K H' c (ns.map V.int) := fun ne => by
    rcases B.cells with (z | ⟨o, z⟩) | z
    · exact .inl (.inl (s _ _ ne z))
    · exact .inl (.inr ⟨o, s _ _ ne z⟩)
    · exact .inr z
  rcases B0.cells with (z | ⟨o, z⟩) | z
  · exact go (by rw [z]; exact Option.some_ne_none _)
  · exact go (by rw [z]; exact Option.some_ne_none _)
  · exact .inr z
theorem passed_fit {ws : List Wv} (l : ws.length ≤ 128) (hd : ∀ w ∈ ws, Dep 3 w) : Fit 5 (.lst ws) :=
  .lst 30000 (by omega) (fun w m => (hd w m).up.fit (by decide)) (fun w m => tx_len (hd w m)) (by have : ws.length * 30000 ≤ 128 * 30000 := Nat.mul_le_mul_right _ l; omega)
def swp {α : Type} : List α → List α
  | [x, y] => [y, x]
  | l => l
theorem swp_vals : ∀ {zs : List V} {ws : List Value}, Vals zs ws → Vals (swp zs) (swp ws)
  | _, _, .nil => .nil
  | _, _, .cons r .nil => .cons r .nil
  | _, _, .cons r (.cons q .nil) => .cons q (.cons r .nil)
  | _, _, .cons r (.cons q (.cons p t)) => .cons r (.cons q (.cons p t))
theorem kbw_of {K : PySem.W.Frag} {x qual : Str} {st : Stmt} {f : Addr} {fd : FuncData} {ps : List Str} (ks : List Str) (F : Fun K x qual st f fd)
    (h : ∀ (kV doc pm : Value) (an : Option Addr) (cdv ct : Value) (us ws : List Value), us.length = 1 → ws.length = ks.length → bindArgs (PySem.W.fnOf x qual (defArgs st) (defBody st) (defScope st) .none kV doc pm an cdv ct) ⟨us, ks.zip ws⟩ = pure (ps.zip (us ++ swp ws))) :
    KBn K fd ps 1 ks (fun us ws => us ++ swp ws) (fun vs zs => vs ++ swp zs) :=
  match F.ex with
  | ⟨_, _, kV, doc, pm, an, cdv, ct, _, e, _, _⟩ => ⟨fun s us ws _ l1 l2 => .of_eq (by rw [e]; exact h kV doc pm an cdv ct us ws l1 l2), fun r1 r2 => r1.append (swp_vals r2)⟩
section
variable {P : Program} {w : World} {K : PySem.W.Frag} {mg : Str → Option Value} {base : Heap} {a : Ad}
theorem passNA {X : Cx} {σ : L2.St} : PassesAt (L2N.CX P w) X σ (fun _ _ _ => False) := fun _ _ _ _ _ _ ⟨_, _, _, _, _, _, _, _, _, _, _, _, h⟩ => h.elim
theorem kb_fam (T : Txt K mg a) : KBn K a.d_Family_init ["self", "size", "sets"] 1 ["sets", "size"] (fun us ws => us ++ swp ws) (fun vs zs => vs ++ swp zs) :=
  kbw_of ["sets", "size"] T.fn_Family_init fun kV doc pm an cdv ct us ws hu hw => match us, ws, hu, hw with | [_], [_, _], _, _ => by first | rfl | with_unfolding_all rfl | kernel_rfl
/-! ### _law_all -/
def spAllL (K : PySem.W.Frag) : Sp := fun vs H Q _ => ∃ (a : Addr) (ns : List Int), vs = [.ref a] ∧ SqL K H a (ns.map V.int) ∧ ns.length ≤ 63 ∧ ∀ H', Q (.bl true) H'
theorem sc_law_all : FnScope ["script", "box", "size", "inside", "sets", "passed", "kept", "family", "things", "again"] ["script"] (defScope s_law_all) := ⟨rfl, rfl, rfl, by decide +kernel, rfl, by decide +kernel, by decide +kernel⟩
theorem ok_law_all (T : Txt K mg a) : FnOk P w K mg base CX0 10 a.a_law_all a.d_law_all ["script"] (spAllL K) := by
  refine T.fn_law_all.ok sc_law_all (fun vs H Q E h => ?_) (fun cdv A outer s H vs Q E hr h => ?_)
  · obtain ⟨p, ns, rfl, _⟩ := h
    rfl
  · obtain ⟨p0, ns, rfl, hs, hl, k⟩ := h
    refine ⟨_, (pss_cons (ps_set (i := 1) sc_law_all.nd rfl (Or.inl rfl) (pe_call (ok_law_box T) (hr.mono (by decide)) (by rfl) T.mg_law_box T.fn_law_box.kp T.b_law_box .nil pass0 (pa_cons (pv 0) pa_nil)))
      (pss_cons (ps_set (i := 2) sc_law_all.nd rfl (Or.inl rfl) (pe_op op_add pe_int (pe_call (ok_law_draw T) (hr.mono (by decide)) (by rfl) T.mg_law_draw T.fn_law_draw.kp T.b_law_draw .nil pass0 (pa_cons (pv 1) (pa_cons pe_int pa_nil)))))
      (pss_cons (ps_set (i := 3) sc_law_all.nd rfl (Or.inl rfl) (pe_call (ok_law_inside T) (hr.mono (by decide)) (by rfl) T.mg_law_inside T.fn_law_inside.kp T.b_law_inside .nil pass0 (pa_cons (pv 1) (pa_cons (pv 2) pa_nil))))
      (pss_cons (ps_set (i := 4) sc_law_all.nd rfl (Or.inl rfl) (pe_call (ok_law_ordered T) (hr.mono (by decide)) (by rfl) T.mg_law_ordered T.fn_law_ordered.kp T.b_law_ordered .nil pass0 (pa_cons (pv 3) pa_nil)))
      (pss_cons (ps_set (i := 5) sc_law_all.nd rfl (Or.inl rfl) (pe_call (ok_law_mixed T) (hr.mono (by decide)) (by rfl) T.mg_law_mixed T.fn_law_mixed.kp T.b_law_mixed .nil pass0 (pa_cons (pv 1) (pa_cons (pv 4) pa_nil))))
      (pss_cons (ps_set (i := 6) sc_law_all.nd rfl (Or.inl rfl) (pe_call (ok_law_text T) (hr.mono (by decide)) (by rfl) T.mg_law_text T.fn_law_text.kp T.b_law_text .nil pass0 (pa_cons (pv 5) pa_nil)))
      (pss_cons (ps_set (i := 7) sc_law_all.nd rfl (Or.inl rfl) (pe_make T.mk_Family (ok_Family_init T) (hr.mono (by decide)) (by rfl) T.mg_Family T.b_Family_init .nil passN (pa_cons (pv 2) (pa_cons (pv 5) pa_nil))))
      (pss_cons (ps_if (PW.pt (pw_or (pt_not (pt_val (pe_call (ok_law_family T) (hr.mono (by decide)) (by rfl) T.mg_law_family T.fn_law_family.kp T.b_law_family .nil pass0 (pa_cons (pv 1) (pa_cons (pv 7) (pa_cons (pv 2) (pa_cons (pv 3) pa_nil))))))) (pw_or1 (pt_cmpR op_ne (pe_call (ok_law_text T) (hr.mono (by decide)) (by rfl) T.mg_law_text T.fn_law_text.kp T.b_law_text .nil pass0 (pa_cons (pv 5) pa_nil)) (pv 6) (nomark _))))) (pss_one (ps_ret pe_bl)) pss_nil)
      (pss_cons (ps_for PassesOwn.never rfl (pi_toldL K (pv 5)) (pg_name (i := 8) sc_law_all.nd rfl (Or.inl rfl))
        (pss_one (ps_if (pt_val (pe_callB (call_isK T .lst) (by rfl) T.no_isinstance (by decide +kernel) (pa_cons (pv 8) (pa_cons (pe_bltn (v := .ty "list") (u := .type "list") (by rfl) T.no_list (by decide +kernel) rfl) pa_nil)))) (pss_one (ps_expr (pe_bm PySem.F.plainAttrs_list PySem.F.slot_list_append PySem.F.type_list_append mt_append (pv 8) (pa_cons pe_int pa_nil)))) pss_nil)))
      (pss_cons (ps_expr (pe_bm0 PySem.F.plainAttrs_list PySem.F.slot_list_pop PySem.F.type_list_pop mt_pop (pv 5)))
      (pss_cons (ps_expr (pe_bm PySem.F.plainAttrs_list PySem.F.slot_list_insert PySem.F.type_list_insert mt_insert (pv 5) (pa_cons pe_int (pa_cons (pe_tup (pa_cons pe_int (pa_cons pe_int pa_nil))) pa_nil))))
      (pss_cons (ps_set (i := 9) sc_law_all.nd rfl (Or.inl rfl) (Own.pe_makeKS T.mk_Family (ok_Family_init T) (hr.mono (by decide)) (by rfl) T.mg_Family (kb_fam T) (fun _ _ => rfl) (fun _ _ => rfl) (fun _ => passNA) (pk_cons (pe_call (ok_law_shape T) (hr.mono (by decide)) (by rfl) T.mg_law_shape T.fn_law_shape.kp T.b_law_shape .nil pass0 (pa_cons (pv 1) (pa_cons (pe_call (ok_law_mixed T) (hr.mono (by decide)) (by rfl) T.mg_law_mixed T.fn_law_mixed.kp T.b_law_mixed .nil pass0 (pa_cons (pv 1) (pa_cons (pv 4) pa_nil))) pa_nil))) (pk_cons (pv 2) pk_nil))))
      (pss_cons (ps_if (PW.pt (pw_or (pt_not (pt_val (pe_call (ok_law_family T) (hr.mono (by decide)) (by rfl) T.mg_law_family T.fn_law_family.kp T.b_law_family .nil pass0 (pa_cons (pv 1) (pa_cons (pv 7) (pa_cons (pv 2) (pa_cons (pv 3) pa_nil))))))) (pw_or1 (pt_not (pt_val (pe_call (ok_law_truth T) (hr.mono (by decide)) (by rfl) T.mg_law_truth T.fn_law_truth.kp T.b_law_truth .nil pass0 (pa_cons (pe_cmpR (op_eqOwn (ok_Family_eq T) (hr.mono (by decide)) T.mt_Family_eq.at_ T.mt_Family_eq.fn T.b_Family_eq pass0) (pv 7) (pv 9) (nomark _)) (pa_cons pe_bl pa_nil)))))))) (pss_one (ps_ret pe_bl)) pss_nil)
      (pss_one (ps_ret (pe_and (pe_call (ok_law_others T) (hr.mono (by decide)) (by rfl) T.mg_law_others T.fn_law_others.kp T.b_law_others .nil pass0 (pa_cons (pv 1) (pa_cons (pv 7) (pa_cons (pv 2) (pa_cons (pv 3) pa_nil))))) (pe_one (pe_call (ok_law_faults T) (hr.mono (by decide)) (by rfl) T.mg_law_faults T.fn_law_faults.kp T.b_law_faults .nil pass0 (pa_cons (pv 1) (pa_cons (pv 2) (pa_cons (pv 3) pa_nil))))))))))))))))))))), ?_⟩
    show (_ : TS) _ [some (V.ref p0), none, none, none, none, none, none, none, none, none] H
    refine cut (fun σ H1 => ∃ b c, σ = [some (V.ref p0), some (V.ref b), none, none, none, none, none, none, none, none] ∧ BoxAt K H1 b c ns) (fun R hR => ?_) (fun σ H1 h => ?_)
    · walk_at "rd"
      exact ⟨p0, ns, rfl, hs, hl, fun b c H1 B e b0 => hR _ _ ⟨b, c, rfl, B⟩⟩
    obtain ⟨b, c, rfl, B1⟩ := h
    refine cut (fun σ H2 => ∃ n : Nat, σ = [some (V.ref p0), some (V.ref b), some (V.int n), none, none, none, none, none, none, none] ∧ BoxAt K H2 b c ns ∧ 1 ≤ n ∧ n ≤ 6) (fun R hR => ?_) (fun σ H2 h => ?_)
    · walk_at "rd"
      exact drw B1 (by decide) (by decide) fun x H2 x6 B2 e2 => ⟨_, rfl, hR _ _ ⟨1 + x, by rw [show (1 : Int) + (x : Int) = ((1 + x : Nat) : Int) by omega], B2, by omega, by omega⟩⟩
    obtain ⟨n, rfl, B2, n1, n6⟩ := h
    refine cut (fun σ H3 => ∃ r S, σ = [some (V.ref p0), some (V.ref b), some (V.int n), some (V.ref r), none, none, none, none, none, none] ∧ BoxAt K H3 b c ns ∧ r ≠ b ∧ H3 r = some (.lst (S.map V.bl)) ∧ Fam n S) (fun R hR => ?_) (fun σ H3 h => ?_)
    · walk_at "rd"
      exact ⟨b, c, ns, n, rfl, B2, n1, n6, fun r S H3 B3 e3 r0 hr3 F => hR _ _ ⟨r, S, rfl, B3, B2.ne_new r0, hr3, F⟩⟩
    obtain ⟨r, S, rfl, B3, rb, hr3, F⟩ := h
    have p64 := pow64 n6
    have fl := famL_len (S := S) n6
    have al6 : ∀ s ∈ famL n S, s.length ≤ 6 := fun s h => Nat.le_trans (allS_at (famL_mem.mp h).1 n6).2.2.2.1 n6
    refine cut (fun σ H4 => ∃ sr us, σ = [some (V.ref p0), some (V.ref b), some (V.int n), some (V.ref r), some (V.ref sr), none, none, none, none, none] ∧ BoxAt K H4 b c ns ∧ H4 r = some (.lst (S.map V.bl)) ∧ sr ≠ b ∧ H4 sr = some (.lst us) ∧ Tups H4 us (famL n S)) (fun R hR => ?_) (fun σ H4 h => ?_)
    · walk_at "rd"
      exact ⟨r, n, S, rfl, hr3, ⟨n6, F.len⟩, fun sr us H4 s0 e4 a4 tu => hR _ _ ⟨sr, us, rfl, B3.same e4, e4 _ _ hr3, B3.ne_new s0, a4, tu⟩⟩
    obtain ⟨sr, us, rfl, B4, hr4, srb, hs4, tu4⟩ := h
    refine cut (fun σ H5 => ∃ D xs ws, σ = [some (V.ref p0), some (V.ref b), some (V.int n), some (V.ref r), some (V.ref sr), some (V.ref D), none, none, none, none] ∧ BoxAt K H5 b c ns ∧ But b H4 H5 ∧ H4 D = none ∧ H5 D = some (.lst xs) ∧ IsNs a.C_Frac H4 (noD D H5) xs ws ∧ ws.length ≤ 128 ∧ MixOk (famL n S) (famL n S).length ws) (fun R hR => ?_) (fun σ H5 h => ?_)
    · walk_at "rd"
      exact ⟨b, c, sr, ns, us, famL n S, rfl, B4, srb, hs4, tu4, by omega, al6, fun D xs ws H5 B5 e5 D0 hD hx wl mo => hR _ _ ⟨D, xs, ws, rfl, B5, e5, D0, hD, hx, wl, mo⟩⟩
    obtain ⟨D, xs, ws, rfl, B5, e5, D0, hD5, hx5, wl, mo⟩ := h
    have Db := B4.ne_new D0
    have wd := mix_dep F mo
    have xl := hx5.len
    have isx : ∀ {H' : Hp}, But b H5 H' → H' D = some (.lst xs) ∧ IsNs a.C_Frac H4 (noD D H') xs ws := fun e => ⟨e _ _ Db hD5, IsNs.noD B4 B5 e hx5⟩
    have txt : ∀ {H' : Hp} {QQ : VK}, But b H5 H' → (∀ H2, Same H' H2 → QQ (.str (tx (.lst ws))) H2) → spText a.C_Frac 6 [.ref D] H' QQ E0 := fun {H' QQ} e kk => ⟨.ref D, .lst ws, rfl, .lst (isx e).1 (isx e).2.all.is, passed_fit wl wd, kk⟩
    refine cut (fun σ H6 => σ = [some (V.ref p0), some (V.ref b), some (V.int n), some (V.ref r), some (V.ref sr), some (V.ref D), some (V.str (tx (.lst ws))), none, none, none] ∧ Same H5 H6) (fun R hR => ?_) (fun σ H6 h => ?_)
    · walk_at "rd"
      exact txt (But.refl _ _) fun H6 e6 => hR _ _ ⟨rfl, e6⟩
    obtain ⟨rfl, e6⟩ := h
    obtain ⟨m1, m2, m3⟩ := mix_ok F mo
    refine cut (fun σ H7 => ∃ f, σ = [some (V.ref p0), some (V.ref b), some (V.int n), some (V.ref r), some (V.ref sr), some (V.ref D), some (V.str (tx (.lst ws))), some (V.ref f), none, none] ∧ Same H5 H7 ∧ FamV a.C_Family H7 f n S) (fun R hR => ?_) (fun σ H7 h => ?_)
    · walk_at "rd"
      refine fam_made n1 n6 (l := true) (isx (Same.but e6)).1 (isx (Same.but e6)).2.all.is (by omega) m1 m2 fun g H7 g0 e7 F7 => ?_
      rw [m3] at F7
      exact hR _ _ ⟨g, rfl, e6.trans e7, F7⟩
    obtain ⟨f, rfl, e7, F7⟩ := h
    have B7 := B5.same e7
    obtain ⟨_, _, _, hb5, _⟩ := B5.ob
    obtain ⟨_, _, _, hb7, _⟩ := B7.ob
    refine cut (fun σ H8 => σ = [some (V.ref p0), some (V.ref b), some (V.int n), some (V.ref r), some (V.ref sr), some (V.ref D), some (V.str (tx (.lst ws))), some (V.ref f), none, none] ∧ BoxAt K H8 b c ns ∧ But b H7 H8) (fun R hR => ?_) (fun σ H8 h => ?_)
    · walk_at "rd"
      refine ⟨b, c, f, r, ns, n, S, rfl, B7, rb, e7 _ _ (e5 _ _ rb hr4), F7, fun H8 B8 e8 => ⟨_, rfl, ?_⟩⟩
      rw [if_neg (by decide)]
      refine txt ((Same.but e7).trans e8) fun H9 e9 => ⟨rfl, ?_⟩
      rw [if_neg (by simp)]
      exact hR _ _ ⟨rfl, B8.same e9, e8.trans (Same.but e9)⟩
    obtain ⟨rfl, B8, e8⟩ := h
    have e48 : But b H4 H8 := (e5.trans (Same.but e7)).trans e8
    have F8 := F7.kp (Kp.but e8 hb7)
    obtain ⟨hD8, hx8⟩ := isx ((Same.but e7).trans e8)
    obtain ⟨_, _, _, hb4, _⟩ := B4.ob
    have in4 : ∀ {q : Addr} {o : HO}, H4 q = some o → H4 q ≠ none := fun h z => by rw [h] at z; cases z
    have ini : ∀ x ∈ xs, ∃ q, x = .ref q ∧ q ≠ D ∧ ((∃ us, H8 q = some (.lst us) ∧ us.length ≤ 6 ∧ H4 q = none) ∨ ∃ us, H8 q = some (.tup us)) := fun x hxm => by
      obtain ⟨i, hi⟩ := List.mem_iff_getElem?.mp hxm
      have il := (List.getElem?_eq_some_iff.mp hi).1
      obtain ⟨v, w', hv, hw', vw⟩ := hx8.at il
      rw [hi] at hv
      obtain rfl := Option.some.inj hv
      obtain ⟨l, s, rfl, hs⟩ := mo.1 w' (List.mem_of_getElem? hw')
      have s6 := al6 s hs
      cases l with
      | true =>
        cases vw with
        | lst h n0 e =>
          obtain ⟨qD, h⟩ := noD_get h
          exact ⟨_, rfl, qD, .inl ⟨_, h, by rw [e.len, List.length_map]; omega, n0⟩⟩
      | false =>
        cases vw with
        | tup h e =>
          obtain ⟨qD, h⟩ := noD_get h
          exact ⟨_, rfl, qD, .inr ⟨_, h⟩⟩
    refine cut (fun σ H9 => ∃ o8, σ = [some (V.ref p0), some (V.ref b), some (V.int n), some (V.ref r), some (V.ref sr), some (V.ref D), some (V.str (tx (.lst ws))), some (V.ref f), o8, none] ∧ Kp H8 H9 ∧ St H4 H8 H9 ∧ H9 D = some (.lst xs)) (fun R hR => ?_) (fun σ H9 h => ?_)
    · walk_at "rd"
      refine ⟨⟨_, SqL.of hD8⟩, Rd.loop_listC (xs := xs) (fun σ H9 => ∃ o8, σ = [some (V.ref p0), some (V.ref b), some (V.int n), some (V.ref r), some (V.ref sr), some (V.ref D), some (V.str (tx (.lst ws))), some (V.ref f), o8, none] ∧ Kp H8 H9 ∧ St H4 H8 H9 ∧ H9 D = some (.lst xs))
        (fun i σ H9 => ∃ o8, σ = [some (V.ref p0), some (V.ref b), some (V.int n), some (V.ref r), some (V.ref sr), some (V.ref D), some (V.str (tx (.lst ws))), some (V.ref f), o8, none] ∧ Kp H8 H9 ∧ St H4 H8 H9 ∧ H9 D = some (.lst xs) ∧
          ∀ x ∈ xs, ∃ q, x = .ref q ∧ q ≠ D ∧ ((∃ us, H9 q = some (.lst us) ∧ us.length ≤ 6 + i ∧ H4 q = none) ∨ ∃ us, H9 q = some (.tup us)))
        ⟨none, rfl, fun _ _ h _ => h, St.refl _ _, hD8, ini⟩ (fun i σ H6 _ ⟨_, _, _, _, e, _⟩ => SqL.of e) ?_ (fun σ H6 ⟨o10, q1, q2, q3, q4, _⟩ => ⟨o10, q1, q2, q3, q4⟩) (fun σ H6 z => hR _ _ z)⟩
      rintro bk hbk i x σ H6 hx6 ⟨o8, rfl, kp, st, hD6, al⟩
      have il := (List.getElem?_eq_some_iff.mp hx6).1
      obtain ⟨q, rfl, qD, hq⟩ := al _ (List.mem_of_getElem? hx6)
      walk_at "rd"
      rcases hq with ⟨us, hq, ul, q0⟩ | ⟨us, hq⟩
      · refine ⟨_, .lst, rfl, .lst hq, (by intro z; cases z), _, rfl, ite2 (fun _ => ?_) (fun h => absurd rfl h)⟩
        simp only [tBM, rAppend]
        walk_at "rd"
        refine ⟨.inl ⟨rfl, _, SqL.of hq⟩, _, hq, small (by omega), kp.trans (Kp.upd hq), st.trans (St.upd q0), (upd_ne (Ne.symm qD)).trans hD6, fun y hy => ?_⟩
        obtain ⟨q2, rfl, a1, a3⟩ := al y hy
        refine ⟨q2, rfl, a1, ?_⟩
        by_cases h : q2 = q
        · subst h
          exact .inl ⟨_, upd_same, by rw [List.length_append]; show us.length + 1 ≤ _; omega, q0⟩
        · rw [upd_ne h]
          rcases a3 with ⟨us, b1, b2, b3⟩ | a3
          · exact .inl ⟨us, b1, by omega, b3⟩
          · exact .inr a3
      · refine ⟨_, .tup, rfl, .tup hq, (by intro z; cases z), _, rfl, ite2 (fun h => nomatch h) (fun _ => ?_)⟩
        refine ⟨kp, st, hD6, fun y hy => ?_⟩
        obtain ⟨q2, rfl, a1, a3⟩ := al y hy
        refine ⟨q2, rfl, a1, ?_⟩
        rcases a3 with ⟨us, b1, b2, b3⟩ | a3
        · exact .inl ⟨us, b1, by omega, b3⟩
        · exact .inr a3
    obtain ⟨o8, rfl, kp9, st9, hD9⟩ := h
    have wpos : 0 < xs.length := by
      have em : [] ∈ (famL n S) := famL_mem.mpr ⟨nil_in n6, F.zero⟩
      obtain ⟨l, hm⟩ := mo.2 [] (by rw [List.take_length]; exact em)
      have := List.length_pos_of_mem hm
      omega
    refine cut (fun σ H10 => σ = [some (V.ref p0), some (V.ref b), some (V.int n), some (V.ref r), some (V.ref sr), some (V.ref D), some (V.str (tx (.lst ws))), some (V.ref f), o8, none] ∧ Kp H8 H10 ∧ St H4 H8 H10 ∧ H10 D = some (.lst xs.dropLast)) (fun R hR => ?_) (fun σ H10 h => ?_)
    · walk_at "rd"
      simp only [tBM0, rPop]
      walk_at "rd"
      refine ⟨.inl ⟨rfl, _, SqL.of hD9⟩, _, hD9, _, List.getElem?_eq_getElem (show xs.length - 1 < xs.length by omega), ?_⟩
      exact hR _ _ ⟨rfl, kp9.trans (Kp.upd hD9), st9.trans (St.upd D0), upd_same⟩
    obtain ⟨rfl, kp10, st10, hD10⟩ := h
    refine cut (fun σ H11 => σ = [some (V.ref p0), some (V.ref b), some (V.int n), some (V.ref r), some (V.ref sr), some (V.ref D), some (V.str (tx (.lst ws))), some (V.ref f), o8, none] ∧ Kp H8 H11 ∧ St H4 H8 H11) (fun R hR => ?_) (fun σ H11 h => ?_)
    · walk_at "rd"
      simp only [tBM]
      walk_at "rd"
      refine ⟨.inl ⟨rfl, _, SqL.of hD10⟩, by decide, fun p hp => ?_⟩
      have sp := same_upd (o := .tup [V.int 5, V.int 4]) hp
      refine ⟨_, sp _ _ hD10, small (by rw [List.length_dropLast]; omega), by decide, by decide, ?_⟩
      exact hR _ _ ⟨rfl, (kp10.trans (Kp.same sp)).trans (Kp.upd (sp _ _ hD10)), (st10.trans (St.same sp)).trans (St.upd D0)⟩
    obtain ⟨rfl, kp11, st11⟩ := h
    have B11 := BoxAt.st B4 B8 st11
    have F11 := F8.kp kp11
    have hr11 := st11 _ _ (in4 hr4) (e48 _ _ rb hr4)
    have hs11 := st11 _ _ (in4 hs4) (e48 _ _ srb hs4)
    have tu11 : Tups H11 us (famL n S) := Tups.keep (fun q l h => kp11 q _ (tup_but e48 hb4 q l h) (fun _ z => by cases z)) tu4
    refine cut (fun σ H12 => ∃ g, σ = [some (V.ref p0), some (V.ref b), some (V.int n), some (V.ref r), some (V.ref sr), some (V.ref D), some (V.str (tx (.lst ws))), some (V.ref f), o8, some (V.ref g)] ∧ BoxAt K H12 b c ns ∧ But b H11 H12 ∧ FamV a.C_Family H12 g n S) (fun R hR => ?_) (fun σ H12 h => ?_)
    · walk_at "rd"
      simp only [Own.tMakeKS]
      walk_at "rd"
      refine ⟨b, c, sr, ns, us, famL n S, rfl, B11, srb, hs11, tu11, by omega, al6, fun q xs2 ws2 H12 B12 e12 q0 hq hx2 wl2 mo2 => ?_⟩
      obtain ⟨g1, g2, g3⟩ := mix_ok F mo2
      refine ⟨b, c, q, ns, true, xs2, rfl, B12, B11.ne_new q0, hq, by rw [hx2.len]; omega, fun q2 l' H13 B13 e13 qb2 hq2 _ => ?_⟩
      refine fam_made n1 n6 (l := l') hq2 (IsNs.noD B11 B12 e13 hx2).all.is (by omega) g1 g2 fun g H14 g0 e14 F14 => ?_
      rw [g3] at F14
      exact hR _ _ ⟨g, rfl, B13.same e14, (e12.trans e13).trans (Same.but e14), F14⟩
    obtain ⟨g, rfl, B12, e12, G12⟩ := h
    obtain ⟨_, _, _, hb11, _⟩ := B11.ob
    have F12 := F11.kp (Kp.but e12 hb11)
    have hr12 := e12 _ _ rb hr11
    obtain ⟨_, _, _, hb12, _⟩ := B12.ob
    refine cut (fun σ H13 => σ = [some (V.ref p0), some (V.ref b), some (V.int n), some (V.ref r), some (V.ref sr), some (V.ref D), some (V.str (tx (.lst ws))), some (V.ref f), o8, some (V.ref g)] ∧ BoxAt K H13 b c ns ∧ But b H12 H13) (fun R hR => ?_) (fun σ H13 h => ?_)
    · walk_at "rd"
      refine ⟨b, c, f, r, ns, n, S, rfl, B12, rb, hr12, F12, fun H13 B13 e13 => ⟨_, rfl, ?_⟩⟩
      rw [if_neg (by decide)]
      have F13 := F12.kp (Kp.but e13 hb12)
      have G13 := G12.kp (Kp.but e13 hb12)
      obtain ⟨dx, t1, ys, hf, _⟩ := F13.ob
      obtain ⟨dy, t2, zs, hg, _⟩ := G13.ob
      refine ⟨f, dx, _, .ref a.C_Family, rfl, hf, .base (.ins hg T.cl_Family T.cg_Family T.cget T.ctk T.mr_Family), T.nf_Fam, f, n, S, F13, .inl ⟨g, n, S, rfl, G13, _, _, rfl, _, rfl, ?_⟩⟩
      rw [decide_eq_true rfl, decide_eq_true rfl, if_neg (by decide)]
      exact hR _ _ ⟨rfl, B13, e13⟩
    obtain ⟨rfl, B13, e13⟩ := h
    walk_at "rd"
    refine ⟨b, c, f, r, ns, n, S, rfl, B13, rb, e13 _ _ rb hr12, F12.kp (Kp.but e13 hb12), fun H14 B14 e14 => ⟨_, rfl, ?_⟩⟩
    rw [if_pos rfl]
    exact ⟨b, c, r, ns, n, S, rfl, B14, rb, e14 _ _ rb (e13 _ _ rb hr12), F, fun H15 _ _ => k H15⟩
/-! ### law -/
def spLaw (K : PySem.W.Frag) : Sp := fun vs H Q _ => ∃ (a : Addr) (ns : List Int), vs = [.ref a] ∧ SqL K H a (ns.map V.int) ∧ ns.length ≤ 63 ∧ ∀ H', Q (.bl true) H'
theorem sc_law : FnScope ["script"] ["script"] (defScope s_law) := ⟨rfl, rfl, rfl, by decide +kernel, rfl, by decide +kernel, by decide +kernel⟩
theorem ok_law (T : Txt K mg a) : FnOk P w K mg base CX0 11 a.a_law a.d_law ["script"] (spLaw K) := by
  refine T.fn_law.ok sc_law (fun vs H Q E h => ?_) (fun cdv A outer s H vs Q E hr h => ?_)
  · obtain ⟨p, ns, rfl, _⟩ := h
    rfl
  · obtain ⟨p0, ns, rfl, hs, hl, k⟩ := h
    refine ⟨_, (pss_one (ps_try_thru0 (pss_one (ps_ret (pe_call (ok_law_all T) (hr.mono (by decide)) (by rfl) T.mg_law_all T.fn_law_all.kp T.b_law_all .nil pass0 (pa_cons (pv 0) pa_nil)))))), ?_⟩
    show (_ : TS) _ [some (V.ref p0)] H
    walk_at "rd"
    exact ⟨p0, ns, rfl, hs, hl, k⟩
end

end K19
namespace K19
open PySem PySem.Spec PyProof.Rows L2
theorem kit_self {K : PySem.W.Frag} {C : Addr} : PySem.W.kitOne K (.ref C) (.ref C) = some true := by
  unfold PySem.W.kitOne
  rw [if_pos (beq_self_eq_true _)]
theorem kit_own {K : PySem.W.Frag} {C : Addr} {t : String} {b : Bool} (h1 : PySem.W.isClsIn K C = true) (h2 : PySem.W.typeIn K (.ref C) = some (.type "type")) (h3 : PySem.W.subIn K (.type t) (.ref C) = some b) : PySem.W.kitOne K (.type t) (.ref C) = some b := by
  have e : (PySem.W.clsIn K C).isSome = true := h1
  unfold PySem.W.kitOne PySem.W.kitCls
  rw [if_neg (fun q => by cases beq_iff_eq.mp q)]
  simp only [e, h2, h3]
  rfl
theorem kit_bi {K : PySem.W.Frag} {C : Addr} {t : String} {b : Bool} (h : PySem.W.subIn K (.ref C) (.type t) = some b) (h1 : PySem.W.kitMeta t = true) : PySem.W.kitOne K (.ref C) (.type t) = some b := by
  unfold PySem.W.kitOne PySem.W.kitCls
  rw [if_neg (fun q => by cases beq_iff_eq.mp q)]
  simp only [h1, if_true, h]
theorem exm_of {K : PySem.W.Frag} {E S : Addr} {b : Bool} (h1 : PySem.W.subIn K (.ref S) (.type "BaseException") = some true) (h2 : PySem.W.isClsIn K S = true) (h3 : PySem.W.typeIn K (.ref S) = some (.type "type")) (h4 : PySem.W.subIn K (.ref E) (.ref S) = some b) :
    PySem.W.exmOne K (.ref E) (.ref S) = some b := by
  have e : (PySem.W.clsIn K S).isSome = true := h2
  unfold PySem.W.exmOne PySem.W.kitCls
  simp only [h1, e, h3, h4]
  rfl
theorem exm_self {K : PySem.W.Frag} {S : Addr} (h1 : PySem.W.subIn K (.ref S) (.type "BaseException") = some true) (h2 : PySem.W.isClsIn K S = true) (h3 : PySem.W.typeIn K (.ref S) = some (.type "type")) (h4 : PySem.W.subIn K (.ref S) (.ref S) = some true) :
    PySem.W.exmOne K (.ref S) (.ref S) = some true := by
  have e : (PySem.W.clsIn K S).isSome = true := h2
  unfold PySem.W.exmOne PySem.W.kitCls
  simp only [h1, e, h3, h4]
  rfl
theorem txt_mk {K : PySem.W.Frag} {h : Heap} {mg : Str → Option Value} {C_Frac C_Family C_WrongSize C_InvalidFamily C_NotClosed C_NextError a_InvalidFamily_init a_NotClosed_init a_WrongSize_init a_parts_of a_all_sets a_is_part a_joined a_rest_of a_is_whole a_is_within a_is_ascending a_clean_sets a_closed_sets a_Family_init a_Family_contains a_Family_eq a_Family_rank a_Family_full_sets a_Family_addable a_Frac_init a_law_box a_law_draw a_law_things a_law_mask a_law_inside a_law_ordered a_law_shape a_law_mixed a_law_integer a_law_is_set a_law_are_sets a_law_truth a_law_added a_law_rank a_law_family a_law_others a_law_no_set a_law_right_set a_law_missing a_law_text a_law_made a_law_faults a_law_all a_law : Addr} (X : K.In h) (G : h.Ns mainGlobals mg)
    {od_InvalidFamily_init an_InvalidFamily_init od_NotClosed_init an_NotClosed_init od_WrongSize_init an_WrongSize_init od_parts_of an_parts_of od_all_sets an_all_sets od_is_part an_is_part od_joined an_joined od_rest_of an_rest_of od_is_whole an_is_whole od_is_within an_is_within od_is_ascending an_is_ascending od_clean_sets an_clean_sets od_closed_sets an_closed_sets od_Family_init an_Family_init od_Family_contains an_Family_contains od_Family_eq an_Family_eq od_Family_rank an_Family_rank od_Family_full_sets an_Family_full_sets od_Family_addable an_Family_addable od_Frac_init an_Frac_init od_law_box an_law_box od_law_draw an_law_draw od_law_things an_law_things od_law_mask an_law_mask od_law_inside an_law_inside od_law_ordered an_law_ordered od_law_shape an_law_shape od_law_mixed an_law_mixed od_law_integer an_law_integer od_law_is_set an_law_is_set od_law_are_sets an_law_are_sets od_law_truth an_law_truth od_law_added an_law_added od_law_rank an_law_rank od_law_family an_law_family od_law_others an_law_others od_law_no_set an_law_no_set od_law_right_set an_law_right_set od_law_missing an_law_missing od_law_text an_law_text od_law_made an_law_made od_law_faults an_law_faults od_law_all an_law_all od_law an_law : Option Addr} {sl_InvalidFamily_init sl_NotClosed_init sl_WrongSize_init sl_parts_of sl_all_sets sl_is_part sl_joined sl_rest_of sl_is_whole sl_is_within sl_is_ascending sl_clean_sets sl_closed_sets sl_Family_init sl_Family_contains sl_Family_eq sl_Family_rank sl_Family_full_sets sl_Family_addable sl_Frac_init sl_law_box sl_law_draw sl_law_things sl_law_mask sl_law_inside sl_law_ordered sl_law_shape sl_law_mixed sl_law_integer sl_law_is_set sl_law_are_sets sl_law_truth sl_law_added sl_law_rank sl_law_family sl_law_others sl_law_no_set sl_law_right_set sl_law_missing sl_law_text sl_law_made sl_law_faults sl_law_all sl_law : Array (Option Value)} {oc_InvalidFamily_init kV_InvalidFamily_init dc_InvalidFamily_init pm_InvalidFamily_init cd_InvalidFamily_init ct_InvalidFamily_init oc_NotClosed_init kV_NotClosed_init dc_NotClosed_init pm_NotClosed_init cd_NotClosed_init ct_NotClosed_init oc_WrongSize_init kV_WrongSize_init dc_WrongSize_init pm_WrongSize_init cd_WrongSize_init ct_WrongSize_init oc_parts_of kV_parts_of dc_parts_of pm_parts_of cd_parts_of ct_parts_of oc_all_sets kV_all_sets dc_all_sets pm_all_sets cd_all_sets ct_all_sets oc_is_part kV_is_part dc_is_part pm_is_part cd_is_part ct_is_part oc_joined kV_joined dc_joined pm_joined cd_joined ct_joined oc_rest_of kV_rest_of dc_rest_of pm_rest_of cd_rest_of ct_rest_of oc_is_whole kV_is_whole dc_is_whole pm_is_whole cd_is_whole ct_is_whole oc_is_within kV_is_within dc_is_within pm_is_within cd_is_within ct_is_within oc_is_ascending kV_is_ascending dc_is_ascending pm_is_ascending cd_is_ascending ct_is_ascending oc_clean_sets kV_clean_sets dc_clean_sets pm_clean_sets cd_clean_sets ct_clean_sets oc_closed_sets kV_closed_sets dc_closed_sets pm_closed_sets cd_closed_sets ct_closed_sets oc_Family_init kV_Family_init dc_Family_init pm_Family_init cd_Family_init ct_Family_init oc_Family_contains kV_Family_contains dc_Family_contains pm_Family_contains cd_Family_contains ct_Family_contains oc_Family_eq kV_Family_eq dc_Family_eq pm_Family_eq cd_Family_eq ct_Family_eq oc_Family_rank kV_Family_rank dc_Family_rank pm_Family_rank cd_Family_rank ct_Family_rank oc_Family_full_sets kV_Family_full_sets dc_Family_full_sets pm_Family_full_sets cd_Family_full_sets ct_Family_full_sets oc_Family_addable kV_Family_addable dc_Family_addable pm_Family_addable cd_Family_addable ct_Family_addable oc_Frac_init kV_Frac_init dc_Frac_init pm_Frac_init cd_Frac_init ct_Frac_init oc_law_box kV_law_box dc_law_box pm_law_box cd_law_box ct_law_box oc_law_draw kV_law_draw dc_law_draw pm_law_draw cd_law_draw ct_law_draw oc_law_things kV_law_things dc_law_things pm_law_things cd_law_things ct_law_things oc_law_mask kV_law_mask dc_law_mask pm_law_mask cd_law_mask ct_law_mask oc_law_inside kV_law_inside dc_law_inside pm_law_inside cd_law_inside ct_law_inside oc_law_ordered kV_law_ordered dc_law_ordered pm_law_ordered cd_law_ordered ct_law_ordered oc_law_shape kV_law_shape dc_law_shape pm_law_shape cd_law_shape ct_law_shape oc_law_mixed kV_law_mixed dc_law_mixed pm_law_mixed cd_law_mixed ct_law_mixed oc_law_integer kV_law_integer dc_law_integer pm_law_integer cd_law_integer ct_law_integer oc_law_is_set kV_law_is_set dc_law_is_set pm_law_is_set cd_law_is_set ct_law_is_set oc_law_are_sets kV_law_are_sets dc_law_are_sets pm_law_are_sets cd_law_are_sets ct_law_are_sets oc_law_truth kV_law_truth dc_law_truth pm_law_truth cd_law_truth ct_law_truth oc_law_added kV_law_added dc_law_added pm_law_added cd_law_added ct_law_added oc_law_rank kV_law_rank dc_law_rank pm_law_rank cd_law_rank ct_law_rank oc_law_family kV_law_family dc_law_family pm_law_family cd_law_family ct_law_family oc_law_others kV_law_others dc_law_others pm_law_others cd_law_others ct_law_others oc_law_no_set kV_law_no_set dc_law_no_set pm_law_no_set cd_law_no_set ct_law_no_set oc_law_right_set kV_law_right_set dc_law_right_set pm_law_right_set cd_law_right_set ct_law_right_set oc_law_missing kV_law_missing dc_law_missing pm_law_missing cd_law_missing ct_law_missing oc_law_text kV_law_text dc_law_text pm_law_text cd_law_text ct_law_text oc_law_made kV_law_made dc_law_made pm_law_made cd_law_made ct_law_made oc_law_faults kV_law_faults dc_law_faults pm_law_faults cd_law_faults ct_law_faults oc_law_all kV_law_all dc_law_all pm_law_all cd_law_all ct_law_all oc_law kV_law dc_law pm_law cd_law ct_law : Value}
    {nm_WrongSize qq_WrongSize : Str} {N_WrongSize : Addr} {bs_WrongSize : List Value} {sn_WrongSize : List Str} {sub_WrongSize : List Value} {ab_WrongSize : Bool} {col_WrongSize : Option Bool} {dd_WrongSize : Option Addr} {m0_WrongSize m1_WrongSize m2_WrongSize m3_WrongSize m5_WrongSize : Option Value}
    {nm_InvalidFamily qq_InvalidFamily : Str} {N_InvalidFamily : Addr} {bs_InvalidFamily : List Value} {sn_InvalidFamily : List Str} {sub_InvalidFamily : List Value} {ab_InvalidFamily : Bool} {col_InvalidFamily : Option Bool} {dd_InvalidFamily : Option Addr} {m0_InvalidFamily m1_InvalidFamily m2_InvalidFamily m3_InvalidFamily m5_InvalidFamily : Option Value}
    {nm_NotClosed qq_NotClosed : Str} {N_NotClosed : Addr} {bs_NotClosed : List Value} {sn_NotClosed : List Str} {sub_NotClosed : List Value} {ab_NotClosed : Bool} {col_NotClosed : Option Bool} {dd_NotClosed : Option Addr} {m0_NotClosed m1_NotClosed m2_NotClosed m3_NotClosed m5_NotClosed : Option Value}
    {T_Frac_init : Addr} {o_Frac_init : Obj} {m_Frac_init : Nat} {tk0_Frac_init : Tok}
    {t_MOST_THINGS : Tok}
    (hC_Frac : PySem.W.nsIn K mainGlobals "Frac" = some (some (.ref C_Frac)))
    (hC_Family : PySem.W.nsIn K mainGlobals "Family" = some (some (.ref C_Family)))
    (hC_WrongSize : PySem.W.nsIn K mainGlobals "WrongSize" = some (some (.ref C_WrongSize)))
    (hC_InvalidFamily : PySem.W.nsIn K mainGlobals "InvalidFamily" = some (some (.ref C_InvalidFamily)))
    (hC_NotClosed : PySem.W.nsIn K mainGlobals "NotClosed" = some (some (.ref C_NotClosed)))
    (hC_NextError : PySem.W.nsIn K mainGlobals "NextError" = some (some (.ref C_NextError)))
    (pg_Frac : PySem.W.plainGet K C_Frac Str.empty = true)
    (hd_Frac : PySem.W.hasDictIn K C_Frac = true)
    (po_Frac : PySem.W.plainOver K C_Frac = true)
    (sa_Frac : PySem.W.findIn K (.ref C_Frac) "__setattr__" = some (some (.builtin "object.__setattr__")))
    (mk_Frac : PySem.W.makesIn K C_Frac = true)
    (kc_Frac : PySem.W.keepIn K (.ref C_Frac) = true)
    (na_Frac_num : PySem.W.findIn K (.ref C_Frac) "num" = some none)
    (na_Frac_den : PySem.W.findIn K (.ref C_Frac) "den" = some none)
    (cg_Frac : PySem.W.findIn K (.ref C_Frac) "__class__" = some (some (.builtin "object.__class__")))
    (mr_Frac : PySem.W.mroIn K C_Frac (.type "object") = some true)
    (pg_Family : PySem.W.plainGet K C_Family Str.empty = true)
    (hd_Family : PySem.W.hasDictIn K C_Family = true)
    (po_Family : PySem.W.plainOver K C_Family = true)
    (sa_Family : PySem.W.findIn K (.ref C_Family) "__setattr__" = some (some (.builtin "object.__setattr__")))
    (mk_Family : PySem.W.makesIn K C_Family = true)
    (kc_Family : PySem.W.keepIn K (.ref C_Family) = true)
    (na_Family_sets : PySem.W.findIn K (.ref C_Family) "sets" = some none)
    (na_Family_size : PySem.W.findIn K (.ref C_Family) "size" = some none)
    (cg_Family : PySem.W.findIn K (.ref C_Family) "__class__" = some (some (.builtin "object.__class__")))
    (mr_Family : PySem.W.mroIn K C_Family (.type "object") = some true)
    (cget : PySem.W.specialIn K (.builtin "object.__class__") "__get__" = some (some (.builtin "getset_descriptor.__get__")))
    (ctk : PySem.W.takesIn K (.builtin "object.__class__") = some true)
    (f_InvalidFamily_init : PySem.W.findIn K (.ref C_InvalidFamily) "__init__" = some (some (.ref a_InvalidFamily_init)))
    (l_InvalidFamily_init : K.lookup a_InvalidFamily_init = some ⟨oc_InvalidFamily_init, od_InvalidFamily_init, .func (PySem.W.fnOf "__init__" "InvalidFamily.__init__" (defArgs s_InvalidFamily_init) (defBody s_InvalidFamily_init) (defScope s_InvalidFamily_init) .none kV_InvalidFamily_init dc_InvalidFamily_init pm_InvalidFamily_init an_InvalidFamily_init cd_InvalidFamily_init ct_InvalidFamily_init), sl_InvalidFamily_init⟩)
    (c_InvalidFamily_init : PySem.W.codeIn K cd_InvalidFamily_init "InvalidFamily.__init__" = true)
    (k_InvalidFamily_init : PySem.W.keepIn K (.ref a_InvalidFamily_init) = true)
    (f_NotClosed_init : PySem.W.findIn K (.ref C_NotClosed) "__init__" = some (some (.ref a_NotClosed_init)))
    (l_NotClosed_init : K.lookup a_NotClosed_init = some ⟨oc_NotClosed_init, od_NotClosed_init, .func (PySem.W.fnOf "__init__" "NotClosed.__init__" (defArgs s_NotClosed_init) (defBody s_NotClosed_init) (defScope s_NotClosed_init) .none kV_NotClosed_init dc_NotClosed_init pm_NotClosed_init an_NotClosed_init cd_NotClosed_init ct_NotClosed_init), sl_NotClosed_init⟩)
    (c_NotClosed_init : PySem.W.codeIn K cd_NotClosed_init "NotClosed.__init__" = true)
    (k_NotClosed_init : PySem.W.keepIn K (.ref a_NotClosed_init) = true)
    (f_WrongSize_init : PySem.W.findIn K (.ref C_WrongSize) "__init__" = some (some (.ref a_WrongSize_init)))
    (l_WrongSize_init : K.lookup a_WrongSize_init = some ⟨oc_WrongSize_init, od_WrongSize_init, .func (PySem.W.fnOf "__init__" "WrongSize.__init__" (defArgs s_WrongSize_init) (defBody s_WrongSize_init) (defScope s_WrongSize_init) .none kV_WrongSize_init dc_WrongSize_init pm_WrongSize_init an_WrongSize_init cd_WrongSize_init ct_WrongSize_init), sl_WrongSize_init⟩)
    (c_WrongSize_init : PySem.W.codeIn K cd_WrongSize_init "WrongSize.__init__" = true)
    (k_WrongSize_init : PySem.W.keepIn K (.ref a_WrongSize_init) = true)
    (n_parts_of : PySem.W.nsIn K mainGlobals "parts_of" = some (some (.ref a_parts_of)))
    (l_parts_of : K.lookup a_parts_of = some ⟨oc_parts_of, od_parts_of, .func (PySem.W.fnOf "parts_of" "parts_of" (defArgs s_parts_of) (defBody s_parts_of) (defScope s_parts_of) .none kV_parts_of dc_parts_of pm_parts_of an_parts_of cd_parts_of ct_parts_of), sl_parts_of⟩)
    (c_parts_of : PySem.W.codeIn K cd_parts_of "parts_of" = true)
    (k_parts_of : PySem.W.keepIn K (.ref a_parts_of) = true)
    (n_all_sets : PySem.W.nsIn K mainGlobals "all_sets" = some (some (.ref a_all_sets)))
    (l_all_sets : K.lookup a_all_sets = some ⟨oc_all_sets, od_all_sets, .func (PySem.W.fnOf "all_sets" "all_sets" (defArgs s_all_sets) (defBody s_all_sets) (defScope s_all_sets) .none kV_all_sets dc_all_sets pm_all_sets an_all_sets cd_all_sets ct_all_sets), sl_all_sets⟩)
    (c_all_sets : PySem.W.codeIn K cd_all_sets "all_sets" = true)
    (k_all_sets : PySem.W.keepIn K (.ref a_all_sets) = true)
    (n_is_part : PySem.W.nsIn K mainGlobals "is_part" = some (some (.ref a_is_part)))
    (l_is_part : K.lookup a_is_part = some ⟨oc_is_part, od_is_part, .func (PySem.W.fnOf "is_part" "is_part" (defArgs s_is_part) (defBody s_is_part) (defScope s_is_part) .none kV_is_part dc_is_part pm_is_part an_is_part cd_is_part ct_is_part), sl_is_part⟩)
    (c_is_part : PySem.W.codeIn K cd_is_part "is_part" = true)
    (k_is_part : PySem.W.keepIn K (.ref a_is_part) = true)
    (n_joined : PySem.W.nsIn K mainGlobals "joined" = some (some (.ref a_joined)))
    (l_joined : K.lookup a_joined = some ⟨oc_joined, od_joined, .func (PySem.W.fnOf "joined" "joined" (defArgs s_joined) (defBody s_joined) (defScope s_joined) .none kV_joined dc_joined pm_joined an_joined cd_joined ct_joined), sl_joined⟩)
    (c_joined : PySem.W.codeIn K cd_joined "joined" = true)
    (k_joined : PySem.W.keepIn K (.ref a_joined) = true)
    (n_rest_of : PySem.W.nsIn K mainGlobals "rest_of" = some (some (.ref a_rest_of)))
    (l_rest_of : K.lookup a_rest_of = some ⟨oc_rest_of, od_rest_of, .func (PySem.W.fnOf "rest_of" "rest_of" (defArgs s_rest_of) (defBody s_rest_of) (defScope s_rest_of) .none kV_rest_of dc_rest_of pm_rest_of an_rest_of cd_rest_of ct_rest_of), sl_rest_of⟩)
    (c_rest_of : PySem.W.codeIn K cd_rest_of "rest_of" = true)
    (k_rest_of : PySem.W.keepIn K (.ref a_rest_of) = true)
    (n_is_whole : PySem.W.nsIn K mainGlobals "is_whole" = some (some (.ref a_is_whole)))
    (l_is_whole : K.lookup a_is_whole = some ⟨oc_is_whole, od_is_whole, .func (PySem.W.fnOf "is_whole" "is_whole" (defArgs s_is_whole) (defBody s_is_whole) (defScope s_is_whole) .none kV_is_whole dc_is_whole pm_is_whole an_is_whole cd_is_whole ct_is_whole), sl_is_whole⟩)
    (c_is_whole : PySem.W.codeIn K cd_is_whole "is_whole" = true)
    (k_is_whole : PySem.W.keepIn K (.ref a_is_whole) = true)
    (n_is_within : PySem.W.nsIn K mainGlobals "is_within" = some (some (.ref a_is_within)))
    (l_is_within : K.lookup a_is_within = some ⟨oc_is_within, od_is_within, .func (PySem.W.fnOf "is_within" "is_within" (defArgs s_is_within) (defBody s_is_within) (defScope s_is_within) .none kV_is_within dc_is_within pm_is_within an_is_within cd_is_within ct_is_within), sl_is_within⟩)
    (c_is_within : PySem.W.codeIn K cd_is_within "is_within" = true)
    (k_is_within : PySem.W.keepIn K (.ref a_is_within) = true)
    (n_is_ascending : PySem.W.nsIn K mainGlobals "is_ascending" = some (some (.ref a_is_ascending)))
    (l_is_ascending : K.lookup a_is_ascending = some ⟨oc_is_ascending, od_is_ascending, .func (PySem.W.fnOf "is_ascending" "is_ascending" (defArgs s_is_ascending) (defBody s_is_ascending) (defScope s_is_ascending) .none kV_is_ascending dc_is_ascending pm_is_ascending an_is_ascending cd_is_ascending ct_is_ascending), sl_is_ascending⟩)
    (c_is_ascending : PySem.W.codeIn K cd_is_ascending "is_ascending" = true)
    (k_is_ascending : PySem.W.keepIn K (.ref a_is_ascending) = true)
    (n_clean_sets : PySem.W.nsIn K mainGlobals "clean_sets" = some (some (.ref a_clean_sets)))
    (l_clean_sets : K.lookup a_clean_sets = some ⟨oc_clean_sets, od_clean_sets, .func (PySem.W.fnOf "clean_sets" "clean_sets" (defArgs s_clean_sets) (defBody s_clean_sets) (defScope s_clean_sets) .none kV_clean_sets dc_clean_sets pm_clean_sets an_clean_sets cd_clean_sets ct_clean_sets), sl_clean_sets⟩)
    (c_clean_sets : PySem.W.codeIn K cd_clean_sets "clean_sets" = true)
    (k_clean_sets : PySem.W.keepIn K (.ref a_clean_sets) = true)
    (n_closed_sets : PySem.W.nsIn K mainGlobals "closed_sets" = some (some (.ref a_closed_sets)))
    (l_closed_sets : K.lookup a_closed_sets = some ⟨oc_closed_sets, od_closed_sets, .func (PySem.W.fnOf "closed_sets" "closed_sets" (defArgs s_closed_sets) (defBody s_closed_sets) (defScope s_closed_sets) .none kV_closed_sets dc_closed_sets pm_closed_sets an_closed_sets cd_closed_sets ct_closed_sets), sl_closed_sets⟩)
    (c_closed_sets : PySem.W.codeIn K cd_closed_sets "closed_sets" = true)
    (k_closed_sets : PySem.W.keepIn K (.ref a_closed_sets) = true)
    (f_Family_init : PySem.W.findIn K (.ref C_Family) "__init__" = some (some (.ref a_Family_init)))
    (i_Family_init : PySem.W.isFn K (.ref a_Family_init) = true)
    (l_Family_init : K.lookup a_Family_init = some ⟨oc_Family_init, od_Family_init, .func (PySem.W.fnOf "__init__" "Family.__init__" (defArgs s_Family_init) (defBody s_Family_init) (defScope s_Family_init) .none kV_Family_init dc_Family_init pm_Family_init an_Family_init cd_Family_init ct_Family_init), sl_Family_init⟩)
    (c_Family_init : PySem.W.codeIn K cd_Family_init "Family.__init__" = true)
    (k_Family_init : PySem.W.keepIn K (.ref a_Family_init) = true)
    (f_Family_contains : PySem.W.findIn K (.ref C_Family) "__contains__" = some (some (.ref a_Family_contains)))
    (i_Family_contains : PySem.W.isFn K (.ref a_Family_contains) = true)
    (l_Family_contains : K.lookup a_Family_contains = some ⟨oc_Family_contains, od_Family_contains, .func (PySem.W.fnOf "__contains__" "Family.__contains__" (defArgs s_Family_contains) (defBody s_Family_contains) (defScope s_Family_contains) .none kV_Family_contains dc_Family_contains pm_Family_contains an_Family_contains cd_Family_contains ct_Family_contains), sl_Family_contains⟩)
    (c_Family_contains : PySem.W.codeIn K cd_Family_contains "Family.__contains__" = true)
    (k_Family_contains : PySem.W.keepIn K (.ref a_Family_contains) = true)
    (f_Family_eq : PySem.W.findIn K (.ref C_Family) "__eq__" = some (some (.ref a_Family_eq)))
    (i_Family_eq : PySem.W.isFn K (.ref a_Family_eq) = true)
    (l_Family_eq : K.lookup a_Family_eq = some ⟨oc_Family_eq, od_Family_eq, .func (PySem.W.fnOf "__eq__" "Family.__eq__" (defArgs s_Family_eq) (defBody s_Family_eq) (defScope s_Family_eq) .none kV_Family_eq dc_Family_eq pm_Family_eq an_Family_eq cd_Family_eq ct_Family_eq), sl_Family_eq⟩)
    (c_Family_eq : PySem.W.codeIn K cd_Family_eq "Family.__eq__" = true)
    (k_Family_eq : PySem.W.keepIn K (.ref a_Family_eq) = true)
    (f_Family_rank : PySem.W.findIn K (.ref C_Family) "rank" = some (some (.ref a_Family_rank)))
    (i_Family_rank : PySem.W.isFn K (.ref a_Family_rank) = true)
    (l_Family_rank : K.lookup a_Family_rank = some ⟨oc_Family_rank, od_Family_rank, .func (PySem.W.fnOf "rank" "Family.rank" (defArgs s_Family_rank) (defBody s_Family_rank) (defScope s_Family_rank) .none kV_Family_rank dc_Family_rank pm_Family_rank an_Family_rank cd_Family_rank ct_Family_rank), sl_Family_rank⟩)
    (c_Family_rank : PySem.W.codeIn K cd_Family_rank "Family.rank" = true)
    (k_Family_rank : PySem.W.keepIn K (.ref a_Family_rank) = true)
    (f_Family_full_sets : PySem.W.findIn K (.ref C_Family) "full_sets" = some (some (.ref a_Family_full_sets)))
    (i_Family_full_sets : PySem.W.isFn K (.ref a_Family_full_sets) = true)
    (l_Family_full_sets : K.lookup a_Family_full_sets = some ⟨oc_Family_full_sets, od_Family_full_sets, .func (PySem.W.fnOf "full_sets" "Family.full_sets" (defArgs s_Family_full_sets) (defBody s_Family_full_sets) (defScope s_Family_full_sets) .none kV_Family_full_sets dc_Family_full_sets pm_Family_full_sets an_Family_full_sets cd_Family_full_sets ct_Family_full_sets), sl_Family_full_sets⟩)
    (c_Family_full_sets : PySem.W.codeIn K cd_Family_full_sets "Family.full_sets" = true)
    (k_Family_full_sets : PySem.W.keepIn K (.ref a_Family_full_sets) = true)
    (f_Family_addable : PySem.W.findIn K (.ref C_Family) "addable" = some (some (.ref a_Family_addable)))
    (i_Family_addable : PySem.W.isFn K (.ref a_Family_addable) = true)
    (l_Family_addable : K.lookup a_Family_addable = some ⟨oc_Family_addable, od_Family_addable, .func (PySem.W.fnOf "addable" "Family.addable" (defArgs s_Family_addable) (defBody s_Family_addable) (defScope s_Family_addable) .none kV_Family_addable dc_Family_addable pm_Family_addable an_Family_addable cd_Family_addable ct_Family_addable), sl_Family_addable⟩)
    (c_Family_addable : PySem.W.codeIn K cd_Family_addable "Family.addable" = true)
    (k_Family_addable : PySem.W.keepIn K (.ref a_Family_addable) = true)
    (f_Frac_init : PySem.W.findIn K (.ref C_Frac) "__init__" = some (some (.ref a_Frac_init)))
    (i_Frac_init : PySem.W.isFn K (.ref a_Frac_init) = true)
    (l_Frac_init : K.lookup a_Frac_init = some ⟨oc_Frac_init, od_Frac_init, .func (PySem.W.fnOf "__init__" "Frac.__init__" (defArgs s_Frac_init) (defBody s_Frac_init) (defScope s_Frac_init) (.ref T_Frac_init) kV_Frac_init dc_Frac_init pm_Frac_init an_Frac_init cd_Frac_init ct_Frac_init), sl_Frac_init⟩)
    (c_Frac_init : PySem.W.codeIn K cd_Frac_init "Frac.__init__" = true)
    (k_Frac_init : PySem.W.keepIn K (.ref a_Frac_init) = true)
    (t_Frac_init : K.lookup T_Frac_init = some o_Frac_init)
    (u_Frac_init : o_Frac_init.data = .seq [Value.int 1 tk0_Frac_init].toArray m_Frac_init)
    (n_law_box : PySem.W.nsIn K mainGlobals "_law_box" = some (some (.ref a_law_box)))
    (l_law_box : K.lookup a_law_box = some ⟨oc_law_box, od_law_box, .func (PySem.W.fnOf "_law_box" "_law_box" (defArgs s_law_box) (defBody s_law_box) (defScope s_law_box) .none kV_law_box dc_law_box pm_law_box an_law_box cd_law_box ct_law_box), sl_law_box⟩)
    (c_law_box : PySem.W.codeIn K cd_law_box "_law_box" = true)
    (k_law_box : PySem.W.keepIn K (.ref a_law_box) = true)
    (n_law_draw : PySem.W.nsIn K mainGlobals "_law_draw" = some (some (.ref a_law_draw)))
    (l_law_draw : K.lookup a_law_draw = some ⟨oc_law_draw, od_law_draw, .func (PySem.W.fnOf "_law_draw" "_law_draw" (defArgs s_law_draw) (defBody s_law_draw) (defScope s_law_draw) .none kV_law_draw dc_law_draw pm_law_draw an_law_draw cd_law_draw ct_law_draw), sl_law_draw⟩)
    (c_law_draw : PySem.W.codeIn K cd_law_draw "_law_draw" = true)
    (k_law_draw : PySem.W.keepIn K (.ref a_law_draw) = true)
    (n_law_things : PySem.W.nsIn K mainGlobals "_law_things" = some (some (.ref a_law_things)))
    (l_law_things : K.lookup a_law_things = some ⟨oc_law_things, od_law_things, .func (PySem.W.fnOf "_law_things" "_law_things" (defArgs s_law_things) (defBody s_law_things) (defScope s_law_things) .none kV_law_things dc_law_things pm_law_things an_law_things cd_law_things ct_law_things), sl_law_things⟩)
    (c_law_things : PySem.W.codeIn K cd_law_things "_law_things" = true)
    (k_law_things : PySem.W.keepIn K (.ref a_law_things) = true)
    (n_law_mask : PySem.W.nsIn K mainGlobals "_law_mask" = some (some (.ref a_law_mask)))
    (l_law_mask : K.lookup a_law_mask = some ⟨oc_law_mask, od_law_mask, .func (PySem.W.fnOf "_law_mask" "_law_mask" (defArgs s_law_mask) (defBody s_law_mask) (defScope s_law_mask) .none kV_law_mask dc_law_mask pm_law_mask an_law_mask cd_law_mask ct_law_mask), sl_law_mask⟩)
    (c_law_mask : PySem.W.codeIn K cd_law_mask "_law_mask" = true)
    (k_law_mask : PySem.W.keepIn K (.ref a_law_mask) = true)
    (n_law_inside : PySem.W.nsIn K mainGlobals "_law_inside" = some (some (.ref a_law_inside)))
    (l_law_inside : K.lookup a_law_inside = some ⟨oc_law_inside, od_law_inside, .func (PySem.W.fnOf "_law_inside" "_law_inside" (defArgs s_law_inside) (defBody s_law_inside) (defScope s_law_inside) .none kV_law_inside dc_law_inside pm_law_inside an_law_inside cd_law_inside ct_law_inside), sl_law_inside⟩)
    (c_law_inside : PySem.W.codeIn K cd_law_inside "_law_inside" = true)
    (k_law_inside : PySem.W.keepIn K (.ref a_law_inside) = true)
    (n_law_ordered : PySem.W.nsIn K mainGlobals "_law_ordered" = some (some (.ref a_law_ordered)))
    (l_law_ordered : K.lookup a_law_ordered = some ⟨oc_law_ordered, od_law_ordered, .func (PySem.W.fnOf "_law_ordered" "_law_ordered" (defArgs s_law_ordered) (defBody s_law_ordered) (defScope s_law_ordered) .none kV_law_ordered dc_law_ordered pm_law_ordered an_law_ordered cd_law_ordered ct_law_ordered), sl_law_ordered⟩)
    (c_law_ordered : PySem.W.codeIn K cd_law_ordered "_law_ordered" = true)
    (k_law_ordered : PySem.W.keepIn K (.ref a_law_ordered) = true)
    (n_law_shape : PySem.W.nsIn K mainGlobals "_law_shape" = some (some (.ref a_law_shape)))
    (l_law_shape : K.lookup a_law_shape = some ⟨oc_law_shape, od_law_shape, .func (PySem.W.fnOf "_law_shape" "_law_shape" (defArgs s_law_shape) (defBody s_law_shape) (defScope s_law_shape) .none kV_law_shape dc_law_shape pm_law_shape an_law_shape cd_law_shape ct_law_shape), sl_law_shape⟩)
    (c_law_shape : PySem.W.codeIn K cd_law_shape "_law_shape" = true)
    (k_law_shape : PySem.W.keepIn K (.ref a_law_shape) = true)
    (n_law_mixed : PySem.W.nsIn K mainGlobals "_law_mixed" = some (some (.ref a_law_mixed)))
    (l_law_mixed : K.lookup a_law_mixed = some ⟨oc_law_mixed, od_law_mixed, .func (PySem.W.fnOf "_law_mixed" "_law_mixed" (defArgs s_law_mixed) (defBody s_law_mixed) (defScope s_law_mixed) .none kV_law_mixed dc_law_mixed pm_law_mixed an_law_mixed cd_law_mixed ct_law_mixed), sl_law_mixed⟩)
    (c_law_mixed : PySem.W.codeIn K cd_law_mixed "_law_mixed" = true)
    (k_law_mixed : PySem.W.keepIn K (.ref a_law_mixed) = true)
    (n_law_integer : PySem.W.nsIn K mainGlobals "_law_integer" = some (some (.ref a_law_integer)))
    (l_law_integer : K.lookup a_law_integer = some ⟨oc_law_integer, od_law_integer, .func (PySem.W.fnOf "_law_integer" "_law_integer" (defArgs s_law_integer) (defBody s_law_integer) (defScope s_law_integer) .none kV_law_integer dc_law_integer pm_law_integer an_law_integer cd_law_integer ct_law_integer), sl_law_integer⟩)
    (c_law_integer : PySem.W.codeIn K cd_law_integer "_law_integer" = true)
    (k_law_integer : PySem.W.keepIn K (.ref a_law_integer) = true)
    (n_law_is_set : PySem.W.nsIn K mainGlobals "_law_is_set" = some (some (.ref a_law_is_set)))
    (l_law_is_set : K.lookup a_law_is_set = some ⟨oc_law_is_set, od_law_is_set, .func (PySem.W.fnOf "_law_is_set" "_law_is_set" (defArgs s_law_is_set) (defBody s_law_is_set) (defScope s_law_is_set) .none kV_law_is_set dc_law_is_set pm_law_is_set an_law_is_set cd_law_is_set ct_law_is_set), sl_law_is_set⟩)
    (c_law_is_set : PySem.W.codeIn K cd_law_is_set "_law_is_set" = true)
    (k_law_is_set : PySem.W.keepIn K (.ref a_law_is_set) = true)
    (n_law_are_sets : PySem.W.nsIn K mainGlobals "_law_are_sets" = some (some (.ref a_law_are_sets)))
    (l_law_are_sets : K.lookup a_law_are_sets = some ⟨oc_law_are_sets, od_law_are_sets, .func (PySem.W.fnOf "_law_are_sets" "_law_are_sets" (defArgs s_law_are_sets) (defBody s_law_are_sets) (defScope s_law_are_sets) .none kV_law_are_sets dc_law_are_sets pm_law_are_sets an_law_are_sets cd_law_are_sets ct_law_are_sets), sl_law_are_sets⟩)
    (c_law_are_sets : PySem.W.codeIn K cd_law_are_sets "_law_are_sets" = true)
    (k_law_are_sets : PySem.W.keepIn K (.ref a_law_are_sets) = true)
    (n_law_truth : PySem.W.nsIn K mainGlobals "_law_truth" = some (some (.ref a_law_truth)))
    (l_law_truth : K.lookup a_law_truth = some ⟨oc_law_truth, od_law_truth, .func (PySem.W.fnOf "_law_truth" "_law_truth" (defArgs s_law_truth) (defBody s_law_truth) (defScope s_law_truth) .none kV_law_truth dc_law_truth pm_law_truth an_law_truth cd_law_truth ct_law_truth), sl_law_truth⟩)
    (c_law_truth : PySem.W.codeIn K cd_law_truth "_law_truth" = true)
    (k_law_truth : PySem.W.keepIn K (.ref a_law_truth) = true)
    (n_law_added : PySem.W.nsIn K mainGlobals "_law_added" = some (some (.ref a_law_added)))
    (l_law_added : K.lookup a_law_added = some ⟨oc_law_added, od_law_added, .func (PySem.W.fnOf "_law_added" "_law_added" (defArgs s_law_added) (defBody s_law_added) (defScope s_law_added) .none kV_law_added dc_law_added pm_law_added an_law_added cd_law_added ct_law_added), sl_law_added⟩)
    (c_law_added : PySem.W.codeIn K cd_law_added "_law_added" = true)
    (k_law_added : PySem.W.keepIn K (.ref a_law_added) = true)
    (n_law_rank : PySem.W.nsIn K mainGlobals "_law_rank" = some (some (.ref a_law_rank)))
    (l_law_rank : K.lookup a_law_rank = some ⟨oc_law_rank, od_law_rank, .func (PySem.W.fnOf "_law_rank" "_law_rank" (defArgs s_law_rank) (defBody s_law_rank) (defScope s_law_rank) .none kV_law_rank dc_law_rank pm_law_rank an_law_rank cd_law_rank ct_law_rank), sl_law_rank⟩)
    (c_law_rank : PySem.W.codeIn K cd_law_rank "_law_rank" = true)
    (k_law_rank : PySem.W.keepIn K (.ref a_law_rank) = true)
    (n_law_family : PySem.W.nsIn K mainGlobals "_law_family" = some (some (.ref a_law_family)))
    (l_law_family : K.lookup a_law_family = some ⟨oc_law_family, od_law_family, .func (PySem.W.fnOf "_law_family" "_law_family" (defArgs s_law_family) (defBody s_law_family) (defScope s_law_family) .none kV_law_family dc_law_family pm_law_family an_law_family cd_law_family ct_law_family), sl_law_family⟩)
    (c_law_family : PySem.W.codeIn K cd_law_family "_law_family" = true)
    (k_law_family : PySem.W.keepIn K (.ref a_law_family) = true)
    (n_law_others : PySem.W.nsIn K mainGlobals "_law_others" = some (some (.ref a_law_others)))
    (l_law_others : K.lookup a_law_others = some ⟨oc_law_others, od_law_others, .func (PySem.W.fnOf "_law_others" "_law_others" (defArgs s_law_others) (defBody s_law_others) (defScope s_law_others) .none kV_law_others dc_law_others pm_law_others an_law_others cd_law_others ct_law_others), sl_law_others⟩)
    (c_law_others : PySem.W.codeIn K cd_law_others "_law_others" = true)
    (k_law_others : PySem.W.keepIn K (.ref a_law_others) = true)
    (n_law_no_set : PySem.W.nsIn K mainGlobals "_law_no_set" = some (some (.ref a_law_no_set)))
    (l_law_no_set : K.lookup a_law_no_set = some ⟨oc_law_no_set, od_law_no_set, .func (PySem.W.fnOf "_law_no_set" "_law_no_set" (defArgs s_law_no_set) (defBody s_law_no_set) (defScope s_law_no_set) .none kV_law_no_set dc_law_no_set pm_law_no_set an_law_no_set cd_law_no_set ct_law_no_set), sl_law_no_set⟩)
    (c_law_no_set : PySem.W.codeIn K cd_law_no_set "_law_no_set" = true)
    (k_law_no_set : PySem.W.keepIn K (.ref a_law_no_set) = true)
    (n_law_right_set : PySem.W.nsIn K mainGlobals "_law_right_set" = some (some (.ref a_law_right_set)))
    (l_law_right_set : K.lookup a_law_right_set = some ⟨oc_law_right_set, od_law_right_set, .func (PySem.W.fnOf "_law_right_set" "_law_right_set" (defArgs s_law_right_set) (defBody s_law_right_set) (defScope s_law_right_set) .none kV_law_right_set dc_law_right_set pm_law_right_set an_law_right_set cd_law_right_set ct_law_right_set), sl_law_right_set⟩)
    (c_law_right_set : PySem.W.codeIn K cd_law_right_set "_law_right_set" = true)
    (k_law_right_set : PySem.W.keepIn K (.ref a_law_right_set) = true)
    (n_law_missing : PySem.W.nsIn K mainGlobals "_law_missing" = some (some (.ref a_law_missing)))
    (l_law_missing : K.lookup a_law_missing = some ⟨oc_law_missing, od_law_missing, .func (PySem.W.fnOf "_law_missing" "_law_missing" (defArgs s_law_missing) (defBody s_law_missing) (defScope s_law_missing) .none kV_law_missing dc_law_missing pm_law_missing an_law_missing cd_law_missing ct_law_missing), sl_law_missing⟩)
    (c_law_missing : PySem.W.codeIn K cd_law_missing "_law_missing" = true)
    (k_law_missing : PySem.W.keepIn K (.ref a_law_missing) = true)
    (n_law_text : PySem.W.nsIn K mainGlobals "_law_text" = some (some (.ref a_law_text)))
    (l_law_text : K.lookup a_law_text = some ⟨oc_law_text, od_law_text, .func (PySem.W.fnOf "_law_text" "_law_text" (defArgs s_law_text) (defBody s_law_text) (defScope s_law_text) .none kV_law_text dc_law_text pm_law_text an_law_text cd_law_text ct_law_text), sl_law_text⟩)
    (c_law_text : PySem.W.codeIn K cd_law_text "_law_text" = true)
    (k_law_text : PySem.W.keepIn K (.ref a_law_text) = true)
    (n_law_made : PySem.W.nsIn K mainGlobals "_law_made" = some (some (.ref a_law_made)))
    (l_law_made : K.lookup a_law_made = some ⟨oc_law_made, od_law_made, .func (PySem.W.fnOf "_law_made" "_law_made" (defArgs s_law_made) (defBody s_law_made) (defScope s_law_made) .none kV_law_made dc_law_made pm_law_made an_law_made cd_law_made ct_law_made), sl_law_made⟩)
    (c_law_made : PySem.W.codeIn K cd_law_made "_law_made" = true)
    (k_law_made : PySem.W.keepIn K (.ref a_law_made) = true)
    (n_law_faults : PySem.W.nsIn K mainGlobals "_law_faults" = some (some (.ref a_law_faults)))
    (l_law_faults : K.lookup a_law_faults = some ⟨oc_law_faults, od_law_faults, .func (PySem.W.fnOf "_law_faults" "_law_faults" (defArgs s_law_faults) (defBody s_law_faults) (defScope s_law_faults) .none kV_law_faults dc_law_faults pm_law_faults an_law_faults cd_law_faults ct_law_faults), sl_law_faults⟩)
    (c_law_faults : PySem.W.codeIn K cd_law_faults "_law_faults" = true)
    (k_law_faults : PySem.W.keepIn K (.ref a_law_faults) = true)
    (n_law_all : PySem.W.nsIn K mainGlobals "_law_all" = some (some (.ref a_law_all)))
    (l_law_all : K.lookup a_law_all = some ⟨oc_law_all, od_law_all, .func (PySem.W.fnOf "_law_all" "_law_all" (defArgs s_law_all) (defBody s_law_all) (defScope s_law_all) .none kV_law_all dc_law_all pm_law_all an_law_all cd_law_all ct_law_all), sl_law_all⟩)
    (c_law_all : PySem.W.codeIn K cd_law_all "_law_all" = true)
    (k_law_all : PySem.W.keepIn K (.ref a_law_all) = true)
    (n_law : PySem.W.nsIn K mainGlobals "law" = some (some (.ref a_law)))
    (l_law : K.lookup a_law = some ⟨oc_law, od_law, .func (PySem.W.fnOf "law" "law" (defArgs s_law) (defBody s_law) (defScope s_law) .none kV_law dc_law pm_law an_law cd_law ct_law), sl_law⟩)
    (c_law : PySem.W.codeIn K cd_law "law" = true)
    (k_law : PySem.W.keepIn K (.ref a_law) = true)
    (x_WrongSize : K.lookup C_WrongSize = some (excClassObj nm_WrongSize qq_WrongSize C_WrongSize N_WrongSize bs_WrongSize (.ref C_NextError :: [.type "ValueError", .type "Exception", .type "BaseException", .type "object"]) true sn_WrongSize sub_WrongSize ab_WrongSize col_WrongSize dd_WrongSize m0_WrongSize m1_WrongSize m2_WrongSize m3_WrongSize m5_WrongSize "ValueError.__new__"))
    (sa_WrongSize : PySem.W.findIn K (.ref C_WrongSize) "__setattr__" = some (some (.builtin "object.__setattr__")))
    (ex_WrongSize : PySem.W.subIn K (.ref C_WrongSize) (.type "BaseException") = some true)
    (ty_WrongSize : PySem.W.typeIn K (.ref C_WrongSize) = some (.type "type"))
    (kc_WrongSize : PySem.W.keepIn K (.ref C_WrongSize) = true)
    (ga_WrongSize : PySem.W.findIn K (.ref C_WrongSize) "__getattribute__" = some (some (.builtin "BaseException.__getattribute__")))
    (gg_WrongSize : PySem.W.findIn K (.ref C_WrongSize) "__getattr__" = some none)
    (hd_WrongSize : PySem.W.hasDictIn K C_WrongSize = true)
    (is_WrongSize : PySem.W.isClsIn K C_WrongSize = true)
    (ss_WrongSize : PySem.W.subIn K (.ref C_WrongSize) (.ref C_WrongSize) = some true)
    (na_WrongSize_many : PySem.W.findIn K (.ref C_WrongSize) "many" = some none)
    (ti_WrongSize : PySem.W.typeIn K (.ref a_WrongSize_init) = some (.type "function"))
    (x_InvalidFamily : K.lookup C_InvalidFamily = some (excClassObj nm_InvalidFamily qq_InvalidFamily C_InvalidFamily N_InvalidFamily bs_InvalidFamily (.ref C_NextError :: [.type "ValueError", .type "Exception", .type "BaseException", .type "object"]) true sn_InvalidFamily sub_InvalidFamily ab_InvalidFamily col_InvalidFamily dd_InvalidFamily m0_InvalidFamily m1_InvalidFamily m2_InvalidFamily m3_InvalidFamily m5_InvalidFamily "ValueError.__new__"))
    (sa_InvalidFamily : PySem.W.findIn K (.ref C_InvalidFamily) "__setattr__" = some (some (.builtin "object.__setattr__")))
    (ex_InvalidFamily : PySem.W.subIn K (.ref C_InvalidFamily) (.type "BaseException") = some true)
    (ty_InvalidFamily : PySem.W.typeIn K (.ref C_InvalidFamily) = some (.type "type"))
    (kc_InvalidFamily : PySem.W.keepIn K (.ref C_InvalidFamily) = true)
    (ga_InvalidFamily : PySem.W.findIn K (.ref C_InvalidFamily) "__getattribute__" = some (some (.builtin "BaseException.__getattribute__")))
    (gg_InvalidFamily : PySem.W.findIn K (.ref C_InvalidFamily) "__getattr__" = some none)
    (hd_InvalidFamily : PySem.W.hasDictIn K C_InvalidFamily = true)
    (is_InvalidFamily : PySem.W.isClsIn K C_InvalidFamily = true)
    (ss_InvalidFamily : PySem.W.subIn K (.ref C_InvalidFamily) (.ref C_InvalidFamily) = some true)
    (na_InvalidFamily_at : PySem.W.findIn K (.ref C_InvalidFamily) "at" = some none)
    (ti_InvalidFamily : PySem.W.typeIn K (.ref a_InvalidFamily_init) = some (.type "function"))
    (x_NotClosed : K.lookup C_NotClosed = some (excClassObj nm_NotClosed qq_NotClosed C_NotClosed N_NotClosed bs_NotClosed (.ref C_NextError :: [.type "ValueError", .type "Exception", .type "BaseException", .type "object"]) true sn_NotClosed sub_NotClosed ab_NotClosed col_NotClosed dd_NotClosed m0_NotClosed m1_NotClosed m2_NotClosed m3_NotClosed m5_NotClosed "ValueError.__new__"))
    (sa_NotClosed : PySem.W.findIn K (.ref C_NotClosed) "__setattr__" = some (some (.builtin "object.__setattr__")))
    (ex_NotClosed : PySem.W.subIn K (.ref C_NotClosed) (.type "BaseException") = some true)
    (ty_NotClosed : PySem.W.typeIn K (.ref C_NotClosed) = some (.type "type"))
    (kc_NotClosed : PySem.W.keepIn K (.ref C_NotClosed) = true)
    (ga_NotClosed : PySem.W.findIn K (.ref C_NotClosed) "__getattribute__" = some (some (.builtin "BaseException.__getattribute__")))
    (gg_NotClosed : PySem.W.findIn K (.ref C_NotClosed) "__getattr__" = some none)
    (hd_NotClosed : PySem.W.hasDictIn K C_NotClosed = true)
    (is_NotClosed : PySem.W.isClsIn K C_NotClosed = true)
    (ss_NotClosed : PySem.W.subIn K (.ref C_NotClosed) (.ref C_NotClosed) = some true)
    (na_NotClosed_missing : PySem.W.findIn K (.ref C_NotClosed) "missing" = some none)
    (ti_NotClosed : PySem.W.typeIn K (.ref a_NotClosed_init) = some (.type "function"))
    (sx_InvalidFamily_WrongSize : PySem.W.subIn K (.ref C_InvalidFamily) (.ref C_WrongSize) = some false)
    (sx_NotClosed_WrongSize : PySem.W.subIn K (.ref C_NotClosed) (.ref C_WrongSize) = some false)
    (sx_NotClosed_InvalidFamily : PySem.W.subIn K (.ref C_NotClosed) (.ref C_InvalidFamily) = some false)
    (z_isinstance : PySem.W.nsIn K mainGlobals "isinstance" = some none)
    (z_int : PySem.W.nsIn K mainGlobals "int" = some none)
    (z_bool : PySem.W.nsIn K mainGlobals "bool" = some none)
    (z_range : PySem.W.nsIn K mainGlobals "range" = some none)
    (z_len : PySem.W.nsIn K mainGlobals "len" = some none)
    (z_abs : PySem.W.nsIn K mainGlobals "abs" = some none)
    (z_str : PySem.W.nsIn K mainGlobals "str" = some none)
    (z_max : PySem.W.nsIn K mainGlobals "max" = some none)
    (z_list : PySem.W.nsIn K mainGlobals "list" = some none)
    (z_tuple : PySem.W.nsIn K mainGlobals "tuple" = some none)
    (z_enumerate : PySem.W.nsIn K mainGlobals "enumerate" = some none)
    (z_any : PySem.W.nsIn K mainGlobals "any" = some none)
    (z_all : PySem.W.nsIn K mainGlobals "all" = some none)
    (z_sum : PySem.W.nsIn K mainGlobals "sum" = some none)
    (z_sorted : PySem.W.nsIn K mainGlobals "sorted" = some none)
    (z_set : PySem.W.nsIn K mainGlobals "set" = some none)
    (v_MOST_THINGS : PySem.W.nsIn K mainGlobals "MOST_THINGS" = some (some (.int 6 t_MOST_THINGS)))
    (v_combinations : PySem.W.nsIn K mainGlobals "combinations" = some (some (.type "itertools.combinations")))
    (v_gcd : PySem.W.nsIn K mainGlobals "gcd" = some (some (.builtin "math.gcd")))
    (is_Frac : PySem.W.isClsIn K C_Frac = true)
    (ty_Frac : PySem.W.typeIn K (.ref C_Frac) = some (.type "type"))
    (is_Family : PySem.W.isClsIn K C_Family = true)
    (ty_Family : PySem.W.typeIn K (.ref C_Family) = some (.type "type"))
    (sb_F_int : PySem.W.subIn K (.ref C_Frac) (.type "int") = some false)
    (sb_F_list : PySem.W.subIn K (.ref C_Frac) (.type "list") = some false)
    (sb_F_tuple : PySem.W.subIn K (.ref C_Frac) (.type "tuple") = some false)
    (sb_F_str : PySem.W.subIn K (.ref C_Frac) (.type "str") = some false)
    (sb_none_F : PySem.W.subIn K (.type "NoneType") (.ref C_Frac) = some false)
    (sb_bool_F : PySem.W.subIn K (.type "bool") (.ref C_Frac) = some false)
    (sb_int_F : PySem.W.subIn K (.type "int") (.ref C_Frac) = some false)
    (sb_str_F : PySem.W.subIn K (.type "str") (.ref C_Frac) = some false)
    (sb_list_F : PySem.W.subIn K (.type "list") (.ref C_Frac) = some false)
    (sb_tuple_F : PySem.W.subIn K (.type "tuple") (.ref C_Frac) = some false)
    (sb_none_S : PySem.W.subIn K (.type "NoneType") (.ref C_Family) = some false)
    (sb_bool_S : PySem.W.subIn K (.type "bool") (.ref C_Family) = some false)
    (sb_int_S : PySem.W.subIn K (.type "int") (.ref C_Family) = some false)
    (sb_str_S : PySem.W.subIn K (.type "str") (.ref C_Family) = some false)
    (sb_list_S : PySem.W.subIn K (.type "list") (.ref C_Family) = some false)
    (sb_tuple_S : PySem.W.subIn K (.type "tuple") (.ref C_Family) = some false)
    (nf_Fam : PySem.W.notFirst K C_Family (.ref C_Family) = true)
    (nf_NoneType : PySem.W.notFirst K C_Family (.type "NoneType") = true)
    (nf_tuple : PySem.W.notFirst K C_Family (.type "tuple") = true)
    (nf_int : PySem.W.notFirst K C_Family (.type "int") = true)
    (nf_bool : PySem.W.notFirst K C_Family (.type "bool") = true)
    (nf_str : PySem.W.notFirst K C_Family (.type "str") = true)
    (nf_list : PySem.W.notFirst K C_Family (.type "list") = true)
    : Txt K mg ⟨C_Frac, C_Family, C_WrongSize, C_InvalidFamily, C_NotClosed, C_NextError, a_InvalidFamily_init, a_NotClosed_init, a_WrongSize_init, a_parts_of, a_all_sets, a_is_part, a_joined, a_rest_of, a_is_whole, a_is_within, a_is_ascending, a_clean_sets, a_closed_sets, a_Family_init, a_Family_contains, a_Family_eq, a_Family_rank, a_Family_full_sets, a_Family_addable, a_Frac_init, a_law_box, a_law_draw, a_law_things, a_law_mask, a_law_inside, a_law_ordered, a_law_shape, a_law_mixed, a_law_integer, a_law_is_set, a_law_are_sets, a_law_truth, a_law_added, a_law_rank, a_law_family, a_law_others, a_law_no_set, a_law_right_set, a_law_missing, a_law_text, a_law_made, a_law_faults, a_law_all, a_law, PySem.W.fnOf "__init__" "InvalidFamily.__init__" (defArgs s_InvalidFamily_init) (defBody s_InvalidFamily_init) (defScope s_InvalidFamily_init) .none kV_InvalidFamily_init dc_InvalidFamily_init pm_InvalidFamily_init an_InvalidFamily_init cd_InvalidFamily_init ct_InvalidFamily_init, PySem.W.fnOf "__init__" "NotClosed.__init__" (defArgs s_NotClosed_init) (defBody s_NotClosed_init) (defScope s_NotClosed_init) .none kV_NotClosed_init dc_NotClosed_init pm_NotClosed_init an_NotClosed_init cd_NotClosed_init ct_NotClosed_init, PySem.W.fnOf "__init__" "WrongSize.__init__" (defArgs s_WrongSize_init) (defBody s_WrongSize_init) (defScope s_WrongSize_init) .none kV_WrongSize_init dc_WrongSize_init pm_WrongSize_init an_WrongSize_init cd_WrongSize_init ct_WrongSize_init, PySem.W.fnOf "parts_of" "parts_of" (defArgs s_parts_of) (defBody s_parts_of) (defScope s_parts_of) .none kV_parts_of dc_parts_of pm_parts_of an_parts_of cd_parts_of ct_parts_of, PySem.W.fnOf "all_sets" "all_sets" (defArgs s_all_sets) (defBody s_all_sets) (defScope s_all_sets) .none kV_all_sets dc_all_sets pm_all_sets an_all_sets cd_all_sets ct_all_sets, PySem.W.fnOf "is_part" "is_part" (defArgs s_is_part) (defBody s_is_part) (defScope s_is_part) .none kV_is_part dc_is_part pm_is_part an_is_part cd_is_part ct_is_part, PySem.W.fnOf "joined" "joined" (defArgs s_joined) (defBody s_joined) (defScope s_joined) .none kV_joined dc_joined pm_joined an_joined cd_joined ct_joined, PySem.W.fnOf "rest_of" "rest_of" (defArgs s_rest_of) (defBody s_rest_of) (defScope s_rest_of) .none kV_rest_of dc_rest_of pm_rest_of an_rest_of cd_rest_of ct_rest_of, PySem.W.fnOf "is_whole" "is_whole" (defArgs s_is_whole) (defBody s_is_whole) (defScope s_is_whole) .none kV_is_whole dc_is_whole pm_is_whole an_is_whole cd_is_whole ct_is_whole, PySem.W.fnOf "is_within" "is_within" (defArgs s_is_within) (defBody s_is_within) (defScope s_is_within) .none kV_is_within dc_is_within pm_is_within an_is_within cd_is_within ct_is_within, PySem.W.fnOf "is_ascending" "is_ascending" (defArgs s_is_ascending) (defBody s_is_ascending) (defScope s_is_ascending) .none kV_is_ascending dc_is_ascending pm_is_ascending an_is_ascending cd_is_ascending ct_is_ascending, PySem.W.fnOf "clean_sets" "clean_sets" (defArgs s_clean_sets) (defBody s_clean_sets) (defScope s_clean_sets) .none kV_clean_sets dc_clean_sets pm_clean_sets an_clean_sets cd_clean_sets ct_clean_sets, PySem.W.fnOf "closed_sets" "closed_sets" (defArgs s_closed_sets) (defBody s_closed_sets) (defScope s_closed_sets) .none kV_closed_sets dc_closed_sets pm_closed_sets an_closed_sets cd_closed_sets ct_closed_sets, PySem.W.fnOf "__init__" "Family.__init__" (defArgs s_Family_init) (defBody s_Family_init) (defScope s_Family_init) .none kV_Family_init dc_Family_init pm_Family_init an_Family_init cd_Family_init ct_Family_init, PySem.W.fnOf "__contains__" "Family.__contains__" (defArgs s_Family_contains) (defBody s_Family_contains) (defScope s_Family_contains) .none kV_Family_contains dc_Family_contains pm_Family_contains an_Family_contains cd_Family_contains ct_Family_contains, PySem.W.fnOf "__eq__" "Family.__eq__" (defArgs s_Family_eq) (defBody s_Family_eq) (defScope s_Family_eq) .none kV_Family_eq dc_Family_eq pm_Family_eq an_Family_eq cd_Family_eq ct_Family_eq, PySem.W.fnOf "rank" "Family.rank" (defArgs s_Family_rank) (defBody s_Family_rank) (defScope s_Family_rank) .none kV_Family_rank dc_Family_rank pm_Family_rank an_Family_rank cd_Family_rank ct_Family_rank, PySem.W.fnOf "full_sets" "Family.full_sets" (defArgs s_Family_full_sets) (defBody s_Family_full_sets) (defScope s_Family_full_sets) .none kV_Family_full_sets dc_Family_full_sets pm_Family_full_sets an_Family_full_sets cd_Family_full_sets ct_Family_full_sets, PySem.W.fnOf "addable" "Family.addable" (defArgs s_Family_addable) (defBody s_Family_addable) (defScope s_Family_addable) .none kV_Family_addable dc_Family_addable pm_Family_addable an_Family_addable cd_Family_addable ct_Family_addable, PySem.W.fnOf "__init__" "Frac.__init__" (defArgs s_Frac_init) (defBody s_Frac_init) (defScope s_Frac_init) (.ref T_Frac_init) kV_Frac_init dc_Frac_init pm_Frac_init an_Frac_init cd_Frac_init ct_Frac_init, PySem.W.fnOf "_law_box" "_law_box" (defArgs s_law_box) (defBody s_law_box) (defScope s_law_box) .none kV_law_box dc_law_box pm_law_box an_law_box cd_law_box ct_law_box, PySem.W.fnOf "_law_draw" "_law_draw" (defArgs s_law_draw) (defBody s_law_draw) (defScope s_law_draw) .none kV_law_draw dc_law_draw pm_law_draw an_law_draw cd_law_draw ct_law_draw, PySem.W.fnOf "_law_things" "_law_things" (defArgs s_law_things) (defBody s_law_things) (defScope s_law_things) .none kV_law_things dc_law_things pm_law_things an_law_things cd_law_things ct_law_things, PySem.W.fnOf "_law_mask" "_law_mask" (defArgs s_law_mask) (defBody s_law_mask) (defScope s_law_mask) .none kV_law_mask dc_law_mask pm_law_mask an_law_mask cd_law_mask ct_law_mask, PySem.W.fnOf "_law_inside" "_law_inside" (defArgs s_law_inside) (defBody s_law_inside) (defScope s_law_inside) .none kV_law_inside dc_law_inside pm_law_inside an_law_inside cd_law_inside ct_law_inside, PySem.W.fnOf "_law_ordered" "_law_ordered" (defArgs s_law_ordered) (defBody s_law_ordered) (defScope s_law_ordered) .none kV_law_ordered dc_law_ordered pm_law_ordered an_law_ordered cd_law_ordered ct_law_ordered, PySem.W.fnOf "_law_shape" "_law_shape" (defArgs s_law_shape) (defBody s_law_shape) (defScope s_law_shape) .none kV_law_shape dc_law_shape pm_law_shape an_law_shape cd_law_shape ct_law_shape, PySem.W.fnOf "_law_mixed" "_law_mixed" (defArgs s_law_mixed) (defBody s_law_mixed) (defScope s_law_mixed) .none kV_law_mixed dc_law_mixed pm_law_mixed an_law_mixed cd_law_mixed ct_law_mixed, PySem.W.fnOf "_law_integer" "_law_integer" (defArgs s_law_integer) (defBody s_law_integer) (defScope s_law_integer) .none kV_law_integer dc_law_integer pm_law_integer an_law_integer cd_law_integer ct_law_integer, PySem.W.fnOf "_law_is_set" "_law_is_set" (defArgs s_law_is_set) (defBody s_law_is_set) (defScope s_law_is_set) .none kV_law_is_set dc_law_is_set pm_law_is_set an_law_is_set cd_law_is_set ct_law_is_set, PySem.W.fnOf "_law_are_sets" "_law_are_sets" (defArgs s_law_are_sets) (defBody s_law_are_sets) (defScope s_law_are_sets) .none kV_law_are_sets dc_law_are_sets pm_law_are_sets an_law_are_sets cd_law_are_sets ct_law_are_sets, PySem.W.fnOf "_law_truth" "_law_truth" (defArgs s_law_truth) (defBody s_law_truth) (defScope s_law_truth) .none kV_law_truth dc_law_truth pm_law_truth an_law_truth cd_law_truth ct_law_truth, PySem.W.fnOf "_law_added" "_law_added" (defArgs s_law_added) (defBody s_law_added) (defScope s_law_added) .none kV_law_added dc_law_added pm_law_added an_law_added cd_law_added ct_law_added, PySem.W.fnOf "_law_rank" "_law_rank" (defArgs s_law_rank) (defBody s_law_rank) (defScope s_law_rank) .none kV_law_rank dc_law_rank pm_law_rank an_law_rank cd_law_rank ct_law_rank, PySem.W.fnOf "_law_family" "_law_family" (defArgs s_law_family) (defBody s_law_family) (defScope s_law_family) .none kV_law_family dc_law_family pm_law_family an_law_family cd_law_family ct_law_family, PySem.W.fnOf "_law_others" "_law_others" (defArgs s_law_others) (defBody s_law_others) (defScope s_law_others) .none kV_law_others dc_law_others pm_law_others an_law_others cd_law_others ct_law_others, PySem.W.fnOf "_law_no_set" "_law_no_set" (defArgs s_law_no_set) (defBody s_law_no_set) (defScope s_law_no_set) .none kV_law_no_set dc_law_no_set pm_law_no_set an_law_no_set cd_law_no_set ct_law_no_set, PySem.W.fnOf "_law_right_set" "_law_right_set" (defArgs s_law_right_set) (defBody s_law_right_set) (defScope s_law_right_set) .none kV_law_right_set dc_law_right_set pm_law_right_set an_law_right_set cd_law_right_set ct_law_right_set, PySem.W.fnOf "_law_missing" "_law_missing" (defArgs s_law_missing) (defBody s_law_missing) (defScope s_law_missing) .none kV_law_missing dc_law_missing pm_law_missing an_law_missing cd_law_missing ct_law_missing, PySem.W.fnOf "_law_text" "_law_text" (defArgs s_law_text) (defBody s_law_text) (defScope s_law_text) .none kV_law_text dc_law_text pm_law_text an_law_text cd_law_text ct_law_text, PySem.W.fnOf "_law_made" "_law_made" (defArgs s_law_made) (defBody s_law_made) (defScope s_law_made) .none kV_law_made dc_law_made pm_law_made an_law_made cd_law_made ct_law_made, PySem.W.fnOf "_law_faults" "_law_faults" (defArgs s_law_faults) (defBody s_law_faults) (defScope s_law_faults) .none kV_law_faults dc_law_faults pm_law_faults an_law_faults cd_law_faults ct_law_faults, PySem.W.fnOf "_law_all" "_law_all" (defArgs s_law_all) (defBody s_law_all) (defScope s_law_all) .none kV_law_all dc_law_all pm_law_all an_law_all cd_law_all ct_law_all, PySem.W.fnOf "law" "law" (defArgs s_law) (defBody s_law) (defScope s_law) .none kV_law dc_law pm_law an_law cd_law ct_law⟩ :=
  { mg_Frac := PySem.W.mg_of X G hC_Frac
    mg_Family := PySem.W.mg_of X G hC_Family
    mg_WrongSize := PySem.W.mg_of X G hC_WrongSize
    mg_InvalidFamily := PySem.W.mg_of X G hC_InvalidFamily
    mg_NotClosed := PySem.W.mg_of X G hC_NotClosed
    mg_NextError := PySem.W.mg_of X G hC_NextError
    cl_Frac := ⟨pg_Frac, hd_Frac, po_Frac, sa_Frac⟩
    na_Frac_num := na_Frac_num
    na_Frac_den := na_Frac_den
    cg_Frac := cg_Frac
    mr_Frac := mr_Frac
    cl_Family := ⟨pg_Family, hd_Family, po_Family, sa_Family⟩
    na_Family_sets := na_Family_sets
    na_Family_size := na_Family_size
    cg_Family := cg_Family
    mr_Family := mr_Family
    cget := cget
    ctk := ctk
    fn_InvalidFamily_init := fun_mk (st := s_InvalidFamily_init) l_InvalidFamily_init c_InvalidFamily_init k_InvalidFamily_init
    b_InvalidFamily_init := (fun_mk (st := s_InvalidFamily_init) l_InvalidFamily_init c_InvalidFamily_init k_InvalidFamily_init).binds (ps := ["self", "at"]) fun _ _ _ _ _ _ us hl => match us, hl with | [_, _], _ => rfl
    fn_NotClosed_init := fun_mk (st := s_NotClosed_init) l_NotClosed_init c_NotClosed_init k_NotClosed_init
    b_NotClosed_init := (fun_mk (st := s_NotClosed_init) l_NotClosed_init c_NotClosed_init k_NotClosed_init).binds (ps := ["self", "missing"]) fun _ _ _ _ _ _ us hl => match us, hl with | [_, _], _ => rfl
    fn_WrongSize_init := fun_mk (st := s_WrongSize_init) l_WrongSize_init c_WrongSize_init k_WrongSize_init
    b_WrongSize_init := (fun_mk (st := s_WrongSize_init) l_WrongSize_init c_WrongSize_init k_WrongSize_init).binds (ps := ["self", "many"]) fun _ _ _ _ _ _ us hl => match us, hl with | [_, _], _ => rfl
    mg_parts_of := PySem.W.mg_of X G n_parts_of
    fn_parts_of := fun_mk (st := s_parts_of) l_parts_of c_parts_of k_parts_of
    b_parts_of := (fun_mk (st := s_parts_of) l_parts_of c_parts_of k_parts_of).binds (ps := ["things"]) fun _ _ _ _ _ _ us hl => match us, hl with | [_], _ => rfl
    mg_all_sets := PySem.W.mg_of X G n_all_sets
    fn_all_sets := fun_mk (st := s_all_sets) l_all_sets c_all_sets k_all_sets
    b_all_sets := (fun_mk (st := s_all_sets) l_all_sets c_all_sets k_all_sets).binds (ps := ["size"]) fun _ _ _ _ _ _ us hl => match us, hl with | [_], _ => rfl
    mg_is_part := PySem.W.mg_of X G n_is_part
    fn_is_part := fun_mk (st := s_is_part) l_is_part c_is_part k_is_part
    b_is_part := (fun_mk (st := s_is_part) l_is_part c_is_part k_is_part).binds (ps := ["part", "things"]) fun _ _ _ _ _ _ us hl => match us, hl with | [_, _], _ => rfl
    mg_joined := PySem.W.mg_of X G n_joined
    fn_joined := fun_mk (st := s_joined) l_joined c_joined k_joined
    b_joined := (fun_mk (st := s_joined) l_joined c_joined k_joined).binds (ps := ["one", "other"]) fun _ _ _ _ _ _ us hl => match us, hl with | [_, _], _ => rfl
    mg_rest_of := PySem.W.mg_of X G n_rest_of
    fn_rest_of := fun_mk (st := s_rest_of) l_rest_of c_rest_of k_rest_of
    b_rest_of := (fun_mk (st := s_rest_of) l_rest_of c_rest_of k_rest_of).binds (ps := ["things", "out"]) fun _ _ _ _ _ _ us hl => match us, hl with | [_, _], _ => rfl
    mg_is_whole := PySem.W.mg_of X G n_is_whole
    fn_is_whole := fun_mk (st := s_is_whole) l_is_whole c_is_whole k_is_whole
    b_is_whole := (fun_mk (st := s_is_whole) l_is_whole c_is_whole k_is_whole).binds (ps := ["value"]) fun _ _ _ _ _ _ us hl => match us, hl with | [_], _ => rfl
    mg_is_within := PySem.W.mg_of X G n_is_within
    fn_is_within := fun_mk (st := s_is_within) l_is_within c_is_within k_is_within
    b_is_within := (fun_mk (st := s_is_within) l_is_within c_is_within k_is_within).binds (ps := ["value", "least", "most"]) fun _ _ _ _ _ _ us hl => match us, hl with | [_, _, _], _ => rfl
    mg_is_ascending := PySem.W.mg_of X G n_is_ascending
    fn_is_ascending := fun_mk (st := s_is_ascending) l_is_ascending c_is_ascending k_is_ascending
    b_is_ascending := (fun_mk (st := s_is_ascending) l_is_ascending c_is_ascending k_is_ascending).binds (ps := ["value", "size"]) fun _ _ _ _ _ _ us hl => match us, hl with | [_, _], _ => rfl
    mg_clean_sets := PySem.W.mg_of X G n_clean_sets
    fn_clean_sets := fun_mk (st := s_clean_sets) l_clean_sets c_clean_sets k_clean_sets
    b_clean_sets := (fun_mk (st := s_clean_sets) l_clean_sets c_clean_sets k_clean_sets).binds (ps := ["size", "sets"]) fun _ _ _ _ _ _ us hl => match us, hl with | [_, _], _ => rfl
    mg_closed_sets := PySem.W.mg_of X G n_closed_sets
    fn_closed_sets := fun_mk (st := s_closed_sets) l_closed_sets c_closed_sets k_closed_sets
    b_closed_sets := (fun_mk (st := s_closed_sets) l_closed_sets c_closed_sets k_closed_sets).binds (ps := ["size", "sets"]) fun _ _ _ _ _ _ us hl => match us, hl with | [_, _], _ => rfl
    fn_Family_init := fun_mk (st := s_Family_init) l_Family_init c_Family_init k_Family_init
    b_Family_init := (fun_mk (st := s_Family_init) l_Family_init c_Family_init k_Family_init).binds (ps := ["self", "size", "sets"]) fun _ _ _ _ _ _ us hl => match us, hl with | [_, _, _], _ => rfl
    mt_Family_init := ⟨f_Family_init, i_Family_init, k_Family_init⟩
    fn_Family_contains := fun_mk (st := s_Family_contains) l_Family_contains c_Family_contains k_Family_contains
    b_Family_contains := (fun_mk (st := s_Family_contains) l_Family_contains c_Family_contains k_Family_contains).binds (ps := ["self", "things"]) fun _ _ _ _ _ _ us hl => match us, hl with | [_, _], _ => rfl
    mt_Family_contains := ⟨f_Family_contains, i_Family_contains, k_Family_contains⟩
    fn_Family_eq := fun_mk (st := s_Family_eq) l_Family_eq c_Family_eq k_Family_eq
    b_Family_eq := (fun_mk (st := s_Family_eq) l_Family_eq c_Family_eq k_Family_eq).binds (ps := ["self", "other"]) fun _ _ _ _ _ _ us hl => match us, hl with | [_, _], _ => rfl
    mt_Family_eq := ⟨f_Family_eq, i_Family_eq, k_Family_eq⟩
    fn_Family_rank := fun_mk (st := s_Family_rank) l_Family_rank c_Family_rank k_Family_rank
    b_Family_rank := (fun_mk (st := s_Family_rank) l_Family_rank c_Family_rank k_Family_rank).binds (ps := ["self", "things"]) fun _ _ _ _ _ _ us hl => match us, hl with | [_, _], _ => rfl
    mt_Family_rank := ⟨f_Family_rank, i_Family_rank, k_Family_rank⟩
    fn_Family_full_sets := fun_mk (st := s_Family_full_sets) l_Family_full_sets c_Family_full_sets k_Family_full_sets
    b_Family_full_sets := (fun_mk (st := s_Family_full_sets) l_Family_full_sets c_Family_full_sets k_Family_full_sets).binds (ps := ["self"]) fun _ _ _ _ _ _ us hl => match us, hl with | [_], _ => rfl
    mt_Family_full_sets := ⟨f_Family_full_sets, i_Family_full_sets, k_Family_full_sets⟩
    fn_Family_addable := fun_mk (st := s_Family_addable) l_Family_addable c_Family_addable k_Family_addable
    b_Family_addable := (fun_mk (st := s_Family_addable) l_Family_addable c_Family_addable k_Family_addable).binds (ps := ["self", "taken"]) fun _ _ _ _ _ _ us hl => match us, hl with | [_, _], _ => rfl
    mt_Family_addable := ⟨f_Family_addable, i_Family_addable, k_Family_addable⟩
    fn_Frac_init := ⟨⟨_, _, _, _, _, _, _, _, _, _, rfl, l_Frac_init, c_Frac_init, .inr ⟨by simp, T_Frac_init, _, _, _, rfl, t_Frac_init, u_Frac_init, .cons ⟨_, rfl⟩ (.nil)⟩, .inl rfl⟩, k_Frac_init⟩
    mt_Frac_init := ⟨f_Frac_init, i_Frac_init, k_Frac_init⟩
    mg_law_box := PySem.W.mg_of X G n_law_box
    fn_law_box := fun_mk (st := s_law_box) l_law_box c_law_box k_law_box
    b_law_box := (fun_mk (st := s_law_box) l_law_box c_law_box k_law_box).binds (ps := ["script"]) fun _ _ _ _ _ _ us hl => match us, hl with | [_], _ => rfl
    mg_law_draw := PySem.W.mg_of X G n_law_draw
    fn_law_draw := fun_mk (st := s_law_draw) l_law_draw c_law_draw k_law_draw
    b_law_draw := (fun_mk (st := s_law_draw) l_law_draw c_law_draw k_law_draw).binds (ps := ["box", "limit"]) fun _ _ _ _ _ _ us hl => match us, hl with | [_, _], _ => rfl
    mg_law_things := PySem.W.mg_of X G n_law_things
    fn_law_things := fun_mk (st := s_law_things) l_law_things c_law_things k_law_things
    b_law_things := (fun_mk (st := s_law_things) l_law_things c_law_things k_law_things).binds (ps := ["mask"]) fun _ _ _ _ _ _ us hl => match us, hl with | [_], _ => rfl
    mg_law_mask := PySem.W.mg_of X G n_law_mask
    fn_law_mask := fun_mk (st := s_law_mask) l_law_mask c_law_mask k_law_mask
    b_law_mask := (fun_mk (st := s_law_mask) l_law_mask c_law_mask k_law_mask).binds (ps := ["things"]) fun _ _ _ _ _ _ us hl => match us, hl with | [_], _ => rfl
    mg_law_inside := PySem.W.mg_of X G n_law_inside
    fn_law_inside := fun_mk (st := s_law_inside) l_law_inside c_law_inside k_law_inside
    b_law_inside := (fun_mk (st := s_law_inside) l_law_inside c_law_inside k_law_inside).binds (ps := ["box", "size"]) fun _ _ _ _ _ _ us hl => match us, hl with | [_, _], _ => rfl
    mg_law_ordered := PySem.W.mg_of X G n_law_ordered
    fn_law_ordered := fun_mk (st := s_law_ordered) l_law_ordered c_law_ordered k_law_ordered
    b_law_ordered := (fun_mk (st := s_law_ordered) l_law_ordered c_law_ordered k_law_ordered).binds (ps := ["inside"]) fun _ _ _ _ _ _ us hl => match us, hl with | [_], _ => rfl
    mg_law_shape := PySem.W.mg_of X G n_law_shape
    fn_law_shape := fun_mk (st := s_law_shape) l_law_shape c_law_shape k_law_shape
    b_law_shape := (fun_mk (st := s_law_shape) l_law_shape c_law_shape k_law_shape).binds (ps := ["box", "parts"]) fun _ _ _ _ _ _ us hl => match us, hl with | [_, _], _ => rfl
    mg_law_mixed := PySem.W.mg_of X G n_law_mixed
    fn_law_mixed := fun_mk (st := s_law_mixed) l_law_mixed c_law_mixed k_law_mixed
    b_law_mixed := (fun_mk (st := s_law_mixed) l_law_mixed c_law_mixed k_law_mixed).binds (ps := ["box", "sets"]) fun _ _ _ _ _ _ us hl => match us, hl with | [_, _], _ => rfl
    mg_law_integer := PySem.W.mg_of X G n_law_integer
    fn_law_integer := fun_mk (st := s_law_integer) l_law_integer c_law_integer k_law_integer
    b_law_integer := (fun_mk (st := s_law_integer) l_law_integer c_law_integer k_law_integer).binds (ps := ["value"]) fun _ _ _ _ _ _ us hl => match us, hl with | [_], _ => rfl
    mg_law_is_set := PySem.W.mg_of X G n_law_is_set
    fn_law_is_set := fun_mk (st := s_law_is_set) l_law_is_set c_law_is_set k_law_is_set
    b_law_is_set := (fun_mk (st := s_law_is_set) l_law_is_set c_law_is_set k_law_is_set).binds (ps := ["actual", "due"]) fun _ _ _ _ _ _ us hl => match us, hl with | [_, _], _ => rfl
    mg_law_are_sets := PySem.W.mg_of X G n_law_are_sets
    fn_law_are_sets := fun_mk (st := s_law_are_sets) l_law_are_sets c_law_are_sets k_law_are_sets
    b_law_are_sets := (fun_mk (st := s_law_are_sets) l_law_are_sets c_law_are_sets k_law_are_sets).binds (ps := ["actual", "due"]) fun _ _ _ _ _ _ us hl => match us, hl with | [_, _], _ => rfl
    mg_law_truth := PySem.W.mg_of X G n_law_truth
    fn_law_truth := fun_mk (st := s_law_truth) l_law_truth c_law_truth k_law_truth
    b_law_truth := (fun_mk (st := s_law_truth) l_law_truth c_law_truth k_law_truth).binds (ps := ["actual", "due"]) fun _ _ _ _ _ _ us hl => match us, hl with | [_, _], _ => rfl
    mg_law_added := PySem.W.mg_of X G n_law_added
    fn_law_added := fun_mk (st := s_law_added) l_law_added c_law_added k_law_added
    b_law_added := (fun_mk (st := s_law_added) l_law_added c_law_added k_law_added).binds (ps := ["inside", "mask"]) fun _ _ _ _ _ _ us hl => match us, hl with | [_, _], _ => rfl
    mg_law_rank := PySem.W.mg_of X G n_law_rank
    fn_law_rank := fun_mk (st := s_law_rank) l_law_rank c_law_rank k_law_rank
    b_law_rank := (fun_mk (st := s_law_rank) l_law_rank c_law_rank k_law_rank).binds (ps := ["inside", "mask"]) fun _ _ _ _ _ _ us hl => match us, hl with | [_, _], _ => rfl
    mg_law_family := PySem.W.mg_of X G n_law_family
    fn_law_family := fun_mk (st := s_law_family) l_law_family c_law_family k_law_family
    b_law_family := (fun_mk (st := s_law_family) l_law_family c_law_family k_law_family).binds (ps := ["box", "family", "size", "inside"]) fun _ _ _ _ _ _ us hl => match us, hl with | [_, _, _, _], _ => rfl
    mg_law_others := PySem.W.mg_of X G n_law_others
    fn_law_others := fun_mk (st := s_law_others) l_law_others c_law_others k_law_others
    b_law_others := (fun_mk (st := s_law_others) l_law_others c_law_others k_law_others).binds (ps := ["box", "family", "size", "inside"]) fun _ _ _ _ _ _ us hl => match us, hl with | [_, _, _, _], _ => rfl
    mg_law_no_set := PySem.W.mg_of X G n_law_no_set
    fn_law_no_set := fun_mk (st := s_law_no_set) l_law_no_set c_law_no_set k_law_no_set
    b_law_no_set := (fun_mk (st := s_law_no_set) l_law_no_set c_law_no_set k_law_no_set).binds (ps := ["box", "size"]) fun _ _ _ _ _ _ us hl => match us, hl with | [_, _], _ => rfl
    mg_law_right_set := PySem.W.mg_of X G n_law_right_set
    fn_law_right_set := fun_mk (st := s_law_right_set) l_law_right_set c_law_right_set k_law_right_set
    b_law_right_set := (fun_mk (st := s_law_right_set) l_law_right_set c_law_right_set k_law_right_set).binds (ps := ["value", "size"]) fun _ _ _ _ _ _ us hl => match us, hl with | [_, _], _ => rfl
    mg_law_missing := PySem.W.mg_of X G n_law_missing
    fn_law_missing := fun_mk (st := s_law_missing) l_law_missing c_law_missing k_law_missing
    b_law_missing := (fun_mk (st := s_law_missing) l_law_missing c_law_missing k_law_missing).binds (ps := ["sets", "size"]) fun _ _ _ _ _ _ us hl => match us, hl with | [_, _], _ => rfl
    mg_law_text := PySem.W.mg_of X G n_law_text
    fn_law_text := fun_mk (st := s_law_text) l_law_text c_law_text k_law_text
    b_law_text := (fun_mk (st := s_law_text) l_law_text c_law_text k_law_text).binds (ps := ["value"]) fun _ _ _ _ _ _ us hl => match us, hl with | [_], _ => rfl
    mg_law_made := PySem.W.mg_of X G n_law_made
    fn_law_made := fun_mk (st := s_law_made) l_law_made c_law_made k_law_made
    b_law_made := (fun_mk (st := s_law_made) l_law_made c_law_made k_law_made).binds (ps := ["size", "sets"]) fun _ _ _ _ _ _ us hl => match us, hl with | [_, _], _ => rfl
    mg_law_faults := PySem.W.mg_of X G n_law_faults
    fn_law_faults := fun_mk (st := s_law_faults) l_law_faults c_law_faults k_law_faults
    b_law_faults := (fun_mk (st := s_law_faults) l_law_faults c_law_faults k_law_faults).binds (ps := ["box", "size", "inside"]) fun _ _ _ _ _ _ us hl => match us, hl with | [_, _, _], _ => rfl
    mg_law_all := PySem.W.mg_of X G n_law_all
    fn_law_all := fun_mk (st := s_law_all) l_law_all c_law_all k_law_all
    b_law_all := (fun_mk (st := s_law_all) l_law_all c_law_all k_law_all).binds (ps := ["script"]) fun _ _ _ _ _ _ us hl => match us, hl with | [_], _ => rfl
    mg_law := PySem.W.mg_of X G n_law
    fn_law := fun_mk (st := s_law) l_law c_law k_law
    b_law := (fun_mk (st := s_law) l_law c_law k_law).binds (ps := ["script"]) fun _ _ _ _ _ _ us hl => match us, hl with | [_], _ => rfl
    mk_Frac := ⟨mk_Frac, f_Frac_init, i_Frac_init, kc_Frac⟩
    mk_Family := ⟨mk_Family, f_Family_init, i_Family_init, kc_Family⟩
    ex_WrongSize := ⟨⟨_, _, _, _, _, _, _, _, _, _, _, _, _, _, _, x_WrongSize, rfl⟩, sa_WrongSize, ex_WrongSize, ty_WrongSize, kc_WrongSize⟩
    xf_WrongSize := ⟨ga_WrongSize, gg_WrongSize, ex_WrongSize, hd_WrongSize⟩
    xm_WrongSize := exm_self ex_WrongSize is_WrongSize ty_WrongSize ss_WrongSize
    na_WrongSize_many := na_WrongSize_many
    xi_WrongSize := f_WrongSize_init
    ti_WrongSize := ti_WrongSize
    ex_InvalidFamily := ⟨⟨_, _, _, _, _, _, _, _, _, _, _, _, _, _, _, x_InvalidFamily, rfl⟩, sa_InvalidFamily, ex_InvalidFamily, ty_InvalidFamily, kc_InvalidFamily⟩
    xf_InvalidFamily := ⟨ga_InvalidFamily, gg_InvalidFamily, ex_InvalidFamily, hd_InvalidFamily⟩
    xm_InvalidFamily := exm_self ex_InvalidFamily is_InvalidFamily ty_InvalidFamily ss_InvalidFamily
    na_InvalidFamily_at := na_InvalidFamily_at
    xi_InvalidFamily := f_InvalidFamily_init
    ti_InvalidFamily := ti_InvalidFamily
    ex_NotClosed := ⟨⟨_, _, _, _, _, _, _, _, _, _, _, _, _, _, _, x_NotClosed, rfl⟩, sa_NotClosed, ex_NotClosed, ty_NotClosed, kc_NotClosed⟩
    xf_NotClosed := ⟨ga_NotClosed, gg_NotClosed, ex_NotClosed, hd_NotClosed⟩
    xm_NotClosed := exm_self ex_NotClosed is_NotClosed ty_NotClosed ss_NotClosed
    na_NotClosed_missing := na_NotClosed_missing
    xi_NotClosed := f_NotClosed_init
    ti_NotClosed := ti_NotClosed
    xm_InvalidFamily_WrongSize := exm_of ex_WrongSize is_WrongSize ty_WrongSize sx_InvalidFamily_WrongSize
    xm_NotClosed_WrongSize := exm_of ex_WrongSize is_WrongSize ty_WrongSize sx_NotClosed_WrongSize
    xm_NotClosed_InvalidFamily := exm_of ex_InvalidFamily is_InvalidFamily ty_InvalidFamily sx_NotClosed_InvalidFamily
    no_isinstance := PySem.W.mg_none_of X G z_isinstance
    no_int := PySem.W.mg_none_of X G z_int
    no_bool := PySem.W.mg_none_of X G z_bool
    no_range := PySem.W.mg_none_of X G z_range
    no_len := PySem.W.mg_none_of X G z_len
    no_abs := PySem.W.mg_none_of X G z_abs
    no_str := PySem.W.mg_none_of X G z_str
    no_max := PySem.W.mg_none_of X G z_max
    no_list := PySem.W.mg_none_of X G z_list
    no_tuple := PySem.W.mg_none_of X G z_tuple
    no_enumerate := PySem.W.mg_none_of X G z_enumerate
    no_any := PySem.W.mg_none_of X G z_any
    no_all := PySem.W.mg_none_of X G z_all
    no_sum := PySem.W.mg_none_of X G z_sum
    no_sorted := PySem.W.mg_none_of X G z_sorted
    no_set := PySem.W.mg_none_of X G z_set
    mg_MOST_THINGS := ⟨_, PySem.W.mg_of X G v_MOST_THINGS⟩
    mg_combinations := PySem.W.mg_of X G v_combinations
    mg_gcd := PySem.W.mg_of X G v_gcd
    kit_F_F := kit_self
    kit_F_int := kit_bi sb_F_int (by decide +kernel)
    kit_F_list := kit_bi sb_F_list (by decide +kernel)
    kit_F_tuple := kit_bi sb_F_tuple (by decide +kernel)
    kit_F_str := kit_bi sb_F_str (by decide +kernel)
    kit_none_F := kit_own is_Frac ty_Frac sb_none_F
    kit_bool_F := kit_own is_Frac ty_Frac sb_bool_F
    kit_int_F := kit_own is_Frac ty_Frac sb_int_F
    kit_str_F := kit_own is_Frac ty_Frac sb_str_F
    kit_list_F := kit_own is_Frac ty_Frac sb_list_F
    kit_tuple_F := kit_own is_Frac ty_Frac sb_tuple_F
    kit_none_S := kit_own is_Family ty_Family sb_none_S
    kit_bool_S := kit_own is_Family ty_Family sb_bool_S
    kit_int_S := kit_own is_Family ty_Family sb_int_S
    kit_str_S := kit_own is_Family ty_Family sb_str_S
    kit_list_S := kit_own is_Family ty_Family sb_list_S
    kit_tuple_S := kit_own is_Family ty_Family sb_tuple_S
    nf_Fam := nf_Fam
    nf_NoneType := nf_NoneType
    nf_tuple := nf_tuple
    nf_int := nf_int
    nf_bool := nf_bool
    nf_str := nf_str
    nf_list := nf_list }
end K19
namespace K19
open PySem PySem.Spec PyProof.Rows L2
theorem all_mk {l : PySem.W.OpenLaw} {w : World} {K : PySem.W.Frag} {mg : Str → Option Value} {fa : Addr} {a : Ad} (T : Txt K mg a) (hfa : mg "law" = some (.ref fa)) (hd : ∀ (s : Shared) (v : Value), BindsTo s a.d_law ⟨[v], []⟩ [("script", v)]) :
    ∃ fd : FuncData, (∀ (s : Shared) (v : Value), BindsTo s fd ⟨[v], []⟩ [("script", v)]) ∧ ∀ base : Heap, K.In base → base.Ns mainGlobals mg → FnOk l.prog w K mg base CX0 11 fa fd ["script"] (spLaw K) := by
  have e := hfa.symm.trans T.mg_law
  cases e
  exact ⟨a.d_law, hd, fun base _ _ => ok_law T⟩
theorem walk {l : PySem.W.OpenLaw} {q : Program} {loose : List Str} {XP : (Str → Option Value) → Heap → Prop} {YP : World → Heap → Prop} {d : DefRec} {K : Params → PySem.W.Frag} (hn : l.most = some 63) (hdf : d.params.defaults = [])
    (hY : ∀ (w : World) (h : Heap), YP w h → (K w.params).In h)
    (F : ∀ (w : World) (mg : Str → Option Value) (fa : Addr) (h : Heap), (K w.params).In h → h.Ns mainGlobals mg → mg d.name = some (.ref fa) →
      ∃ fd : FuncData, (∀ (s : Shared) (u : Value), BindsTo s fd ⟨[u], []⟩ [("script", u)]) ∧ ∀ base : Heap, (K w.params).In base → base.Ns mainGlobals mg → FnOk l.prog w (K w.params) mg base CX0 11 fa fd ["script"] (spLaw (K w.params))) :
    PySem.W.WalkO q loose XP YP l.row.toRowW d [] (fun f vs => PySem.call f vs) :=
  L2.walk_of (n := 63) (k := 11) (x := "script") (CX := fun _ => CX0) (sp := fun w => spLaw (K w.params)) hn (by decide) hdf ⟨rfl, by decide, by decide⟩ hY F (fun _ _ a ns hl _ hS => ⟨a, ns, rfl, hS, hl, fun _ => rfl⟩) fun _ _ _ _ _ z => z
end K19
open PySem PySem.W PyProof.Rows
set_option maxRecDepth 100000 in
set_option maxHeartbeats 0 in
theorem PySem.Challenge.cw_greatestnext_k19_families_and_faults_holds : PySem.Challenge.rw_greatestnext_k19_families_and_faults.Holds := by
  w_on; o_law; k_head; (case hw => w_witness2)
  k_fill
  refine K19.walk (l := PySem.Challenge.rw_greatestnext_k19_families_and_faults) rfl rfl (fun w h Y => PySem.W.kIn_of Y) ?F
  case F =>
    intro w mg fa h KX G hmg
    refine' K19.all_mk (K19.txt_mk KX G ?hC_Frac ?hC_Family ?hC_WrongSize ?hC_InvalidFamily ?hC_NotClosed ?hC_NextError ?pg_Frac ?hd_Frac ?po_Frac ?sa_Frac ?mk_Frac ?kc_Frac ?na_Frac_num ?na_Frac_den ?cg_Frac ?mr_Frac ?pg_Family ?hd_Family ?po_Family ?sa_Family ?mk_Family ?kc_Family ?na_Family_sets ?na_Family_size ?cg_Family ?mr_Family ?cget ?ctk ?f_InvalidFamily_init ?l_InvalidFamily_init ?c_InvalidFamily_init ?k_InvalidFamily_init ?f_NotClosed_init ?l_NotClosed_init ?c_NotClosed_init ?k_NotClosed_init ?f_WrongSize_init ?l_WrongSize_init ?c_WrongSize_init ?k_WrongSize_init ?n_parts_of ?l_parts_of ?c_parts_of ?k_parts_of ?n_all_sets ?l_all_sets ?c_all_sets ?k_all_sets ?n_is_part ?l_is_part ?c_is_part ?k_is_part ?n_joined ?l_joined ?c_joined ?k_joined ?n_rest_of ?l_rest_of ?c_rest_of ?k_rest_of ?n_is_whole ?l_is_whole ?c_is_whole ?k_is_whole ?n_is_within ?l_is_within ?c_is_within ?k_is_within ?n_is_ascending ?l_is_ascending ?c_is_ascending ?k_is_ascending ?n_clean_sets ?l_clean_sets ?c_clean_sets ?k_clean_sets ?n_closed_sets ?l_closed_sets ?c_closed_sets ?k_closed_sets ?f_Family_init ?i_Family_init ?l_Family_init ?c_Family_init ?k_Family_init ?f_Family_contains ?i_Family_contains ?l_Family_contains ?c_Family_contains ?k_Family_contains ?f_Family_eq ?i_Family_eq ?l_Family_eq ?c_Family_eq ?k_Family_eq ?f_Family_rank ?i_Family_rank ?l_Family_rank ?c_Family_rank ?k_Family_rank ?f_Family_full_sets ?i_Family_full_sets ?l_Family_full_sets ?c_Family_full_sets ?k_Family_full_sets ?f_Family_addable ?i_Family_addable ?l_Family_addable ?c_Family_addable ?k_Family_addable ?f_Frac_init ?i_Frac_init ?l_Frac_init ?c_Frac_init ?k_Frac_init ?t_Frac_init ?u_Frac_init ?n_law_box ?l_law_box ?c_law_box ?k_law_box ?n_law_draw ?l_law_draw ?c_law_draw ?k_law_draw ?n_law_things ?l_law_things ?c_law_things ?k_law_things ?n_law_mask ?l_law_mask ?c_law_mask ?k_law_mask ?n_law_inside ?l_law_inside ?c_law_inside ?k_law_inside ?n_law_ordered ?l_law_ordered ?c_law_ordered ?k_law_ordered ?n_law_shape ?l_law_shape ?c_law_shape ?k_law_shape ?n_law_mixed ?l_law_mixed ?c_law_mixed ?k_law_mixed ?n_law_integer ?l_law_integer ?c_law_integer ?k_law_integer ?n_law_is_set ?l_law_is_set ?c_law_is_set ?k_law_is_set ?n_law_are_sets ?l_law_are_sets ?c_law_are_sets ?k_law_are_sets ?n_law_truth ?l_law_truth ?c_law_truth ?k_law_truth ?n_law_added ?l_law_added ?c_law_added ?k_law_added ?n_law_rank ?l_law_rank ?c_law_rank ?k_law_rank ?n_law_family ?l_law_family ?c_law_family ?k_law_family ?n_law_others ?l_law_others ?c_law_others ?k_law_others ?n_law_no_set ?l_law_no_set ?c_law_no_set ?k_law_no_set ?n_law_right_set ?l_law_right_set ?c_law_right_set ?k_law_right_set ?n_law_missing ?l_law_missing ?c_law_missing ?k_law_missing ?n_law_text ?l_law_text ?c_law_text ?k_law_text ?n_law_made ?l_law_made ?c_law_made ?k_law_made ?n_law_faults ?l_law_faults ?c_law_faults ?k_law_faults ?n_law_all ?l_law_all ?c_law_all ?k_law_all ?n_law ?l_law ?c_law ?k_law ?x_WrongSize ?sa_WrongSize ?ex_WrongSize ?ty_WrongSize ?kc_WrongSize ?ga_WrongSize ?gg_WrongSize ?hd_WrongSize ?is_WrongSize ?ss_WrongSize ?na_WrongSize_many ?ti_WrongSize ?x_InvalidFamily ?sa_InvalidFamily ?ex_InvalidFamily ?ty_InvalidFamily ?kc_InvalidFamily ?ga_InvalidFamily ?gg_InvalidFamily ?hd_InvalidFamily ?is_InvalidFamily ?ss_InvalidFamily ?na_InvalidFamily_at ?ti_InvalidFamily ?x_NotClosed ?sa_NotClosed ?ex_NotClosed ?ty_NotClosed ?kc_NotClosed ?ga_NotClosed ?gg_NotClosed ?hd_NotClosed ?is_NotClosed ?ss_NotClosed ?na_NotClosed_missing ?ti_NotClosed ?sx_InvalidFamily_WrongSize ?sx_NotClosed_WrongSize ?sx_NotClosed_InvalidFamily ?z_isinstance ?z_int ?z_bool ?z_range ?z_len ?z_abs ?z_str ?z_max ?z_list ?z_tuple ?z_enumerate ?z_any ?z_all ?z_sum ?z_sorted ?z_set ?v_MOST_THINGS ?v_combinations ?v_gcd ?is_Frac ?ty_Frac ?is_Family ?ty_Family ?sb_F_int ?sb_F_list ?sb_F_tuple ?sb_F_str ?sb_none_F ?sb_bool_F ?sb_int_F ?sb_str_F ?sb_list_F ?sb_tuple_F ?sb_none_S ?sb_bool_S ?sb_int_S ?sb_str_S ?sb_list_S ?sb_tuple_S ?nf_Fam ?nf_NoneType ?nf_tuple ?nf_int ?nf_bool ?nf_str ?nf_list) hmg (fun s v => .of_eq rfl)
    (case hC_Frac => k_is)
    (case hC_Family => k_is)
    (case hC_WrongSize => k_is)
    (case hC_InvalidFamily => k_is)
    (case hC_NotClosed => k_is)
    (case hC_NextError => k_is)
    (case pg_Frac => k_is)
    (case hd_Frac => k_is)
    (case po_Frac => k_is)
    (case sa_Frac => k_is)
    (case mk_Frac => k_is)
    (case kc_Frac => k_is)
    (case na_Frac_num => k_is)
    (case na_Frac_den => k_is)
    (case cg_Frac => k_is)
    (case mr_Frac => k_is)
    (case pg_Family => k_is)
    (case hd_Family => k_is)
    (case po_Family => k_is)
    (case sa_Family => k_is)
    (case mk_Family => k_is)
    (case kc_Family => k_is)
    (case na_Family_sets => k_is)
    (case na_Family_size => k_is)
    (case cg_Family => k_is)
    (case mr_Family => k_is)
    (case cget => k_is)
    (case ctk => k_is)
    (case f_InvalidFamily_init => k_is)
    (case l_InvalidFamily_init => k_is)
    (case c_InvalidFamily_init => k_is)
    (case k_InvalidFamily_init => k_is)
    (case f_NotClosed_init => k_is)
    (case l_NotClosed_init => k_is)
    (case c_NotClosed_init => k_is)
    (case k_NotClosed_init => k_is)
    (case f_WrongSize_init => k_is)
    (case l_WrongSize_init => k_is)
    (case c_WrongSize_init => k_is)
    (case k_WrongSize_init => k_is)
    (case n_parts_of => k_is)
    (case l_parts_of => k_is)
    (case c_parts_of => k_is)
    (case k_parts_of => k_is)
    (case n_all_sets => k_is)
    (case l_all_sets => k_is)
    (case c_all_sets => k_is)
    (case k_all_sets => k_is)
    (case n_is_part => k_is)
    (case l_is_part => k_is)
    (case c_is_part => k_is)
    (case k_is_part => k_is)
    (case n_joined => k_is)
    (case l_joined => k_is)
    (case c_joined => k_is)
    (case k_joined => k_is)
    (case n_rest_of => k_is)
    (case l_rest_of => k_is)
    (case c_rest_of => k_is)
    (case k_rest_of => k_is)
    (case n_is_whole => k_is)
    (case l_is_whole => k_is)
    (case c_is_whole => k_is)
    (case k_is_whole => k_is)
    (case n_is_within => k_is)
    (case l_is_within => k_is)
    (case c_is_within => k_is)
    (case k_is_within => k_is)
    (case n_is_ascending => k_is)
    (case l_is_ascending => k_is)
    (case c_is_ascending => k_is)
    (case k_is_ascending => k_is)
    (case n_clean_sets => k_is)
    (case l_clean_sets => k_is)
    (case c_clean_sets => k_is)
    (case k_clean_sets => k_is)
    (case n_closed_sets => k_is)
    (case l_closed_sets => k_is)
    (case c_closed_sets => k_is)
    (case k_closed_sets => k_is)
    (case f_Family_init => k_is)
    (case i_Family_init => k_is)
    (case l_Family_init => k_is)
    (case c_Family_init => k_is)
    (case k_Family_init => k_is)
    (case f_Family_contains => k_is)
    (case i_Family_contains => k_is)
    (case l_Family_contains => k_is)
    (case c_Family_contains => k_is)
    (case k_Family_contains => k_is)
    (case f_Family_eq => k_is)
    (case i_Family_eq => k_is)
    (case l_Family_eq => k_is)
    (case c_Family_eq => k_is)
    (case k_Family_eq => k_is)
    (case f_Family_rank => k_is)
    (case i_Family_rank => k_is)
    (case l_Family_rank => k_is)
    (case c_Family_rank => k_is)
    (case k_Family_rank => k_is)
    (case f_Family_full_sets => k_is)
    (case i_Family_full_sets => k_is)
    (case l_Family_full_sets => k_is)
    (case c_Family_full_sets => k_is)
    (case k_Family_full_sets => k_is)
    (case f_Family_addable => k_is)
    (case i_Family_addable => k_is)
    (case l_Family_addable => k_is)
    (case c_Family_addable => k_is)
    (case k_Family_addable => k_is)
    (case f_Frac_init => k_is)
    (case i_Frac_init => k_is)
    (case l_Frac_init => k_is)
    (case c_Frac_init => k_is)
    (case k_Frac_init => k_is)
    (case t_Frac_init => k_is)
    (case u_Frac_init => first | rfl | k_is)
    (case n_law_box => k_is)
    (case l_law_box => k_is)
    (case c_law_box => k_is)
    (case k_law_box => k_is)
    (case n_law_draw => k_is)
    (case l_law_draw => k_is)
    (case c_law_draw => k_is)
    (case k_law_draw => k_is)
    (case n_law_things => k_is)
    (case l_law_things => k_is)
    (case c_law_things => k_is)
    (case k_law_things => k_is)
    (case n_law_mask => k_is)
    (case l_law_mask => k_is)
    (case c_law_mask => k_is)
    (case k_law_mask => k_is)
    (case n_law_inside => k_is)
    (case l_law_inside => k_is)
    (case c_law_inside => k_is)
    (case k_law_inside => k_is)
    (case n_law_ordered => k_is)
    (case l_law_ordered => k_is)
    (case c_law_ordered => k_is)
    (case k_law_ordered => k_is)
    (case n_law_shape => k_is)
    (case l_law_shape => k_is)
    (case c_law_shape => k_is)
    (case k_law_shape => k_is)
    (case n_law_mixed => k_is)
    (case l_law_mixed => k_is)
    (case c_law_mixed => k_is)
    (case k_law_mixed => k_is)
    (case n_law_integer => k_is)
    (case l_law_integer => k_is)
    (case c_law_integer => k_is)
    (case k_law_integer => k_is)
    (case n_law_is_set => k_is)
    (case l_law_is_set => k_is)
    (case c_law_is_set => k_is)
    (case k_law_is_set => k_is)
    (case n_law_are_sets => k_is)
    (case l_law_are_sets => k_is)
    (case c_law_are_sets => k_is)
    (case k_law_are_sets => k_is)
    (case n_law_truth => k_is)
    (case l_law_truth => k_is)
    (case c_law_truth => k_is)
    (case k_law_truth => k_is)
    (case n_law_added => k_is)
    (case l_law_added => k_is)
    (case c_law_added => k_is)
    (case k_law_added => k_is)
    (case n_law_rank => k_is)
    (case l_law_rank => k_is)
    (case c_law_rank => k_is)
    (case k_law_rank => k_is)
    (case n_law_family => k_is)
    (case l_law_family => k_is)
    (case c_law_family => k_is)
    (case k_law_family => k_is)
    (case n_law_others => k_is)
    (case l_law_others => k_is)
    (case c_law_others => k_is)
    (case k_law_others => k_is)
    (case n_law_no_set => k_is)
    (case l_law_no_set => k_is)
    (case c_law_no_set => k_is)
    (case k_law_no_set => k_is)
    (case n_law_right_set => k_is)
    (case l_law_right_set => k_is)
    (case c_law_right_set => k_is)
    (case k_law_right_set => k_is)
    (case n_law_missing => k_is)
    (case l_law_missing => k_is)
    (case c_law_missing => k_is)
    (case k_law_missing => k_is)
    (case n_law_text => k_is)
    (case l_law_text => k_is)
    (case c_law_text => k_is)
    (case k_law_text => k_is)
    (case n_law_made => k_is)
    (case l_law_made => k_is)
    (case c_law_made => k_is)
    (case k_law_made => k_is)
    (case n_law_faults => k_is)
    (case l_law_faults => k_is)
    (case c_law_faults => k_is)
    (case k_law_faults => k_is)
    (case n_law_all => k_is)
    (case l_law_all => k_is)
    (case c_law_all => k_is)
    (case k_law_all => k_is)
    (case n_law => k_is)
    (case l_law => k_is)
    (case c_law => k_is)
    (case k_law => k_is)
    (case x_WrongSize => k_is)
    (case sa_WrongSize => k_is)
    (case ex_WrongSize => k_is)
    (case ty_WrongSize => k_is)
    (case kc_WrongSize => k_is)
    (case ga_WrongSize => k_is)
    (case gg_WrongSize => k_is)
    (case hd_WrongSize => k_is)
    (case is_WrongSize => k_is)
    (case ss_WrongSize => first | rfl | k_is)
    (case na_WrongSize_many => k_is)
    (case ti_WrongSize => k_is)
    (case x_InvalidFamily => k_is)
    (case sa_InvalidFamily => k_is)
    (case ex_InvalidFamily => k_is)
    (case ty_InvalidFamily => k_is)
    (case kc_InvalidFamily => k_is)
    (case ga_InvalidFamily => k_is)
    (case gg_InvalidFamily => k_is)
    (case hd_InvalidFamily => k_is)
    (case is_InvalidFamily => k_is)
    (case ss_InvalidFamily => first | rfl | k_is)
    (case na_InvalidFamily_at => k_is)
    (case ti_InvalidFamily => k_is)
    (case x_NotClosed => k_is)
    (case sa_NotClosed => k_is)
    (case ex_NotClosed => k_is)
    (case ty_NotClosed => k_is)
    (case kc_NotClosed => k_is)
    (case ga_NotClosed => k_is)
    (case gg_NotClosed => k_is)
    (case hd_NotClosed => k_is)
    (case is_NotClosed => k_is)
    (case ss_NotClosed => first | rfl | k_is)
    (case na_NotClosed_missing => k_is)
    (case ti_NotClosed => k_is)
    (case sx_InvalidFamily_WrongSize => first | rfl | k_is)
    (case sx_NotClosed_WrongSize => first | rfl | k_is)
    (case sx_NotClosed_InvalidFamily => first | rfl | k_is)
    (case z_isinstance => k_is)
    (case z_int => k_is)
    (case z_bool => k_is)
    (case z_range => k_is)
    (case z_len => k_is)
    (case z_abs => k_is)
    (case z_str => k_is)
    (case z_max => k_is)
    (case z_list => k_is)
    (case z_tuple => k_is)
    (case z_enumerate => k_is)
    (case z_any => k_is)
    (case z_all => k_is)
    (case z_sum => k_is)
    (case z_sorted => k_is)
    (case z_set => k_is)
    (case v_MOST_THINGS => k_is)
    (case v_combinations => k_is)
    (case v_gcd => k_is)
    (case is_Frac => k_is)
    (case ty_Frac => k_is)
    (case is_Family => k_is)
    (case ty_Family => k_is)
    (case sb_F_int => k_is)
    (case sb_F_list => k_is)
    (case sb_F_tuple => k_is)
    (case sb_F_str => k_is)
    (case sb_none_F => k_is)
    (case sb_bool_F => k_is)
    (case sb_int_F => k_is)
    (case sb_str_F => k_is)
    (case sb_list_F => k_is)
    (case sb_tuple_F => k_is)
    (case sb_none_S => k_is)
    (case sb_bool_S => k_is)
    (case sb_int_S => k_is)
    (case sb_str_S => k_is)
    (case sb_list_S => k_is)
    (case sb_tuple_S => k_is)
    (case nf_Fam => k_is)
    (case nf_NoneType => k_is)
    (case nf_tuple => k_is)
    (case nf_int => k_is)
    (case nf_bool => k_is)
    (case nf_str => k_is)
    (case nf_list => k_is)
