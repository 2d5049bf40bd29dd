import PyProof.Rows.All
import Wide.All
import OpenK.AllK
import Wide.FinOn
import HandS.ForMost
import HandS.IsInst
import HandS.SortRule
import KE.SortData
import HandS.RepeatKit
import HandS.Iter
import PyProof.Rows.SortShell
import HandS.SetFor
import HandS.Strs
import HandS.Exc
import HandS.TryOnly
import HandS.ExcOwn
import HandS.WordsExc
import HandS.CallSlots
import HandS.Defaults
import HandS.MakeKw
import HandS.MakeKwOnly
import HandS.Wide
import HandS.WideBits
import HandS.Gcd
import HandS.HotCalls
import HandS.ExcInit
import HandS.ExcField
import HandS.OwnEq
import HandS.TupAny
import HandS.Style
import HandS.NoneIn
import PyProof.EnumMake
import KE.GoesMore
import KE.KUnpackStar
import HandS.Hot
import HandS.ExcCtx
import HandS.Base
import HandS.Call
import HandS.List
import HandS.TupSets
import HandS.AnyAll
import HandS.Deep
import HandS.Star
import HandS.Conv
import HandS.More
import HandS.EndOwn
import PySem.Challenge.RW_greatestnext_k32_unions_and_splits
set_option Elab.async false
set_option linter.all false
set_option maxRecDepth 100000
set_option maxHeartbeats 4000000
set_option maxHeartbeats 2000000
set_option exponentiation.threshold 5000
/-! Readings brought to a plain form: loops folded, calls by kinds. -/
namespace Rd
open PySem PySem.Spec PyProof.Rows L2
/-- a loop whose iterator has come -/
def Loop (J : It) (g : TG) (tb : TS) (D : Ends) (σ : L2.St) (H : Hp) : Prop := tFor (fun _ H1 R => R J H1) g tb D σ H
theorem tFor_rng1 {ta : TA} {g : TG} {tb : TS} {D : Ends} {σ : L2.St} {H : Hp} : tFor (iRng1 ta) g tb D σ H = ta σ H (fun vs H1 => ∃ j : Int, vs = [.int j] ∧ -(2 ^ 62) ≤ j ∧ j < 2 ^ 62 ∧ Loop (Itr 0 j.toNat) g tb D σ H1) := rfl
theorem tFor_rng2 {ta : TA} {g : TG} {tb : TS} {D : Ends} {σ : L2.St} {H : Hp} : tFor (iRng2 ta) g tb D σ H = ta σ H (fun vs H1 => ∃ i j : Int, vs = [.int i, .int j] ∧ (-(2 ^ 62) ≤ i ∧ i < 2 ^ 62 ∧ -(2 ^ 62) ≤ j ∧ j < 2 ^ 62) ∧ Loop (Itr i (j - i).toNat) g tb D σ H1) := rfl
theorem tFor_list {K : PySem.W.Frag} {tl : TE} {g : TG} {tb : TS} {D : Ends} {σ : L2.St} {H : Hp} : tFor (iList K tl) g tb D σ H = tl σ H (fun x H1 => ∃ a, x = .ref a ∧ (∃ xs, SqL K H1 a xs) ∧ Loop (Itl K a) g tb D σ H1) := rfl
theorem tFor_tup {K : PySem.W.Frag} {tl : TE} {g : TG} {tb : TS} {D : Ends} {σ : L2.St} {H : Hp} : tFor (iTup K tl) g tb D σ H = tl σ H (fun x H1 => ∃ a, x = .ref a ∧ (∃ xs, SqT K H1 a xs) ∧ Loop (Itt K a) g tb D σ H1) := rfl
theorem loop_rng {lo : Int} {n : Nat} {g : TG} {tb : TS} {D : Ends} {σ : L2.St} {H : Hp} (Pv : Nat → L2.St → Hp → Prop) (h0 : Pv 0 σ H)
    (hs : ∀ i σ H, i < n → Pv i σ H → g (.int (lo + i)) σ H fun σ2 H2 => tb { D with nx := Pv (i + 1), ct := Pv (i + 1), bk := D.nx } σ2 H2) (hd : ∀ σ H, Pv n σ H → D.nx σ H) : Loop (Itr lo n) g tb D σ H := for_range Pv h0 hs hd
theorem loop_list {K : PySem.W.Frag} {a : Addr} {xs : List V} {g : TG} {tb : TS} {D : Ends} {σ : L2.St} {H : Hp} (Pv : Nat → L2.St → Hp → Prop) (h0 : Pv 0 σ H) (hl : ∀ i σ H, i ≤ xs.length → Pv i σ H → SqL K H a xs)
    (hs : ∀ i x σ H, xs[i]? = some x → Pv i σ H → g x σ H fun σ2 H2 => tb { D with nx := Pv (i + 1), ct := Pv (i + 1), bk := D.nx } σ2 H2) (hd : ∀ σ H, Pv xs.length σ H → D.nx σ H) : Loop (Itl K a) g tb D σ H := for_list Pv h0 hl hs hd
/-- a comprehension whose iterator has come -/
def LcL (J : It) (g : TG) (tt : TT) (te : TE) (vs : List Nat) (σ : L2.St) (H : Hp) (Q : VK) : Prop := tLc (fun _ H1 R => R J H1) g tt te vs σ H Q
theorem tLc_list {K : PySem.W.Frag} {tl : TE} {g : TG} {tt : TT} {te : TE} {vs : List Nat} {σ : L2.St} {H : Hp} {Q : VK} : tLc (iList K tl) g tt te vs σ H Q = tl σ H (fun x H1 => ∃ a, x = .ref a ∧ (∃ xs, SqL K H1 a xs) ∧ LcL (Itl K a) g tt te vs σ H1 Q) := rfl
theorem tLc_tup {K : PySem.W.Frag} {tl : TE} {g : TG} {tt : TT} {te : TE} {vs : List Nat} {σ : L2.St} {H : Hp} {Q : VK} : tLc (iTup K tl) g tt te vs σ H Q = tl σ H (fun x H1 => ∃ a, x = .ref a ∧ (∃ xs, SqT K H1 a xs) ∧ LcL (Itt K a) g tt te vs σ H1 Q) := rfl
theorem tLc_rng1 {ta : TA} {g : TG} {tt : TT} {te : TE} {vs : List Nat} {σ : L2.St} {H : Hp} {Q : VK} : tLc (iRng1 ta) g tt te vs σ H Q = ta σ H (fun ws H1 => ∃ j : Int, ws = [.int j] ∧ -(2 ^ 62) ≤ j ∧ j < 2 ^ 62 ∧ LcL (Itr 0 j.toNat) g tt te vs σ H1 Q) := rfl
/-- a turn of a comprehension: the element's value is appended at D -/
def LcTurn (te : TE) (tt : TT) (D : Addr) (σw σ2 : L2.St) (vs : List Nat) (H2 : Hp) (R : Hp → Prop) : Prop := wipe σ2 vs = σw ∧ tt σ2 H2 fun b H3 =>
  if b = true then te σ2 H3 fun y H4 => ∃ acc, H4 D = some (.lst acc) ∧ acc.length < sizeLine ∧ R (upd H4 D (.lst (acc ++ [y]))) else R H3
theorem lcl_list {K : PySem.W.Frag} {a : Addr} {xs : List V} {g : TG} {tt : TT} {te : TE} {vs : List Nat} {σ : L2.St} {H : Hp} {Q : VK} (Pv : Addr → Nat → Hp → Prop) (h0 : ∀ D, H D = none → Pv D 0 (upd H D (.lst []))) (hl : ∀ D i H1, i ≤ xs.length → Pv D i H1 → SqL K H1 a xs)
    (hs : ∀ D i x H1, xs[i]? = some x → Pv D i H1 → g x (wipe σ vs) H1 fun σ2 H2 => LcTurn te tt D (wipe σ vs) σ2 vs H2 (Pv D (i + 1))) (hd : ∀ D H1, H D = none → Pv D xs.length H1 → Q (.ref D) H1) : LcL (Itl K a) g tt te vs σ H Q :=
  fun D hD => lc_list (Pv D) (h0 D hD) (hl D) (hs D) fun H1 p => hd D H1 hD p
theorem lcl_rng {lo : Int} {n : Nat} {g : TG} {tt : TT} {te : TE} {vs : List Nat} {σ : L2.St} {H : Hp} {Q : VK} (Pv : Addr → Nat → Hp → Prop) (h0 : ∀ D, H D = none → Pv D 0 (upd H D (.lst [])))
    (hs : ∀ D i H1, i < n → Pv D i H1 → g (.int (lo + i)) (wipe σ vs) H1 fun σ2 H2 => LcTurn te tt D (wipe σ vs) σ2 vs H2 (Pv D (i + 1))) (hd : ∀ D H1, H D = none → Pv D n H1 → Q (.ref D) H1) : LcL (Itr lo n) g tt te vs σ H Q :=
  fun D hD => lc_range (Pv D) (h0 D hD) (hs D) fun H1 p => hd D H1 hD p
section
variable {X : Cx}
theorem CallR.imp {f : Value} {r r' : List V → Hp → VK → Prop} (h : CallR X f r) (i : ∀ xs H Q, r' xs H Q → r xs H Q) : CallR X f r' := fun pins s σ H xs us Q I v q => h pins s σ H xs us Q I v (i _ _ _ q)
def rLenL (K : PySem.W.Frag) : List V → Hp → VK → Prop := fun xs H Q => ∃ p ys, xs = [.ref p] ∧ SqL K H p ys ∧ Q (.int ys.length) H
def rLenT (K : PySem.W.Frag) : List V → Hp → VK → Prop := fun xs H Q => ∃ p ys, xs = [.ref p] ∧ SqT K H p ys ∧ Q (.int ys.length) H
def rIntI : List V → Hp → VK → Prop := fun xs H Q => ∃ i, xs = [.int i] ∧ Q (.int i) H
theorem call_lenL : CallR X (.builtin "len") (rLenL X.K) := CallR.imp call_len_seq fun xs H Q ⟨p, ys, e, h, q⟩ => ⟨p, ys, e, .inl h, q⟩
theorem call_lenT : CallR X (.builtin "len") (rLenT X.K) := CallR.imp call_len_seq fun xs H Q ⟨p, ys, e, h, q⟩ => ⟨p, ys, e, .inr h, q⟩
theorem call_intI : CallR X (.type "int") rIntI := CallR.imp call_int1 fun xs H Q ⟨i, e, q⟩ => .inl ⟨i, e, q⟩
end
/-- an item of a list that stands in H by itself -/
def rIxH : R2 := fun x y H Q => ∃ p xs i v, x = .ref p ∧ y = .int i ∧ H p = some (.lst xs) ∧ atI xs i = some v ∧ Q v H
theorem ixH {X : Cx} : IxR X rIxH := fun value slice pins s σ H x y v u Q I rx ry ⟨p, xs, i, z, e1, e2, h, e3, q⟩ hs => ix_list value slice pins s σ H x y v u Q I rx ry ⟨p, xs, i, z, e1, e2, SqL.of h, e3, q⟩ hs
theorem at0 {α : Type} {x : α} {xs : List α} : atI (x :: xs) 0 = some x := atI_nat (j := 0) rfl
theorem at1 {α : Type} {x y : α} {xs : List α} : atI (x :: y :: xs) 1 = some y := atI_nat (j := 1) rfl
theorem at2 {α : Type} {x y z : α} {xs : List α} : atI (x :: y :: z :: xs) 2 = some z := atI_nat (j := 2) rfl
theorem at3 {α : Type} {x y z u : α} {xs : List α} : atI (x :: y :: z :: u :: xs) 3 = some u := atI_nat (j := 3) rfl
theorem ixN40 : ixN 4 0 = some 0 := rfl
theorem ixN41 : ixN 4 1 = some 1 := rfl
theorem ixN42 : ixN 4 2 = some 2 := rfl
theorem ixN43 : ixN 4 3 = some 3 := rfl
theorem scal_ii (a b : Int) : scal (V.int a) (V.int b) = true := rfl
/-- a loop over a range whose break and end meet in Pe -/
theorem loop_rngC {lo : Int} {n : Nat} {g : TG} {tb : TS} {D : Ends} {σ : L2.St} {H : Hp} (Pe : L2.St → Hp → Prop) (Pv : Nat → L2.St → Hp → Prop) (h0 : Pv 0 σ H)
    (hs : ∀ (bk : L2.St → Hp → Prop), (∀ σ H, Pe σ H → bk σ H) → ∀ i σ H, i < n → Pv i σ H → g (.int (lo + i)) σ H fun σ2 H2 => tb { D with nx := Pv (i + 1), ct := Pv (i + 1), bk := bk } σ2 H2)
    (hd : ∀ σ H, Pv n σ H → Pe σ H) (he : ∀ σ H, Pe σ H → D.nx σ H) : Loop (Itr lo n) g tb D σ H := loop_rng Pv h0 (hs D.nx he) fun σ H p => he σ H (hd σ H p)
theorem loop_listC {K : PySem.W.Frag} {a : Addr} {xs : List V} {g : TG} {tb : TS} {D : Ends} {σ : L2.St} {H : Hp} (Pe : L2.St → Hp → Prop) (Pv : Nat → L2.St → Hp → Prop) (h0 : Pv 0 σ H) (hl : ∀ i σ H, i ≤ xs.length → Pv i σ H → SqL K H a xs)
    (hs : ∀ (bk : L2.St → Hp → Prop), (∀ σ H, Pe σ H → bk σ H) → ∀ i x σ H, xs[i]? = some x → Pv i σ H → g x σ H fun σ2 H2 => tb { D with nx := Pv (i + 1), ct := Pv (i + 1), bk := bk } σ2 H2)
    (hd : ∀ σ H, Pv xs.length σ H → Pe σ H) (he : ∀ σ H, Pe σ H → D.nx σ H) : Loop (Itl K a) g tb D σ H := loop_list Pv h0 hl (hs D.nx he) fun σ H p => he σ H (hd σ H p)
theorem ite_true_of {c : Bool} {A B : Prop} (hc : c = true) (h : A) : if c = true then A else B := by
  rw [if_pos hc]; exact h
theorem ite_false_of {c : Bool} {A B : Prop} (hc : c = false) (h : B) : if c = true then A else B := by
  rw [hc, if_neg Bool.false_ne_true]; exact h
end Rd
/-! A rule of our own: sorted(xs) of a list of tuples that read as alike data, of any length. -/
namespace OwnSort
open PySem PySem.Spec PyProof.Rows L2
abbrev Rw := Addr × PyData
def rSortedD (K : PySem.W.Frag) : List V → Hp → VK → Prop := fun vs H Q => ∃ (a : Addr) (bs : List Rw), vs = [.ref a] ∧ SqL K H a (bs.map fun b => V.ref b.1) ∧ (∀ b ∈ bs, Dp K H (.ref b.1) b.2) ∧ PySem.W.AllAlike (bs.map (·.2)) ∧ PySem.W.Sortable (bs.map (·.2)) ∧ (∀ b ∈ bs, b.2.depth ≤ 60) ∧ bs.length ≤ sizeLine ∧
  ∀ p, H p = none → Q (.ref p) (upd H p (.lst ((bs.mergeSort (PySem.W.dataLe false (·.2))).map fun b => V.ref b.1)))
theorem each_of {bs : List Rw} {us : List Value} (h : Vals (bs.map fun b => V.ref b.1) us) : PySem.W.EachIs (fun v (b : Rw) => v = Value.ref b.1) us bs := by
  induction bs generalizing us with
  | nil => cases h; exact .nil
  | cons b bs ih =>
    cases h with
    | cons r rs => exact .cons r (ih rs)
theorem vals_of {bs : List Rw} {us : List Value} (h : PySem.W.EachIs (fun v (b : Rw) => v = Value.ref b.1) us bs) : Vals (bs.map fun b => V.ref b.1) us := by
  induction h with
  | nil => exact .nil
  | cons r _ ih => exact .cons r ih
theorem each_reads {X : Cx} {pins : List (Addr × Obj)} {σ : L2.St} {H : Hp} {s : Shared} (I : Inv X pins σ H s) : ∀ {bs : List Rw} {us : List Value}, PySem.W.EachIs (fun v (b : Rw) => v = Value.ref b.1) us bs → (∀ b ∈ bs, Dp X.K H (.ref b.1) b.2) → PySem.W.EachIs (fun v (b : Rw) => ∃ as, Reads s.heap v b.2 as) us bs
  | _, _, .nil, _ => .nil
  | _, _, .cons (b := b) r rs, h => .cons (Dp.reads I b.2 (.ref b.1) _ (h b List.mem_cons_self) r) (each_reads I rs fun b hb => h b (List.mem_cons_of_mem _ hb))
theorem cr_sortedD {X : Cx} (hu : X.A.units + 64 < cLine) : CallR X (.builtin "sorted") (rSortedD X.K) := by
  intro pins s σ H vs us Q I r h
  obtain ⟨a, bs, rfl, hs, hd, hal, hk, hdep, hlen, q⟩ := h
  obtain ⟨its, rv, hl, hz⟩ := I.list hs
  obtain ⟨u, rfl, ru⟩ := vals1 r
  obtain rfl : u = Value.ref a := ru
  have e := each_of rv
  refine PySem.W.sorted_data (enc := fun b : Rw => b.2) hl.isList e (each_reads I e hd) hal hk hlen (fun b hb => ?_) fun out ho eo => ?_
  · have := hdep b hb
    omega
  · obtain ⟨c, hc⟩ := sortedAll_at s.heap its out.toArray
    refine ⟨.ref (s.heap.objs.size + 1), upd H (s.heap.objs.size + 1) (.lst ((bs.mergeSort (PySem.W.dataLe false (·.2))).map fun b => V.ref b.1)), I.laid (t' := s.toks) (fun _ _ => sortedAll_old) (Nat.le_succ _) ⟨?_, out, c, vals_of eo, hc⟩, rfl, q _ (I.hok.fresh (Nat.le_succ _))⟩
    rw [List.length_map, List.length_mergeSort]
    exact hlen
end OwnSort
/-! Rules of our own: itertools.combinations of a list. -/
namespace OwnComb
open PySem PySem.Spec PyProof.Rows L2
open Sem (wp)
abbrev T : String := "itertools.combinations"
theorem c_mro : mroOf (.type T) = pure [.type T, .type "object"] := by rw [mroOf_type]; kernel_rfl
theorem c_new : typeLookup (.type T) "__new__" = pure (some (.builtin "itertools.combinations.__new__")) := by rw [typeLookup_type, builtinLookup_eq_fast]; kernel_rfl
theorem c_init : Slot T "__init__" "object.__init__" :=
  .of (owner := "object") (n := "__init__") (by rw [typeLookup_type, builtinLookup_eq_fast]; kernel_rfl) (by decide +kernel) (by decide +kernel) (by decide +kernel)
    (by first | exact .inl (by decide +kernel) | exact .inr (by decide +kernel)) (by rw [isSubtype_type]; kernel_rfl)
theorem c_sub : isSubtype (.type T) (.type T) = pure true := by rw [isSubtype_type]; kernel_rfl
theorem c_called : TypeCalled T "itertools.combinations.__new__" "object.__init__" :=
  ⟨by decide +kernel, by decide +kernel, ⟨_, _, c_mro⟩, madeBy_type c_mro c_new (by decide +kernel), by decide +kernel, c_sub, c_init⟩
theorem c_tcall (a b : Value) : checkTypeCall T ⟨[a, b], []⟩ = pure () := by kernel_rfl
theorem c_ncall (a b : Value) : checkBuiltinCall "itertools.combinations.__new__" ⟨[.type T, a, b], []⟩ = pure () := by kernel_rfl
theorem c_enew : entryFor table "itertools.combinations.__new__" = some Builtin.«itertools.combinations.__new__» := entryFor_of_tree (by kernel_rfl)
theorem c_siter : Slot T "__iter__" "itertools.combinations.__iter__" :=
  .of (owner := T) (n := "__iter__") (by rw [typeLookup_type, builtinLookup_eq_fast]; kernel_rfl) (by decide +kernel) (by decide +kernel) (by decide +kernel)
    (by first | exact .inl (by decide +kernel) | exact .inr (by decide +kernel)) c_sub
theorem c_snext : Slot T "__next__" "itertools.combinations.__next__" :=
  .of (owner := T) (n := "__next__") (by rw [typeLookup_type, builtinLookup_eq_fast]; kernel_rfl) (by decide +kernel) (by decide +kernel) (by decide +kernel)
    (by first | exact .inl (by decide +kernel) | exact .inr (by decide +kernel)) c_sub
theorem c_eiter : entryFor table "itertools.combinations.__iter__" = some Builtin.«dict_keyiterator.__iter__» :=
  entryFor_alias (id' := "dict_keyiterator.__iter__") (by kernel_rfl) (by first | rfl | decide +kernel | (unfold String.splitOn; simp +decide [String.splitOnAux])) (by decide +kernel) (by kernel_rfl)
theorem c_enext : entryFor table "itertools.combinations.__next__" = some Builtin.«itertools.combinations.__next__» := entryFor_of_tree (by kernel_rfl)
theorem c_owner : Manifest.owners.lookup (String.ofList ['s', 'n', 'o', 'i', 't', 'a', 'n', 'i', 'b', 'm', 'o', 'c', '.', 's', 'l', 'o', 'o', 't', 'r', 'e', 't', 'i'].reverse) = some Manifest.sig_itertools_combinations := by kernel_rfl
theorem c_noDict : typeHasDict (.type T) = false := by decide +kernel
theorem c_aiter (a : Value) : argsOk "itertools.combinations.__iter__" ⟨[a], []⟩ := by
  unfold argsOk; rw [signature?_of (id := "itertools.combinations.__iter__") (n := ['_', '_', 'r', 'e', 't', 'i', '_', '_']) (o := ['s', 'n', 'o', 'i', 't', 'a', 'n', 'i', 'b', 'm', 'o', 'c', '.', 's', 'l', 'o', 'o', 't', 'r', 'e', 't', 'i']) (by kernel_rfl) c_owner]; kernel_rfl
theorem c_anext (a : Value) : argsOk "itertools.combinations.__next__" ⟨[a], []⟩ := by
  unfold argsOk; rw [signature?_of (id := "itertools.combinations.__next__") (n := ['_', '_', 't', 'x', 'e', 'n', '_', '_']) (o := ['s', 'n', 'o', 'i', 't', 'a', 'n', 'i', 'b', 'm', 'o', 'c', '.', 's', 'l', 'o', 'o', 't', 'r', 'e', 't', 'i']) (by kernel_rfl) c_owner]; kernel_rfl
end OwnComb
/-! Rules of our own: itertools.combinations of a list. -/
namespace OwnComb
open PySem PySem.Spec PyProof.Rows L2
open Sem (wp)
/-- a combinations object: its pool, how far it is, what it gave last, its places -/
def IsComb (h : Heap) (it pool : Addr) (st : Int) (last : Value) (idx : List Nat) : Prop := h.get? it = some { cls := .type T, dict := none, data := .fields ([.ref pool, rawInt st, last] ++ idx.map fun (i : Nat) => rawInt i).toArray, slots := #[] }
section
variable {prog : Program} {w : World} {A : Around} {E : Value → Shared → Prop} {s : Shared}
theorem k_class {a b : Value} {Q : Value × List Value → Shared → Prop} (h : Q (.type T, [a, b]) s) : wpAny (model prog w) A (Builtin.Itertools.itClassAndRest "combinations" ⟨[.type T, a, b], []⟩) Q E s := by
  have hsub := c_sub
  have e : ("itertools." ++ "combinations" : String) = T := by decide +kernel
  unfold Builtin.Itertools.itClassAndRest
  rw [e]
  repeat (first | wp_step | exact h)
theorem k_named {a b : Value} {Q : List (Option Value) → Shared → Prop} (h : Q [some a, some b] s) : wpAny (model prog w) A (Builtin.Itertools.itBindNamed "combinations" ["iterable", "r"] 2 2 [a, b] []) Q E s := by
  unfold Builtin.Itertools.itBindNamed
  repeat (first | wp_step | exact h | simp only [List.head?_cons, Option.some_or, List.getElem?_cons_succ, List.getElem?_cons_zero, List.length_cons, List.length_nil, List.forIn_nil])
theorem k_ssize {r : Nat} {t : Tok} {Q : Int → Shared → Prop} (hr : r < 1000) (h : Q r s) : wpAny (model prog w) A (Builtin.Itertools.itSsizeArg (.int r t)) Q E s := by
  have hn : ¬ ((!(decide (-(2 ^ 63 : Int) ≤ (r : Int)) && decide ((r : Int) < (2 ^ 63 : Int)))) = true) := by
    have a : decide (-(2 ^ 63 : Int) ≤ (r : Int)) = true := decide_eq_true (by omega)
    have b : decide ((r : Int) < (2 ^ 63 : Int)) = true := decide_eq_true (by omega)
    rw [a, b]
    decide
  have a1 : (decide ((r : Int) < -2 ^ 63) || decide ((r : Int) ≥ 2 ^ 63)) = false := by
    rw [decide_eq_false (by omega), decide_eq_false (by omega)]
    rfl
  unfold Builtin.Itertools.itSsizeArg
  refine wpAny_bind ?_
  repeat wp_step
  rw [a1]
  exact wpAny_ite_false (by decide) (wpAny_pure h)
end
theorem comb_new (l : Addr) (vs : List Value) (r : Nat) (t : Tok) (hr : r < 1000) (hv : vs.length < 1000) :
    Meets (Builtin.«itertools.combinations.__new__» ⟨[.type T, .ref l, .int r t], []⟩)
      (fun _ R s => s.heap.IsList l vs.toArray ∧ ∀ h' it pool, (∀ b o, s.heap.get? b = some o → h'.get? b = some o) → s.heap.objs.size ≤ it → s.heap.objs.size ≤ pool → pool ≠ it → h'.IsTuple pool vs.toArray → IsComb h' it pool (if r > vs.length then 2 else 0) .none (List.range r) → R (.ok (.ret (.ref it))) { s with heap := h' }) :=
  .of_wp fun prog w A R s ⟨hL, h⟩ => by
    obtain ⟨hp, g, dd, tk, os⟩ := s
    have hsub := c_sub
    have hd := c_noDict
    unfold Builtin.«itertools.combinations.__new__»
    refine wpAny_bind ?_
    show wpAny _ _ (_ >>= _) _ _ _
    refine wpAny_bind (k_class ?_)
    show wpAny _ _ (_ >>= _) _ _ _
    refine wpAny_bind (k_named ?_)
    show wpAny _ _ (_ >>= _) _ _ _
    refine wpAny_bind (k_ssize hr ?_)
    refine wpAny_bind (collect_list (s := ⟨hp, g, dd, tk, os⟩) hL ?_ (Nat.le_trans (Nat.le_of_lt hv) (by decide)))
    dsimp only
    refine wpAny_ite_false (by simp) ?_
    refine wpAny_ite_false ?_ ?_
    · unfold Builtin.Itertools.itTooMany
      simp
      omega
    refine wpAny_bind (wpAny_newTuple ?_ (Nat.le_trans (Nat.le_of_lt hv) (by decide)))
    refine wpAny_pure ?_
    have sz : ((hp.push (seqObj "list" #[] 0)).update hp.objs.size (Obj.mapSeq fun x => x ++ vs.toArray)).objs.size = hp.objs.size + 1 := by
      rw [Heap.size_update, size_push']
    have k0 : ∀ b o, hp.get? b = some o → ((hp.push (seqObj "list" #[] 0)).update hp.objs.size (Obj.mapSeq fun x => x ++ vs.toArray)).get? b = some o := fun b o e => by
      rw [Heap.get?_update_ne _ _ _ _ (Nat.ne_of_lt (Heap.lt_size e))]
      exact Heap.get?_push_of_some _ e
    dsimp only
    generalize (hp.push (seqObj "list" #[] 0)).update hp.objs.size (Obj.mapSeq fun x => x ++ vs.toArray) = h1 at sz k0
    refine wpAny_bind ?_
    unfold Builtin.Itertools.itNewRecord
    rw [hd]
    refine wpAny_ite_true rfl ?_
    refine wpAny_newObj_type ?_ ?_
    · refine wpAny_pure ⟨_, rfl, ?_⟩
      have e1 : ((r : Nat) : Int).toNat = r := Int.toNat_natCast r
      rw [e1]
      have szt : (h1.push { cls := Value.type "tuple", data := Data.seq vs.toArray }).objs.size = hp.objs.size + 2 := by
        rw [Heap.size_push, sz]
      have pt : (h1.push { cls := Value.type "tuple", data := Data.seq vs.toArray }).get? h1.objs.size = some { cls := Value.type "tuple", data := Data.seq vs.toArray } := Heap.get?_push_size _ rfl
      refine h _ _ h1.objs.size (fun b o e => Heap.get?_push_of_some _ (Heap.get?_push_of_some _ (k0 b o e))) ?_ ?_ ?_ ?_ ?_
      · show hp.objs.size ≤ (h1.push _).objs.size
        rw [szt]
        exact Nat.le_add_right _ _
      · show hp.objs.size ≤ h1.objs.size
        rw [sz]
        exact Nat.le_succ _
      · show h1.objs.size ≠ (h1.push _).objs.size
        rw [szt, sz]
        exact Nat.ne_of_lt (Nat.lt_succ_self _)
      · exact ⟨_, Heap.get?_push_of_some _ pt, rfl, _, rfl⟩
      · exact Heap.get?_push_size _ rfl
    · show _ ≤ _
      rw [List.size_toArray, List.length_append, List.length_map, List.length_range, Int.toNat_natCast]
      exact Nat.le_trans (show 3 + r ≤ 1003 by omega) (by decide)
section
variable {prog : Program} {w : World} {A : Around} {E : Value → Shared → Prop} {s : Shared}
theorem call_comb {l : Addr} {vs : List Value} {r : Nat} {t : Tok} {Q : Value → Shared → Prop} (hL : s.heap.IsList l vs.toArray) (hr : r < 1000) (hv : vs.length < 1000)
    (h : ∀ h' it pool, (∀ b o, s.heap.get? b = some o → h'.get? b = some o) → s.heap.objs.size ≤ it → s.heap.objs.size ≤ pool → pool ≠ it → h'.IsTuple pool vs.toArray → IsComb h' it pool (if r > vs.length then 2 else 0) .none (List.range r) → Q (.ref it) { s with heap := h' }) :
    wpAny (model prog w) A (call (.type T) [.ref l, .int r t]) Q E s := by
  refine callType_new c_called (by decide +kernel) (c_tcall _ _) (c_ncall _ _) (fun obj => F.args_object_init_3 obj _ _) c_enew (comb_new l vs r t hr hv) ?_
  refine ⟨hL, fun h' it pool k a b c d e => ?_⟩
  show _ ∧ _
  exact ⟨⟨_, e, rfl⟩, h h' it pool k a b c d e⟩
theorem iter_comb {it pool : Addr} {st : Int} {last : Value} {idx : List Nat} {Q : Value → Shared → Prop} (hit : IsComb s.heap it pool st last idx) (h : Q (.ref it) s) : wpAny (model prog w) A (pyIter (.ref it)) Q E s := by
  have hT : s.TypeIs (.ref it) T := ⟨_, hit, rfl⟩
  refine wpAny_pyIter_slot hT c_siter (wpAny_call_entry c_siter hT c_eiter ?_ (c_aiter _))
  show wpAny _ _ (ret (.ref it)) _ _ s
  exact wpAny_pure ⟨_, rfl, T, _, hT, c_snext.lookup, h⟩
/-- the next places -/
def nxt (n : Nat) (js : List Nat) : Option (List Nat) :=
  match (List.range js.length).reverse.find? fun k => js.getD k 0 != k + n - js.length with
  | none => none
  | some k => some (js.take k ++ (List.range (js.length - k)).map (js.getD k 0 + 1 + ·))
theorem size3 (a b c : Value) (idx : List Nat) : ([a, b, c] ++ idx.map fun (i : Nat) => rawInt i).toArray.size = 3 + idx.length := by
  rw [List.size_toArray, List.length_append, List.length_map]
  rfl
theorem IsComb.set1 {h : Heap} {it pool : Addr} {st x : Int} {last : Value} {idx : List Nat} (hit : IsComb h it pool st last idx) : IsComb (h.update it (Obj.mapFields fun v => v.setIfInBounds 1 (rawInt x))) it pool x last idx := by
  refine (Heap.get?_update_self _ hit rfl).trans ?_
  simp [Obj.mapFields]
theorem IsComb.set2 {h : Heap} {it pool : Addr} {st : Int} {last x : Value} {idx : List Nat} (hit : IsComb h it pool st last idx) : IsComb (h.update it (Obj.mapFields fun v => v.setIfInBounds 2 x)) it pool st x idx := by
  refine (Heap.get?_update_self _ hit rfl).trans ?_
  simp [Obj.mapFields]
theorem IsComb.setN {h : Heap} {it pool : Addr} {st : Int} {last : Value} {idx js : List Nat} (hit : IsComb h it pool st last idx) : IsComb (h.update it (Obj.mapFields fun v => v.extract 0 3 ++ (js.map fun (n : Nat) => rawInt n).toArray)) it pool st last js := by
  refine (Heap.get?_update_self _ hit rfl).trans ?_
  simp [Obj.mapFields]
theorem k_nums {it pool : Addr} {st : Int} {last : Value} {idx : List Nat} {Q : List Nat → Shared → Prop} (hit : IsComb s.heap it pool st last idx) (h : Q idx s) : wpAny (model prog w) A (Builtin.Itertools.itNumbersFrom (.ref it) 3) Q E s := by
  unfold Builtin.Itertools.itNumbersFrom
  refine wpAny_bind (wpAny_load hit ?_)
  refine wpAny_pure ?_
  have e : ∀ l : List Nat, (l.map fun (i : Nat) => rawInt i).map (fun v => match v with | .int n _ => n.toNat | _ => 0) = l := fun l => by
    rw [List.map_map]
    exact (List.map_congr_left (g := id) fun x _ => Int.toNat_natCast x).trans (List.map_id l)
  have e2 := e idx
  show Q (((([Value.ref pool, rawInt st, last] ++ idx.map fun (i : Nat) => rawInt i).toArray.toList.drop 3).map _)) s
  rw [show (([Value.ref pool, rawInt st, last] ++ idx.map fun (i : Nat) => rawInt i).toArray.toList.drop 3) = idx.map fun (i : Nat) => rawInt i from rfl]
  exact e2.symm ▸ h
theorem k_int {it pool : Addr} {st : Int} {last : Value} {idx : List Nat} {Q : Int → Shared → Prop} (hit : IsComb s.heap it pool st last idx) (h : Q st s) : wpAny (model prog w) A (Builtin.Itertools.itIntField (.ref it) 1) Q E s := by
  unfold Builtin.Itertools.itIntField
  exact wpAny_bind (wpAny_field hit rfl (x := rawInt st) rfl (wpAny_pure h))
theorem k_pool {pool : Addr} {items : Array Value} {Q : Array Value → Shared → Prop} (hp : s.heap.IsTuple pool items) (h : Q items s) : wpAny (model prog w) A (Builtin.Itertools.itPoolItems (.ref pool)) Q E s := by
  obtain ⟨op, hop, _, np, hdp⟩ := hp
  unfold Builtin.Itertools.itPoolItems
  exact wpAny_bind (wpAny_seqItems hop hdp (wpAny_pure h))
theorem k_out {it pool : Addr} {st : Int} {last : Value} {idx : List Nat} {items : List Value} {Q : PySem.Fin → Shared → Prop} (hit : IsComb s.heap it pool st last idx) (hl : items.length < 1000)
    (hQ : ∀ h', IsComb h' it pool st (.ref s.heap.objs.size) idx → (∀ b o, b ≠ it → s.heap.get? b = some o → h'.get? b = some o) → h'.IsTuple s.heap.objs.size items.toArray → Q (.done (.ret (.ref s.heap.objs.size))) { s with heap := h' }) :
    wpAny (model prog w) A (newTuple items) (fun x s' => wpAny (model prog w) A (do
      let b ← field (.ref it) 2
      setField (.ref it) 2 x
      letGo [b] [x]
      ret x) Q E s') E s := by
  refine wpAny_newTuple ?_ (Nat.le_trans (Nat.le_of_lt hl) (by decide))
  have hit1 : IsComb (s.heap.push { cls := .type "tuple", data := .seq items.toArray }) it pool st last idx := Heap.get?_push_of_some _ hit
  have ne : s.heap.objs.size ≠ it := Ne.symm (Nat.ne_of_lt (Heap.lt_size hit))
  have pt : (s.heap.push { cls := .type "tuple", data := .seq items.toArray }).get? s.heap.objs.size = some { cls := .type "tuple", data := .seq items.toArray } := Heap.get?_push_size _ rfl
  have k1 : ∀ b o, s.heap.get? b = some o → (s.heap.push { cls := .type "tuple", data := .seq items.toArray }).get? b = some o := fun b o e => Heap.get?_push_of_some _ e
  generalize s.heap.push { cls := .type "tuple", data := .seq items.toArray } = h1 at hit1 pt k1
  refine wpAny_bind (wpAny_field hit1 rfl (x := last) rfl ?_)
  refine wpAny_bind (wpAny_setField hit1 rfl (by rw [size3]; omega) ?_)
  refine wpAny_bind (wpAny_letGo ?_)
  exact wpAny_pure (hQ _ hit1.set2 (fun b o hb e => (Heap.get?_update_ne _ _ _ _ hb).trans (k1 b o e)) ⟨_, (Heap.get?_update_ne _ _ _ _ ne).trans pt, rfl, _, rfl⟩)
theorem comb_first {it pool : Addr} {vs : List Value} {last : Value} {idx : List Nat} {Q : Option Value → Shared → Prop} (hit : IsComb s.heap it pool 0 last idx) (hp : s.heap.IsTuple pool vs.toArray) (hne : pool ≠ it) (hl : idx.length < 1000)
    (hQ : ∀ h', IsComb h' it pool 1 (.ref s.heap.objs.size) idx → (∀ b o, b ≠ it → s.heap.get? b = some o → h'.get? b = some o) → h'.IsTuple s.heap.objs.size (idx.map fun i => vs.toArray.getD i .none).toArray → Q (some (.ref s.heap.objs.size)) { s with heap := h' }) :
    wpAny (model prog w) A (pyNext (.ref it)) Q E s := by
  have hT : s.TypeIs (.ref it) T := ⟨_, hit, rfl⟩
  unfold pyNext
  refine wpAny_bind (wpAny_attempt (wpAny_callSpecial?_slot (name := Str.ofString "__next__") hT c_snext (wpAny_call_entry c_snext hT c_enext ?_ (c_anext _))))
  show wpAny _ _ (field (.ref it) 0 >>= _) _ _ s
  refine wpAny_bind (wpAny_field hit rfl (x := .ref pool) rfl ?_)
  show wpAny _ _ (Builtin.Itertools.itNumbersFrom (.ref it) 3 >>= _) _ _ s
  refine wpAny_bind (k_nums hit ?_)
  show wpAny _ _ (Builtin.Itertools.itIntField (.ref it) 1 >>= _) _ _ s
  refine wpAny_bind (k_int hit ?_)
  show wpAny _ _ (setField (.ref it) 1 (rawInt 1) >>= _) _ _ s
  refine wpAny_bind (wpAny_setField hit rfl (by rw [size3]; omega) ?_)
  have hit1 := hit.set1 (x := 1)
  have k1 : ∀ b o, b ≠ it → s.heap.get? b = some o → (s.heap.update it (Obj.mapFields fun v => v.setIfInBounds 1 (rawInt 1))).get? b = some o := fun b o hb e => (Heap.get?_update_ne _ _ _ _ hb).trans e
  have sz1 : (s.heap.update it (Obj.mapFields fun v => v.setIfInBounds 1 (rawInt 1))).objs.size = s.heap.objs.size := Heap.size_update ..
  generalize s.heap.update it (Obj.mapFields fun v => v.setIfInBounds 1 (rawInt 1)) = h1 at hit1 k1 sz1
  show wpAny _ _ (_ >>= _) _ _ _
  refine wpAny_bind ?_
  show wpAny _ _ (Builtin.Itertools.itPoolItems (.ref pool) >>= _) _ _ _
  refine wpAny_bind (k_pool (items := vs.toArray) ?_ ?_)
  · obtain ⟨op, hop, c, d⟩ := hp
    exact ⟨op, k1 _ _ hne hop, c, d⟩
  refine k_out (s := { s with heap := h1 }) hit1 (by rw [List.length_map]; exact hl) fun h' a b c => ⟨_, rfl, wpAny_pure ?_⟩
  have e : ({ s with heap := h1 } : Shared).heap.objs.size = s.heap.objs.size := sz1
  rw [e] at a c ⊢
  exact hQ h' a (fun b' o hb e => b b' o hb (k1 b' o hb e)) c
theorem comb_more {it pool : Addr} {vs : List Value} {last : Value} {idx js : List Nat} {Q : Option Value → Shared → Prop} (hit : IsComb s.heap it pool 1 last idx) (hp : s.heap.IsTuple pool vs.toArray) (hne : pool ≠ it) (hn : nxt vs.length idx = some js) (hl : js.length < 1000)
    (hQ : ∀ h', IsComb h' it pool 1 (.ref s.heap.objs.size) js → (∀ b o, b ≠ it → s.heap.get? b = some o → h'.get? b = some o) → h'.IsTuple s.heap.objs.size (js.map fun i => vs.toArray.getD i .none).toArray → Q (some (.ref s.heap.objs.size)) { s with heap := h' }) :
    wpAny (model prog w) A (pyNext (.ref it)) Q E s := by
  have hT : s.TypeIs (.ref it) T := ⟨_, hit, rfl⟩
  unfold pyNext
  refine wpAny_bind (wpAny_attempt (wpAny_callSpecial?_slot (name := Str.ofString "__next__") hT c_snext (wpAny_call_entry c_snext hT c_enext ?_ (c_anext _))))
  show wpAny _ _ (field (.ref it) 0 >>= _) _ _ s
  refine wpAny_bind (wpAny_field hit rfl (x := .ref pool) rfl ?_)
  show wpAny _ _ (Builtin.Itertools.itNumbersFrom (.ref it) 3 >>= _) _ _ s
  refine wpAny_bind (k_nums hit ?_)
  show wpAny _ _ (Builtin.Itertools.itIntField (.ref it) 1 >>= _) _ _ s
  refine wpAny_bind (k_int hit ?_)
  show wpAny _ _ (Builtin.Itertools.itPoolItems (.ref pool) >>= _) _ _ s
  refine wpAny_bind (k_pool hp ?_)
  have hn' : nxt vs.toArray.size idx = some js := by rw [List.size_toArray]; exact hn
  split
  case h_2 heq =>
    have z : nxt vs.toArray.size idx = none := heq
    rw [hn'] at z
    cases z
  rename_i next heq
  have z : nxt vs.toArray.size idx = some next := heq
  rw [hn'] at z
  cases z
  show wpAny _ _ (Builtin.Itertools.itSetNumbersFrom (.ref it) 3 js >>= _) _ _ s
  refine wpAny_bind ?_
  unfold Builtin.Itertools.itSetNumbersFrom
  refine wpAny_updateFields hit rfl ?_ ?_
  · have hit1 := hit.setN (js := js)
    have k1 : ∀ b o, b ≠ it → s.heap.get? b = some o → (s.heap.update it (Obj.mapFields fun v => v.extract 0 3 ++ (js.map fun (n : Nat) => rawInt n).toArray)).get? b = some o := fun b o hb e => (Heap.get?_update_ne _ _ _ _ hb).trans e
    have sz1 : (s.heap.update it (Obj.mapFields fun v => v.extract 0 3 ++ (js.map fun (n : Nat) => rawInt n).toArray)).objs.size = s.heap.objs.size := Heap.size_update ..
    generalize s.heap.update it (Obj.mapFields fun v => v.extract 0 3 ++ (js.map fun (n : Nat) => rawInt n).toArray) = h1 at hit1 k1 sz1
    show wpAny _ _ (_ >>= _) _ _ _
    refine wpAny_bind ?_
    show wpAny _ _ (Builtin.Itertools.itPoolItems (.ref pool) >>= _) _ _ _
    refine wpAny_bind (k_pool (items := vs.toArray) ?_ ?_)
    · obtain ⟨op, hop, c, d⟩ := hp
      exact ⟨op, k1 _ _ hne hop, c, d⟩
    refine k_out (s := { s with heap := h1 }) hit1 (by rw [List.length_map]; exact hl) fun h' a b c => ⟨_, rfl, wpAny_pure ?_⟩
    have e : ({ s with heap := h1 } : Shared).heap.objs.size = s.heap.objs.size := sz1
    rw [e] at a c ⊢
    exact hQ h' a (fun b' o hb e => b b' o hb (k1 b' o hb e)) c
  · have e1 : (js.map fun (n : Nat) => rawInt n).toArray.size = js.length := by rw [List.size_toArray, List.length_map]
    have e2 : (([Value.ref pool, rawInt 1, last] ++ idx.map fun (i : Nat) => rawInt i).toArray.extract 0 3).size ≤ 3 := by rw [Array.size_extract]; omega
    rw [Array.size_append, e1]
    exact Nat.le_trans (show _ + js.length ≤ 1003 by omega) (by decide)
/-- the end's exception within pyNext -/
theorem k_stop {it : Addr} {F : PySem.Fin → Shared → Prop} {G : Value → Shared → Prop} (hh : A.handled = none)
    (hQ : ∀ e h', CpRep.StopE e h' → Heap.ExtBut it s.heap h' → G e { s with heap := h' }) : wpAny (model prog w) A (Builtin.Itertools.itStop : Sem PySem.Fin) F G s := by
  unfold Builtin.Itertools.itStop
  refine wpAny_bind ?_
  simp only [newExc, newTuple]
  refine wpAny_bind (wpAny_newObj_type ?_ (by size_fits))
  refine wpAny_bind (m := firstArgMember _ _) (wpAny_of_eq (a := Value.none) (by first | rfl | (simp only [firstArgMember]; rfl)) ?_)
  refine wpAny_newObj_type ?_ (by size_fits)
  simp only [raiseNew]
  refine wpAny_bind (wpAny_handled ?_)
  rw [hh]
  refine wpAny_bind (wpAny_pure (wpAny_throw ?_))
  exact hQ _ _ ⟨_, _, _, rfl, Heap.get?_push_size _ rfl, rfl, rfl, rfl⟩ (((Heap.ExtBut.refl it s.heap).push _).push _)
theorem stop_is {e : Value} (h : CpRep.StopE e s.heap) {Q : Option Value → Shared → Prop} (hQ : Q none s) : wpAny (model prog w) A (do if ← isInstance e (.type "StopIteration") then pure none else throw e : Sem (Option Value)) Q E s := by
  obtain ⟨a, o, vs, rfl, ho, hc, _⟩ := h
  refine wpAny_bind (wpAny_isInstance (T := "StopIteration") (b := true) ⟨_, ho, hc⟩ isSubtype_stop ?_)
  exact wpAny_pure hQ
theorem comb_done {it pool : Addr} {vs : List Value} {last : Value} {idx : List Nat} {Q : Option Value → Shared → Prop} (hh : A.handled = none) (hit : IsComb s.heap it pool 1 last idx) (hp : s.heap.IsTuple pool vs.toArray) (hn : nxt vs.length idx = none)
    (hQ : ∀ h', Heap.ExtBut it s.heap h' → Q none { s with heap := h' }) : wpAny (model prog w) A (pyNext (.ref it)) Q E s := by
  have hT : s.TypeIs (.ref it) T := ⟨_, hit, rfl⟩
  unfold pyNext
  refine wpAny_bind (wpAny_attempt (wpAny_callSpecial?_slot (name := Str.ofString "__next__") hT c_snext (wpAny_call_entry c_snext hT c_enext ?_ (c_anext _))))
  show wpAny _ _ (field (.ref it) 0 >>= _) _ _ s
  refine wpAny_bind (wpAny_field hit rfl (x := .ref pool) rfl ?_)
  show wpAny _ _ (Builtin.Itertools.itNumbersFrom (.ref it) 3 >>= _) _ _ s
  refine wpAny_bind (k_nums hit ?_)
  show wpAny _ _ (Builtin.Itertools.itIntField (.ref it) 1 >>= _) _ _ s
  refine wpAny_bind (k_int hit ?_)
  show wpAny _ _ (Builtin.Itertools.itPoolItems (.ref pool) >>= _) _ _ s
  refine wpAny_bind (k_pool hp ?_)
  have hn' : nxt vs.toArray.size idx = none := by rw [List.size_toArray]; exact hn
  split
  case h_1 heq =>
    have z : nxt vs.toArray.size idx = some _ := heq
    rw [hn'] at z
    cases z
  show wpAny _ _ (setField (.ref it) 1 (rawInt 2) >>= _) _ _ s
  refine wpAny_bind (wpAny_setField hit rfl (by rw [size3]; omega) ?_)
  refine k_stop (it := it) hh fun e h' st eb => ?_
  exact stop_is (s := { s with heap := h' }) st (hQ h' ((Heap.SameBut.extBut (Heap.SameBut.update ..)).trans eb))
theorem comb_none {it pool : Addr} {last : Value} {idx : List Nat} {Q : Option Value → Shared → Prop} (hh : A.handled = none) (hit : IsComb s.heap it pool 2 last idx)
    (hQ : ∀ h', Heap.ExtBut it s.heap h' → Q none { s with heap := h' }) : wpAny (model prog w) A (pyNext (.ref it)) Q E s := by
  have hT : s.TypeIs (.ref it) T := ⟨_, hit, rfl⟩
  unfold pyNext
  refine wpAny_bind (wpAny_attempt (wpAny_callSpecial?_slot (name := Str.ofString "__next__") hT c_snext (wpAny_call_entry c_snext hT c_enext ?_ (c_anext _))))
  show wpAny _ _ (field (.ref it) 0 >>= _) _ _ s
  refine wpAny_bind (wpAny_field hit rfl (x := .ref pool) rfl ?_)
  show wpAny _ _ (Builtin.Itertools.itNumbersFrom (.ref it) 3 >>= _) _ _ s
  refine wpAny_bind (k_nums hit ?_)
  show wpAny _ _ (Builtin.Itertools.itIntField (.ref it) 1 >>= _) _ _ s
  refine wpAny_bind (k_int hit ?_)
  refine wpAny_bind (wpAny_rule ?_)
  refine k_stop (it := it) hh fun e h' st eb => ?_
  exact stop_is (s := { s with heap := h' }) st (hQ h' eb)
end
end OwnComb
namespace OwnComb
open PySem PySem.Spec PyProof.Rows L2
/-- the places in their order: begin, go on, end -/
structure Chain (n r : Nat) (L : List (List Nat)) : Prop where
  some : ¬ r > n → L[0]? = some (List.range r)
  none : r > n → L = []
  step : ∀ i js, L[i]? = Option.some js → nxt n js = L[i + 1]?
  small : ∀ js ∈ L, js.length < 1000
  inn : ∀ js ∈ L, ∀ j ∈ js, j < n
/-- the parts of what stood in the pool, each a new tuple -/
def IteC (xs : List V) (L : List (List Nat)) : It :=
  ⟨fun i _ => i < L.length, fun i H v H' => ∃ T js, L[i]? = some js ∧ v = .ref T ∧ H T = none ∧ H' = upd H T (.tup (js.map fun j => xs.getD j .non)), fun i _ => i = L.length⟩
theorem vals_getD {xs : List V} {us : List Value} (h : Vals xs us) {j : Nat} (hj : j < xs.length) : RelV (xs.getD j .non) (us.toArray.getD j .none) := by
  have e := h.length
  obtain ⟨u, hu, ru⟩ := h.get (List.getElem?_eq_getElem hj)
  rw [List.getD_eq_getElem?_getD, List.getElem?_eq_getElem hj]
  have z : us.toArray.getD j .none = u := by
    rw [Array.getD_eq_getD_getElem?, List.getElem?_toArray, hu]
    rfl
  rw [z]
  exact ru
theorem vals_pick {xs : List V} {us : List Value} (h : Vals xs us) : ∀ {js : List Nat}, (∀ j ∈ js, j < xs.length) → Vals (js.map fun j => xs.getD j .non) (js.map fun j => us.toArray.getD j .none)
  | [], _ => .nil
  | j :: js, hj => .cons (vals_getD h (hj j List.mem_cons_self)) (vals_pick h fun k hk => hj k (List.mem_cons_of_mem _ hk))
def CSt (it pool : Addr) (us : List Value) (L : List (List Nat)) (i : Nat) (h : Heap) : Prop :=
  h.IsTuple pool us.toArray ∧ pool ≠ it ∧ ∃ st last idx, IsComb h it pool st last idx ∧ ((i = 0 ∧ ((st = 0 ∧ L[0]? = some idx) ∨ (st = 2 ∧ L = []))) ∨ (0 < i ∧ st = 1 ∧ L[i - 1]? = some idx))
theorem turn_comb {P : Program} {w : World} {K : PySem.W.Frag} {tg : Expr} {r : Nat} {xs : List V} {us : List Value} {L : List (List Nat)} (it pool : Addr) (hv : Vals xs us) (C : Chain xs.length r L) : Turn P w K tg (IteC xs L) [it, pool] it (CSt it pool us L) where
  mem := List.mem_cons_self
  obj := fun i h ⟨⟨o, ho, hc, n, hd⟩, _, st, last, idx, hi, _⟩ b hb => by
    rcases List.mem_cons.mp hb with rfl | hb
    · exact ⟨_, hi, fun v q => nomatch q⟩
    · rw [List.mem_singleton.mp hb]
      exact ⟨o, ho, fun v q => by rw [hd] at q; cases q⟩
  keep := fun i h h' ⟨⟨o, ho, hc⟩, ne, st, last, idx, hi, z⟩ k => ⟨⟨o, k pool (by simp) _ ho, hc⟩, ne, st, last, idx, k it (by simp) _ hi, z⟩
  item := by
    intro X hP hw hK hc i pins s σ H E I hf st hg
    subst hP hw hK
    obtain ⟨hp, hne, st, last, idx, hit, hcase⟩ := st
    have hl : i < L.length := hg
    have lens : xs.length = us.length := hv.length
    have old1 : it < s.heap.objs.size := Heap.lt_size hit
    have old2 : pool < s.heap.objs.size := let ⟨_, q, _⟩ := hp; Heap.lt_size q
    -- what a turn leaves
    have fin : ∀ (js : List Nat) (h' : Heap) (lst : Value), L[i]? = some js → IsComb h' it pool 1 lst js → (∀ b o, b ≠ it → s.heap.get? b = some o → h'.get? b = some o) → h'.IsTuple s.heap.objs.size (js.map fun i => us.toArray.getD i .none).toArray →
        ∃ u, some (Value.ref s.heap.objs.size) = some u ∧ wpAny (model X.prog X.w) X.A (letOwnedTupleGo tg (.ref it) u) (fun _ s2 => ∃ x H', Inv X pins σ H' s2 ∧ RelV x u ∧ (IteC xs L).yld i H x H' ∧ CSt it pool us L (i + 1) s2.heap ∧ ∀ b ∈ [it, pool], H' b = none) E { s with heap := h' } := fun js h' lst hj hi' kk ht => by
      have mem := List.mem_of_getElem? hj
      obtain ⟨ot, hot, hct, nt, hdt⟩ := ht
      have new : ObjOk X.prog X.w (upd H s.heap.objs.size (.tup (js.map fun j => xs.getD j .non))) h' s.heap.objs.size (.tup (js.map fun j => xs.getD j .non)) :=
        ⟨by rw [List.length_map]; exact Nat.le_trans (Nat.le_of_lt (C.small js mem)) (by decide), _, vals_pick hv (C.inn js mem), ⟨ot, hot, hct, nt, hdt⟩⟩
      have I1 : Inv X pins σ (upd H s.heap.objs.size (.tup (js.map fun j => xs.getD j .non))) { s with heap := h' } :=
        I.turnedNew (t' := s.toks) (ch := [it, pool]) (fun b ob hb q => kk b ob (fun z => hb (by simp [z])) q) hf (Nat.le_refl _) new
      obtain ⟨op, hop, cp⟩ := hp
      refine ⟨_, rfl, go_of (s := { s with heap := h' }) hi' rfl rfl (by decide) ⟨.ref s.heap.objs.size, _, I1, rfl, ⟨_, js, hj, rfl, I.hok.fresh (Nat.le_refl _), rfl⟩, ⟨⟨op, kk _ _ hne hop, cp⟩, hne, 1, lst, js, hi', .inr ⟨Nat.succ_pos _, rfl, hj⟩⟩, fun b hb => ?_⟩⟩
      have hb' : b < s.heap.objs.size := by
        rcases List.mem_cons.mp hb with rfl | hb
        · exact old1
        · rw [List.mem_singleton.mp hb]; exact old2
      rw [upd_ne (Nat.ne_of_lt hb')]
      exact (hf b hb).1
    rcases hcase with ⟨rfl, ⟨rfl, h0⟩ | ⟨rfl, h0⟩⟩ | ⟨i0, rfl, h0⟩
    · exact comb_first hit hp hne (C.small _ (List.mem_of_getElem? h0)) fun h' a b c => fin idx h' _ h0 a b c
    · rw [h0] at hl; cases hl
    · have e := C.step _ _ h0
      rw [show i - 1 + 1 = i by omega, List.getElem?_eq_getElem hl] at e
      exact comb_more hit hp hne (by rw [← lens]; exact e) (C.small _ (List.getElem_mem hl)) fun h' a b c => fin _ h' _ (List.getElem?_eq_getElem hl) a b c
  done := by
    intro X hP hw hK hc i pins s σ H E I hf st hg
    subst hP hw hK
    obtain ⟨hp, hne, st, last, idx, hit, hcase⟩ := st
    have hl : i = L.length := hg
    have lens : xs.length = us.length := hv.length
    obtain ⟨f0, f1, f2, f3, f4, f5⟩ := hf it (by simp)
    rcases hcase with ⟨rfl, ⟨rfl, h0⟩ | ⟨rfl, h0⟩⟩ | ⟨i0, rfl, h0⟩
    · have := (List.getElem?_eq_some_iff.mp h0).1
      omega
    · exact comb_none (I.ok.hd hc) hit fun h' eb => ⟨rfl, I.turned (t' := s.toks) (fun b o hb e => eb b o hb e) f0 f1 f3 f4 f5⟩
    · have e := C.step _ _ h0
      rw [show i - 1 + 1 = i by omega, hl, List.getElem?_eq_none (Nat.le_refl _)] at e
      exact comb_done (I.ok.hd hc) hit hp (by rw [← lens]; exact e) fun h' eb => ⟨rfl, I.turned (t' := s.toks) (fun b o hb e => eb b o hb e) f0 f1 f3 f4 f5⟩
  self := fun A i s Q E ⟨_, _, st, last, idx, hit, _⟩ h => iter_comb hit h
def iComb (K : PySem.W.Frag) (ta : TA) : TI := fun σ H R => ta σ H fun vs H1 => ∃ (a : Addr) (r : Nat) (xs : List V) (L : List (List Nat)), vs = [.ref a, .int r] ∧ SqL K H1 a xs ∧ r < 1000 ∧ xs.length < 1000 ∧ Chain xs.length r L ∧ R (IteC xs L) H1
theorem pi_comb {X : Cx} {tg e e2 : Expr} {ta : TA} {x : Str} {p pos : Pos} (hg : Gl X x) (hm : X.mg x = some (.type T)) (ha : PA X [e, e2] ta) (hdb : (x == ("__debug__" : Str)) = false := by decide)
    (hs : starEach [e, e2] X.env = (false, eval e X.env) :: starEach [e2] X.env := by rfl) (hpl : (backTo pos (starEach [e2] X.env)).any (·.1) = false := by rfl) :
    PI X tg (.Call (.Name x p) [e, e2] [] pos) (iComb X.K ta) := by
  refine ⟨fun pins s σ H R I h => ?_⟩
  refine Call_ (ld_glob I hg hm (PyProof.Rows.callWith_type1 (thn (ha.run pos pins s σ H _ I h) fun us s1 ⟨vs, H1, I1, r1, q1⟩ => ?_) hs hpl) hdb)
  obtain ⟨a, r, xs, L, ex, hq, hr, hx, C, q⟩ := q1
  subst ex
  cases r1 with
  | cons ra rr =>
    cases rr with
    | cons rb rr =>
      cases rr
      cases ra
      obtain ⟨t, rfl⟩ := rb
      obtain ⟨its, rv, p1, _⟩ := I1.list hq
      have lens : xs.length = its.length := rv.length
      refine call_comb p1.isList hr (by rw [← lens]; exact hx) fun h' it pool k o1 o2 ne tp hi => iter_comb hi ?_
      refine ⟨it, [it, pool], _, _, H1, rfl, I1.kept (t' := s1.toks) k, turn_comb it pool rv C, ⟨tp, ne, _, _, _, hi, .inl ⟨rfl, ?_⟩⟩, fun b hb => ?_, q⟩
      · rw [← lens]
        by_cases z : r > xs.length
        · rw [if_pos z]
          exact .inr ⟨rfl, C.none z⟩
        · rw [if_neg z]
          exact .inl ⟨rfl, C.some z⟩
      · have le : s1.heap.objs.size ≤ b := by
          rcases List.mem_cons.mp hb with rfl | hb
          · exact o1
          · rw [List.mem_singleton.mp hb]; exact o2
        exact I1.fpOk le (I1.hok.fresh le)
/-! ### the chains, by reckoning -/
def runC (n : Nat) : Nat → List Nat → List (List Nat)
  | 0, js => [js]
  | f + 1, js => js :: match nxt n js with
    | none => []
    | some ks => runC n f ks
def combs (n r : Nat) : List (List Nat) := if r > n then [] else runC n 64 (List.range r)
def okC (n r : Nat) : Bool := (decide (r > n) && decide (combs n r = [])) || (!decide (r > n) && decide ((combs n r)[0]? = some (List.range r)) &&
  (List.range (combs n r).length).all fun i => decide (nxt n ((combs n r).getD i []) = (combs n r)[i + 1]?) && decide (((combs n r).getD i []).length < 1000) && ((combs n r).getD i []).all fun j => decide (j < n))
theorem chain_of {n r : Nat} (h : okC n r = true) : Chain n r (combs n r) := by
  unfold okC at h
  rcases Bool.or_eq_true_iff.mp h with h | h
  · obtain ⟨a, b⟩ := Bool.and_eq_true_iff.mp h
    have b : combs n r = [] := of_decide_eq_true b
    have a := of_decide_eq_true a
    rw [b]
    exact ⟨(fun z => absurd a z), (fun _ => rfl), (fun i js e => nomatch e), (fun js m => nomatch m), (fun js m => nomatch m)⟩
  · obtain ⟨ab, c⟩ := Bool.and_eq_true_iff.mp h
    obtain ⟨a, b⟩ := Bool.and_eq_true_iff.mp ab
    have b := of_decide_eq_true b
    have a : ¬ r > n := by simpa using a
    have all : ∀ i js, (combs n r)[i]? = some js → nxt n js = (combs n r)[i + 1]? ∧ js.length < 1000 ∧ ∀ j ∈ js, j < n := fun i js e => by
      have il := (List.getElem?_eq_some_iff.mp e).1
      have z := List.all_eq_true.mp c i (List.mem_range.mpr il)
      rw [List.getD_eq_getElem?_getD, e] at z
      obtain ⟨z1, z2⟩ := Bool.and_eq_true_iff.mp z
      obtain ⟨z0, z1⟩ := Bool.and_eq_true_iff.mp z1
      exact ⟨of_decide_eq_true z0, of_decide_eq_true z1, fun j hj => of_decide_eq_true (List.all_eq_true.mp z2 j hj)⟩
    exact ⟨(fun _ => b), (fun z => absurd z a), (fun i js e => (all i js e).1), (fun js m => let ⟨i, e⟩ := List.mem_iff_getElem?.mp m; (all i js e).2.1), (fun js m => let ⟨i, e⟩ := List.mem_iff_getElem?.mp m; (all i js e).2.2)⟩
theorem ok7 : ((List.range 7).all fun n => (List.range 8).all fun r => okC n r) = true := by decide +kernel
theorem chain6 {n r : Nat} (hn : n ≤ 6) (hr : r ≤ 7) : Chain n r (combs n r) :=
  chain_of (List.all_eq_true.mp (List.all_eq_true.mp ok7 n (List.mem_range.mpr (by omega))) r (List.mem_range.mpr (by omega)))
end OwnComb
/-! A rule of our own: set(xs) of a list of ints, so that it can be walked and sorted. -/
namespace OwnSet
open PySem PySem.Spec PyProof.Rows L2
section
variable {P : Program} {w : World} {A : Around} {E : Value → Shared → Prop} {s : Shared}
/-- a built-in class is called: its making and its beginning, each by itself -/
theorem made_then {T newId initId : String} {args : List Value} {Q Q1 : Value → Shared → Prop} (ft : TypeCalled T newId initId) (hct : checkTypeCall T ⟨args, []⟩ = pure ())
    (hnew : codeAny (model P w) A.in1 (.call (.builtin newId) ⟨.type T :: args, []⟩) (wants Q1 E) s)
    (hinit : ∀ obj s1, Q1 obj s1 → s1.TypeIs obj T ∧ codeAny (model P w) A.in1 (.call (.builtin initId) ⟨obj :: args, []⟩) (wants (fun r s2 => r = .none ∧ Q obj s2) E) s1) :
    wpAny (model P w) A (call (.type T) args) Q E s := by
  obtain ⟨c, tl, mro⟩ := ft.mro
  have u1 := ft.made; have u2 := ft.sub; have u3 := ft.notType; have u4 := ft.canCreate
  refine wpAny_call (codeAny_of_tree (show wpAny _ _ (callAny (.type T) _) _ _ _ from wpAny_pure ⟨Code.quiet_builtin _ (by decide +kernel), codeAny_builtin F.entry_type_call ?_⟩))
  rw [Around.under_plain (weight_type_call_type T args []) rfl]
  repeat any_goals first | assumption | wp_step
  refine codeAny_mono hnew fun r s1 hr => ?_
  match r, hr with
  | .ok (.ret obj), hr =>
    obtain ⟨hT, hi⟩ := hinit _ _ hr
    have v1 := ft.init.lookup; have v2 := ft.init.bind obj
    repeat any_goals first | assumption | wp_step
    refine codeAny_mono hi fun r2 s2 h2 => ?_
    match r2, h2 with
    | .ok (.ret r3), h2 =>
      obtain ⟨rfl, hq⟩ := h2
      repeat any_goals first | assumption | wp_step
    | .error e, h2 => exact h2
  | .error e, hr => exact hr
/-- a fresh set and a list of ints: the set's beginning -/
theorem set_begins {S l : Addr} {items : Array Value} {ns : List Int} {Q : Value → Shared → Prop} (hh : A.handled = none) (hl : s.heap.IsList l items) (hit : IntsAre items.toList ns) (hb : ns.length + 1 < scanBound) (ne : l ≠ S)
    (hS : s.heap.get? S = some { cls := .type "set", dict := none, data := .set #[] 0 (.fresh 0 0 (!w.params.followText "set-order")) })
    (h : ∀ (h' : Heap) (tk c : Nat), SetR w h' S (fun j => decide (j ∈ ns)) c → c ≤ ns.length → (∀ b o, b ≠ S → s.heap.get? b = some o → h'.get? b = some o) → Q .none { s with heap := h', toks := tk }) :
    codeAny (model P w) A (.call (.builtin "set.__init__") ⟨[.ref S, .ref l], []⟩) (wants Q E) s := by
  have hT : s.TypeIs (.ref S) "set" := ⟨_, hS, rfl⟩
  have hsz : items.size = ns.length := (Array.length_toList (xs := items)).symm.trans hit.length
  refine codeAny_call_builtin F.called_set.init.plain F.entry_set_init (check_set_init_1 hT ?_)
  obtain ⟨ol, hol, hcl, nl, hdl⟩ := id hl
  obtain ⟨ocls, odict, odata, oslots⟩ := ol
  obtain rfl : ocls = _ := hcl
  obtain rfl : odata = _ := hdl
  have c1 := F.sub_list_set; have c2 := F.sub_list_frozenset
  have c3 : (Value.type "list" == Value.type "dict") = false := by decide
  unfold Builtin.«set.__init__» noKeywords Builtin.Frozenset.updateFrom
  generalize hPI : pyIter = PI
  wp_walk
  subst hPI
  have lS : S < s.heap.objs.size := Heap.lt_size hS
  have ll : l < s.heap.objs.size := Heap.lt_size hol
  refine wpAny_pyIter_list (s := ⟨s.heap, s.gens, s.drawn, s.toks, s.os⟩) hl (wpAny_bind (wpAny_runValue ?_))
  have h3 : A.in1.in1.handled = none := hh
  have val : ∀ (i : Nat) (v : Value), items[i]? = some v → ∃ k t, ns[i]? = some k ∧ v = .int k t := fun i v hv => by
    have il : i < ns.length := by rw [← hsz]; exact (Array.getElem?_eq_some_iff.mp hv).1
    obtain ⟨t, e⟩ := IntsAre.int_at hit i v (by rw [Array.getElem?_toList]; exact hv)
    exact ⟨ns[i], t, List.getElem?_eq_getElem il, by rw [e, List.getD_eq_getElem?_getD, List.getElem?_eq_getElem il]; rfl⟩
  refine set_update_ints ((Walks.list h3 s.heap.objs.size l (Nat.ne_of_lt ll) items).toS) S ?_ ns hsz hb val (items.size - 0) 0 _ (by omega) (Nat.zero_le _) ⟨⟨_, Heap.get?_push_size _ rfl, rfl, rfl⟩, hl.push _⟩ ⟨0, Nat.le_refl 0, setR_new_at (Heap.get?_push_of_some _ hS)⟩ fun s2 c hm hc hR => ?_
  · intro z
    rcases List.mem_cons.mp z with z | z
    · exact Nat.ne_of_lt lS z
    · exact ne (List.mem_singleton.mp z).symm
  · obtain ⟨h2, g2, d2, t2, o2⟩ := s2
    obtain rfl : g2 = s.gens := hm.gens
    obtain rfl : d2 = s.drawn := hm.drawn
    obtain rfl : o2 = s.os := hm.os
    rw [hsz] at hc
    have fin : Q .none { s with heap := h2, toks := t2 } := h h2 t2 c hR hc fun b o hb e => hm.heap b o (by
      intro z
      rcases List.mem_cons.mp z with z | z
      · exact hb z
      · exact Nat.ne_of_lt (Heap.lt_size e) (List.mem_singleton.mp z)) (Heap.get?_push_of_some _ e)
    exact wpAny_pure (wpAny_pure fin)
theorem call_set_listI {l : Addr} {items : Array Value} {ns : List Int} {Q : Value → Shared → Prop} (hh : A.handled = none) (hl : s.heap.IsList l items) (hit : IntsAre items.toList ns) (hb : ns.length + 1 < scanBound)
    (h : ∀ (h' : Heap) (tk c : Nat), SetR w h' s.heap.objs.size (fun j => decide (j ∈ ns)) c → c ≤ ns.length → (∀ b o, s.heap.get? b = some o → h'.get? b = some o) → Q (.ref s.heap.objs.size) { s with heap := h', toks := tk }) :
    wpAny (model P w) A (call (.type "set") [.ref l]) Q E s := by
  have ll : l < s.heap.objs.size := let ⟨o, e, _⟩ := hl; Heap.lt_size e
  refine made_then (Q1 := fun obj s1 => obj = .ref s.heap.objs.size ∧ s1 = { s with heap := s.heap.push { cls := .type "set", dict := none, data := .set #[] 0 (.fresh 0 0 (!w.params.followText "set-order")) } }) F.called_set (F.typeCall_set_1 (.ref l)) (code_set_led1 (.ref l) ⟨rfl, rfl⟩) ?_
  rintro obj s1 ⟨rfl, rfl⟩
  have hS := Heap.get?_push_size s.heap (o := { cls := .type "set", dict := none, data := .set #[] 0 (.fresh 0 0 (!w.params.followText "set-order")) }) rfl
  refine ⟨⟨_, hS, rfl⟩, set_begins (ns := ns) (Q := fun r s2 => r = .none ∧ Q (.ref s.heap.objs.size) s2) hh (hl.push _) hit hb (Nat.ne_of_lt ll) hS fun h' tk c R hc k => ⟨rfl, h h' tk c R hc fun b o e => k b o (Nat.ne_of_lt (Heap.lt_size e)) (Heap.get?_push_of_some _ e)⟩⟩
end
def rSetI (K : PySem.W.Frag) (w : World) : List V → Hp → VK → Prop := fun vs H Q => ∃ (l : Addr) (ns : List Int), vs = [.ref l] ∧ SqL K H l (ns.map V.int) ∧ ns.length ≤ 1000 ∧ ∀ p n, H p = none → n ≤ ns.length → Q (.ref p) (upd H p (SetO w p (fun j => decide (j ∈ ns)) n))
theorem cr_setI {X : Cx} (hc : X.calm = true) : CallR X (.type "set") (rSetI X.K X.w) := by
  intro pins s σ H vs us Q I r h
  obtain ⟨l, ns, rfl, hl, hn, q⟩ := h
  obtain ⟨u, rfl, ru⟩ := vals1 r
  obtain rfl : u = Value.ref l := ru
  obtain ⟨its, rv, pl, hz⟩ := I.list hl
  refine call_set_listI (I.ok.hd hc) pl.isList (ns := ns) (by simpa using rv.ints) (by unfold scanBound; omega) fun h' tk c R hc k => ?_
  exact ⟨.ref s.heap.objs.size, upd H s.heap.objs.size (SetO X.w s.heap.objs.size (fun j => decide (j ∈ ns)) c), I.laid (t' := tk) k (Nat.le_refl _) (setO_new R), rfl, q _ c (I.hok.fresh (Nat.le_refl _)) hc⟩
/-! ### x in a tuple, deep -/
def rInDT (K : PySem.W.Frag) : R2 := fun x y H Q => ∃ d ds, Dp K H x d ∧ Dp K H y (.tuple ds) ∧ SeqAt.shaped d = true ∧ SeqAt.shaped (.tuple ds) = true ∧ Q (.bl (ds.any fun z => PyData.eqv z d)) H
theorem op_inDT {X : Cx} (hu : X.A.units + 65 < cLine) : OpR X (compareOp .In) (rInDT X.K) := by
  intro pins s σ H x y v u Q I rx ry h
  obtain ⟨d, ds, hd, he, sd, se, q⟩ := h
  obtain ⟨as, r1⟩ := Dp.reads I d x v hd rx
  obtain ⟨bs, r2⟩ := Dp.reads I (.tuple ds) y u he ry
  exact SeqAt.in_tuple_reads r2 r1 (SeqAt.canLay_of_shaped se) (SeqAt.canLay_of_shaped sd) (room_in_shaped sd hu) ⟨.bl _, H, I, rfl, q⟩
end OwnSet
/-! Rules of our own over the hand layer: an own operator, an own ==, // by any divisor, classes made within a try, a method called by keywords. -/
namespace Own
open PySem PySem.Spec PyProof.Rows L2
abbrev St := L2.St
section
variable {X : Cx} {CX : CXT} {k n : Nat} {f C : Addr} {fd : FuncData} {ps : List Str} {sp : Sp}
/-- // by a divisor of any sign below 2 ^ 9000 in size -/
def CDivM (_ j : Int) : Prop := j ≠ 0 ∧ j.natAbs.log2 < 9000
theorem op_fdivWN : OpR X (binaryOp .FloorDiv) (rI CDivM fun i j => .int (i.fdiv j)) := opI fun i j _ _ _ _ _ hc q =>
  floordiv_int hc.1 q (.inl (PyProof.noPylong_of_log2 hc.2))
/-- x op y by the class's own method: x and y are instances of the class at C -/
def rOwn (C : Addr) (sp : Sp) (E : XK) : R2 := fun x y H Q => ∃ a b dx dy fs gs, x = .ref a ∧ y = .ref b ∧ H a = some (.ins C dx fs) ∧ H b = some (.ins C dy gs) ∧ sp [.ref a, .ref b] H Q E
theorem op_own {op : Operator} {E : XK} (F : FnOk X.prog X.w X.K X.mg X.base CX n f fd ps sp) (hr : Room n X.A) (hsf : PySem.W.selfFirst X.K C = true) (hs : PySem.W.findIn X.K (.ref C) (PySem.dunder op.info.2) = some (some (.ref f)))
    (hf : PySem.W.isFn X.K (.ref f) = true) (hb : Binds X.K fd ps []) (hx : Passes CX X E) : OpR X (binaryOp op) (rOwn C sp E) := by
  intro pins s σ H x y u v Q I rx ry h
  obtain ⟨a, b, dx, dy, fs, gs, rfl, rfl, ha, hb', hq⟩ := h
  cases rx
  cases ry
  obtain ⟨mA, J, _⟩ := ins_get I.hok ha
  obtain ⟨mB, J', _⟩ := ins_get I.hok hb'
  obtain ⟨od, J, _⟩ := J.look
  obtain ⟨od', J', _⟩ := J'.look
  obtain ⟨m, hF⟩ := I.fr
  refine PySem.W.binop_K hF I.ok.mod.kin J J'.type hsf hs hf ?_
  refine wpAny_mono (run_fn (us := [.ref a, .ref b]) (vs := [.ref a, .ref b]) F hr hb .nil hx I (.cons rfl (.cons rfl .nil)) (by rw [List.append_nil]; exact hq)) (fun u s' z => ?_) fun _ _ e => e
  obtain ⟨v', H', I', rv, q⟩ := id z
  cases u <;> first
    | exact z
    | (exfalso; cases v' <;> first | (cases rv; done) | (obtain ⟨_, rv⟩ := rv; cases rv))
/-- x == y by the class's own method: x is an instance of the class at C, y of any type that is not below it -/
def rOwnEq (K : PySem.W.Frag) (C : Addr) (sp : Sp) (E : XK) : R2 := fun x y H Q => ∃ a dx fs t, x = .ref a ∧ H a = some (.ins C dx fs) ∧ TyX K H y t ∧ PySem.W.notFirst K C t = true ∧ sp [.ref a, y] H Q E
theorem op_eqOwn {E : XK} (F : FnOk X.prog X.w X.K X.mg X.base CX n f fd ps sp) (hr : Room n X.A) (hs : PySem.W.findIn X.K (.ref C) "__eq__" = some (some (.ref f)))
    (hf : PySem.W.isFn X.K (.ref f) = true) (hb : Binds X.K fd ps []) (hx : Passes CX X E) : OpR X (compareOp .Eq) (rOwnEq X.K C sp E) := by
  intro pins s σ H x y u v Q I rx ry h
  obtain ⟨a, dx, fs, t, rfl, ha, ty, hn, hq⟩ := h
  cases rx
  obtain ⟨mA, J, _⟩ := ins_get I.hok ha
  obtain ⟨od, J, _⟩ := J.look
  obtain ⟨m, hF⟩ := I.fr
  obtain ⟨P, Z, p, hne⟩ := kit_of I ry ty
  refine PySem.W.cmp_K (op := .Eq) hr.units0 hF I.ok.mod.kin J (Z.ty _ _ I.kIn p) hn hs hf ?_
  refine wpAny_mono (run_fn (us := [.ref a, v]) (vs := [.ref a, y]) F hr hb .nil hx I (.cons rfl (.cons ry .nil)) (by rw [List.append_nil]; exact hq)) (fun u s' z => ?_) fun _ _ e => e
  obtain ⟨v', H', I', rv, q⟩ := id z
  cases u <;> first
    | exact z
    | (exfalso; cases v' <;> first | (cases rv; done) | (obtain ⟨_, rv⟩ := rv; cases rv))
end

/-! ### within a try: what is raised is wished for at the slots -/
/-- a new instance of C, its __init__ a def of one promise (ws: its values behind self, as they are bound) -/
theorem made_at {X : Cx} {CX : CXT} {k : Nat} {f C : Addr} {fd : FuncData} {ps : List Str} {sp : Sp} {E : XK} {pins : List (Addr × Obj)} {σ : St} {H : Hp} {s : Shared} {Q : VK} {us rest : List Value} {kw : List (Str × Value)} {zs : List V} (M : Mk X.K C f) (F : FnOk X.prog X.w X.K X.mg X.base CX k f fd ps sp) (hr : Room (k + 1) X.A)
    (hx : PassesAt CX X σ E) (I : Inv X pins σ H s) (r : Vals zs rest) (bd : ∀ (s' : Shared) (y : Value), X.K.In s'.heap → (y :: rest).length = ps.length → BindsTo s' fd ⟨y :: us, kw⟩ (ps.zip (y :: rest)))
    (h : ∀ x dx, H x = none → H dx = none → dx ≠ x → sp (.ref x :: zs) (upd (upd H dx (.own x)) x (.ins C dx [])) (fun v H2 => v = .non ∧ Q (.ref x) H2) E) :
    wpAny (model X.prog X.w) X.A (call (.ref C) us kw) (EP X pins σ Q) X.xe s := by
  have at1 := I.hok.fresh (Nat.le_succ s.heap.objs.size)
  have q := h (s.heap.objs.size + 1) s.heap.objs.size at1 (I.hok.fresh (Nat.le_refl _)) (Nat.ne_of_lt (Nat.lt_succ_self _))
  have J := Inv.made (C := C) I
  have args : Vals (V.ref (s.heap.objs.size + 1) :: zs) (Value.ref (s.heap.objs.size + 1) :: rest) := .cons rfl r
  have b := bd _ (Value.ref (s.heap.objs.size + 1)) J.kIn (args.length.symm.trans (F.len _ _ _ _ q))
  refine wpAny_call (make_map (f := f) I.kIn M.makes M.init (beq_iff_eq.mp M.fn) (codeAny_mono (F.run _ X.stack _ _ ⟨Value.ref (s.heap.objs.size + 1) :: us, kw⟩ _ _ _ E (hr.make C us kw) (J.env0.make C us kw) b args q) ?_))
  rintro (e | fl) s' z
  · exact hx pins _ _ e s' J z
  · cases fl with
    | ret u =>
      obtain ⟨v, H', I3, rv, ev, q3⟩ := J.after z
      subst ev
      exact ⟨rv, V.ref (s.heap.objs.size + 1), H', I3, rfl, q3⟩
    | next => exact z.elim
    | brk => exact z.elim
    | cont => exact z.elim
section
variable {X : Cx} {CX : CXT} {k : Nat} {f C : Addr} {fd : FuncData} {ps ks : List Str} {sp : Sp} {E : St → XK} {dvs : List V} {ds : List Value} {x m : Str} {p pos apos : Pos} {e o : Expr} {es : List Expr} {kws : List Keyword} {ta : TE} {t tk : TA}
/-- C(e, ..) -/
def tMakeS (C : Addr) (sp : Sp) (dvs : List V) (E : St → XK) (t : TA) : TE := fun σ H Q => t σ H fun vs H1 => ∀ x dx, H1 x = none → H1 dx = none → dx ≠ x →
  sp (.ref x :: (vs ++ dvs)) (upd (upd H1 dx (.own x)) x (.ins C dx [])) (fun v H2 => v = .non ∧ Q (.ref x) H2) (E σ)
theorem pe_makeS (M : Mk X.K C f) (F : FnOk X.prog X.w X.K X.mg X.base CX k f fd ps sp) (hr : Room (k + 1) X.A) (hg : Gl X x) (hm : X.mg x = some (.ref C)) (hb : Binds X.K fd ps ds) (hd : Vals dvs ds) (hx : ∀ σ, PassesAt CX X σ (E σ))
    (ha : PA X (e :: es) t) (hdb : (x == ("__debug__" : Str)) = false := by decide) (he : starEach (e :: es) X.env = (false, eval e X.env) :: starEach es X.env := by rfl) (hpl : (backTo pos (starEach es X.env)).any (·.1) = false := by rfl) :
    PE X (.Call (.Name x p) (e :: es) [] pos) (tMakeS C sp dvs E t) :=
  ⟨fun pins s σ H Q I h => wpAny_Call_Name_kw (ld_glob I hg hm (PySem.W.callWith_K (h₀ := X.base) I.ok.mod.kin M.kp (thn (ha.run pos pins s σ H _ I h) fun us s1 ⟨vs, H1, I1, r, q⟩ =>
    ⟨I1.kIn, made_at M F hr (hx σ) I1 (r.append hd) (fun s' y X' l => hb s' (y :: us) X' l) q⟩) he hpl) hdb)⟩
/-- C(k = v, ..) -/
def tMakeKS (C : Addr) (m : Nat) (sp : Sp) (gV : List V → List V → List V) (E : St → XK) (tk : TA) : TE := fun σ H Q => tk σ H fun zs H2 => zs.length = m ∧ ∀ x dx, H2 x = none → H2 dx = none → dx ≠ x →
  sp (gV [.ref x] zs) (upd (upd H2 dx (.own x)) x (.ins C dx [])) (fun v H3 => v = .non ∧ Q (.ref x) H3) (E σ)
/-- the keywords' order is told by g: self stands first -/
theorem pe_makeKS {g : List Value → List Value → List Value} {gV : List V → List V → List V} {g' : List Value → List Value} {gV' : List V → List V} (M : Mk X.K C f) (F : FnOk X.prog X.w X.K X.mg X.base CX k f fd ps sp) (hr : Room (k + 1) X.A) (hg : Gl X x) (hm : X.mg x = some (.ref C)) (hb : KBn X.K fd ps 1 ks g gV)
    (hg1 : ∀ y ws, g [y] ws = y :: g' ws) (hg2 : ∀ y zs, gV [y] zs = y :: gV' zs) (hx : ∀ σ, PassesAt CX X σ (E σ)) (hkw : PK X kws tk)
    (hall : (backToKw pos (keywordEach kws X.env)).all (·.1.isSome) = true := by rfl) (hks : (backToKw pos (keywordEach kws X.env)).filterMap (·.1) = ks := by rfl) (hdb : (x == ("__debug__" : Str)) = false := by decide)
    (hpl : ((backTo pos (starEach [] X.env)).any (·.1) || (backToKw pos (keywordEach kws X.env)).any (·.1.isNone)) = false := by rfl) :
    PE X (.Call (.Name x p) [] kws pos) (tMakeKS C ks.length sp gV E tk) := by
  refine ⟨fun pins s σ H Q I h => wpAny_Call_Name_kw (ld_glob I hg hm (PySem.W.callWith_KW0 (h₀ := X.base) I.ok.mod.kin M.kp hall (thn (hkw.run pos pins s σ H _ I h) ?_) hpl) hdb)⟩
  rintro ws s2 ⟨zs, H2, I2, rz, lz, q⟩
  rw [hks]
  have rr := hb.rel (vs := [V.non]) (us := [Value.none]) (.cons rfl .nil) rz
  rw [hg1, hg2] at rr
  cases rr with
  | cons _ rest =>
    refine ⟨I2.kIn, made_at (us := []) M F hr (hx σ) I2 rest (fun s' y X' _ => ?_) fun x dx a b c => ?_⟩
    · have z := hb.to s' [y] ws X' rfl (rz.length.symm.trans lz)
      rwa [hg1] at z
    · have z := q x dx a b c
      rwa [hg2] at z
/-- o.m(e, ..) -/
def tMethS (C : Addr) (m : Str) (sp : Sp) (E : St → XK) (ta : TE) (t : TA) : TE := fun σ H Q => ta σ H fun x H1 => ∃ a dx fs, x = .ref a ∧ H1 a = some (.ins C dx fs) ∧ fs.lookup m = none ∧ t σ H1 fun vs H2 => sp (x :: vs) H2 Q (E σ)
theorem pe_methS {pl : Sem Bool} (he : PE X o ta) (c : Cls X.K C) (hm : Meth X.K C m f) (F : FnOk X.prog X.w X.K X.mg X.base CX k f fd ps sp) (hr : Room k X.A) (hb : Binds X.K fd ps []) (hx : ∀ σ, PassesAt CX X σ (E σ)) (ha : PA X (e :: es) t)
    (hst : starEach (e :: es) X.env = (false, eval e X.env) :: starEach es X.env := by rfl) (hpl : (backTo pos (starEach es X.env)).any (·.1) = false := by rfl)
    (ht : eval (.Call (.Attribute o m apos) (e :: es) [] pos) X.env = (do
      let ov ← eval o X.env
      standAt apos.atName
      let (f, first) ← holding [ov] (getMethod ov m pl)
      callWith pos f first (backTo pos (starEach (e :: es) X.env)) (backToKw pos (keywordEach [] X.env))) := by rfl) :
    PE X (.Call (.Attribute o m apos) (e :: es) [] pos) (tMethS C m sp E ta t) := by
  refine ⟨fun pins s σ H Q I h => PySem.W.methodCall_KW (pl := pl) (thn (he.run pins s σ H _ I h) ?_) ht⟩
  rintro u s1 ⟨x, H1, I1, rx, a, dx, fs, rfl, ea, l, q⟩
  obtain rfl : u = Value.ref a := rx
  refine getmeth_ok I1 ea c hm l (PySem.W.callWith_K (first := [.ref a]) (h₀ := X.base) I.ok.mod.kin hm.kp (thn (ha.run pos pins s1 σ H1 _ I1 q) ?_) hst hpl)
  rintro us s2 ⟨vs, H2, I2, r, q2⟩
  exact ⟨I2.kIn, run_fnS (us := .ref a :: us) (vs := .ref a :: vs) F hr hb (hx σ) I2 (.cons rfl r) q2⟩
end
end Own
/-! Rules of our own for what may be a list or a tuple: walked, taken apart, enumerated. -/
namespace OwnSeq
open PySem PySem.Spec PyProof.Rows L2
/-! ### enumerate of a tuple -/
theorem enum_made (t : Addr) (items : Array Value) :
    Meets (Builtin.«enumerate.__new__» ⟨[.type "enumerate", .ref t], []⟩) (fun _ R s => s.heap.IsTuple t items ∧
      R (.ok (.ret (.ref (s.heap.push { cls := .type "tuple_iterator", data := .fields #[.ref t, .int 0 0] }).objs.size)))
        { s with heap := (s.heap.push { cls := .type "tuple_iterator", data := .fields #[.ref t, .int 0 0] }).push { cls := .type "enumerate", data := .fields #[.none, .bool false, .ref s.heap.objs.size, rawInt 0, .none, .none] } }) :=
  .of_wp fun prog w A R s ⟨hL, h⟩ => by
    cases s with | mk hp g d tk os =>
    have below := sub_enumerate
    wp_walk
    refine wpAny_stack_any fun st => wpAny_pure ?_
    split
    · rename_i c _ _ _ _ _
      cases (c == Value.type "enumerate") <;> (wp_walk using wpAny_pyIter_tuple hL; exact ⟨_, rfl, h⟩)
    · wp_walk using wpAny_pyIter_tuple hL
      exact ⟨_, rfl, h⟩
theorem enum_tuple {prog : Program} {w : World} {A : Around} {E : Value → Shared → Prop} {s : Shared} {t : Addr} {items : Array Value} {Q : Value → Shared → Prop} (hL : s.heap.IsTuple t items)
    (h : ∀ h', IsEnum h' (s.heap.objs.size + 1) s.heap.objs.size 0 .none → h'.IsTupleIter s.heap.objs.size t 0 → (∀ b o, s.heap.get? b = some o → h'.get? b = some o) → Q (.ref (s.heap.objs.size + 1)) { s with heap := h' }) :
    wpAny (model prog w) A (call (.type "enumerate") [.ref t]) Q E s := by
  refine callType_new F.called_enumerate (by decide) (F.typeCall_enumerate_1 _) (F.newCall_enumerate_1 _) (fun obj => F.args_object_init_2 obj _) F.entry_enumerate_new (enum_made t items) ⟨hL, ?_⟩
  have grown : (s.heap.push { cls := .type "tuple_iterator", data := .fields #[.ref t, .int 0 0] }).objs.size = s.heap.objs.size + 1 := Heap.size_push ..
  have at2 := Heap.get?_push_size (s.heap.push { cls := .type "tuple_iterator", data := .fields #[.ref t, .int 0 0] }) (o := { cls := .type "enumerate", data := .fields #[.none, .bool false, .ref s.heap.objs.size, rawInt 0, .none, .none] }) rfl
  rw [grown] at at2
  show _ ∧ _
  rw [grown]
  exact ⟨⟨_, at2, rfl⟩, h _ at2 ⟨_, Heap.get?_push_of_some _ (Heap.get?_push_size _ rfl), rfl, rfl⟩ fun b o x => Heap.get?_push_of_some _ (Heap.get?_push_of_some _ x)⟩
/-- the tuple at a as it stands at each turn, each item in a new pair -/
def IteT (K : PySem.W.Frag) (a : Addr) : It :=
  ⟨fun i H => ∃ (xs : List V) (x : V), SqT K H a xs ∧ xs[i]? = some x, fun i H v H' => ∃ T x, v = .ref T ∧ H T = none ∧ H' = upd H T (.tup [.int (i : Nat), x]) ∧ ∀ xs, SqT K H a xs → xs[i]? = some x, fun i H => ∃ xs : List V, SqT K H a xs ∧ xs.length = i⟩
theorem turn_enumT {P : Program} {w : World} {K : PySem.W.Frag} {elts : List Expr} {kk : Nat} {tpos : Pos} (a e it : Addr) :
    Turn P w K (.Tuple elts kk tpos) (IteT K a) [e, it] e (fun i h => (∃ old, IsEnum h e it ((i : Nat) : Int) old) ∧ h.IsTupleIter it a i ∧ e ≠ it) where
  mem := List.mem_cons_self
  obj := fun i h ⟨⟨old, he⟩, ⟨o, ho, hc, hd⟩, _⟩ b hb => by
    rcases List.mem_cons.mp hb with rfl | hb
    · exact ⟨_, he, fun v q => nomatch q⟩
    · rw [List.mem_singleton.mp hb]
      exact ⟨o, ho, fun v q => by rw [hd] at q; cases q⟩
  keep := fun i h h' ⟨⟨old, he⟩, hi, hne⟩ k => ⟨⟨old, k e (by simp) _ he⟩, hi.at fun o q => k it (by simp) o q, hne⟩
  item := fun X hP hw hK hc i pins s σ H E I hf ⟨⟨old, he⟩, hit, hne⟩ ⟨xs, x, hq, hx⟩ => by
    subst hP hw hK
    obtain ⟨its, rv, p, hz⟩ := I.tuple hq
    obtain ⟨u, hu, ru⟩ := rv.get hx
    have p : s.heap.IsTuple a its.toArray := p
    have old1 : e < s.heap.objs.size := Heap.lt_size he
    have old2 : it < s.heap.objs.size := let ⟨_, q, _⟩ := hit; Heap.lt_size q
    have ai : a ≠ it := fun z => by
      obtain ⟨o1, g1, c1, _⟩ := hit
      obtain ⟨o2, g2, c2, _⟩ := p
      rw [z, g1] at g2
      cases g2
      exact absurd (Value.type.inj (c1.symm.trans c2)) (by decide)
    have ae : e ≠ a := fun z => by
      obtain ⟨o2, g2, c2, _⟩ := p
      have he : s.heap.get? e = some _ := he
      rw [← z, he] at g2
      cases g2
      exact absurd (Value.type.inj c2) (by decide)
    have li : i < its.toArray.size := by
      have z := (List.getElem?_eq_some_iff.mp hu).1
      simpa using z
    refine wpAny_pyNext_enum_itemD (Draws.tuple (show X.A.in1.handled = none from I.ok.hd hc) it a ai its.toArray) he ⟨hit, p⟩ li hne (by simp [hne, ae]) fun y h' tk hy ho st' hT hsz hk => ?_
    obtain rfl : y = u := by
      have z : its.toArray[i]? = some u := by simpa using hu
      rw [z] at hy
      exact (Option.some.inj hy).symm
    refine ⟨_, rfl, wpAny_letOwnedTupleGo_enum (s := { s with heap := h', toks := tk + 1 }) ho fun h'' he' sb => ?_⟩
    have hT2 : h''.get? s.heap.objs.size = some { cls := .type "tuple", data := .seq #[.int i tk, y] } := (sb.2 _ (Nat.ne_of_gt old1)).trans hT
    have new : ObjOk X.prog X.w (upd H s.heap.objs.size (.tup [.int (i : Nat), x])) h'' s.heap.objs.size (.tup [.int (i : Nat), x]) :=
      ⟨by show 2 ≤ sizeLine; decide, [.int i tk, y], .cons ⟨_, rfl⟩ (.cons ru .nil), ⟨_, hT2, rfl, _, rfl⟩⟩
    have I1 : Inv X pins σ (upd H s.heap.objs.size (.tup [.int (i : Nat), x])) { s with heap := h'', toks := tk + 1 } :=
      I.turnedNew (ch := [e, it]) (fun b ob hb q => (sb.2 b (fun z => hb (by simp [z]))).trans (hk b ob (fun z => hb (by simp [z])) (fun z => hb (by simp [z])) q)) hf (Nat.le_refl _) new
    refine ⟨.ref s.heap.objs.size, _, I1, rfl, ⟨_, x, rfl, I.hok.fresh (Nat.le_refl _), rfl, fun ys hy => by rw [I.tuple_inj hy hq]; exact hx⟩, ⟨⟨y, ?_⟩, st'.1.at fun o q => (sb.2 it (Ne.symm hne)).trans q, hne⟩, fun b hb => ?_⟩
    · rw [show ((i + 1 : Nat) : Int) = (i : Int) + 1 by omega]
      exact he'
    · have hb' : b < s.heap.objs.size := by
        rcases List.mem_cons.mp hb with rfl | hb
        · exact old1
        · rw [List.mem_singleton.mp hb]; exact old2
      rw [upd_ne (Nat.ne_of_lt hb')]
      exact (hf b hb).1
  done := fun X hP hw hK hc i pins s σ H E I hf ⟨⟨old, he⟩, hit, hne⟩ ⟨xs, hq, hx⟩ => by
    subst hP hw hK
    obtain ⟨its, rv, p, hz⟩ := I.tuple hq
    have p : s.heap.IsTuple a its.toArray := p
    obtain ⟨f0, f1, f2, f3, f4, f5⟩ := hf it (by simp)
    have hl := rv.length
    have ai : a ≠ it := fun z => by
      obtain ⟨o1, g1, c1, _⟩ := hit
      obtain ⟨o2, g2, c2, _⟩ := p
      rw [z, g1] at g2
      cases g2
      exact absurd (Value.type.inj (c1.symm.trans c2)) (by decide)
    have e' : i = its.toArray.size := by rw [List.size_toArray, ← hl, hx]
    exact wpAny_pyNext_enum_endD (Draws.tuple (show X.A.in1.handled = none from I.ok.hd hc) it a ai its.toArray) he ⟨by rw [← e']; exact hit, p⟩ fun h' eb => ⟨rfl, I.turned (t' := s.toks) (fun b o hb q => eb b o hb q) f0 f1 f3 f4 f5⟩
  self := fun A i s Q E ⟨⟨_, he⟩, _⟩ h => wpAny_pyIter_enum he h
def iEnumT (K : PySem.W.Frag) (ta : TA) : TI := fun σ H R => ta σ H fun vs H1 => ∃ a xs, vs = [.ref a] ∧ SqT K H1 a xs ∧ R (IteT K a) H1
section
variable {X : Cx} {e tg : Expr} {te : TE} {ta : TA} {p pos tpos : Pos} {elts : List Expr} {kk : Nat}
theorem pi_enumT (hg : Gl X "enumerate") (hm : X.mg "enumerate" = none) (ha : PA X [e] ta) (hs : starEach [e] X.env = [(false, eval e X.env)] := by rfl) : PI X (.Tuple elts kk tpos) (.Call (.Name "enumerate" p) [e] [] pos) (iEnumT X.K ta) :=
  ⟨fun pins s σ H R I h => Call_ (ld_blt I hg hm boot_enumerate (PyProof.Rows.callWith_type1 (thn (ha.run pos pins s σ H _ I h) fun us s1 ⟨vs, H1, I1, r1, a, xs, ex, hq, q⟩ => by
    subst ex
    cases r1 with
    | cons r rr =>
      cases rr
      cases r
      obtain ⟨its, rv, p', hz⟩ := I1.tuple hq
      refine enum_tuple (show s1.heap.IsTuple a its.toArray from p') fun h' he hit hk => wpAny_pyIter_enum he ?_
      refine ⟨s1.heap.objs.size + 1, [s1.heap.objs.size + 1, s1.heap.objs.size], _, _, H1, rfl, I1.kept (t' := s1.toks) hk, turn_enumT a (s1.heap.objs.size + 1) s1.heap.objs.size, ⟨⟨.none, he⟩, hit, Nat.succ_ne_self _⟩, fun b hb => ?_, q⟩
      have le : s1.heap.objs.size ≤ b := by
        rcases List.mem_cons.mp hb with rfl | hb
        · exact Nat.le_succ _
        · exact Nat.le_of_eq (List.mem_singleton.mp hb).symm
      exact I1.fpOk le (I1.hok.fresh le)) hs rfl))⟩
/-! ### a list or a tuple -/
theorem PI.or {w1 w2 : TI} {it : Expr} (a : PI X tg it w1) (b : PI X tg it w2) : PI X tg it (fun σ H R => w1 σ H R ∨ w2 σ H R) := ⟨fun pins s σ H R I h => h.elim (a.run pins s σ H R I) (b.run pins s σ H R I)⟩
theorem PG.or {g1 g2 : TG} (a : PG X tg g1) (b : PG X tg g2) : PG X tg (fun v σ H Q => g1 v σ H Q ∨ g2 v σ H Q) := ⟨fun pins s σ H v u Q I r h => h.elim (a.run pins s σ H v u Q I r) (b.run pins s σ H v u Q I r)⟩
/-- l: a list; else a tuple -/
def sq (l : Bool) (xs : List V) : HO := if l = true then .lst xs else .tup xs
theorem sq_l {K : PySem.W.Frag} {H : Hp} {a : Addr} {xs : List V} (h : H a = some (sq true xs)) : SqL K H a xs := SqL.of h
theorem sq_t {K : PySem.W.Frag} {H : Hp} {a : Addr} {xs : List V} (h : H a = some (sq false xs)) : SqT K H a xs := SqT.of h
def iSeq (K : PySem.W.Frag) (te : TE) : TI := fun σ H R => te σ H fun x H1 => ∃ a l xs, x = .ref a ∧ H1 a = some (sq l xs) ∧ R (if l = true then Itl K a else Itt K a) H1
theorem pi_seq (he : PE X e te) : PI X tg e (iSeq X.K te) := ⟨fun pins s σ H R I h => thn (he.run pins s σ H _ I h) fun v s1 ⟨x, H1, I1, rx, a, l, xs, ex, hx, q⟩ => by
  subst ex
  cases rx
  cases l with
  | true =>
    obtain ⟨its, rv, p, _⟩ := I1.list (SqL.of hx)
    exact wpAny_pyIter_list p.isList ⟨s1.heap.objs.size, [s1.heap.objs.size], _, _, H1, rfl, I1.kept (t' := s1.toks) fun b o e => Heap.get?_push_of_some _ e, turn_list a _, ⟨_, Heap.get?_push_size _ rfl, rfl, rfl⟩, fun b hb => by
      rw [List.mem_singleton.mp hb]
      exact I1.fpOk (Nat.le_refl _) (I1.hok.fresh (Nat.le_refl _)), q⟩
  | false =>
    obtain ⟨its, rv, p, _⟩ := I1.tuple (SqT.of hx)
    exact wpAny_pyIter_tuple (show s1.heap.IsTuple a its.toArray from p) ⟨s1.heap.objs.size, [s1.heap.objs.size], _, _, H1, rfl, I1.kept (t' := s1.toks) fun b o e => Heap.get?_push_of_some _ e, turn_tuple a _, ⟨_, Heap.get?_push_size _ rfl, rfl, rfl⟩, fun b hb => by
      rw [List.mem_singleton.mp hb]
      exact I1.fpOk (Nat.le_refl _) (I1.hok.fresh (Nat.le_refl _)), q⟩⟩
def iEnumS (K : PySem.W.Frag) (ta : TA) : TI := fun σ H R => ta σ H fun vs H1 => ∃ a l xs, vs = [.ref a] ∧ H1 a = some (sq l xs) ∧ R (if l = true then Ite K a else IteT K a) H1
theorem pi_enumS (hg : Gl X "enumerate") (hm : X.mg "enumerate" = none) (ha : PA X [e] ta) (hs : starEach [e] X.env = [(false, eval e X.env)] := by rfl) : PI X (.Tuple elts kk tpos) (.Call (.Name "enumerate" p) [e] [] pos) (iEnumS X.K ta) :=
  ⟨fun pins s σ H R I h => Call_ (ld_blt I hg hm boot_enumerate (PyProof.Rows.callWith_type1 (thn (ha.run pos pins s σ H _ I h) fun us s1 ⟨vs, H1, I1, r1, a, l, xs, ex, hq, q⟩ => by
    subst ex
    have young : ∀ b ∈ [s1.heap.objs.size + 1, s1.heap.objs.size], FpOk X pins H1 b := fun b hb => by
      have le : s1.heap.objs.size ≤ b := by
        rcases List.mem_cons.mp hb with rfl | hb
        · exact Nat.le_succ _
        · exact Nat.le_of_eq (List.mem_singleton.mp hb).symm
      exact I1.fpOk le (I1.hok.fresh le)
    cases r1 with
    | cons r rr =>
      cases rr
      cases r
      cases l with
      | true =>
        obtain ⟨its, rv, p', hz⟩ := I1.list (SqL.of hq)
        exact call_enumerate_list p'.isList fun h' he hit hsz hk => wpAny_pyIter_enum he ⟨_, _, _, _, H1, rfl, I1.kept (t' := s1.toks) hk, turn_enum a (s1.heap.objs.size + 1) s1.heap.objs.size, ⟨⟨.none, he⟩, hit, Nat.succ_ne_self _⟩, young, q⟩
      | false =>
        obtain ⟨its, rv, p', hz⟩ := I1.tuple (SqT.of hq)
        exact enum_tuple (show s1.heap.IsTuple a its.toArray from p') fun h' he hit hk => wpAny_pyIter_enum he ⟨_, _, _, _, H1, rfl, I1.kept (t' := s1.toks) hk, turn_enumT a (s1.heap.objs.size + 1) s1.heap.objs.size, ⟨⟨.none, he⟩, hit, Nat.succ_ne_self _⟩, young, q⟩) hs rfl))⟩
end
/-! ### loops over what walks n items -/
structure Goes (J : It) (S : Hp → Prop) (n : Nat) (y : Nat → Hp → V → Hp → Prop) : Prop where
  go : ∀ i H, i < n → S H → J.go i H
  stop : ∀ H, S H → J.stop n H
  yld : ∀ i H x H', S H → J.yld i H x H' → y i H x H'
theorem goes_seq {K : PySem.W.Frag} {a : Addr} {l : Bool} {xs : List V} : Goes (if l = true then Itl K a else Itt K a) (fun H => H a = some (sq l xs)) xs.length (fun i H x H' => H' = H ∧ xs[i]? = some x) := by
  cases l with
  | true => exact ⟨fun i H hi h => ⟨xs, xs[i], SqL.of h, by simp [hi]⟩, fun H h => ⟨xs, SqL.of h, Nat.le_refl _⟩, fun i H x H' h y => ⟨y.1, y.2 xs (SqL.of h)⟩⟩
  | false => exact ⟨fun i H hi h => ⟨xs, xs[i], SqT.of h, by simp [hi]⟩, fun H h => ⟨xs, SqT.of h, Nat.le_refl _⟩, fun i H x H' h y => ⟨y.1, y.2 xs (SqT.of h)⟩⟩
theorem goes_enum {K : PySem.W.Frag} {a : Addr} {l : Bool} {xs : List V} : Goes (if l = true then Ite K a else IteT K a) (fun H => H a = some (sq l xs)) xs.length (fun i H x H' => ∃ T z, x = .ref T ∧ H T = none ∧ H' = upd H T (.tup [.int (i : Nat), z]) ∧ xs[i]? = some z) := by
  cases l with
  | true => exact ⟨fun i H hi h => ⟨xs, xs[i], SqL.of h, by simp [hi]⟩, fun H h => ⟨xs, SqL.of h, Nat.le_refl _⟩, fun i H x H' h ⟨T, z, a, b, c, d⟩ => ⟨T, z, a, b, c, d xs (SqL.of h)⟩⟩
  | false => exact ⟨fun i H hi h => ⟨xs, xs[i], SqT.of h, by simp [hi]⟩, fun H h => ⟨xs, SqT.of h, rfl⟩, fun i H x H' h ⟨T, z, a, b, c, d⟩ => ⟨T, z, a, b, c, d xs (SqT.of h)⟩⟩
theorem loop_goes {J : It} {S : Hp → Prop} {n : Nat} {y : Nat → Hp → V → Hp → Prop} {g : TG} {tb : TS} {D : Ends} {σ : L2.St} {H : Hp} (G : Goes J S n y) (Pe : L2.St → Hp → Prop) (Pv : Nat → L2.St → Hp → Prop) (h0 : Pv 0 σ H) (hl : ∀ i σ H, i ≤ n → Pv i σ H → S H)
    (hs : ∀ (bk : L2.St → Hp → Prop), (∀ σ H, Pe σ H → bk σ H) → ∀ i x σ H H', i < n → Pv i σ H → y i H x H' → g x σ H' fun σ2 H2 => tb { D with nx := Pv (i + 1), ct := Pv (i + 1), bk := bk } σ2 H2)
    (hd : ∀ σ H, Pv n σ H → Pe σ H) (he : ∀ σ H, Pe σ H → D.nx σ H) : Rd.Loop J g tb D σ H :=
  ⟨fun i m σ H => m = n - i ∧ i ≤ n ∧ Pv i σ H, ⟨n, rfl, Nat.zero_le _, h0⟩, fun i m σ H ⟨e, hi, p⟩ => by
    subst e
    have q := hl i σ H hi p
    rcases Nat.lt_or_eq_of_le hi with lt | eq
    · exact .inr ⟨G.go i H lt q, Pv (i + 1), fun σ' H' p' => ⟨n - (i + 1), by omega, rfl, lt, p'⟩, fun x H' z => hs D.nx he i x σ H H' lt p (G.yld i H x H' q z)⟩
    · subst eq
      exact .inl ⟨G.stop H q, he σ H (hd σ H p)⟩⟩
theorem lcl_goes {J : It} {S : Hp → Prop} {n : Nat} {y : Nat → Hp → V → Hp → Prop} {g : TG} {tt : TT} {te : TE} {vs : List Nat} {σ : L2.St} {H : Hp} {Q : VK} (G : Goes J S n y) (Pv : Addr → Nat → Hp → Prop) (h0 : ∀ D, H D = none → Pv D 0 (upd H D (.lst []))) (hl : ∀ D i H1, i ≤ n → Pv D i H1 → S H1)
    (hs : ∀ D i x H1 H', i < n → Pv D i H1 → y i H1 x H' → g x (wipe σ vs) H' fun σ2 H2 => Rd.LcTurn te tt D (wipe σ vs) σ2 vs H2 (Pv D (i + 1))) (hd : ∀ D H1, H D = none → Pv D n H1 → Q (.ref D) H1) : Rd.LcL J g tt te vs σ H Q := fun D hD =>
  ⟨fun i m H => m = n - i ∧ i ≤ n ∧ Pv D i H, ⟨n, rfl, Nat.zero_le _, h0 D hD⟩, fun i m H1 ⟨e, hi, p⟩ => by
    subst e
    have q := hl D i H1 hi p
    rcases Nat.lt_or_eq_of_le hi with lt | eq
    · exact .inr ⟨G.go i H1 lt q, Pv D (i + 1), fun H' p' => ⟨n - (i + 1), by omega, rfl, lt, p'⟩, fun x H' z => hs D i x H1 H' lt p (G.yld i H1 x H' q z)⟩
    · subst eq
      exact .inl ⟨G.stop H1 q, hd D H1 hD p⟩⟩
theorem tFor_seq {K : PySem.W.Frag} {te : TE} {g : TG} {tb : TS} {D : Ends} {σ : L2.St} {H : Hp} : tFor (iSeq K te) g tb D σ H = te σ H (fun x H1 => ∃ a l xs, x = .ref a ∧ H1 a = some (sq l xs) ∧ Rd.Loop (if l = true then Itl K a else Itt K a) g tb D σ H1) := rfl
theorem tFor_enumS {K : PySem.W.Frag} {ta : TA} {g : TG} {tb : TS} {D : Ends} {σ : L2.St} {H : Hp} : tFor (iEnumS K ta) g tb D σ H = ta σ H (fun vs H1 => ∃ a l xs, vs = [.ref a] ∧ H1 a = some (sq l xs) ∧ Rd.Loop (if l = true then Ite K a else IteT K a) g tb D σ H1) := rfl
theorem tLc_seq {K : PySem.W.Frag} {te0 : TE} {g : TG} {tt : TT} {te : TE} {vs : List Nat} {σ : L2.St} {H : Hp} {Q : VK} : tLc (iSeq K te0) g tt te vs σ H Q = te0 σ H (fun x H1 => ∃ a l xs, x = .ref a ∧ H1 a = some (sq l xs) ∧ Rd.LcL (if l = true then Itl K a else Itt K a) g tt te vs σ H1 Q) := rfl
theorem tLc_enumS {K : PySem.W.Frag} {ta : TA} {g : TG} {tt : TT} {te : TE} {vs : List Nat} {σ : L2.St} {H : Hp} {Q : VK} : tLc (iEnumS K ta) g tt te vs σ H Q = ta σ H (fun ws H1 => ∃ a l xs, ws = [.ref a] ∧ H1 a = some (sq l xs) ∧ Rd.LcL (if l = true then Ite K a else IteT K a) g tt te vs σ H1 Q) := rfl
/-! ### x, *rest = a list or a tuple -/
section
variable {prog : Program} {w : World} {A : Around} {E : Value → Shared → Prop} {s : Shared}
theorem rest_list {l : Addr} {x : Value} {xs : List Value} {Q : List Value → Shared → Prop} (hl : s.heap.IsList l (x :: xs).toArray) (hh : A.handled = none) (hz : xs.length ≤ 1000)
    (h : ∀ (h' : Heap) (tk : Nat), (∀ b o, s.heap.get? b = some o → h'.get? b = some o) → Q [x, .ref h'.objs.size] { s with heap := h'.push { cls := .type "list", data := .seq xs.toArray }, toks := tk }) : wpAny (model prog w) A (unpackItems (.ref l) 2 (some 1)) Q E s := by
  have ne : l ≠ s.heap.objs.size := let ⟨_, g, _⟩ := hl; Nat.ne_of_lt (Heap.lt_size g)
  unfold unpackItems notIterableAtAll
  refine wpAny_bind (wpAny_bind (wpAny_specialOf hl.typeIs slot_list_iter.lookup (wpAny_pure ?_)))
  simp only [Bool.false_eq_true, if_false]
  refine wpAny_bind (wpAny_holding (wpAny_pyIter_list hl (wpAny_bind (wpAny_holding (PySem.W.kun_draw ne 1 0 _ _ ⟨_, Heap.get?_push_size _ rfl, rfl, rfl⟩ (hl.push _) (by simp) fun h1 it1 sb1 => ?_)))))
  have e1 : ((x :: xs).toArray.toList.drop 0).take 1 = [x] := rfl
  rw [e1]
  have it1 : h1.IsListIter s.heap.objs.size l 1 := it1
  have l1 : h1.IsList l (x :: xs).toArray := (hl.push _).extBut sb1.extBut ne
  have lt1 : s.heap.objs.size < h1.objs.size := let ⟨_, g, _⟩ := it1; Heap.lt_size g
  have lt2 : l < h1.objs.size := let ⟨_, g, _⟩ := l1; Heap.lt_size g
  rw [if_neg (show ¬ ([x] : List Value).length < 1 from Nat.lt_irrefl 1)]
  refine wpAny_bind (wpAny_holding (PySem.W.kun_collect (s := { s with heap := h1 }) (T := "list_iterator") (.inr (.inr (.inl rfl))) (Walks.list (A := A.in1) hh s.heap.objs.size l ne (x :: xs).toArray) (fun j u st => st.1.typeIs) (k := 1) (by simp) ⟨it1, l1⟩ lt1 lt2 (fun h2 tk k2 => ?_) (by simp; exact Nat.le_trans (Nat.succ_le_succ hz) (by decide))))
  rw [if_neg (Nat.not_lt_zero _)]
  have e2 : (x :: xs).toArray.toList.drop 1 = xs := rfl
  have e3 : xs.take (xs.length - (2 - 1 - 1)) = xs := List.take_length
  have e4 : xs.drop (xs.length - (2 - 1 - 1)) = [] := List.drop_length
  rw [e2, e3, e4]
  exact wpAny_bind (wpAny_newList (wpAny_pure (h h2 tk fun b o g => k2 b o (Nat.ne_of_lt (Heap.lt_size g)) (sb1.extBut b o (Nat.ne_of_lt (Heap.lt_size g)) (Heap.get?_push_of_some _ g)))) (Nat.le_trans hz (by decide)))
theorem rest_tuple {l : Addr} {x : Value} {xs : List Value} {Q : List Value → Shared → Prop} (hl : s.heap.IsTuple l (x :: xs).toArray) (hh : A.handled = none) (hz : xs.length ≤ 1000)
    (h : ∀ (h' : Heap) (tk : Nat), (∀ b o, s.heap.get? b = some o → h'.get? b = some o) → Q [x, .ref h'.objs.size] { s with heap := h'.push { cls := .type "list", data := .seq xs.toArray }, toks := tk }) : wpAny (model prog w) A (unpackItems (.ref l) 2 (some 1)) Q E s := by
  have ne : l ≠ s.heap.objs.size := let ⟨_, g, _⟩ := hl; Nat.ne_of_lt (Heap.lt_size g)
  unfold unpackItems notIterableAtAll
  refine wpAny_bind (wpAny_bind (wpAny_specialOf hl.typeIs slot_tuple_iter.lookup (wpAny_pure ?_)))
  simp only [Bool.false_eq_true, if_false]
  refine wpAny_bind (wpAny_holding (wpAny_pyIter_tuple hl (wpAny_bind (wpAny_holding (wpAny_draw_tuple ne 1 0 _ _ ⟨_, Heap.get?_push_size _ rfl, rfl, rfl⟩ (hl.push _) (by simp) fun h1 it1 sb1 => ?_)))))
  have e1 : ((x :: xs).toArray.toList.drop 0).take 1 = [x] := rfl
  rw [e1]
  have it1 : h1.IsTupleIter s.heap.objs.size l 1 := it1
  have l1 : h1.IsTuple l (x :: xs).toArray := (hl.push _).extBut sb1.extBut ne
  have lt1 : s.heap.objs.size < h1.objs.size := let ⟨_, g, _⟩ := it1; Heap.lt_size g
  have lt2 : l < h1.objs.size := let ⟨_, g, _⟩ := l1; Heap.lt_size g
  rw [if_neg (show ¬ ([x] : List Value).length < 1 from Nat.lt_irrefl 1)]
  refine wpAny_bind (wpAny_holding (PySem.W.kun_collect (s := { s with heap := h1 }) (T := "tuple_iterator") (.inr (.inr (.inr rfl))) (Walks.tuple (A := A.in1) hh s.heap.objs.size l ne (x :: xs).toArray) (fun j u st => st.1.typeIs) (k := 1) (by simp) ⟨it1, l1⟩ lt1 lt2 (fun h2 tk k2 => ?_) (by simp; exact Nat.le_trans (Nat.succ_le_succ hz) (by decide))))
  rw [if_neg (Nat.not_lt_zero _)]
  have e2 : (x :: xs).toArray.toList.drop 1 = xs := rfl
  have e3 : xs.take (xs.length - (2 - 1 - 1)) = xs := List.take_length
  have e4 : xs.drop (xs.length - (2 - 1 - 1)) = [] := List.drop_length
  rw [e2, e3, e4]
  exact wpAny_bind (wpAny_newList (wpAny_pure (h h2 tk fun b o g => k2 b o (Nat.ne_of_lt (Heap.lt_size g)) (sb1.extBut b o (Nat.ne_of_lt (Heap.lt_size g)) (Heap.get?_push_of_some _ g)))) (Nat.le_trans hz (by decide)))
end
def gRest (t : TGs) : TG := fun v σ H Q => ∃ a l x xs, v = .ref a ∧ H a = some (sq l (x :: xs)) ∧ xs.length ≤ 1000 ∧ ∀ D, H D = none → t [x, .ref D] σ (upd H D (.lst xs)) Q
theorem pg_rest {X : Cx} {t1 t2 : Expr} {p pos : Pos} {k : Nat} {t : TGs} (hc : X.calm = true) (h : PGs X [t1, t2] t) (he : (assignEach [t1, .Starred t2 p] X.env).map (·.2) = (assignEach [t1, t2] X.env).map (·.2) := by rfl)
    (hn : (assignEach [t1, .Starred t2 p] X.env).length = 2 := by rfl) (hst : (assignEach [t1, .Starred t2 p] X.env).findIdx? (·.1) = some 1 := by rfl) : PG X (.Tuple [t1, .Starred t2 p] k pos) (gRest t) := by
  refine ⟨fun pins s σ H v u Q I r ⟨a, l, x, xs, e1, hq, hz, hw⟩ => ?_⟩
  subst e1
  cases r
  rw [assign_Tuple]
  refine wpAny_bind (wpAny_standAt ?_)
  unfold unpack
  rw [hn, hst, he]
  have fin : ∀ {u : Value} {us : List Value}, RelV x u → Vals xs us → ∀ (h' : Heap) (tk : Nat), (∀ b o, s.heap.get? b = some o → h'.get? b = some o) →
      wpAny (model X.prog X.w) X.A (assignInOrder ((assignEach [t1, t2] X.env).map (·.2)) [u, .ref h'.objs.size]) (fun _ s' => ∃ σ' H', Inv X pins σ' H' s' ∧ Q σ' H') X.xe { s with heap := h'.push { cls := .type "list", data := .seq us.toArray }, toks := tk } := fun {u us} ru rus h' tk kp => by
    have I1 : Inv X pins σ H { s with heap := h', toks := tk } := I.kept (t' := tk) kp
    have I2 := I1.laid (t' := tk) (a := h'.objs.size) (o := .lst xs) (h' := h'.push { cls := .type "list", data := .seq us.toArray }) (fun b o e => Heap.get?_push_of_some _ e) (Nat.le_refl _) ⟨Nat.le_trans hz (by decide), us, 0, rus, Heap.get?_push_size _ rfl⟩
    exact h.run pins _ σ _ [x, .ref h'.objs.size] _ Q I2 (.cons ru (.cons rfl .nil)) (hw h'.objs.size (I1.hok.fresh (Nat.le_refl _)))
  cases l with
  | true =>
    obtain ⟨its, rv, pl, _⟩ := I.list (SqL.of hq)
    cases rv with
    | cons ru rus => exact wpAny_bind (wpAny_holding (rest_list pl.isList (I.ok.hd hc) (by rw [← rus.length]; exact hz) (fin ru rus)))
  | false =>
    obtain ⟨its, rv, pl, _⟩ := I.tuple (SqT.of hq)
    cases rv with
    | cons ru rus => exact wpAny_bind (wpAny_holding (rest_tuple (show s.heap.IsTuple a _ from pl) (I.ok.hd hc) (by rw [← rus.length]; exact hz) (fin ru rus)))
/-- x, y, .. = a list or a tuple of that length -/
def gSeq (n : Nat) (t : TGs) : TG := fun v σ H Q => ∃ a l xs, v = .ref a ∧ H a = some (sq l xs) ∧ xs.length = n ∧ t xs σ H Q
theorem pg_seq {X : Cx} {es : List Expr} {k n : Nat} {pos : Pos} {t : TGs} (hc : X.calm = true) (h : PGs X es t) (hn : (assignEach es X.env).length = n := by rfl) (hst : (assignEach es X.env).findIdx? (·.1) = none := by rfl) : PG X (.Tuple es k pos) (gSeq n t) := by
  refine ⟨fun pins s σ H v u Q I r ⟨a, l, xs, e1, hq, hl, hw⟩ => ?_⟩
  cases l with
  | true => exact (pg_unl hc h hn hst).run pins s σ H v u Q I r ⟨a, xs, e1, SqL.of hq, hl, hw⟩
  | false => exact (pg_tup hc h hn hst).run pins s σ H v u Q I r ⟨a, xs, e1, SqT.of hq, hl, hw⟩
end OwnSeq
/-! A list comprehension within a def that runs while an exception is handled. -/
namespace OwnHot
open PySem PySem.Spec PyProof.Rows L2 L2H HotX
section
variable {prog : Program} {w : World} {A : Around} {E : Value → Shared → Prop} {s : Shared}
/-- what stands behind an iterator's last item: a StopIteration, taken by the one who asked -/
theorem stop_hot {α : Type} {Qa : α → Shared → Prop} {t : Sem α} {k : Value → Sem α} (et : t = newExc (.type "StopIteration") [] >>= k) (ek : ∀ a, k (.ref a) = raiseNew (.ref a)) {x1 : Addr} {Q : Option Value → Shared → Prop} (hot : HotAt A x1 s.heap)
    (hQ : ∀ h', (∀ b o, s.heap.get? b = some o → h'.get? b = some o) → Q none { s with heap := h' }) :
    wpAny (model prog w) A.in1 t Qa (fun e s' => wpAny (model prog w) A (do let b ← isInstance e (.type "StopIteration"); if b = true then pure none else throw e) Q E s') s := by
  obtain ⟨hh, o1, vs1, g1, d1, c1⟩ := hot
  rw [et]
  refine wpAny_bind ?_
  simp only [newExc, newTuple]
  refine wpAny_bind (wpAny_newObj_type ?_ (by size_fits))
  refine wpAny_bind (m := firstArgMember _ _) (wpAny_of_eq (a := Value.none) (by first | rfl | (simp only [firstArgMember]; rfl)) ?_)
  refine wpAny_newObj_type ?_ (by size_fits)
  rw [ek]
  refine raiseNew_hot ⟨hh, o1, vs1, Heap.get?_push_of_some _ (Heap.get?_push_of_some _ g1), d1, c1⟩ (Nat.ne_of_lt (Heap.lt_size (Heap.get?_push_of_some _ g1))) (Heap.get?_push_size _ rfl) rfl (by first | (simp; done) | (simp; omega) | (simp only [Array.size_append]; simp; omega)) ?_
  refine wpAny_bind (wpAny_isInstance (T := "StopIteration") (b := true) ⟨_, Heap.get?_update_self _ (Heap.get?_push_size _ rfl) rfl, rfl⟩ isSubtype_stop (wpAny_pure (hQ _ fun b o e => ?_)))
  rw [Heap.get?_update_other _ _ (Nat.ne_of_gt (Heap.lt_size (Heap.get?_push_of_some _ e)))]
  exact Heap.get?_push_of_some _ (Heap.get?_push_of_some _ e)
theorem list_end {it l x1 : Addr} {i : Nat} {items : Array Value} {Q : Option Value → Shared → Prop} (hot : HotAt A x1 s.heap) (ne : x1 ≠ it) (hit : s.heap.IsListIter it l i) (hl : s.heap.IsList l items) (hx : items[i]? = none)
    (hQ : ∀ h', Heap.ExtBut it s.heap h' → Q none { s with heap := h' }) : wpAny (model prog w) A (pyNext (.ref it)) Q E s := by
  obtain ⟨o, ho, hc, hd⟩ := id hit
  obtain ⟨ol, hol, _, nl, hdl⟩ := hl
  unfold pyNext
  refine wpAny_bind (wpAny_attempt (wpAny_callSpecial?_slot (name := Str.ofString "__next__") hit.typeIs slot_listiter_next (wpAny_call_entry slot_listiter_next hit.typeIs entry_listiter_next ?_ (args_listiter_next _))))
  show wpAny _ _ (field (.ref it) 0 >>= _) _ _ s
  refine wpAny_bind (wpAny_field ho hd (x := .ref l) rfl ?_)
  rw [if_neg (show ¬ ((Value.ref l == Value.none) = true) from Bool.false_ne_true)]
  refine wpAny_bind (wpAny_field ho hd (x := .int i 0) rfl (wpAny_bind (wpAny_seqItems hol hdl ?_)))
  simp only [Int.toNat_natCast, hx]
  refine wpAny_bind (wpAny_rule (wpAny_bind (wpAny_setField ho hd (by simp) ?_)))
  obtain ⟨hh, o1, vs1, g1, d1, c1⟩ := hot
  refine stop_hot (k := fun e => raiseNew e) rfl (fun _ => rfl) ⟨hh, o1, vs1, (Heap.get?_update_other _ _ ne.symm).trans g1, d1, c1⟩ fun h' kp => hQ h' fun b ob hb e => kp b ob ((Heap.get?_update_other _ _ (Ne.symm hb)).trans e)
theorem tuple_end {it l x1 : Addr} {i : Nat} {items : Array Value} {Q : Option Value → Shared → Prop} (hot : HotAt A x1 s.heap) (ne : x1 ≠ it) (hit : s.heap.IsTupleIter it l i) (hl : s.heap.IsTuple l items) (hx : items[i]? = none)
    (hQ : ∀ h', Heap.ExtBut it s.heap h' → Q none { s with heap := h' }) : wpAny (model prog w) A (pyNext (.ref it)) Q E s := by
  obtain ⟨o, ho, hc, hd⟩ := id hit
  obtain ⟨ol, hol, _, nl, hdl⟩ := hl
  unfold pyNext
  refine wpAny_bind (wpAny_attempt (wpAny_callSpecial?_slot (name := Str.ofString "__next__") hit.typeIs F.slot_tuple_iterator_next (wpAny_call_entry F.slot_tuple_iterator_next hit.typeIs F.entry_tuple_iterator_next ?_ (F.args_tuple_iterator_next_1 _))))
  show wpAny _ _ (field (.ref it) 0 >>= _) _ _ s
  refine wpAny_bind (wpAny_field ho hd (x := .ref l) rfl ?_)
  rw [if_neg (show ¬ ((Value.ref l == Value.none) = true) from Bool.false_ne_true)]
  refine wpAny_bind (wpAny_field ho hd (x := .int i 0) rfl (wpAny_bind (wpAny_seqItems hol hdl ?_)))
  simp only [Int.toNat_natCast, hx]
  refine wpAny_bind (wpAny_rule (wpAny_bind (wpAny_setField ho hd (by simp) ?_)))
  obtain ⟨hh, o1, vs1, g1, d1, c1⟩ := hot
  refine stop_hot (k := fun e => raiseNew e) rfl (fun _ => rfl) ⟨hh, o1, vs1, (Heap.get?_update_other _ _ ne.symm).trans g1, d1, c1⟩ fun h' kp => hQ h' fun b ob hb e => kp b ob ((Heap.get?_update_other _ _ (Ne.symm hb)).trans e)
end
/-! ### walks -/
section
variable {P : Program} {w : World} {K : PySem.W.Frag} {tg : Expr}
theorem hot_of {X : Cx} {pins : List (Addr × Obj)} {σ : L2.St} {H : Hp} {s : Shared} {it : Addr} (hc : HotC X) (I : Inv X pins σ H s) (hf : FpOk X pins H it) : ∃ x1, HotAt X.A x1 s.heap ∧ x1 ≠ it := by
  obtain ⟨p, ⟨hh, v1, e1, c1⟩, hp⟩ := hc
  exact ⟨p.1, ⟨hh, p.2, v1, (I.pin p (List.mem_append_left _ hp)).1, e1, c1⟩, hf.2.2.2.2.2 p (List.mem_append_left _ hp)⟩
theorem turnL (a it : Addr) : TurnH P w K tg (Itl K a) [it] it (fun i h => h.IsListIter it a i) :=
  let T : Turn P w K tg (Itl K a) [it] it (fun i h => h.IsListIter it a i) := turn_list a it
  { mem := T.mem, obj := T.obj, keep := T.keep, self := T.self
    item := fun X hP hw hK hc i pins s σ H E I hf st ⟨xs, x, hq, hx⟩ => by
      subst hP hw hK
      obtain ⟨f0, f1, f2, f3, f4, f5⟩ := hf it (List.mem_singleton.mpr rfl)
      obtain ⟨its, rv, p, _⟩ := I.list hq
      obtain ⟨u, hu, ru⟩ := rv.get hx
      refine wpAny_pyNext_list_item st p.isList (x := u) (by simpa using hu) fun h' st' sb => ?_
      have I1 := I.turned (t' := s.toks) (fun b o hb e => (sb.2 b hb).trans e) f0 f1 f3 f4 f5
      obtain ⟨o, e, c, d⟩ := id st'
      exact ⟨u, rfl, go_of (s := { s with heap := h' }) e c d (by decide) ⟨x, H, I1, ru, ⟨rfl, fun ys hy => (congrArg (·[i]?) (I.list_inj hy hq)).trans hx⟩, st', fun b hb => (hf b hb).1⟩⟩
    done := fun X hP hw hK hc i pins s σ H E I hf st ⟨xs, hq, hx⟩ => by
      subst hP hw hK
      have ff := hf it (List.mem_singleton.mpr rfl)
      obtain ⟨f0, f1, f2, f3, f4, f5⟩ := id ff
      obtain ⟨its, rv, p, _⟩ := I.list hq
      obtain ⟨x1, hot, ne⟩ := hot_of hc I ff
      have hl := rv.length
      exact list_end hot ne st p.isList (by simp; omega) fun h' eb => ⟨rfl, I.turned (t' := s.toks) (fun b o hb e => eb b o hb e) f0 f1 f3 f4 f5⟩ }
theorem turnT (a it : Addr) : TurnH P w K tg (Itt K a) [it] it (fun i h => h.IsTupleIter it a i) :=
  let T : Turn P w K tg (Itt K a) [it] it (fun i h => h.IsTupleIter it a i) := turn_tuple a it
  { mem := T.mem, obj := T.obj, keep := T.keep, self := T.self
    item := fun X hP hw hK hc i pins s σ H E I hf st ⟨xs, x, hq, hx⟩ => by
      subst hP hw hK
      obtain ⟨f0, f1, f2, f3, f4, f5⟩ := hf it (List.mem_singleton.mpr rfl)
      obtain ⟨its, rv, p, _⟩ := I.tuple hq
      obtain ⟨u, hu, ru⟩ := rv.get hx
      refine wpAny_pyNext_tuple_item st (show s.heap.IsTuple a its.toArray from p) (x := u) (by simpa using hu) fun h' st' sb => ?_
      have I1 := I.turned (t' := s.toks) (fun b o hb e => (sb.2 b hb).trans e) f0 f1 f3 f4 f5
      obtain ⟨o, e, c, d⟩ := id st'
      exact ⟨u, rfl, go_of (s := { s with heap := h' }) e c d (by decide) ⟨x, H, I1, ru, ⟨rfl, fun ys hy => (congrArg (·[i]?) (I.tuple_inj hy hq)).trans hx⟩, st', fun b hb => (hf b hb).1⟩⟩
    done := fun X hP hw hK hc i pins s σ H E I hf st ⟨xs, hq, hx⟩ => by
      subst hP hw hK
      have ff := hf it (List.mem_singleton.mpr rfl)
      obtain ⟨f0, f1, f2, f3, f4, f5⟩ := id ff
      obtain ⟨its, rv, p, _⟩ := I.tuple hq
      obtain ⟨x1, hot, ne⟩ := hot_of hc I ff
      have hl := rv.length
      exact tuple_end hot ne st (show s.heap.IsTuple a its.toArray from p) (by simp; omega) fun h' eb => ⟨rfl, I.turned (t' := s.toks) (fun b o hb e => eb b o hb e) f0 f1 f3 f4 f5⟩ }
end
section
variable {X : Cx} {tg l : Expr} {tl : TE}
theorem pi_listH (hl : PE X l tl) : PIH X tg l (iList X.K tl) := ⟨fun pins s σ H R I h => thn (hl.run pins s σ H _ I h) fun v s1 ⟨x, H1, I1, r1, a, e, ⟨xs, hq⟩, q⟩ => by
  subst e
  cases r1
  obtain ⟨its, rv, p, _⟩ := I1.list hq
  exact wpAny_pyIter_list p.isList ⟨s1.heap.objs.size, [s1.heap.objs.size], _, _, H1, rfl, I1.kept (t' := s1.toks) fun b o e => Heap.get?_push_of_some _ e, turnL a _, ⟨_, Heap.get?_push_size _ rfl, rfl, rfl⟩, fun b hb => by
    rw [List.mem_singleton.mp hb]
    exact I1.fpOk (Nat.le_refl _) (I1.hok.fresh (Nat.le_refl _)), q⟩⟩
theorem pi_tupH (hl : PE X l tl) : PIH X tg l (iTup X.K tl) := ⟨fun pins s σ H R I h => thn (hl.run pins s σ H _ I h) fun v s1 ⟨x, H1, I1, r1, a, e, ⟨xs, hq⟩, q⟩ => by
  subst e
  cases r1
  obtain ⟨its, rv, p, _⟩ := I1.tuple hq
  exact wpAny_pyIter_tuple (show s1.heap.IsTuple a its.toArray from p) ⟨s1.heap.objs.size, [s1.heap.objs.size], _, _, H1, rfl, I1.kept (t' := s1.toks) fun b o e => Heap.get?_push_of_some _ e, turnT a _, ⟨_, Heap.get?_push_size _ rfl, rfl, rfl⟩, fun b hb => by
    rw [List.mem_singleton.mp hb]
    exact I1.fpOk (Nat.le_refl _) (I1.hok.fresh (Nat.le_refl _)), q⟩⟩
end
/-! ### the block -/
/-- a comprehension's block whose pins stay -/
abbrev blkP (X : Cx) (s : Shared) (H : Hp) (scope : Scope) (cenv : Env) (fp : List Addr) : Cx := { X.blk s H scope cenv fp with pn := X.pn }
theorem toP {X : Cx} {s0 : Shared} {H0 : Hp} {scope : Scope} {cenv : Env} {fp : List Addr} {pins : List (Addr × Obj)} {σ : L2.St} {H : Hp} {s : Shared} (I : Inv (X.blk s0 H0 scope cenv fp) pins σ H s)
    (hp : ∀ p ∈ X.pn, s.heap.get? p.1 = some p.2 ∧ H p.1 = none ∧ p.1 ≠ cenv.locals ∧ p.1 ∉ frs X.stack ∧ ∀ v, p.2.data ≠ .cell v) : Inv (blkP X s0 H0 scope cenv fp) pins σ H s :=
  let o := I.ok
  { ok := ⟨o.mod, o.kind, o.glob, o.blt, o.above, o.inj, o.has, o.cab, o.hd, o.frames, o.stk, o.exf, o.bs, o.bsz, o.noex, o.exfs, o.funs, o.frf⟩
    os := I.os, bare := I.bare, base := I.base, loc := I.loc, cell := I.cell, free := I.free, freeC := I.freeC, hok := I.hok, len := I.len
    pin := fun p h => (List.mem_append.mp h).elim (hp p) fun h => I.pin p (List.mem_append_right _ h) }
/-- [elt for target in iter], an exception being handled -/
theorem pe_lcH {X : Cx} {elt tg iter : Expr} {scope : Scope} {own : List (Str × Nat)} {pos : Pos} {wi : TI} {g : TG} {te : TE} (hc : HotC X) (hN : X.N.Nodup) (hi : PIH X tg iter wi) (ok : BlkOk X.N X.env.scope scope own)
    (hg : ∀ (s : Shared) (H : Hp) (C : Addr) (cl : List (Str × Addr)) (fp : List Addr), PG (blkP X s H scope (compEnvC scope cl C X.env) fp) tg g)
    (he : ∀ (s : Shared) (H : Hp) (C : Addr) (cl : List (Str × Addr)) (fp : List Addr), PE (blkP X s H scope (compEnvC scope cl C X.env) fp) elt te) (hs : ∀ x, foldedSetIterable iter X.env x = pure x := by intro _; rfl) :
    PE X (.ListComp elt [⟨tg, iter, [], 0⟩] scope pos) (tLc wi g tYes te (own.map (·.2))) := by
  refine ⟨fun pins s σ H Q I h => ?_⟩
  have free : ∀ y ∈ scope.names, y.2 = .free → ∃ c, X.env.cells.lookup y.1 = some c := fun y hy e => I.ok.has _ ((ok.free y hy e).imp (fun k => k) fun k => k)
  rw [eval_ListComp]
  refine wpAny_comprehension_free (use := none) rfl hs (closure_ok free) ok.kind (fun y hy e => (ok.uniq y hy).trans (congrArg some e)) (thn (hi.run pins s σ H _ I h) fun _ s1 h1 => thn h1 fun _ s2 ⟨it, fp, tn, J, H2, e, I2, T, st2, f2, q⟩ => ?_)
  subst e
  refine wpAny_newObj_type (newEnv_comp ?_) (Nat.zero_le sizeLine)
  -- the new list stands at D
  obtain ⟨W, ⟨m0, w0⟩, turn⟩ := q _ (I2.hok.fresh (Nat.le_refl s2.heap.objs.size))
  have I3 : Inv X pins σ (upd H2 s2.heap.objs.size (.lst [])) { s2 with heap := s2.heap.push { cls := .type "list", data := .seq ([] : List Value).toArray } } :=
    I2.laid (t' := s2.toks) (fun b o e => Heap.get?_push_of_some _ e) (Nat.le_refl _) ⟨Nat.zero_le _, [], 0, .nil, Heap.get?_push_size _ rfl⟩
  have below : ∀ b ∈ fp, b < s2.heap.objs.size := fun b hb => by
    obtain ⟨o, e, _⟩ := T.obj _ _ st2 b hb
    exact Heap.lt_size e
  have f3 : ∀ b ∈ fp, FpOk X pins (upd H2 s2.heap.objs.size (.lst [])) b ∧ b < ({ s2 with heap := s2.heap.push { cls := .type "list", data := .seq ([] : List Value).toArray } } : Shared).heap.objs.size := fun b hb =>
    ⟨⟨(upd_ne (Nat.ne_of_lt (below b hb))).trans (f2 b hb).1, (f2 b hb).2⟩, by rw [Heap.size_push]; exact Nat.lt_succ_of_lt (below b hb)⟩
  have st3 : tn 0 ({ s2 with heap := s2.heap.push { cls := .type "list", data := .seq ([] : List Value).toArray } } : Shared).heap := T.keep _ _ _ st2 fun b _ o e => Heap.get?_push_of_some _ e
  generalize hD : s2.heap.objs.size = D at turn I3 f3 st3 w0 ⊢
  generalize hs3 : ({ s2 with heap := s2.heap.push { cls := .type "list", data := .seq ([] : List Value).toArray } } : Shared) = s3 at I3 f3 st3
  have B0 := block_start I3 ok hN f3
  have pg := hg s3 (upd H2 D (.lst [])) s3.heap.objs.size (cellsFrom (s3.heap.objs.size + 1) scope.names (cloFrom X.env.cells scope.names [])) fp
  have pe := he s3 (upd H2 D (.lst [])) s3.heap.objs.size (cellsFrom (s3.heap.objs.size + 1) scope.names (cloFrom X.env.cells scope.names [])) fp
  show codeAny _ _ (.compStart (.ListComp elt [⟨tg, iter, [], 0⟩] scope pos) 0 (.ref it) (.ref D) (compEnvC scope (cellsFrom (s3.heap.objs.size + 1) scope.names (cloFrom X.env.cells scope.names [])) s3.heap.objs.size X.env)) (compPost (model X.prog X.w) X.A X.xe none (EP X pins σ Q) (.ref D) s3.heap.objs.size) { s3 with heap := pushCells (s3.heap.push { cls := .type "dict", data := .dict #[] }) scope.names }
  have cL : (compEnvC scope (cellsFrom (s3.heap.objs.size + 1) scope.names (cloFrom X.env.cells scope.names [])) s3.heap.objs.size X.env).locals = s3.heap.objs.size := rfl
  generalize compEnvC scope (cellsFrom (s3.heap.objs.size + 1) scope.names (cloFrom X.env.cells scope.names [])) s3.heap.objs.size X.env = ce at B0 pg pe cL ⊢
  have B := toP B0 fun p hp => by
    obtain ⟨g1, g2, g3, g4, g5⟩ := I3.pin p (List.mem_append_left _ hp)
    exact ⟨pushCells_keeps _ _ _ _ (Heap.get?_push_of_some _ g1), g2, by rw [cL]; exact Nat.ne_of_lt (Heap.lt_size g1), fun hm => (List.mem_cons.mp (I3.stkSub p.1 hm)).elim g3 g4, g5⟩
  have st4 : tn 0 ({ s3 with heap := pushCells (s3.heap.push { cls := .type "dict", data := .dict #[] }) scope.names } : Shared).heap := T.keep _ _ _ st3 fun b _ o e => pushCells_keeps _ _ _ _ (Heap.get?_push_of_some _ e)
  generalize ({ s3 with heap := pushCells (s3.heap.push { cls := .type "dict", data := .dict #[] }) scope.names } : Shared) = s4 at B st4 ⊢
  have fpk : ∀ {σ' : L2.St} {H' : Hp} {s' : Shared}, Inv (blkP X s3 (upd H2 D (.lst [])) scope ce fp) [] σ' H' s' → (∀ b ∈ fp, H' b = none) → ∀ b ∈ fp, FpOk (blkP X s3 (upd H2 D (.lst [])) scope ce fp) [] H' b := fun I' hn b hb =>
    ⟨hn b hb, (I'.ok.exf b hb).1, I'.ok.exfs b hb, .inl hb, (I'.ok.exf b hb).2, fun p hp => (f3 b hb).1.2.2.2.2.2 p (List.mem_append_left _ (by rw [List.append_nil] at hp; exact hp))⟩
  have L : codeAny (model X.prog X.w) X.A (.compLoop (.ListComp elt [⟨tg, iter, [], 0⟩] scope pos) 0 (.ref it) (.ref D) ce) (compPost (model X.prog X.w) X.A X.xe none (EP X pins σ Q) (.ref D) s3.heap.objs.size) s4 := by
    refine compLoop_any (fun n s' => ∃ i H', Inv (blkP X s3 (upd H2 D (.lst [])) scope ce fp) [] (wipe σ (own.map (·.2))) H' s' ∧ tn i s'.heap ∧ (∀ b ∈ fp, H' b = none) ∧ W i n H') ?_ m0 ⟨0, _, B, st4, fun b hb => (f3 b hb).1.1, w0⟩
    rintro n s5 ⟨i, H5, I5, st5, n5, w5⟩
    rcases turn i n H5 w5 with ⟨stop, done⟩ | ⟨go, Nx, next, step⟩
    · refine thnF (T.done (blkP X s3 (upd H2 D (.lst [])) scope ce fp) rfl rfl rfl hc i [] s5 _ H5 (fun _ _ => False) I5 (fpk I5 n5) st5 stop) fun r s6 ⟨hr, I6⟩ => ?_
      subst hr
      obtain ⟨m, hn, _⟩ := I6.loc
      have hn : s6.heap.Ns ce.locals m := hn
      have nC : H5 ce.locals = none := I6.free
      rw [cL] at hn nC
      obtain ⟨f0, f1, f2', f4, f5, f6⟩ := I3.fpOk (H' := H5) (Nat.le_refl _) nC
      have I7 : Inv X pins σ H5 s6 := I3.call' (ch := fp) I6.os I6.base I6.hok I6.bare fun b hb =>
        let ⟨_, a1, a2, a3, a4, a5⟩ := (f3 b hb).1
        ⟨a3, a1, a4, a5⟩
      exact ⟨m, hn, fun h' sb => ⟨.ref D, H5, I7.turned (t' := s6.toks) (fun b o hb e => (sb.2 b hb).trans e) f0 f1 f4 f5 f6, rfl, done⟩⟩
    · refine thnF (T.item (blkP X s3 (upd H2 D (.lst [])) scope ce fp) rfl rfl rfl hc i [] s5 _ H5 (fun _ _ => False) I5 (fpk I5 n5) st5 go) fun r s6 ⟨u, hr, h6⟩ => ?_
      subst hr
      refine thnF h6 fun _ s7 ⟨x, H7, I7, r7, y7, st7, n7⟩ => ?_
      refine thnF (pg.run _ s7 _ H7 x u _ (I7.pinned (fpk I7 n7) (T.obj _ _ st7)) r7 (step x H7 y7)) fun _ s8 ⟨σ8, H8, I8, hw, q8⟩ => ?_
      refine wpAny_tests_nil ?_
      have q8 : te σ8 H8 fun y H4 => ∃ acc, H4 D = some (.lst acc) ∧ acc.length < sizeLine ∧ Nx (upd H4 D (.lst (acc ++ [y]))) := q8
      refine thnF (pe.run _ s8 σ8 H8 _ I8 q8) fun z s9 ⟨yv, H9, I9, r9, acc, hD9, hz9, nx⟩ => ?_
      refine app_ok (X := blkP X s3 (upd H2 D (.lst [])) scope ce fp) I9 hD9 hz9 r9 fun s10 I10 => ?_
      obtain ⟨m', hm, w'⟩ := next _ nx
      have kept : ∀ b ∈ fp, ∀ o, s7.heap.get? b = some o → s10.heap.get? b = some o ∧ (upd H9 D (.lst (acc ++ [yv]))) b = none := fun b hb o e =>
        let z := I10.pin (b, o) (List.mem_append_right _ (List.mem_append_right _ (mem_pinsAt hb e)))
        ⟨z.1, z.2.1⟩
      refine ⟨m', hm, i + 1, _, (I10.unpinned (pins := [])).weak (by rw [← hw, wipe_length]) (fun j v e => ?_), T.keep _ _ _ st7 fun b hb o e => (kept b hb o e).1, fun b hb => ?_, w'⟩
      · rw [← hw] at e
        exact (wipe_some e).1
      · obtain ⟨o, e, _⟩ := T.obj _ _ st7 b hb
        exact (kept b hb o e).2
  exact codeAny_compStart_list L (T.self X.A 0 _ _ _ st4 L)
end OwnHot
/-! Own exceptions with a known context: what is raised by an own class, told so that a suite may call defs. -/
namespace OwnExN
open PySem PySem.Spec PyProof.Rows L2
section
variable {X : Cx} {CX : CXT} {x : Str} {C fI : Addr} {k : Nat} {fd : FuncData} {ps : List Str} {sp : Sp} {e : Expr} {es : List Expr} {ta : TA} {p pos : Pos}
/-- an own exception's call, its __init__ a def of one promise: what stands behind it -/
theorem raised_new {pins : List (Addr × Obj)} {σ : L2.St} {H1 : Hp} {s1 : Shared} {us : List Value} {vs : List V} {Q : XK} (T : OexC X.K C) (iC : PySem.W.findIn X.K (.ref C) "__init__" = some (some (.ref fI))) (tI : PySem.W.typeIn X.K (.ref fI) = some (.type "function"))
    (F1 : FnOk X.prog X.w X.K X.mg X.base CX k fI fd ps sp) (hr : Room (k + 1) X.A) (hb : Binds X.K fd ps []) (hx : Passes CX X (fun _ _ _ => False)) (I1 : Inv X pins σ H1 s1) (r1 : Vals vs us) (hz : vs.length ≤ 1000)
    (h : ∀ a, H1 a = none → sp (.ref a :: vs) (upd H1 a (exo a C none)) (fun v H2 => v = .non ∧ ∃ (d : Addr) (fs : List (Str × V)), H2 a = some (exo a C (some d)) ∧ H2 d = some (exd d fs) ∧ H1 d = none ∧ Q (.ref C) (some d) (upd (del H2 a) d (.xd fs))) (fun _ _ _ => False)) :
    wpAny (model X.prog X.w) X.A (call (.ref C) us) (L2N.MkP X pins σ Q) X.xe s1 := by
  obtain ⟨_, _, _, _, bm, _, _, _, _, _, _, _, _, _, _, inK, bmOk⟩ := T.cls
  have small : us.length ≤ sizeLine := Nat.le_trans (Nat.le_of_eq (Paired.length r1).symm) (Nat.le_trans hz (by decide))
  cases s1 with | mk hp g dr tk os =>
  -- the address of the new exception; what it promises there
  have q := h (hp.objs.size + 1) (I1.hok.fresh (Nat.le_succ _))
  have args : Vals (V.ref (hp.objs.size + 1) :: vs) (Value.ref (hp.objs.size + 1) :: us) := .cons rfl r1
  have J := I1.laid (t' := tk) (a := hp.objs.size + 1) (o := exo (hp.objs.size + 1) C none) (h' := (hp.push (PySem.W.kdv_tup us)).push (PySem.HandSPX.excO C hp.objs.size)) (fun b o z => Heap.get?_push_of_some _ (Heap.get?_push_of_some _ z)) (Nat.le_succ _) (exo_ok (by heap_get))
  have bd := hb _ (Value.ref (hp.objs.size + 1) :: us) J.kIn (by rw [List.append_nil]; exact args.length.symm.trans (F1.len _ _ _ _ q))
  rw [List.append_nil] at bd
  refine wpAny_call (PySem.HandSPX.call_own F.excBase_ValueError (PySem.HandSPX.refsVE_contains · bm bmOk) (I1.kIn _ _ inK) (PySem.W.looks_findIn I1.kIn iC) (fun self => PySem.W.bind_fn I1.kIn self tI) small ?_)
  refine codeAny_mono (F1.run _ X.stack _ _ ⟨Value.ref (hp.objs.size + 1) :: us, []⟩ _ _ _ (fun _ _ _ => False) (hr.make C us []) (J.env0.make C us []) bd args q) ?_
  rintro (er | fl) s' z
  · exact hx pins σ _ _ er s' J z
  · cases fl with
    | ret u =>
      obtain ⟨v, H2, o1, o2, o3, o4, rv, ev, d, fs, m1, m2, m3, fin⟩ := z
      subst ev
      cases s' with | mk h2 g2 d2 t2 os' =>
      obtain ⟨t0, G, JG, kG, nG, at2, free⟩ := mk_end0 (d2 := d2) (t2 := t2) I1 (Nat.le_succ _) (fun b o z => Heap.get?_push_of_some _ (Heap.get?_push_of_some _ z)) o3 o4 o1 o2 m1 m2 m3
      exact ⟨rv, hp.objs.size + 1, _, _, ⟨G, g2, d2, t2, os'⟩, _, .ref C, some d, rfl, JG, kG, nG, at2, ⟨rfl, rfl, fun vs hv => by cases hv; rfl⟩, rfl, rfl, free, rfl, o2, raises_own T.exC T.tyC, fin⟩
    | next => exact z.elim
    | brk => exact z.elim
    | cont => exact z.elim
theorem pmk_oexN (T : OexC X.K C) (iC : PySem.W.findIn X.K (.ref C) "__init__" = some (some (.ref fI))) (tI : PySem.W.typeIn X.K (.ref fI) = some (.type "function"))
    (F1 : FnOk X.prog X.w X.K X.mg X.base CX k fI fd ps sp) (hr : Room (k + 1) X.A) (hb : Binds X.K fd ps []) (hx : Passes CX X (fun _ _ _ => False)) (hg : Gl X x) (hm : X.mg x = some (.ref C)) (ha : PA X (e :: es) ta)
    (hdb : (x == ("__debug__" : Str)) = false := by decide) (he : starEach (e :: es) X.env = (false, eval e X.env) :: starEach es X.env := by rfl) (hpl : (backTo pos (starEach es X.env)).any (·.1) = false := by rfl) :
    L2N.PMk X (.Call (.Name x p) (e :: es) [] pos) (tMkO C sp [] ta) := fun pins s σ H Q I h =>
  wpAny_Call_Name_kw (ld_glob I hg hm (PySem.W.callWith_K (h₀ := X.base) I.ok.mod.kin T.kC (thn (ha.run pos pins s σ H _ I h) fun us s1 ⟨vs, H1, I1, r1, hz, q1⟩ => ⟨I1.kIn, raised_new T iC tI F1 hr hb hx I1 r1 hz fun a n => by
    have z := q1 a n
    rw [List.append_nil] at z
    exact z⟩) he hpl) hdb)
end
theorem passN {X : Cx} : Passes (L2N.CX X.prog X.w) X E0 := fun _ _ _ _ _ _ _ h => by
  obtain ⟨_, _, _, _, _, _, _, _, _, _, _, _, z⟩ := h
  exact z.elim
theorem takesN0 {X : Cx} : L2N.Takes X (fun _ _ _ _ => False) := fun _ _ x => by
  obtain ⟨_, _, _, _, _, _, _, _, _, _, _, _, _, _, _, _, z⟩ := x
  exact z.elim
/-- the rule of a def that may raise, the exception's context known -/
theorem okN {P : Program} {w : World} {K : PySem.W.Frag} {mg : Str → Option Value} {base : Heap} {x qual : Str} {st : Stmt} {f : Addr} {fd : FuncData} {N ps : List Str} {k : Nat} {sp : Sp} (F : Fun K x qual st f fd) (S : FnScope N ps (defScope st)) (len : ∀ vs H Q E, sp vs H Q E → vs.length = ps.length)
    (hbody : ∀ (cdv : Value) (A : Around) (outer : List Env) (s : Shared) (H : Hp) (vs : List V) (Q : VK) (E : XK), Room k (A.deeper (envOfC qual (defScope st) s.heap.objs.size f cdv)) → sp vs H Q E →
      ∃ t, PSs (cxOf (L2N.CX P w) P w K mg base N qual (defScope st) f cdv A outer s H E) (defBody st) t ∧ t { nx := fun _ H' => Q .non H', rt := Q } (L2.start N vs) H) : FnOk P w K mg base (L2N.CX P w) (k + 1) f fd ps sp :=
  match F.ex with
  | ⟨_, _, _, _, _, _, _, _, _, e, lk, hcd⟩ => e ▸ fn_of (e ▸ lk) hcd S len fun A outer s H vs Q E hr hsp => hbody _ A outer s H vs Q E hr hsp
end OwnExN
/-! Rules of our own: len of an own instance; a try with several handlers, named or not. -/
namespace OwnProj
open PySem PySem.Spec PyProof.Rows L2
section
variable {X : Cx} {CX : CXT} {n : Nat} {f C : Addr} {fd : FuncData} {ps : List Str} {sp : Sp} {E : XK}
/-- len(x) by the class's own __len__ -/
def rLenO (C : Addr) (sp : Sp) (E : XK) : List V → Hp → VK → Prop := fun xs H Q => ∃ a dx fs, xs = [.ref a] ∧ H a = some (.ins C dx fs) ∧ sp [.ref a] H (fun v H' => ∃ k : Nat, v = .int k ∧ k < 2 ^ 62 ∧ Q v H') E
theorem call_lenO (F : FnOk X.prog X.w X.K X.mg X.base CX n f fd ps sp) (hr : Room (n + 1) X.A) (m : Meth X.K C "__len__" f) (hb : Binds X.K fd ps []) (hx : Passes CX X E) : CallR X (.builtin "len") (rLenO C sp E) := by
  rintro pins s σ H xs us Q I r ⟨a, dx, fs, rfl, ha, hq⟩
  obtain ⟨u, rfl, rx⟩ := vals1 r
  cases rx
  obtain ⟨mA, J, _⟩ := ins_get I.hok ha
  obtain ⟨od, J, _⟩ := J.look
  obtain ⟨m0, hF⟩ := I.fr
  have args : Vals [V.ref a] [Value.ref a] := .cons rfl .nil
  have bd := hb s [Value.ref a] I.kIn (by rw [List.append_nil]; exact args.length.symm.trans (F.len _ _ _ _ hq))
  rw [List.append_nil] at bd
  refine PySem.W.len_K hF I.ok.mod.kin J m.at_ m.fn (wpAny_call (codeAny_mono (F.run X.A.in1 X.stack s H ⟨[Value.ref a], []⟩ _ _ _ E hr.in1 I.env0.in1 bd args hq) ?_))
  rintro (e | fl) s' z
  · exact hx pins σ H s e s' I z
  · cases fl with
    | ret u =>
      obtain ⟨v, H', I', rv, k, ev, hk, q⟩ := I.after z
      subst ev
      obtain ⟨t, rfl⟩ := rv
      refine ⟨⟨by omega, by omega⟩, ?_⟩
      exact ⟨.int k, H', I'.tok _, ⟨_, rfl⟩, q⟩
    | next => exact z.elim
    | brk => exact z.elim
    | cont => exact z.elim
end
/-! ### several handlers, some with a name -/
structure HdD where
  c : Value
  i : Option Nat
  ts : Addr → Value → Option Addr → TS
def endsAt (D : Ends) : Option Nat → Ends
  | none => D
  | some i => { nx := fun σ' H' => D.nx (σ'.set i none) H', rt := D.rt, bk := fun σ' H' => D.bk (σ'.set i none) H', ct := fun σ' H' => D.ct (σ'.set i none) H' }
def slotAt (σ : L2.St) (a : Addr) : Option Nat → L2.St
  | none => σ
  | some i => σ.set i (some (.ref a))
/-- what is wished of a body's exception: the first handler that takes it -/
def wHds (K : PySem.W.Frag) (Wout : WX) (D : Ends) : List HdD → WX
  | [] => Wout
  | h :: r => fun cls d σ H => ∃ b, PySem.W.exmOne K cls h.c = some b ∧ (b = true → ∀ a, H a = none → h.ts a cls d (endsAt D h.i) (slotAt σ a h.i) H) ∧ (b = false → wHds K Wout D r cls d σ H)
inductive Hds (X : Cx) : List ExceptHandler → List HdD → Prop
  | nil : Hds X [] []
  | bare {x : Str} {c : Value} {ts : Addr → Value → Option Addr → TS} {b₀ : Stmt} {suite : List Stmt} {np pos' : Pos} {hds : List ExceptHandler} {l : List HdD} (hc : Names X x c)
      (su : ∀ (ea : Addr) (oe : Obj) (cls : Value) (d : Option Addr) (pn : List (Addr × Obj)), L2N.Zn cls d oe → (∃ vs, oe.data = .fields vs) → PSs (X.suite ea ((ea, oe) :: pn)) (b₀ :: suite) (ts ea cls d)) (r : Hds X hds l) :
      Hds X (.ExceptHandler (some (.Name x np)) none (b₀ :: suite) pos' :: hds) (⟨c, none, ts⟩ :: l)
  | named {x n : Str} {c : Value} {i : Nat} {ts : Addr → Value → Option Addr → TS} {b₀ : Stmt} {suite : List Stmt} {np pos' : Pos} {hds : List ExceptHandler} {l : List HdD} (hN : X.N.Nodup) (hi : X.N[i]? = some n) (hn : X.env.kindOf n = some .local) (hc : Names X x c)
      (su : ∀ (ea : Addr) (oe : Obj) (cls : Value) (d : Option Addr) (pn : List (Addr × Obj)), L2N.Zn cls d oe → (∃ vs, oe.data = .fields vs) → PSs (X.suite ea ((ea, oe) :: pn)) (b₀ :: suite) (ts ea cls d)) (r : Hds X hds l) :
      Hds X (.ExceptHandler (some (.Name x np)) (some n) (b₀ :: suite) pos' :: hds) (⟨c, some i, ts⟩ :: l)
section
variable {X : Cx} {body : List Stmt} {h₀ : ExceptHandler} {hds : List ExceptHandler} {l : List HdD} {pos : Pos} {tb : WX → TS} {Wout : WX}
/-- where an exception has landed in our frame: the handlers in their order -/
theorem hds_run {pins : List (Addr × Obj)} {σ : L2.St} {H : Hp} {D : Ends} {ea : Addr} {B : Heap} {sI : Shared} {cls : Value} {d : Option Addr} {s : Shared} {h3 : Heap} (own : X.stack = X.env :: X.outer) (fr : X.env.frame = some X.env.locals) (tk : L2N.Takes X Wout) (ok : X.Ok)
    (J : Inv X pins σ H sI) (nb : ∀ b o, sI.heap.get? b = some o → b ∉ frs X.stack → B.get? b = some o) (up3 : sI.heap.UpToSlots h3) (fl3 : HandSPX.FlyingZ B (X.env :: X.outer) ea (L2N.Zn cls d) h3) (na : H ea = none) (os : s.os = sI.os) (ag : AllBare s.gens) :
    ∀ {hds : List ExceptHandler} {l : List HdD}, Hds X hds l → wHds X.K Wout D l cls d σ H → wpAny (model X.prog X.w) X.A (handleBy (.ref ea) X.env hds) (SP X pins D) X.xe { s with heap := h3 } := by
  have landed : ∀ {h : Heap}, HandSPX.FlyingZ B (X.env :: X.outer) ea (L2N.Zn cls d) h → sI.heap.UpToSlots h → Inv X pins σ H { s with heap := h } := fun fl up => J.landed nb fl.1 up os ag
  obtain ⟨oe3, vs3, he3, hz3, hd3⟩ := fl3.there
  have apart : ea ∉ frs (X.env :: X.outer) := fun hm => by
    obtain ⟨_, o, at1, no⟩ := fl3.2.2.1.mem hm
    rw [he3] at at1
    cases at1
    exact no _ hd3
  have n1 : ea ≠ X.env.locals := fun z => apart (List.mem_filterMap.mpr ⟨X.env, List.mem_cons_self, by rw [fr, z]⟩)
  have n2 : ea ∉ X.fs := fun hm => let ⟨e, he, q⟩ := List.mem_filterMap.mp hm; apart (List.mem_filterMap.mpr ⟨e, List.mem_cons_of_mem _ he, q⟩)
  have I3 := (landed fl3 up3).suite he3 hd3 na n1 n2
  -- a handler's test
  have asks : ∀ {x : Str} {c : Value} {np : Pos} {b : Bool} {Qs : Bool → Shared → Prop} {Es Et : Value → Shared → Prop}, Names X x c → PySem.W.exmOne X.K cls c = some b → Qs b { s with heap := h3 } →
      wpAny (model X.prog X.w) (X.A.mark (some (.ref ea))) (eval (.Name x np) X.env) (fun t s' => wpAny (model X.prog X.w) (X.A.mark (some (.ref ea))) (excMatches (.ref ea) t) Qs Es s') Et { s with heap := h3 } := fun {x c np b Qs Es Et} hc hb q => by
    have kind : PySem.W.Looks (model X.prog X.w) h3 (typeOf (.ref ea)) cls := fun A Q E s k q => wpAny_typeOf_ref (k _ _ he3) (by rw [hz3.1]; exact q)
    have m := PySem.W.exm_one (M := model X.prog X.w) I3.kIn kind hb
    obtain ⟨hg, hdbg, hm | ⟨hm, hv, hnn⟩⟩ := hc
    · exact ld_glob (X := X.suite ea ((ea, oe3) :: (X.pn ++ pins))) I3 hg hm (m.here q) hdbg
    · exact ld_blt (X := X.suite ea ((ea, oe3) :: (X.pn ++ pins))) I3 hg hm hv (m.here q) hnn hdbg
  intro hds l hk
  induction hk with
  | nil =>
    intro out
    refine wpAny_handleBy_nil ?_
    obtain ⟨_, _, _, _, _, T, _, _, at1, _, data, head, _⟩ := id fl3
    have flies : wpAny (model X.prog X.w) X.A (setFlight (.ref ea) X.env.frame) (fun _ s4 => wpAny (model X.prog X.w) X.A (throw (.ref ea) : Sem Flow) (SP X pins D) X.xe s4) X.xe { s with heap := h3 } := by
      rw [fr]
      exact HandSPX.setFlight_upZ fl3 fun h4 held up4 => wpAny_throw (tk _ _ ⟨ea, B, sI, pins, σ, H, cls, d, rfl, J, nb, up3.trans up4, .inr (.inr (by rw [own]; exact held)), na, os, ag, out⟩)
    unfold PySem.passOn
    refine wpAny_bind (wpAny_field at1 data head ?_)
    rw [if_neg (show ¬ ((Value.ref T == Value.none) = true) by simp)]
    first
      | exact wpAny_bind flies
      | exact wpAny_bind (wpAny_pure (wpAny_bind flies))
  | @bare x c ts b₀ suite np pos' hds2 l2 hc su r ih =>
    rintro ⟨b, hb, yes, no⟩
    refine wpAny_handleBy_cons (codeAny_handlers_test (asks hc hb ?_)) (by intro q; cases q)
    cases b with
    | false => exact ih (no rfl)
    | true =>
      refine codeAny_handlers_suite (HandSPX.lands_againZ fl3 fun h4 fl4 up4 => ?_)
      obtain ⟨oe4, vs4, he4, hz4, hd4⟩ := fl4.there
      refine wpAny_mono ((su ea oe4 cls d (X.pn ++ pins) hz4 ⟨_, hd4⟩).run [] _ _ H _ ((landed fl4 (up3.trans up4)).suite he4 hd4 na n1 n2) (yes rfl ea na)) (fun f s6 z => ?_) (fun _ _ z => z.elim)
      cases f with
      | next => exact let ⟨_, _, S6, q6⟩ := z; ⟨_, _, S6.unsuite ok, q6⟩
      | brk => exact let ⟨_, _, S6, q6⟩ := z; ⟨_, _, S6.unsuite ok, q6⟩
      | cont => exact let ⟨_, _, S6, q6⟩ := z; ⟨_, _, S6.unsuite ok, q6⟩
      | ret u => exact let ⟨_, _, _, S6, r6, q6⟩ := z; ⟨_, _, _, S6.unsuite ok, r6, q6⟩
  | @named x n c i ts b₀ suite np pos' hds2 l2 hN hi hn hc su r ih =>
    rintro ⟨b, hb, yes, no⟩
    refine wpAny_handleBy_cons (codeAny_handlers_test (asks hc hb ?_)) (by intro q; cases q)
    cases b with
    | false => exact ih (no rfl)
    | true =>
      refine codeAny_handlers_suite_as (HandSPX.lands_againZ fl3 fun h4 fl4 up4 => ?_)
      obtain ⟨oe4, vs4, he4, hz4, hd4⟩ := fl4.there
      refine store_ok (X := X.suite ea ((ea, oe4) :: (X.pn ++ pins))) (v := .ref ea) ((landed fl4 (up3.trans up4)).suite he4 hd4 na n1 n2) hN hi (.inl hn) rfl (fun s5 S5 => ?_) (.inr hn)
      refine wpAny_mono ((su ea oe4 cls d (X.pn ++ pins) hz4 ⟨_, hd4⟩).run [] s5 _ H _ S5 (yes rfl ea na)) (fun f s6 z => ?_) (fun _ _ z => z.elim)
      have gone : ∀ {σ6 : L2.St} {H6 : Hp} {Q : Shared → Prop}, Inv (X.suite ea ((ea, oe4) :: (X.pn ++ pins))) [] σ6 H6 s6 → (∀ s7, Inv X pins (σ6.set i none) H6 s7 → Q s7) → wpAny (model X.prog X.w) X.A (do bindName X.env n .none; unbindBehindTheSuite X.env n pos') (fun _ s7 => Q s7) X.xe s6 := fun S6 hq => gone_ok (S6.unsuite ok) hN hi hn hq
      cases f with
      | next => exact let ⟨_, _, S6, q6⟩ := z; gone S6 fun s7 J7 => ⟨_, _, J7, q6⟩
      | brk => exact let ⟨_, _, S6, q6⟩ := z; gone S6 fun s7 J7 => ⟨_, _, J7, q6⟩
      | cont => exact let ⟨_, _, S6, q6⟩ := z; gone S6 fun s7 J7 => ⟨_, _, J7, q6⟩
      | ret u => exact let ⟨_, _, _, S6, r6, q6⟩ := z; gone S6 fun s7 J7 => ⟨_, _, _, J7, r6, q6⟩
theorem ps_try_hds (own : X.stack = X.env :: X.outer) (fr : X.env.frame = some X.env.locals) (tk : L2N.Takes X Wout)
    (hb : ∀ (W : WX) (pn : List (Addr × Obj)) (xe : Value → Shared → Prop), L2N.Takes (X.tr pn xe) W → PassesOwn (model X.prog X.w) X.A X.env xe → PSs (X.tr pn xe) body (tb W)) (hh : Hds X (h₀ :: hds) l) :
    PS X (.Try body (h₀ :: hds) [] [] pos) (fun D σ H => tb (wHds X.K Wout D l) D σ H) := ⟨fun pins s σ H D I h => by
  have frames : X.A.frames = some (X.env :: X.outer) := by rw [I.ok.frames, own]
  let caught : Value → Shared → Prop := fun e s₁ => wpAny (model X.prog X.w) X.A (noteFrame e X.env) (fun _ s₂ => wpAny (model X.prog X.w) X.A (setFlight e none) (fun _ s₃ => wpAny (model X.prog X.w) X.A (handleBy e X.env (h₀ :: hds)) (SP X pins D) X.xe s₃) X.xe s₂) X.xe s₁
  have inner := hb (wHds X.K Wout D l) (X.pn ++ pins) caught (fun u s' ⟨ea, B, sI, pins', σ', H', cls, d, e, J, nb, up, sky, na, os, ag, w⟩ => by
    subst e
    have sky' : Sky B (X.env :: X.outer) ea (L2N.Zn cls d) X.env.locals s'.heap := by rw [← own]; exact sky
    exact L2N.Sky.land L2N.Zn.steady frames fr sky' fun h3 fl3 up3 => hds_run own fr tk I.ok (J.ofTry I.ok) nb (up.trans up3) fl3 na os ag hh w) PassesOwn.looking
  refine wpAny_Try_except (wpAny_mono (inner.run [] s σ H D (I.toTry _) h) (fun f s1 z => ?_) (fun e s1 he => he))
  cases f with
  | next => exact let ⟨_, _, J, q⟩ := z; wpAny_execs_nil ⟨_, _, J.ofTry I.ok, q⟩
  | brk => exact let ⟨_, _, J, q⟩ := z; ⟨_, _, J.ofTry I.ok, q⟩
  | cont => exact let ⟨_, _, J, q⟩ := z; ⟨_, _, J.ofTry I.ok, q⟩
  | ret u => exact let ⟨_, _, _, J, r, q⟩ := z; ⟨_, _, _, J.ofTry I.ok, r, q⟩⟩
end
end OwnProj
/-! sum(list of ints) while an exception is handled -/
namespace OwnSumH
open PySem PySem.Spec PyProof.Rows L2 L2H OwnHot
section
variable {prog : Program} {w : World} {A : Around} {x1 : Addr} {o1 : Obj} {vs1 : Array Value}
theorem walksH (hh : A.handled = some (.ref x1)) (d1 : o1.data = .fields vs1) (c1 : vs1[2]? = some .none) (I ax : Addr) (hne : ax ≠ I) (hx : x1 ≠ I) (items : Array Value) :
    Walks prog w A I [I, ax, x1] [I] items.size (fun i v => items[i]? = some v) (fun i h => h.IsListIter I ax i ∧ h.IsList ax items ∧ h.get? x1 = some o1) where
  sub := fun b hb => by simp at hb; simp [hb]
  frame := fun _ _ _ st hk => ⟨st.1.at fun o e => hk I (by simp) o e, st.2.1.at fun o e => hk ax (by simp) o e, hk x1 (by simp) _ st.2.2⟩
  item := fun i s Q E hi st hQ => by
    refine wpAny_pyNext_list_item st.1 st.2.1 (x := items[i]) (by simp [hi]) fun h' hit' hs' => ?_
    exact hQ _ h' s.toks (by simp [hi]) ⟨hit', st.2.1.extBut hs'.extBut hne, hs'.extBut _ _ hx st.2.2⟩ fun b o hb e => hs'.extBut b o (fun h => hb (by simp [h])) e
  done := fun s Q E st hQ => list_end ⟨hh, o1, vs1, st.2.2, d1, c1⟩ hx st.1 st.2.1 (by simp) fun h' he' => hQ h' s.toks fun b o hb e => he' b o (fun h => hb (by simp [h])) e
  self := fun _ _ _ _ st hQ => wpAny_pyIter_listiter st.1 hQ
end
theorem cr_sumH {X : Cx} (K : PySem.W.Frag) (hc : HotC X) (hK : X.K = K := by rfl) : CallR X (.builtin "sum") (rSum K) := by
  subst hK
  intro pins s σ H vs us Q I r h
  obtain ⟨a, ns, rfl, hs, q⟩ := h
  obtain ⟨its, rv, hl, _⟩ := I.list hs
  rw [Vals.ref1 r]
  obtain ⟨p, ⟨hh, v1, d1, c1⟩, hp⟩ := hc
  have hx := (I.pin p (List.mem_append_left _ hp)).1
  have hi := rv.ints
  obtain ⟨xs, e⟩ := hi.allInts.items
  have hn : numsOf (intItems xs).toList = ns := by rw [← e]; exact hi.numsOf
  rw [nums_intItems] at hn
  have hl := hl.isList
  rw [e] at hl
  refine call_sum_walkG (iter_intList hl fun s₂ e2 st hfp hlI => ?_)
  subst e2
  have hx2 : (s.heap.push { cls := .type "list_iterator", data := .fields #[.ref a, .int 0 0] }).get? p.1 = some p.2 := Heap.get?_push_of_some _ hx
  have ne : p.1 ≠ s.heap.objs.size := Nat.ne_of_lt (Heap.lt_size hx)
  refine ⟨_, _, _, _, _, _, numAt xs, rfl, walksH (A := X.A.in1) hh d1 c1 _ a hlI ne (intItems xs), ⟨st.1, st.2, hx2⟩, fun b hb => ?_, (fun _ _ => intItems_at), fun h' tk t' hk => ?_⟩
  · rcases List.mem_cons.mp hb with rfl | hb
    · exact hfp _ (by simp)
    · rcases List.mem_cons.mp hb with rfl | hb
      · exact hfp _ (by simp)
      · cases List.mem_singleton.mp hb
        exact Heap.lt_size hx2
  · have kp : ∀ b o, s.heap.get? b = some o → h'.get? b = some o := fun b o e => hk b o (by simpa using Nat.ne_of_lt (Heap.lt_size e)) (Heap.get?_push_of_some _ e)
    have eqs : preSum (numAt xs) (intItems xs).size = ns.sum := by
      have : (intItems xs).size = xs.size := by simp [intItems]
      rw [this, preSum_eq, List.take_of_length_le (by simp), hn]
    rw [eqs]
    exact ⟨.int _, H, I.kept kp, ⟨_, rfl⟩, q⟩
end OwnSumH
/-! Rules of our own: a set of tuples of ints, up to 64 unlike ones, made of a list with repeats, and sorted. -/
namespace OwnTups
open PySem PySem.Spec PyProof.Rows L2
abbrev Tp := Addr × List Int
section order
/-- the probe after c steps -/
abbrev pr (m : Nat) (h : Int) (c : Nat) : SetTable.Probe := nth m (runAt m (SetTable.bits h % (m + 1)) (SetTable.bits h)) c
theorem pr_add (m : Nat) (h : Int) (c q : Nat) : nth m (pr m h c) q = pr m h (c + q) := (nth_add m c _ q).symm
theorem pr_dummy (m : Nat) (h : Int) : ∀ c, (pr m h c).dummy = none
  | 0 => rfl
  | c + 1 => by
    have e : pr m h (c + 1) = adv m (pr m h c) := nth_succ m _ c
    rw [e]
    unfold adv
    split
    · exact pr_dummy m h c
    · exact pr_dummy m h c
theorem pr_way (m : Nat) (h : Int) (c q : Nat) : (nth m (pr m h c) q).j = way m h (c + q) := congrArg SetTable.Probe.j (pr_add m h c q)
/-- unlike ones of a list are no more than it has -/
theorem no_more {α : Type} [DecidableEq α] : ∀ (l D : List α), l.Nodup → (∀ x ∈ l, x ∈ D) → l.length ≤ D.length
  | [], _, _, _ => Nat.zero_le _
  | x :: l, D, hn, hs => by
    have ⟨n1, n2⟩ := List.nodup_cons.mp hn
    have xD := hs x (.head _)
    have i := no_more l (D.erase x) n2 fun y hy => (List.mem_erase_of_ne (fun (e : y = x) => n1 (e ▸ hy))).mpr (hs y (.tail _ hy))
    have := List.length_erase_of_mem xD
    have := List.length_pos_of_mem xD
    rw [List.length_cons]
    omega
end order

structure Big (P : Program) (w : World) (h : Heap) (a : Addr) (L : List Tp) (es : Array (Int × Value)) (ep : Nat) (t : SetTable) : Prop where
  obj : ∃ o, h.get? a = some o ∧ o.ExactSet ∧ o.data = .set es ep t
  row : es.toList = rowsOf P w L
  tb : TabOk t (L.map fun q => thash P w q.2)
  dif : (L.map (·.2)).Nodup
  are : ∀ q ∈ L, IsT P w h q.2 q.1
  pln : t.plain = true
  ord : w.params.followText "set-order" = true ∨ t.led = true
  free : L.length * 5 < t.mask * 3
section
variable {P : Program} {w : World} {A : Around} {E : Value → Shared → Prop} {s : Shared} {a : Addr} {L : List Tp} {es : Array (Int × Value)} {ep : Nat} {t : SetTable}
theorem Big.small (B : Big P w s.heap a L es ep t) (f : L.length < 64) : SetTR P w s.heap a L es ep t := ⟨B.obj, B.row, B.tb, B.dif, B.are, B.pln, B.ord, B.free, f⟩
theorem Big.of {h : Heap} (R : SetTR P w h a L es ep t) : Big P w h a L es ep t := ⟨R.ob, R.rows, R.tab, R.nd, R.tup, R.plain, R.led, R.room⟩
theorem Big.len (B : Big P w s.heap a L es ep t) : es.size = L.length := by
  rw [← Array.length_toList, B.row]
  unfold rowsOf
  exact List.length_map ..
theorem Big.place (B : Big P w s.heap a L es ep t) : t.place.size = L.length := B.tb.sz.trans (List.length_map ..)
theorem Big.fit (B : Big P w s.heap a L es ep t) : t.fits es.size = true := by
  have e1 := B.place
  have e2 := B.len
  have e3 := B.free
  unfold SetTable.fits SetTable.fill
  simp only [B.tb.dm, Bool.and_eq_true, beq_iff_eq, decide_eq_true_eq]
  exact ⟨e1.trans e2.symm, by show t.place.size + 0 ≤ _; omega⟩
theorem Big.ent (B : Big P w s.heap a L es ep t) {i : Nat} {q : Tp} (h : L[i]? = some q) : es[i]? = some (thash P w q.2, Value.ref q.1) := by
  have e : es.toList[i]? = some (thash P w q.2, Value.ref q.1) := by
    rw [B.row]
    simp only [rowsOf, List.getElem?_map, h, Option.map_some]
  rwa [Array.getElem?_toList] at e
theorem Big.whole (B : Big P w s.heap a L es ep t) : ¬ t.gaveWay = true := by
  unfold SetTable.gaveWay
  simp [mask_odd B.tb.mok]

/-- the search for a tuple, c steps on -/
theorem look (B : Big P w s.heap a L es ep t) {x : Addr} {k : List Int} (hx : IsT P w s.heap k x) (hu : A.units < cLine) {n : Nat} (n1 : n < 10 * SetTable.turns t.mask)
    (n2 : way t.mask (thash P w k) n ∉ t.place.toList) (n3 : ∀ c, c < n → way t.mask (thash P w k) c ∈ t.place.toList) {Q : SetFound → Shared → Prop}
    (yes : k ∈ L.map (·.2) → Q (.there none) s) (no : k ∉ L.map (·.2) → Q (.free (way t.mask (thash P w k) n) false) s) :
    ∀ (f c : Nat) (st : Option SetTable.Probe), st.getD (t.probeStart (thash P w k)) = pr t.mask (thash P w k) c → c ≤ n → n < c + f →
      (∀ (i : Nat) q, L[i]? = some q → q.2 = k → ∃ d, c ≤ d ∧ d < n ∧ t.place.toList[i]? = some (way t.mask (thash P w k) d)) →
      wpAny (model P w) A (setSearchFrom a (.ref x) (thash P w k) true f st) Q E s := by
  obtain ⟨o, ho, hex, hd⟩ := B.obj
  intro f
  induction f with
  | zero => intro c st _ h1 h2; omega
  | succ f ih =>
    intro c st hst hc hf hre
    rw [setSearchFrom_succ]
    refine wpAny_bind (wpAny_setState_of ho hd B.fit ?_)
    dsimp only
    refine wp_if_neg B.whole ?_
    try refine wpAny_bind (wpAny_pure ?_)
    have keyAt : ∀ (i : Nat) q, L[i]? = some q → (es[i]?.map (·.1)).getD 0 = thash P w q.2 := fun i q hq => by
      simp only [B.ent hq, Option.map_some, Option.getD_some]
    have two := go_spec t B.tb.ris B.tb.dm (fun i => (es[i]?.map (·.1)).getD 0) (thash P w k) (10 * SetTable.turns t.mask) (n - c) (pr t.mask (thash P w k) c) (pr_dummy _ _ c) (by omega)
      (fun q hq => by rw [pr_way]; exact n3 _ (by omega)) (by rw [pr_way, Nat.add_sub_cancel' hc]; exact n2)
    rcases two with ⟨q, i, hq, hi, hh, hno, hp⟩ | ⟨hno, hp⟩
    · rw [pr_way] at hi hp
      rw [pr_add] at hp
      have hp' : t.probe (fun i => (es[i]?.map (·.1)).getD 0) (thash P w k) (st.getD (t.probeStart (thash P w k))) = some (.candidate (way t.mask (thash P w k) (c + q)) i (pr t.mask (thash P w k) (c + (q + 1)))) := by
        rw [hst]
        exact hp
      rw [hp']
      dsimp only
      have il : i < L.length := by
        have h1 := (List.getElem?_eq_some_iff.mp hi).1
        rw [Array.length_toList, B.place] at h1
        exact h1
      obtain ⟨p, hpi⟩ : ∃ p, L[i]? = some p := ⟨_, List.getElem?_eq_getElem il⟩
      have hmem := List.mem_of_getElem? hpi
      have live := slot_live B.tb.ris hi
      have go : wpAny (model P w) A (searchRest a (.ref x) (thash P w k) true f es t (way t.mask (thash P w k) (c + q)) i (pr t.mask (thash P w k) (c + (q + 1)))) Q E s := by
        unfold searchRest
        rw [B.ent hpi]
        dsimp only
        refine wpAny_bind (wpAny_holding (wpAny_eqBool_tuple hu (B.are p hmem) hx (wpAny_bind (wpAny_setState_of ho hd B.fit ?_))))
        dsimp only
        by_cases same : p.2 = k
        · refine wp_if_pos (by simp [same]) (wpAny_pure (yes (List.mem_map.mpr ⟨p, hmem, same⟩)))
        · refine wp_if_neg (by simp [same]) ?_
          try refine wpAny_bind (wpAny_pure ?_)
          rw [sameMem]
          dsimp only
          simp only [if_true, live, B.ent hpi]
          refine wpAny_bind (wpAny_isSame_ref_self (wpAny_bind (wpAny_pure ?_)))
          simp only [if_true]
          refine wp_if_neg (by simp [same]) (ih (c + (q + 1)) _ rfl (by omega) (by omega) fun i2 p2 h2 k2 => ?_)
          obtain ⟨d, d1, d2, d3⟩ := hre i2 p2 h2 k2
          refine ⟨d, ?_, d2, d3⟩
          by_cases lt : d < c + q
          · exact absurd ((keyAt i2 p2 h2).trans (congrArg (thash P w) k2)) (hno (d - c) i2 (by omega) (by rw [pr_way, Nat.add_sub_cancel' d1]; exact d3))
          · by_cases eq : d = c + q
            · subst eq
              have z := (slot_live B.tb.ris d3).symm.trans live
              injection z with z
              subst z
              obtain rfl : p2 = p := Option.some.inj (h2.symm.trans hpi)
              exact absurd k2 same
            · omega
      by_cases hl : t.led = true
      · refine wp_if_neg (by simp [hl]) ?_
        try refine wpAny_bind (wpAny_pure ?_)
        exact go
      · refine wp_if_pos (by simp [hl]) (wpAny_bind (seen_tup hx (fun y hy => ?_) ?_))
        · obtain ⟨z, hz, e⟩ := List.mem_map.mp hy
          have hz1 : z ∈ es ∧ z.1 = thash P w k := by simpa using hz
          have hz2 : z ∈ rowsOf P w L := by
            rw [← B.row]
            exact Array.mem_toList_iff.mpr hz1.1
          obtain ⟨p2, m2, e2⟩ := List.mem_map.mp hz2
          exact ⟨p2.2, p2.1, by rw [← e, ← e2], B.are p2 m2⟩
        · refine wp_if_neg (by decide) ?_
          try refine wpAny_bind (wpAny_pure ?_)
          exact go
    · rw [pr_way, Nat.add_sub_cancel' hc] at hp
      have hp' : t.probe (fun i => (es[i]?.map (·.1)).getD 0) (thash P w k) (st.getD (t.probeStart (thash P w k))) = some (.empty (way t.mask (thash P w k) n) none) := by
        rw [hst]
        exact hp
      rw [hp']
      dsimp only
      refine wpAny_pure (no fun hm => ?_)
      obtain ⟨p, hpm, hpk⟩ := List.mem_map.mp hm
      obtain ⟨i, il, e⟩ := List.getElem_of_mem hpm
      have hpi : L[i]? = some p := by rw [List.getElem?_eq_getElem il, e]
      obtain ⟨d, d1, d2, d3⟩ := hre i p hpi hpk
      exact hno (d - c) i (by omega) (by rw [pr_way, Nat.add_sub_cancel' d1]; exact d3) ((keyAt i p hpi).trans (congrArg (thash P w) hpk))
/-- the search as a whole -/
theorem look_all (B : Big P w s.heap a L es ep t) {x : Addr} {k : List Int} (hx : IsT P w s.heap k x) (hu : A.units < cLine) {Q : SetFound → Shared → Prop}
    (yes : k ∈ L.map (·.2) → Q (.there none) s)
    (no : ∀ n, k ∉ L.map (·.2) → way t.mask (thash P w k) n ∉ t.place.toList → (∀ c, c < n → way t.mask (thash P w k) c ∈ t.place.toList) → Q (.free (way t.mask (thash P w k) n) false) s) :
    wpAny (model P w) A (setSearch a (.ref x) (thash P w k) true) Q E s := by
  have fr := B.free
  obtain ⟨n, n1, n2, n3⟩ := B.tb.first (by rw [List.length_map]; omega) (thash P w k)
  have low : n < 100000 := by
    have : SetTable.turns t.mask ≤ 1000 := by
      unfold SetTable.turns
      rcases B.tb.mok with e | e | e <;> omega
    omega
  unfold setSearch
  refine look B hx hu n1 n2 n3 yes (fun h => no n h n2 n3) 100000 0 none rfl (Nat.zero_le _) (by omega) fun i q hq hk => ?_
  have i1 : (L.map fun q => thash P w q.2)[i]? = some (thash P w k) := by rw [List.getElem?_map, hq, ← hk] <;> rfl
  have i2 : i < t.place.toList.length := by
    rw [Array.length_toList, B.place]
    exact (List.getElem?_eq_some_iff.mp hq).1
  obtain ⟨d, d1, d2⟩ := B.tb.before n2 i1 (List.getElem?_eq_getElem i2)
  exact ⟨d, Nat.zero_le _, d1, by rw [List.getElem?_eq_getElem i2, d2]⟩
/-- one tuple more -/
theorem put_in (B : Big P w s.heap a L es ep t) {x : Addr} {k : List Int} (hx : IsT P w s.heap k x) (hu : A.units < cLine) (hn : L.length ≤ 70) {Q : Bool → Shared → Prop}
    (hQ : ∀ b h' L' es' ep' t', Heap.SameBut a s.heap h' → Big P w h' a L' es' ep' t' → (k ∈ L.map (·.2) → L' = L) → (k ∉ L.map (·.2) → L'.Perm ((x, k) :: L)) → Q b { s with heap := h' }) :
    wpAny (model P w) A (setAddHashed a (.ref x) (thash P w k)) Q E s := by
  by_cases few : L.length + 1 < 64
  · exact add_at (B.small (by omega)) hx hu few fun b h' L' es' ep' t' sb R c1 c2 => hQ b h' L' es' ep' t' sb (.of R) c1 c2
  have fr := B.free
  have big : t.mask = 127 := by
    rcases B.tb.mok with e | e | e <;> omega
  obtain ⟨o, ho, hex, hd⟩ := B.obj
  unfold setAddHashed
  refine wpAny_holding ?_
  rw [show (100000 : Nat) = 99999 + 1 from rfl, setAddHashedIn_succ]
  refine wpAny_bind (wpAny_setState_of ho hd B.fit ?_)
  dsimp only
  refine wp_if_neg (by simp [byScan, Value.scannable]) ?_
  try refine wpAny_bind (wpAny_pure ?_)
  refine wpAny_bind (look_all B hx hu (fun hm => ?_) fun n hm n2 n3 => ?_)
  · dsimp only
    exact wpAny_pure (hQ false s.heap L es ep t (Heap.SameBut.refl a s.heap) B (fun _ => rfl) fun z => absurd hm z)
  dsimp only
  refine wpAny_bind (wpAny_setState_of ho hd B.fit ?_)
  dsimp only
  obtain ⟨p1, p2, p3, p4, p5, p6, _, _, p9⟩ := B.tb.put n2 n3
  generalize t.put (way t.mask (thash P w k) n) = tp at p1 p3 p4 p5 p6 p9 ⊢
  obtain ⟨u, i⟩ := tp
  dsimp only at p1 p3 p4 p5 p6 p9 ⊢
  have pl : u.plain = true := p6.trans B.pln
  first
    | (refine wpAny_bind ?_; refine wp_if_pos pl ?_; refine hashBy_tup hx ?_)
    | refine wp_if_pos pl (wpAny_bind (hashBy_tup hx ?_))
  simp only [if_true]
  rw [← p1] at p2 p3
  have pm := put_perm L i (x, k)
  have ins : (SetTable.insertAt es i (thash P w k, Value.ref x)).toList = rowsOf P w (L.take i ++ (x, k) :: L.drop i) := by rw [SetTable.toList_insertAt, rows_put, B.row]
  have keys : (L.map fun q => thash P w q.2).take i ++ thash P w k :: (L.map fun q => thash P w q.2).drop i = (L.take i ++ (x, k) :: L.drop i).map fun q => thash P w q.2 := by
    rw [List.map_append, List.map_cons, List.map_take, List.map_drop]
  rw [keys] at p3
  have dif : ((L.take i ++ (x, k) :: L.drop i).map (·.2)).Nodup := (pm.map (·.2)).nodup_iff.mpr (by rw [List.map_cons]; exact List.nodup_cons.mpr ⟨hm, B.dif⟩)
  generalize L.take i ++ (x, k) :: L.drop i = N at pm ins p3 dif
  have ln : N.length = L.length + 1 := pm.length_eq
  have sz : (SetTable.insertAt es i (thash P w k, Value.ref x)).size = L.length + 1 := by
    rw [← Array.length_toList, ins, ← ln]
    unfold rowsOf
    exact List.length_map ..
  generalize SetTable.insertAt es i (thash P w k, Value.ref x) = fs at ins sz ⊢
  refine wpAny_bind (wpAny_storeSet_of ho hd ?_ (by rw [sz, sizeLine_eq]; omega))
  have sb : Heap.SameBut a s.heap (s.heap.update a (Obj.putSet fs u)) := Heap.SameBut.update ..
  have ho2 := store_at (es' := fs) (t' := u) ho hd
  generalize s.heap.update a (Obj.putSet fs u) = g at sb ho2 ⊢
  have roomy : ¬ u.tooFull = true := by
    unfold SetTable.tooFull
    rw [decide_eq_true_eq, p9, p4, big, List.length_map]
    omega
  first
    | refine wp_if_neg (by simp [roomy]) ?_
    | (refine wpAny_bind ?_; refine wp_if_neg (by simp [roomy]) ?_; refine wpAny_pure ?_)
  refine wpAny_pure (hQ true g N fs (ep + 1) u sb ⟨⟨_, ho2, ⟨hex.1, hex.2.1, hex.2.2⟩, rfl⟩, ins, p3, dif, fun q hq => ?_, pl, by rw [p5]; exact B.ord, by rw [p4, big, ln]; omega⟩ (fun z => absurd z hm) fun _ => pm)
  rcases List.mem_cons.mp (pm.mem_iff.mp hq) with e | hq
  · rw [e]
    exact isT_same hx ho hd sb
  · exact isT_same (B.are q hq) ho hd sb
theorem Big.stay {h h' : Heap} (B : Big P w h a L es ep t) (k1 : ∀ o, h.get? a = some o → h'.get? a = some o) (k2 : ∀ q ∈ L, IsT P w h' q.2 q.1) : Big P w h' a L es ep t :=
  let ⟨o, ho, r⟩ := B.obj
  ⟨⟨o, k1 o ho, r⟩, B.row, B.tb, B.dif, k2, B.pln, B.ord, B.free⟩

/-- set(xs): the walk over the list, item by item -/
theorem walk_in {I : Addr} {fp wr : List Addr} {G : Array GenState → Array GenState → Prop} {n : Nat} {Pv : Nat → Value → Prop} {St : Nat → Shared → Prop} {R : Result → Shared → Prop}
    (W : WalksS P w A.in1 I fp wr G n Pv St) (S : Addr) (hS : S ∉ fp) (ks : List Tp) (D : List (List Int)) (hD : D.length ≤ 64) (hk : ∀ q ∈ ks, q.2 ∈ D) (hn : n = ks.length) (val : ∀ i v, Pv i v → ∃ q, ks[i]? = some q ∧ v = .ref q.1)
    (g : Heap) (are : ∀ q ∈ ks, IsT P w g q.2 q.1) (gS : g.get? S = none) (gw : ∀ b ∈ wr, g.get? b = none) (hu : A.in1.units < cLine) :
    ∀ (m i : Nat) (s : Shared), n - i = m → i ≤ n → St i s → (∀ b o, g.get? b = some o → s.heap.get? b = some o) → (∃ L es ep t, Big P w s.heap S L es ep t ∧ Got ks i L) →
      (∀ s' L es ep t, Moved (S :: wr) G s s' → Big P w s'.heap S L es ep t → Got ks n L → (∀ b o, g.get? b = some o → s'.heap.get? b = some o) → R (.ok (.ret .none)) s') →
      codeAny (model P w) A (.builtin "set.update.loop" ⟨[.ref S, .ref I], []⟩) R s := by
  have Sw : S ∉ wr := fun h => hS (W.sub _ h)
  have more : ∀ b ∈ wr, b ∈ S :: wr := fun b hb => .tail _ hb
  have old : ∀ {s s' : Shared}, Moved wr G s s' → (∀ b o, g.get? b = some o → s.heap.get? b = some o) → ∀ b o, g.get? b = some o → s'.heap.get? b = some o := fun hm h b o e =>
    hm.heap b o (fun hb => nomatch (gw b hb).symm.trans e) (h b o e)
  intro m
  induction m with
  | zero =>
    intro i s hm hi st hg ⟨L, es, ep, t, B, got⟩ fin
    obtain rfl : i = n := by omega
    refine codeAny_builtin F.entry_set_update_loop ?_
    rw [Around.under_plainId F.plain_set_update_loop _]
    refine wpAny_bind (W.done s _ _ st fun s' mv => ?_)
    have g2 := old mv hg
    exact wpAny_pure (fin s' L es ep t (mv.mono more) (B.stay (fun o e => mv.heap S o Sw e) fun q hq => isT_keep (are q (List.mem_of_mem_take (got.sub q hq))) g2) got g2)
  | succ m ih =>
    intro i s hm hi st hg ⟨L, es, ep, t, B, got⟩ fin
    have lt : i < n := by omega
    refine codeAny_builtin F.entry_set_update_loop ?_
    rw [Around.under_plainId F.plain_set_update_loop _]
    refine wpAny_bind (W.item i s _ _ lt st fun v s' hv st' mv => ?_)
    obtain ⟨q, hq, rfl⟩ := val i v hv
    have g2 := old mv hg
    have inks : ∀ p ∈ L, p ∈ ks := fun p hp => List.mem_of_mem_take (got.sub p hp)
    have B2 : Big P w s'.heap S L es ep t := B.stay (fun o e => mv.heap S o Sw e) fun p hp => isT_keep (are p (inks p hp)) g2
    have xq : IsT P w s'.heap q.2 q.1 := isT_keep (are q (List.mem_of_getElem? hq)) g2
    refine wpAny_bind (wpAny_holding ?_)
    unfold setAdd
    refine wpAny_holding (wpAny_bind (wpAny_pyHash_tuple hu xq ?_))
    have few : L.length ≤ 64 := by
      have := no_more (L.map (·.2)) D B.dif fun k hk' => by
        obtain ⟨p, hp, rfl⟩ := List.mem_map.mp hk'
        exact hk p (inks p hp)
      rw [List.length_map] at this
      omega
    refine put_in (s := { s' with toks := s'.toks + (q.2.length + 1) }) B2 xq hu (by omega) fun b h' L' es' ep' t' sb B3 c1 c2 => ?_
    have got2 : Got ks (i + 1) L' := (Classical.em (q.2 ∈ L.map (·.2))).elim (fun c => by rw [c1 c]; exact got.same hq c) fun c => got.more hq (c2 c)
    have g3 : ∀ b o, g.get? b = some o → h'.get? b = some o := fun b o e => (sb.2 b fun z => nomatch (z ▸ gS).symm.trans e).trans (g2 b o e)
    refine wpAny_pure ⟨plainId_quiet F.plain_set_update_loop _, ih (i + 1) _ (by omega) lt (W.frame _ s' _ _ st' (Nat.le_add_right _ _) fun b hb o e => ?_) g3 ⟨L', es', ep', t', B3, got2⟩ fun s3 L3 es3 ep3 t3 mv3 B4 got3 g4 => ?_⟩
    · exact (sb.2 b fun z => hS (z ▸ hb)).trans e
    · exact fin s3 L3 es3 ep3 t3 (Moved.trans W.gtrans ((mv.mono more).then_heap (Nat.le_add_right _ _) fun b o hb e => (sb.2 b fun z => hb (z ▸ .head _)).trans e) mv3) B4 got3 g4
/-- a fresh set and a list of tuples: the set's beginning -/
theorem begins {S l : Addr} {items : Array Value} (ks : List Tp) (D : List (List Int)) (hD : D.length ≤ 64) (hk : ∀ q ∈ ks, q.2 ∈ D) {Q : Value → Shared → Prop} (hh : A.handled = none) (hl : s.heap.IsList l items) (hit : items.toList = ks.map fun q => Value.ref q.1)
    (g : Heap) (hg : ∀ b o, g.get? b = some o → s.heap.get? b = some o) (are : ∀ q ∈ ks, IsT P w g q.2 q.1) (gS : g.get? S = none) (gI : ∀ b, s.heap.objs.size ≤ b → g.get? b = none) (ne : l ≠ S) (hu : A.units + 3 < cLine)
    (ho : s.heap.get? S = some { cls := .type "set", dict := none, data := .set #[] 0 (.fresh 0 0 (!w.params.followText "set-order")) })
    (h : ∀ (h' : Heap) (tk : Nat) L es ep t, Big P w h' S L es ep t → Got ks ks.length L → (∀ b o, g.get? b = some o → h'.get? b = some o) → Q .none { s with heap := h', toks := tk }) :
    codeAny (model P w) A (.call (.builtin "set.__init__") ⟨[.ref S, .ref l], []⟩) (wants Q E) s := by
  have hT : s.TypeIs (.ref S) "set" := ⟨_, ho, rfl⟩
  have hsz : items.size = ks.length := by
    rw [← Array.length_toList, hit]
    exact List.length_map ..
  refine codeAny_call_builtin F.called_set.init.plain F.entry_set_init (check_set_init_1 hT ?_)
  obtain ⟨ol, hol, hcl, nl, hdl⟩ := id hl
  obtain ⟨ocls, odict, odata, oslots⟩ := ol
  obtain rfl : ocls = _ := hcl
  obtain rfl : odata = _ := hdl
  have c1 := F.sub_list_set; have c2 := F.sub_list_frozenset
  have c3 : (Value.type "list" == Value.type "dict") = false := by decide
  unfold Builtin.«set.__init__» noKeywords Builtin.Frozenset.updateFrom
  generalize hPI : pyIter = PI
  wp_walk
  subst hPI
  have lS : S < s.heap.objs.size := Heap.lt_size ho
  have ll : l < s.heap.objs.size := Heap.lt_size hol
  refine wpAny_pyIter_list (s := ⟨s.heap, s.gens, s.drawn, s.toks, s.os⟩) hl (wpAny_bind (wpAny_runValue ?_))
  have h3 : A.in1.in1.handled = none := hh
  have val : ∀ (i : Nat) (v : Value), items[i]? = some v → ∃ q, ks[i]? = some q ∧ v = .ref q.1 := fun i v hv => by
    have e : items.toList[i]? = some v := by rw [Array.getElem?_toList]; exact hv
    rw [hit, List.getElem?_map] at e
    obtain ⟨q, hq, e2⟩ := Option.map_eq_some_iff.mp e
    exact ⟨q, hq, e2.symm⟩
  have fresh := setTR_fresh (P := P) (w := w) (h := s.heap.push { cls := .type "list_iterator", data := .fields #[.ref l, .int 0 0] }) (a := S) (Heap.get?_push_of_some _ ho)
  refine walk_in ((Walks.list h3 s.heap.objs.size l (Nat.ne_of_lt ll) items).toS) S ?_ ks D hD hk hsz val g are gS (fun b hb => ?_) (by show A.units + 1 + 1 < _; omega) (items.size - 0) 0 _ (by omega) (Nat.zero_le _) ⟨⟨_, Heap.get?_push_size _ rfl, rfl, rfl⟩, hl.push _⟩ (fun b o e => Heap.get?_push_of_some _ (hg b o e)) ⟨[], #[], 0, _, .of fresh, Got.zero ks⟩ fun s2 L es ep t mv B got g2 => ?_
  · intro z
    rcases List.mem_cons.mp z with z | z
    · exact Nat.ne_of_lt lS z
    · exact ne (List.mem_singleton.mp z).symm
  · exact gI b (Nat.le_of_eq (List.mem_singleton.mp hb).symm)
  · obtain ⟨h2, g3, d2, t2, o2⟩ := s2
    obtain rfl : g3 = s.gens := mv.gens
    obtain rfl : d2 = s.drawn := mv.drawn
    obtain rfl : o2 = s.os := mv.os
    rw [hsz] at got
    have fin : Q .none { s with heap := h2, toks := t2 } := h h2 t2 L es ep t B got g2
    exact wpAny_pure (wpAny_pure fin)
theorem set_of {l : Addr} {items : Array Value} (ks : List Tp) (D : List (List Int)) (hD : D.length ≤ 64) (hk : ∀ q ∈ ks, q.2 ∈ D) {Q : Value → Shared → Prop} (hh : A.handled = none) (hl : s.heap.IsList l items) (hit : items.toList = ks.map fun q => Value.ref q.1)
    (are : ∀ q ∈ ks, IsT P w s.heap q.2 q.1) (hu : A.units + 8 < cLine)
    (h : ∀ (h' : Heap) (tk : Nat) L es ep t, Big P w h' s.heap.objs.size L es ep t → Got ks ks.length L → (∀ b o, s.heap.get? b = some o → h'.get? b = some o) → Q (.ref s.heap.objs.size) { s with heap := h', toks := tk }) :
    wpAny (model P w) A (call (.type "set") [.ref l]) Q E s := by
  have ll : l < s.heap.objs.size := let ⟨o, e, _⟩ := hl; Heap.lt_size e
  have nil : ∀ b, s.heap.objs.size ≤ b → s.heap.get? b = none := fun b hb => by
    cases e : s.heap.get? b with
    | none => rfl
    | some o => exact absurd (Heap.lt_size e) (Nat.not_lt.mpr hb)
  refine OwnSet.made_then (Q1 := fun obj s1 => obj = .ref s.heap.objs.size ∧ s1 = { s with heap := s.heap.push { cls := .type "set", dict := none, data := .set #[] 0 (.fresh 0 0 (!w.params.followText "set-order")) } }) F.called_set (F.typeCall_set_1 (.ref l)) (code_set_led1 (.ref l) ⟨rfl, rfl⟩) ?_
  rintro obj s1 ⟨rfl, rfl⟩
  have hS := Heap.get?_push_size s.heap (o := { cls := .type "set", dict := none, data := .set #[] 0 (.fresh 0 0 (!w.params.followText "set-order")) }) rfl
  refine ⟨⟨_, hS, rfl⟩, begins (Q := fun r s2 => r = .none ∧ Q (.ref s.heap.objs.size) s2) ks D hD hk hh (hl.push _) hit s.heap (fun b o e => Heap.get?_push_of_some _ e) are (nil _ (Nat.le_refl _)) (fun b hb => nil b ?_) (Nat.ne_of_lt ll) (by show A.units + 1 + 3 < _; omega) hS fun h' tk L es ep t B got k => ⟨rfl, h h' tk L es ep t B got k⟩⟩
  have : (s.heap.push { cls := .type "set", dict := none, data := .set #[] 0 (.fresh 0 0 (!w.params.followText "set-order")) }).objs.size = s.heap.objs.size + 1 := size_push' _ _
  rw [show ({ s with heap := s.heap.push { cls := .type "set", dict := none, data := .set #[] 0 (.fresh 0 0 (!w.params.followText "set-order")) } } : Shared).heap.objs.size = s.heap.objs.size + 1 from this] at hb
  omega
end

/-! ### sorted -/
open PySem.W (EachIs AllAlike Sortable SortsAt dataKind)
def full : PyData → Bool
  | .tuple (_ :: _) => true
  | _ => false
theorem full_no {d : PyData} (h : ∃ xs, d = .tuple xs) (f : full d = false) : d = .tuple [] := by
  obtain ⟨xs, rfl⟩ := h
  cases xs with
  | nil => rfl
  | cons x xs => exact absurd f (by simp [full])
theorem full_yes {d : PyData} (h : full d = true) : ∃ x r, d = .tuple (x :: r) := by
  match d, h with
  | .tuple (x :: r), _ => exact ⟨x, r, rfl⟩
section
variable {M : Model} {A : Around} {E : Value → Shared → Prop} {s : Shared}
theorem firsts : ∀ {vs : List Value} {ds : List PyData} {Q : List (Option Value) → Shared → Prop}, EachIs (fun v d => ∃ as, Reads s.heap v d as) vs ds → (∀ d ∈ ds, ∃ xs, d = .tuple xs) →
    (∀ fo : List (Option Value), fo.map (·.isSome) = ds.map full → Q fo s) → wpAny M A (vs.mapM firstOfTuple') Q E s
  | _, _, Q, .nil, _, h => by
    rw [List.mapM_nil]
    exact wpAny_pure (h [] rfl)
  | _, _, Q, .cons (b := d) ⟨as, r⟩ t, ht, h => by
    obtain ⟨xs, rfl⟩ := ht d (.head _)
    cases r with
    | @tuple c o us n _ _ ho hc hd hr =>
      rw [List.mapM_cons]
      refine wpAny_bind ?_
      rw [PySem.W.kas_first_eq]
      refine wpAny_bind (PySem.W.Looks.here (show PySem.W.Looks M s.heap (typeOf (.ref c)) o.cls from (PySem.W.Looks.ld ho).andThen .now) ?_)
      rw [hc, if_neg (by first | decide | simp)]
      refine wpAny_bind (listItems_at ho hd (wpAny_pure (wpAny_bind (firsts t (fun d hd => ht d (.tail _ hd)) fun fo e => wpAny_pure (h _ ?_)))))
      rw [List.map_cons, List.map_cons, e]
      refine congrArg (· :: _) ?_
      have ln : us.toList.length = xs.length := SeqAt.ReadsAll.length _ _ _ hr
      rw [Array.length_toList] at ln
      cases xs with
      | nil =>
        have : us = #[] := Array.eq_empty_of_size_eq_zero ln
        subst this
        rfl
      | cons x xs =>
        have : 0 < us.size := by rw [ln]; exact Nat.succ_pos _
        rw [Array.getElem?_eq_getElem this]
        rfl
theorem tup_looks {v : Value} {d : PyData} {as : List Addr} (r : Reads s.heap v d as) (h : ∃ xs, d = .tuple xs) : PySem.W.Looks M s.heap (typeOf v) (.type "tuple") := by
  obtain ⟨xs, rfl⟩ := h
  exact PySem.W.looks_reads r
theorem kind_mixed {d0 : PyData} {ds : List PyData} {vs : List Value} {Q : SortKind → Shared → Prop} (e : EachIs (fun v d => ∃ as, Reads s.heap v d as) vs (d0 :: ds)) (ht : ∀ d ∈ d0 :: ds, ∃ xs, d = .tuple xs)
    (no : ∃ d ∈ d0 :: ds, full d = false) (h : Q (if full d0 = true then general' else oneType') s) : wpAny M A (keyKind' vs.toArray) Q E s := by
  rw [kat_kind_eq, List.mapM_toArray, map_eq_pure_bind]
  refine wpAny_bind (wpAny_bind (firsts e ht fun fo ef => wpAny_pure ?_))
  have n1 : ¬ (fo.toArray.all fun x => x.isSome) = true := by
    intro al
    obtain ⟨d, hd, f⟩ := no
    have m : full d ∈ fo.map (·.isSome) := ef ▸ List.mem_map.mpr ⟨d, hd, rfl⟩
    obtain ⟨x, hx, ex⟩ := List.mem_map.mp m
    have al2 : fo.all (fun x => x.isSome) = true := by simpa using al
    have := List.all_eq_true.mp al2 x hx
    rw [← ex] at f
    rw [f] at this
    cases this
  rw [if_neg n1]
  obtain ⟨f0, fr, rfl⟩ : ∃ f0 fr, fo = f0 :: fr := by
    cases fo with
    | nil => exact absurd ef (by simp)
    | cons f0 fr => exact ⟨f0, fr, rfl⟩
  have e0 : f0.isSome = full d0 := (List.cons.inj ef).1
  have n2 : ((f0 :: fr).toArray[0]?.bind id).isSome = full d0 := by
    rw [← e0]
    simp
  rw [n2]
  cases hf : full d0 with
  | true =>
    rw [hf, if_pos rfl] at h
    rw [if_pos rfl]
    exact wpAny_pure h
  | false =>
    rw [hf, if_neg (by decide)] at h
    rw [if_neg (by decide), oneTypeOnly'_eq, List.mapM_toArray, map_eq_pure_bind]
    refine wpAny_bind (wpAny_bind (wpAny_bind (PySem.W.kas_mapM (r := Value.type "tuple") _ (fun v hv Q' hq => ?_) (wpAny_pure ?_))))
    · obtain ⟨d, hd, as, r⟩ := e.left v hv
      exact (tup_looks r (ht d hd)).here hq
    · obtain ⟨v0, vr, rfl⟩ : ∃ v0 vr, vs = v0 :: vr := by
        cases e with
        | cons _ _ => exact ⟨_, _, rfl⟩
      have a1 : ((List.map (fun _ => Value.type "tuple") (v0 :: vr)).toArray.all fun x => x == Value.type "tuple") = true := by
        simp only [List.all_toArray, List.all_map, List.all_eq_true]
        exact fun _ _ => beq_self_eq_true _
      have a2 : (List.map (fun _ => Value.type "tuple") (v0 :: vr)).toArray[0]? = some (Value.type "tuple") := by simp
      rw [a2]
      simp only [a1, if_true]
      exact wpAny_pure (wpAny_pure h)
end
section
variable {P : Program} {w : World} {A : Around} {E : Value → Shared → Prop} {s : Shared}
theorem lt_one {xs ys : List PyData} {u v : Value} {as bs : List Addr} {Q : Bool → Shared → Prop} (ra : Reads s.heap u (.tuple xs) as) (rb : Reads s.heap v (.tuple ys) bs) (h : PySem.W.alike (.tuple xs) (.tuple ys) = true)
    (hu : A.units + min (PyData.tuple xs).depth (PyData.tuple ys).depth < cLine) (hq : Q (PySem.W.dataLt (.tuple xs) (.tuple ys)) s) : wpAny (model P w) A (oneLt' true u v) Q E s := by
  have al : PySem.W.alikeAll xs ys = true := by simpa [PySem.W.alike] using h
  cases ra with
  | @tuple l o us n _ _ h1 h2 h3 h4 =>
    cases rb with
    | @tuple l' o' us' n' _ _ k1 k2 k3 k4 =>
      have n1 : us.size = xs.length := by simpa using SeqAt.ReadsAll.length _ _ _ h4
      have n2 : us'.size = ys.length := by simpa using SeqAt.ReadsAll.length _ _ _ k4
      rw [PySem.W.dataLt_tuple, ← PySem.W.firstLt_toks xs ys al, ← n1, ← n2] at hq
      rw [oneLt'_eq]
      simp only [if_true]
      refine wpAny_bind (wpAny_cRoomFor (SeqAt.room_here hu) ?_)
      obtain ⟨cls, dd, data, sl⟩ := o
      obtain ⟨cls2, dd2, data2, sl2⟩ := o'
      simp only at h2 h3 k2 k3
      subst h2 h3 k2 k3
      refine wpAny_bind (wpAny_callSpecialIfBound?_slot (T := "tuple") ⟨_, h1, rfl⟩ PySem.F.slot_tuple_lt
        (PySem.call_meets PySem.F.slot_tuple_lt ⟨_, h1, rfl⟩ PySem.F.entry_tuple_lt (PySem.F.args_tuple_lt_2 _ _) (SeqAt.tuple_ltAt l l' us us' n n' dd dd2 sl sl2 (SeqAt.pairEq xs ys) (fun j => PySem.W.dataLt (xs.getD j .none) (ys.getD j .none)))
          ⟨h1, k1, fun j j1 j2 => ?_, fun j j1 j2 hj => ?_, ?_⟩))
      · have := PySem.W.eqAt_alikeAll xs ys A.in1 s us.toList us'.toList _ _ h4 k4 al (SeqAt.room_in hu) j (by simpa using j1) (by simpa using j2)
        simpa using this
      · have := PySem.W.rcLt_alikeAll xs ys A.in1 s us.toList us'.toList _ _ h4 k4 al (SeqAt.room_in hu) j (by simpa using j1) (by simpa using j2) hj
        simpa using this
      · exact wpAny_truthy_bool hq
theorem sorts {vs : List Value} {ds : List PyData} (e : EachIs (fun v d => ∃ as, Reads s.heap v d as) vs ds) (al : AllAlike ds) (ht : ∀ d ∈ ds, ∃ xs, d = .tuple xs) (hu : ∀ d, d ∈ ds → A.units + d.depth < cLine) : SortsAt P w A s (dataKind s.heap ds) vs := by
  by_cases all : ∀ d ∈ ds, full d = true
  · exact SortsAt.data e al (.inl fun d hd => full_yes (all d hd)) hu
  have no : ∃ d ∈ ds, full d = false := by
    refine Classical.byContradiction fun c => all fun d hd => ?_
    cases f : full d with
    | true => rfl
    | false => exact absurd ⟨d, hd, f⟩ c
  have room : ∀ {d d' : PyData}, d ∈ ds → A.units + min d.depth d'.depth < cLine := fun {d d'} hd => by
    have := hu d hd
    omega
  have notNone : ∀ {d}, d ∈ ds → d ≠ .none := fun {d} hd z => by
    obtain ⟨xs, h⟩ := ht d hd
    rw [z] at h
    cases h
  cases ds with
  | nil => obtain ⟨d, hd, _⟩ := no; cases hd
  | cons d0 ds =>
    refine ⟨fun v hv => ?_, ?_⟩
    · obtain ⟨d, hd, as, r⟩ := e.left v hv
      exact ⟨_, PySem.W.dataKind_some al hd r⟩
    · refine ⟨if full d0 = true then general' else oneType', ?_, fun _ E Q hq => kind_mixed e ht no hq⟩
      intro E x y i j Q hi hj hq
      obtain ⟨d, as, hd, ra, rfl⟩ := PySem.W.dataKind_inv hi
      obtain ⟨d', as', hd', rb, rfl⟩ := PySem.W.dataKind_inv hj
      split
      · exact PySem.W.oneLt_alike (f := false) (fun z => nomatch z) ra rb (al d hd d' hd') (notNone hd) (room hd) hq
      · obtain ⟨xs, rfl⟩ := ht d hd
        obtain ⟨ys, rfl⟩ := ht d' hd'
        exact lt_one ra rb (al _ hd _ hd') (room hd) hq
theorem pull {α β : Type} {f : α → β} {m l : List β} (p : m.Perm l) : ∀ L : List α, m = L.map f → ∃ L' : List α, l = L'.map f ∧ L'.Perm L := by
  induction p with
  | nil => intro L e; exact ⟨L, e, .refl _⟩
  | cons x _ ih =>
    intro L e
    match L, e with
    | y :: L, e =>
      injection e with e1 e2
      obtain ⟨L', h1, h2⟩ := ih L e2
      exact ⟨y :: L', by rw [List.map_cons, e1, h1], h2.cons _⟩
  | swap x y l =>
    intro L e
    match L, e with
    | u :: v :: L, e =>
      injection e with e1 e2
      injection e2 with e2 e3
      exact ⟨v :: u :: L, by rw [List.map_cons, List.map_cons, e1, e2, e3], .swap _ _ _⟩
  | trans _ _ ih1 ih2 =>
    intro L e
    obtain ⟨L1, h1, h2⟩ := ih1 L e
    obtain ⟨L2, h3, h4⟩ := ih2 L1 h1
    exact ⟨L2, h3, h4.trans h2⟩
theorem vals_perm (κ : PyProof.Rows.KeyKind) (vs : List Value) : (PySem.W.sortVals κ false vs vs).Perm vs := by
  unfold PySem.W.sortVals
  have h := (List.mergeSort_perm (vs.zip vs) (PySem.W.sortLe κ.toKeyOrd false fun p : Keyed => PySem.W.keyD κ p.1)).map Prod.snd
  rw [List.map_snd_zip (Nat.le_refl _)] at h
  exact h
theorem alike_tups (ks ms : List Int) : PySem.W.alike (.tuple (ks.map .int)) (.tuple (ms.map .int)) = true := by
  simpa [PySem.W.alike] using PySem.W.alike_ints ks ms
theorem depth_tup (ks : List Int) : (PyData.tuple (ks.map .int)).depth ≤ 1 := by
  rw [PyData.depth, PySem.W.depth_ints]
  exact Nat.le_refl _
variable {a : Addr} {L : List Tp} {es : Array (Int × Value)} {ep : Nat} {t : SetTable}
theorem sorted_big (B : Big P w s.heap a L es ep t) (hh : A.handled = none) (few : L.length ≤ 70) (rd : ∀ q ∈ L, ∃ as, Reads s.heap (.ref q.1) (.tuple (q.2.map .int)) as) (hu : A.units + 8 < cLine) {Q : Value → Shared → Prop}
    (hQ : ∀ s' p (out : Array Value) (c : Nat) (N : List Tp), (∀ b o, s.heap.get? b = some o → s'.heap.get? b = some o) → s'.gens = s.gens → s'.os = s.os → s.heap.objs.size ≤ p →
      s'.heap.get? p = some (seqObj "list" out c) → out.toList = N.map (fun q => Value.ref q.1) → N.Perm L → Q (.ref p) s') :
    wpAny (model P w) A (call (.builtin "sorted") [.ref a]) Q E s := by
  obtain ⟨o, ho, hex, hd⟩ := B.obj
  refine Calls.call_function_entry kind_sorted plain_sorted entry_sorted (args_sorted1 _) ?_
  unfold Builtin.«sorted»
  refine wpAny_bind (m := checkCount "sorted" 1 1 _) (wpAny_pure ?_)
  refine wpAny_bind (collect_set (A := A.in1) hh ⟨o, ho, hex.1, hd⟩ B.fit (by rw [B.len]; unfold scanBound; omega) B.tb.ris B.ord fun s1 vs k1 hz g1 o1 pm => ?_)
  have rows : es.toList.map (·.2) = L.map fun q => Value.ref q.1 := by
    rw [B.row]
    simp only [rowsOf, List.map_map]
    rfl
  rw [rows] at pm
  obtain ⟨N, eN, pN⟩ := pull pm.symm L rfl
  have nN : N.length ≤ 70 := by rw [pN.length_eq]; exact few
  have lv : vs.length ≤ sizeLine := by rw [eN, List.length_map, sizeLine_eq]; omega
  refine wpAny_bind (wpAny_newList ?_ lv)
  have at0 : (s1.heap.push (seqObj "list" vs.toArray 0)).get? s1.heap.objs.size = some (seqObj "list" vs.toArray 0) := Heap.get?_push_size _ rfl
  have each : ∀ N' : List Tp, (∀ q ∈ N', q ∈ L) → EachIs (fun v d => ∃ as, Reads (PySem.W.sortingHeap (s1.heap.push (seqObj "list" vs.toArray 0)) s1.heap.objs.size vs) v d as) (N'.map fun q => Value.ref q.1) (N'.map fun q => PyData.tuple (q.2.map .int)) := by
    intro N'
    induction N' with
    | nil => intro _; exact .nil
    | cons q N' ih =>
      intro h
      refine .cons ?_ (ih fun r hr => h r (.tail _ hr))
      obtain ⟨as, r⟩ := rd q (h q (.head _))
      exact ⟨as, PyProof.Rows.Reads.keeps (fun b u e => PySem.W.sortingHeap_old (Nat.ne_of_lt (Nat.lt_of_lt_of_le (Heap.lt_size e) hz)) (Heap.get?_push_of_some _ (k1 b u e))) r⟩
  have ev := each N fun q hq => pN.mem_iff.mp hq
  rw [← eN] at ev
  refine wpAny_bind (wpAny_holding (wpAny_call_entry slot_list_sort ⟨_, at0, rfl⟩ entry_list_sort (PySem.W.list_sort_vals (s := { s1 with heap := s1.heap.push (seqObj "list" vs.toArray 0) }) at0
    (sorts (s := { s1 with heap := PySem.W.sortingHeap (s1.heap.push (seqObj "list" vs.toArray 0)) s1.heap.objs.size vs }) ev (AllAlike.of fun _ _ => alike_tups _ _) (fun d hd => ?_) (fun d hd => ?_)) lv ⟨_, rfl, ?_⟩) (args_list_sort _)))
  · obtain ⟨q, _, rfl⟩ := List.mem_map.mp hd
    exact ⟨_, rfl⟩
  · obtain ⟨q, _, rfl⟩ := List.mem_map.mp hd
    have := depth_tup q.2
    show A.units + 1 + 1 + _ < _
    omega
  · generalize eo : PySem.W.sortVals _ false vs vs = out
    have po : out.Perm vs := eo ▸ vals_perm _ _
    obtain ⟨N2, e2, p2⟩ := pull (po.trans pm).symm L rfl
    obtain ⟨c, hc⟩ := sortedHeap_at (vs := vs) (out := out.toArray) at0
    refine wpAny_pure ⟨_, rfl, hQ _ s1.heap.objs.size out.toArray c N2 (fun b u e => ?_) g1 o1 hz hc e2 p2⟩
    have q := k1 b u e
    have lt := Heap.lt_size q
    exact (sortedHeap_old (Nat.ne_of_lt lt) (by rw [size_push']; exact Nat.lt_succ_of_lt lt)).trans (Heap.get?_push_of_some _ q)
end
/-! ### the rules -/
structure B0 (P : Program) (w : World) (h : Heap) (a : Addr) (L : List Tp) : Prop where
  ex : ∃ (es : Array (Int × Value)) (ep : Nat) (t : SetTable), (∃ o, h.get? a = some o ∧ o.ExactSet ∧ o.data = .set es ep t) ∧ es.toList = rowsOf P w L ∧ TabOk t (L.map fun q => thash P w q.2) ∧ (L.map (·.2)).Nodup ∧ t.plain = true ∧
    (w.params.followText "set-order" = true ∨ t.led = true) ∧ L.length * 5 < t.mask * 3 ∧ L.length ≤ 64
/-- the set at a of the tuples L -/
def BigO (P : Program) (w : World) (a : Addr) (L : List Tp) : HO := .ext fun h => B0 P w h a L
theorem bigO_ok {P : Program} {w : World} {H : Hp} {h : Heap} {a : Addr} {L : List Tp} (R : B0 P w h a L) : ObjOk P w H h a (BigO P w a L) := by
  have ⟨es, ep, t, ⟨o, ho, r⟩, q⟩ := R.ex
  refine ⟨R, ⟨o, ho⟩, fun h1 h2 p k => ?_⟩
  have ⟨es', ep', t', ⟨o', ho', r'⟩, q'⟩ := B0.ex p
  exact ⟨es', ep', t', ⟨o', k o' ho', r'⟩, q'⟩
theorem refs_are : ∀ {ks : List Tp} {us : List Value}, Vals (ks.map fun q => V.ref q.1) us → us = ks.map fun q => Value.ref q.1
  | [], _, .nil => rfl
  | _ :: _, _, .cons r rs => by
    cases r
    rw [refs_are rs, List.map_cons]
theorem refs_rel : ∀ ks : List Tp, Vals (ks.map fun q => V.ref q.1) (ks.map fun q => Value.ref q.1)
  | [] => .nil
  | _ :: ks => .cons rfl (refs_rel ks)
theorem tup_data {K : PySem.W.Frag} {H : Hp} {p : Addr} {ks : List Int} (h : SqT K H p (ks.map V.int)) : Dp K H (.ref p) (.tuple (ks.map .int)) := by
  refine .tup h ?_
  clear h
  induction ks with
  | nil => exact .nil
  | cons k ks ih => exact .cons (.int k) ih
section
variable {X : Cx}
/-- set(xs), xs a list of tuples of ints, 64 unlike ones at most -/
def rSetB (K : PySem.W.Frag) (P : Program) (w : World) : List V → Hp → VK → Prop := fun xs H Q => ∃ (l : Addr) (ks : List Tp) (D : List (List Int)), xs = [V.ref l] ∧ SqL K H l (ks.map fun q => V.ref q.1) ∧ (∀ q ∈ ks, SqT K H q.1 (q.2.map V.int)) ∧ D.length ≤ 64 ∧ (∀ q ∈ ks, q.2 ∈ D) ∧
  ∀ a L, H a = none → (∀ q ∈ L, q ∈ ks) → (∀ q ∈ ks, q.2 ∈ L.map (·.2)) → (L.map (·.2)).Nodup → Q (.ref a) (upd H a (BigO P w a L))
theorem cr_setB (hc : X.calm = true) (hu : X.A.units + 64 < cLine) : CallR X (.type "set") (rSetB X.K X.prog X.w) := by
  intro pins s σ H xs us Q I r h
  obtain ⟨l, ks, D, rfl, hl, hk, hD, kD, q⟩ := h
  obtain ⟨u, rfl, ru⟩ := vals1 r
  obtain rfl : u = Value.ref l := ru
  obtain ⟨its, rv, pl, hz⟩ := I.list hl
  refine set_of (P := X.prog) (w := X.w) ks D hD kD (I.ok.hd hc) pl.isList (by simpa using refs_are rv) (fun p hp => I.isT (hk p hp)) (by omega) fun h' tk L es ep t B got k => ?_
  have sub : ∀ p ∈ L, p ∈ ks := fun p hp => List.mem_of_mem_take (got.sub p hp)
  have few : L.length ≤ 64 := by
    have := no_more (L.map (·.2)) D B.dif fun k hk' => by
      obtain ⟨p, hp, rfl⟩ := List.mem_map.mp hk'
      exact kD p (sub p hp)
    rw [List.length_map] at this
    omega
  exact ⟨.ref s.heap.objs.size, upd H s.heap.objs.size (BigO X.prog X.w s.heap.objs.size L), I.laid (t' := tk) k (Nat.le_refl _) (bigO_ok ⟨es, ep, t, B.obj, B.row, B.tb, B.dif, B.pln, B.ord, B.free, few⟩), rfl,
    q _ L (I.hok.fresh (Nat.le_refl _)) sub (fun p hp => got.all p (by rw [List.take_length]; exact hp)) B.dif⟩
/-- sorted of such a set: its tuples, in some order that isn't told -/
def rSortB (K : PySem.W.Frag) (P : Program) (w : World) : List V → Hp → VK → Prop := fun vs H Q => ∃ (a : Addr) (L : List Tp), vs = [V.ref a] ∧ H a = some (BigO P w a L) ∧ (∀ q ∈ L, SqT K H q.1 (q.2.map V.int)) ∧
  ∀ (N : List Tp) (p : Addr), N.Perm L → L.length ≤ 64 → H p = none → Q (.ref p) (upd H p (.lst (N.map fun q => V.ref q.1)))
theorem cr_sortB (hc : X.calm = true) (hu : X.A.units + 64 < cLine) : CallR X (.builtin "sorted") (rSortB X.K X.prog X.w) := by
  intro pins s σ H vs us Q I r h
  obtain ⟨a, L, rfl, ha, hk, q⟩ := h
  have R : B0 X.prog X.w s.heap a L := (I.hok a _ ha).1
  obtain ⟨es, ep, t, b1, b2, b3, b4, b5, b6, b7, b8⟩ := R.ex
  obtain ⟨u, rfl, ru⟩ := vals1 r
  obtain rfl : u = Value.ref a := ru
  refine sorted_big (P := X.prog) (w := X.w) ⟨b1, b2, b3, b4, fun p hp => I.isT (hk p hp), b5, b6, b7⟩ (I.ok.hd hc) (by omega) (fun p hp => Dp.reads I _ (.ref p.1) _ (tup_data (hk p hp)) rfl) (by omega) fun s' p out c N k g o hp hg hout pm => ?_
  have len : (N.map fun q => V.ref q.1).length ≤ sizeLine := by rw [List.length_map, pm.length_eq, sizeLine_eq]; omega
  have nil : H p = none := I.hok.fresh hp
  have J : Inv X pins σ (upd H p (.lst (N.map fun q => V.ref q.1))) { s with heap := s'.heap, gens := s'.gens, drawn := s'.drawn, toks := s'.toks } :=
    I.call (ch := []) (Un.laid k hp nil) (I.hok.laid k hp ⟨len, out.toList, c, by rw [hout]; exact refs_rel N, hg⟩) (by rw [g]; exact I.bare) (fun _ z => nomatch z)
  obtain ⟨h', g', d', t', o'⟩ := s'
  obtain rfl : o' = s.os := o
  exact ⟨.ref p, _, J, rfl, q N p pm b8 nil⟩
end
end OwnTups
namespace K32
open PySem PySem.Spec PyProof.Rows L2
def topS (i : Nat) : Stmt := PySem.Challenge.pw_greatestnext_k32_unions_and_splits.main.body.getD i (.Pass ⟨0, 0, 0, 0⟩)
abbrev s_NoExchange_init : Stmt := inClass (topS 6) 0
abbrev s_parts_of : Stmt := topS 9
abbrev s_all_sets : Stmt := topS 10
abbrev s_is_part : Stmt := topS 11
abbrev s_touches : Stmt := topS 12
abbrev s_joined : Stmt := topS 13
abbrev s_rest_of : Stmt := topS 14
abbrev s_is_whole : Stmt := topS 16
abbrev s_is_within : Stmt := topS 17
abbrev s_is_ascending : Stmt := topS 18
abbrev s_clean_sets : Stmt := topS 21
abbrev s_closed_sets : Stmt := topS 22
abbrev s_Family_init : Stmt := inClass (topS 23) 0
abbrev s_Family_addable : Stmt := inClass (topS 23) 5
abbrev s_exchange_fault : Stmt := topS 24
abbrev s_need_exchange : Stmt := topS 25
abbrev s_need_both : Stmt := topS 27
abbrev s_union : Stmt := topS 28
abbrev s_split : Stmt := topS 29
abbrev s_law_box : Stmt := topS 31
abbrev s_law_draw : Stmt := topS 32
abbrev s_law_things : Stmt := topS 33
abbrev s_law_mask : Stmt := topS 34
abbrev s_law_vectors : Stmt := topS 35
abbrev s_law_quotas : Stmt := topS 36
abbrev s_law_inside : Stmt := topS 37
abbrev s_law_ordered : Stmt := topS 38
abbrev s_law_family : Stmt := topS 39
abbrev s_law_fault : Stmt := topS 40
abbrev s_law_both : Stmt := topS 41
abbrev s_law_told : Stmt := topS 42
abbrev s_law_is_set : Stmt := topS 43
abbrev s_law_is : Stmt := topS 44
abbrev s_law_joined : Stmt := topS 45
abbrev s_law_parted : Stmt := topS 46
abbrev s_law_all : Stmt := topS 47
abbrev s_law : Stmt := topS 48
structure Ad where
  C_Family : Addr
  C_NoExchange : Addr
  C_NextError : Addr
  a_NoExchange_init : Addr
  a_parts_of : Addr
  a_all_sets : Addr
  a_is_part : Addr
  a_touches : Addr
  a_joined : Addr
  a_rest_of : Addr
  a_is_whole : Addr
  a_is_within : Addr
  a_is_ascending : Addr
  a_clean_sets : Addr
  a_closed_sets : Addr
  a_Family_init : Addr
  a_Family_addable : Addr
  a_exchange_fault : Addr
  a_need_exchange : Addr
  a_need_both : Addr
  a_union : Addr
  a_split : Addr
  a_law_box : Addr
  a_law_draw : Addr
  a_law_things : Addr
  a_law_mask : Addr
  a_law_vectors : Addr
  a_law_quotas : Addr
  a_law_inside : Addr
  a_law_ordered : Addr
  a_law_family : Addr
  a_law_fault : Addr
  a_law_both : Addr
  a_law_told : Addr
  a_law_is_set : Addr
  a_law_is : Addr
  a_law_joined : Addr
  a_law_parted : Addr
  a_law_all : Addr
  a_law : Addr
  d_NoExchange_init : FuncData
  d_parts_of : FuncData
  d_all_sets : FuncData
  d_is_part : FuncData
  d_touches : FuncData
  d_joined : FuncData
  d_rest_of : FuncData
  d_is_whole : FuncData
  d_is_within : FuncData
  d_is_ascending : FuncData
  d_clean_sets : FuncData
  d_closed_sets : FuncData
  d_Family_init : FuncData
  d_Family_addable : FuncData
  d_exchange_fault : FuncData
  d_need_exchange : FuncData
  d_need_both : FuncData
  d_union : FuncData
  d_split : FuncData
  d_law_box : FuncData
  d_law_draw : FuncData
  d_law_things : FuncData
  d_law_mask : FuncData
  d_law_vectors : FuncData
  d_law_quotas : FuncData
  d_law_inside : FuncData
  d_law_ordered : FuncData
  d_law_family : FuncData
  d_law_fault : FuncData
  d_law_both : FuncData
  d_law_told : FuncData
  d_law_is_set : FuncData
  d_law_is : FuncData
  d_law_joined : FuncData
  d_law_parted : FuncData
  d_law_all : FuncData
  d_law : FuncData
structure Txt (K : PySem.W.Frag) (mg : Str → Option Value) (a : Ad) : Prop where
  mg_Family : mg "Family" = some (.ref a.C_Family)
  mg_NoExchange : mg "NoExchange" = some (.ref a.C_NoExchange)
  mg_NextError : mg "NextError" = some (.ref a.C_NextError)
  cl_Family : Cls K a.C_Family
  na_Family_sets : NoAttr K a.C_Family "sets"
  na_Family_size : NoAttr K a.C_Family "size"
  cg_Family : PySem.W.findIn K (.ref a.C_Family) "__class__" = some (some (.builtin "object.__class__"))
  mr_Family : PySem.W.mroIn K a.C_Family (.type "object") = some true
  cget : PySem.W.specialIn K (.builtin "object.__class__") "__get__" = some (some (.builtin "getset_descriptor.__get__"))
  ctk : PySem.W.takesIn K (.builtin "object.__class__") = some true
  fn_NoExchange_init : Fun K "__init__" "NoExchange.__init__" s_NoExchange_init a.a_NoExchange_init a.d_NoExchange_init
  b_NoExchange_init : Binds K a.d_NoExchange_init ["self", "smaller", "larger"] []
  mg_parts_of : mg "parts_of" = some (.ref a.a_parts_of)
  fn_parts_of : Fun K "parts_of" "parts_of" s_parts_of a.a_parts_of a.d_parts_of
  b_parts_of : Binds K a.d_parts_of ["things"] []
  mg_all_sets : mg "all_sets" = some (.ref a.a_all_sets)
  fn_all_sets : Fun K "all_sets" "all_sets" s_all_sets a.a_all_sets a.d_all_sets
  b_all_sets : Binds K a.d_all_sets ["size"] []
  mg_is_part : mg "is_part" = some (.ref a.a_is_part)
  fn_is_part : Fun K "is_part" "is_part" s_is_part a.a_is_part a.d_is_part
  b_is_part : Binds K a.d_is_part ["part", "things"] []
  mg_touches : mg "touches" = some (.ref a.a_touches)
  fn_touches : Fun K "touches" "touches" s_touches a.a_touches a.d_touches
  b_touches : Binds K a.d_touches ["one", "other"] []
  mg_joined : mg "joined" = some (.ref a.a_joined)
  fn_joined : Fun K "joined" "joined" s_joined a.a_joined a.d_joined
  b_joined : Binds K a.d_joined ["one", "other"] []
  mg_rest_of : mg "rest_of" = some (.ref a.a_rest_of)
  fn_rest_of : Fun K "rest_of" "rest_of" s_rest_of a.a_rest_of a.d_rest_of
  b_rest_of : Binds K a.d_rest_of ["things", "out"] []
  mg_is_whole : mg "is_whole" = some (.ref a.a_is_whole)
  fn_is_whole : Fun K "is_whole" "is_whole" s_is_whole a.a_is_whole a.d_is_whole
  b_is_whole : Binds K a.d_is_whole ["value"] []
  mg_is_within : mg "is_within" = some (.ref a.a_is_within)
  fn_is_within : Fun K "is_within" "is_within" s_is_within a.a_is_within a.d_is_within
  b_is_within : Binds K a.d_is_within ["value", "least", "most"] []
  mg_is_ascending : mg "is_ascending" = some (.ref a.a_is_ascending)
  fn_is_ascending : Fun K "is_ascending" "is_ascending" s_is_ascending a.a_is_ascending a.d_is_ascending
  b_is_ascending : Binds K a.d_is_ascending ["value", "size"] []
  mg_clean_sets : mg "clean_sets" = some (.ref a.a_clean_sets)
  fn_clean_sets : Fun K "clean_sets" "clean_sets" s_clean_sets a.a_clean_sets a.d_clean_sets
  b_clean_sets : Binds K a.d_clean_sets ["size", "sets"] []
  mg_closed_sets : mg "closed_sets" = some (.ref a.a_closed_sets)
  fn_closed_sets : Fun K "closed_sets" "closed_sets" s_closed_sets a.a_closed_sets a.d_closed_sets
  b_closed_sets : Binds K a.d_closed_sets ["size", "sets"] []
  fn_Family_init : Fun K "__init__" "Family.__init__" s_Family_init a.a_Family_init a.d_Family_init
  b_Family_init : Binds K a.d_Family_init ["self", "size", "sets"] []
  mt_Family_init : Meth K a.C_Family "__init__" a.a_Family_init
  fn_Family_addable : Fun K "addable" "Family.addable" s_Family_addable a.a_Family_addable a.d_Family_addable
  b_Family_addable : Binds K a.d_Family_addable ["self", "taken"] []
  mt_Family_addable : Meth K a.C_Family "addable" a.a_Family_addable
  mg_exchange_fault : mg "exchange_fault" = some (.ref a.a_exchange_fault)
  fn_exchange_fault : Fun K "exchange_fault" "exchange_fault" s_exchange_fault a.a_exchange_fault a.d_exchange_fault
  b_exchange_fault : Binds K a.d_exchange_fault ["family"] []
  mg_need_exchange : mg "need_exchange" = some (.ref a.a_need_exchange)
  fn_need_exchange : Fun K "need_exchange" "need_exchange" s_need_exchange a.a_need_exchange a.d_need_exchange
  b_need_exchange : Binds K a.d_need_exchange ["family"] []
  mg_need_both : mg "need_both" = some (.ref a.a_need_both)
  fn_need_both : Fun K "need_both" "need_both" s_need_both a.a_need_both a.d_need_both
  b_need_both : Binds K a.d_need_both ["one", "other"] []
  mg_union : mg "union" = some (.ref a.a_union)
  fn_union : Fun K "union" "union" s_union a.a_union a.d_union
  b_union : Binds K a.d_union ["one", "other"] []
  mg_split : mg "split" = some (.ref a.a_split)
  fn_split : Fun K "split" "split" s_split a.a_split a.d_split
  b_split : Binds K a.d_split ["one", "other", "things"] []
  mg_law_box : mg "_law_box" = some (.ref a.a_law_box)
  fn_law_box : Fun K "_law_box" "_law_box" s_law_box a.a_law_box a.d_law_box
  b_law_box : Binds K a.d_law_box ["script"] []
  mg_law_draw : mg "_law_draw" = some (.ref a.a_law_draw)
  fn_law_draw : Fun K "_law_draw" "_law_draw" s_law_draw a.a_law_draw a.d_law_draw
  b_law_draw : Binds K a.d_law_draw ["box", "limit"] []
  mg_law_things : mg "_law_things" = some (.ref a.a_law_things)
  fn_law_things : Fun K "_law_things" "_law_things" s_law_things a.a_law_things a.d_law_things
  b_law_things : Binds K a.d_law_things ["mask"] []
  mg_law_mask : mg "_law_mask" = some (.ref a.a_law_mask)
  fn_law_mask : Fun K "_law_mask" "_law_mask" s_law_mask a.a_law_mask a.d_law_mask
  b_law_mask : Binds K a.d_law_mask ["things"] []
  mg_law_vectors : mg "_law_vectors" = some (.ref a.a_law_vectors)
  fn_law_vectors : Fun K "_law_vectors" "_law_vectors" s_law_vectors a.a_law_vectors a.d_law_vectors
  b_law_vectors : Binds K a.d_law_vectors ["box", "size"] []
  mg_law_quotas : mg "_law_quotas" = some (.ref a.a_law_quotas)
  fn_law_quotas : Fun K "_law_quotas" "_law_quotas" s_law_quotas a.a_law_quotas a.d_law_quotas
  b_law_quotas : Binds K a.d_law_quotas ["box", "size"] []
  mg_law_inside : mg "_law_inside" = some (.ref a.a_law_inside)
  fn_law_inside : Fun K "_law_inside" "_law_inside" s_law_inside a.a_law_inside a.d_law_inside
  b_law_inside : Binds K a.d_law_inside ["box", "size"] []
  mg_law_ordered : mg "_law_ordered" = some (.ref a.a_law_ordered)
  fn_law_ordered : Fun K "_law_ordered" "_law_ordered" s_law_ordered a.a_law_ordered a.d_law_ordered
  b_law_ordered : Binds K a.d_law_ordered ["inside"] []
  mg_law_family : mg "_law_family" = some (.ref a.a_law_family)
  fn_law_family : Fun K "_law_family" "_law_family" s_law_family a.a_law_family a.d_law_family
  b_law_family : Binds K a.d_law_family ["box", "size", "inside"] []
  mg_law_fault : mg "_law_fault" = some (.ref a.a_law_fault)
  fn_law_fault : Fun K "_law_fault" "_law_fault" s_law_fault a.a_law_fault a.d_law_fault
  b_law_fault : Binds K a.d_law_fault ["inside", "size"] []
  mg_law_both : mg "_law_both" = some (.ref a.a_law_both)
  fn_law_both : Fun K "_law_both" "_law_both" s_law_both a.a_law_both a.d_law_both
  b_law_both : Binds K a.d_law_both ["one", "two"] []
  mg_law_told : mg "_law_told" = some (.ref a.a_law_told)
  fn_law_told : Fun K "_law_told" "_law_told" s_law_told a.a_law_told a.d_law_told
  b_law_told : Binds K a.d_law_told ["actual", "size"] []
  mg_law_is_set : mg "_law_is_set" = some (.ref a.a_law_is_set)
  fn_law_is_set : Fun K "_law_is_set" "_law_is_set" s_law_is_set a.a_law_is_set a.d_law_is_set
  b_law_is_set : Binds K a.d_law_is_set ["actual", "due"] []
  mg_law_is : mg "_law_is" = some (.ref a.a_law_is)
  fn_law_is : Fun K "_law_is" "_law_is" s_law_is a.a_law_is a.d_law_is
  b_law_is : Binds K a.d_law_is ["family", "size", "inside"] []
  mg_law_joined : mg "_law_joined" = some (.ref a.a_law_joined)
  fn_law_joined : Fun K "_law_joined" "_law_joined" s_law_joined a.a_law_joined a.d_law_joined
  b_law_joined : Binds K a.d_law_joined ["family", "other", "size", "one", "two", "fault"] []
  mg_law_parted : mg "_law_parted" = some (.ref a.a_law_parted)
  fn_law_parted : Fun K "_law_parted" "_law_parted" s_law_parted a.a_law_parted a.d_law_parted
  b_law_parted : Binds K a.d_law_parted ["box", "family", "other", "size", "one", "two", "fault", "mask"] []
  mg_law_all : mg "_law_all" = some (.ref a.a_law_all)
  fn_law_all : Fun K "_law_all" "_law_all" s_law_all a.a_law_all a.d_law_all
  b_law_all : Binds K a.d_law_all ["script"] []
  mg_law : mg "law" = some (.ref a.a_law)
  fn_law : Fun K "law" "law" s_law a.a_law a.d_law
  b_law : Binds K a.d_law ["script"] []
  mk_Family : Mk K a.C_Family a.a_Family_init
  ex_NoExchange : OexC K a.C_NoExchange
  xf_NoExchange : XfC K a.C_NoExchange
  xm_NoExchange : PySem.W.exmOne K (.ref a.C_NoExchange) (.ref a.C_NoExchange) = some true
  na_NoExchange_smaller : PySem.W.findIn K (.ref a.C_NoExchange) "smaller" = some none
  na_NoExchange_larger : PySem.W.findIn K (.ref a.C_NoExchange) "larger" = some none
  xi_NoExchange : PySem.W.findIn K (.ref a.C_NoExchange) "__init__" = some (some (.ref a.a_NoExchange_init))
  ti_NoExchange : PySem.W.typeIn K (.ref a.a_NoExchange_init) = some (.type "function")
  no_isinstance : mg "isinstance" = none
  no_int : mg "int" = none
  no_bool : mg "bool" = none
  no_range : mg "range" = none
  no_len : mg "len" = none
  no_abs : mg "abs" = none
  no_list : mg "list" = none
  no_tuple : mg "tuple" = none
  no_enumerate : mg "enumerate" = none
  no_any : mg "any" = none
  no_all : mg "all" = none
  no_sum : mg "sum" = none
  no_sorted : mg "sorted" = none
  no_set : mg "set" = none
  mg_MOST_THINGS : ∃ t, mg "MOST_THINGS" = some (.int 6 t)
  mg_combinations : mg "combinations" = some (.type "itertools.combinations")
  nf_Fam : PySem.W.notFirst K a.C_Family (.ref a.C_Family) = true
end K32
namespace K32
open PySem PySem.Spec PyProof.Rows L2 Own OwnSeq OwnSet OwnComb OwnSort OwnHot OwnExN OwnProj
/-! ### values by their kinds -/
inductive Tg | non | bl | int | str | lst | tup
  deriving DecidableEq
inductive Ty (H : Hp) : V → Tg → Prop
  | non : Ty H .non .non
  | bl (b : Bool) : Ty H (.bl b) .bl
  | int (i : Int) : Ty H (.int i) .int
  | str (x : Str) : Ty H (.str x) .str
  | lst {p : Addr} {xs : List V} (h : H p = some (.lst xs)) : Ty H (.ref p) .lst
  | tup {p : Addr} {xs : List V} (h : H p = some (.tup xs)) : Ty H (.ref p) .tup
def tyv : Tg → Value
  | .non => .type "NoneType"
  | .bl => .type "bool"
  | .int => .type "int"
  | .str => .type "str"
  | .lst => .type "list"
  | .tup => .type "tuple"
def isB (g : Tg) : Tg → Bool
  | .int => decide (g = .int) || decide (g = .bl)
  | c => decide (g = c)
def clv : Tg → V
  | .non => .ty "NoneType"
  | .bl => .ty "bool"
  | .int => .ty "int"
  | .str => .ty "str"
  | .lst => .ty "list"
  | .tup => .ty "tuple"
theorem Ty.x {K : PySem.W.Frag} {H : Hp} {v : V} {g : Tg} (t : Ty H v g) : TyX K H v (tyv g) := by
  cases t with
  | non => exact .base .non
  | bl b => exact .base (.bl b)
  | int i => exact .base (.int i)
  | str x => exact .base (.str x)
  | lst h => exact .base (.lst h)
  | tup h => exact .base (.tup h)
theorem kit_by {K : PySem.W.Frag} (g c : Tg) (h2 : c ≠ .non) : ∃ n : String, clv c = .ty n ∧ PySem.W.kitOne K (tyv g) (.type n) = some (isB g c) := by
  cases c with
  | non => exact absurd rfl h2
  | int => exact ⟨"int", rfl, by cases g <;> exact kit_ty (by decide +kernel)⟩
  | bl => exact ⟨"bool", rfl, by cases g <;> exact kit_ty (by decide +kernel)⟩
  | str => exact ⟨"str", rfl, by cases g <;> exact kit_ty (by decide +kernel)⟩
  | lst => exact ⟨"list", rfl, by cases g <;> exact kit_ty (by decide +kernel)⟩
  | tup => exact ⟨"tuple", rfl, by cases g <;> exact kit_ty (by decide +kernel)⟩
def rIsB (c : Tg) : List V → Hp → VK → Prop := fun xs H Q => ∃ v g, xs = [v, clv c] ∧ Ty H v g ∧ Q (.bl (isB g c)) H
theorem call_isB {X : Cx} (c : Tg) (h : c ≠ .non := by decide) : CallR X (.builtin "isinstance") (rIsB c) := Rd.CallR.imp call_isi fun xs H Q ⟨v, g, e, t, q⟩ =>
  let ⟨n, e1, k⟩ := kit_by (K := X.K) g c h
  ⟨v, clv c, tyv g, .type n, isB g c, e, e1 ▸ .ty n, t.x, k, q⟩
theorem kit_any {K : PySem.W.Frag} (g : Tg) : PySem.W.kitAny K (tyv g) [.type "list", .type "tuple"] = some (decide (g = .lst) || decide (g = .tup)) := by
  obtain ⟨n1, e1, k1⟩ := kit_by (K := K) g .lst (by decide)
  obtain ⟨n2, e2, k2⟩ := kit_by (K := K) g .tup (by decide)
  have e1 : V.ty "list" = V.ty n1 := e1
  have e2 : V.ty "tuple" = V.ty n2 := e2
  cases e1
  cases e2
  have k1 : PySem.W.kitOne K (tyv g) (.type "list") = some (decide (g = .lst)) := k1
  have k2 : PySem.W.kitOne K (tyv g) (.type "tuple") = some (decide (g = .tup)) := k2
  unfold PySem.W.kitAny
  rw [k1]
  cases decide (g = .lst) with
  | true => rfl
  | false =>
    unfold PySem.W.kitAny
    show (match PySem.W.kitOne K (tyv g) (.type "tuple") with | some true => some true | some false => PySem.W.kitAny K (tyv g) [] | none => none) = _
    rw [k2]
    cases decide (g = .tup) <;> rfl
def rIsS : List V → Hp → VK → Prop := fun xs H Q => ∃ v g tp, xs = [v, .ref tp] ∧ H tp = some (.tup [.ty "list", .ty "tuple"]) ∧ Ty H v g ∧ Q (.bl (decide (g = .lst) || decide (g = .tup))) H
theorem call_isS {X : Cx} : CallR X (.builtin "isinstance") rIsS := Rd.CallR.imp call_isiT fun xs H Q ⟨v, g, tp, e, ht, t, q⟩ =>
  ⟨v, tp, _, _, _, _, e, ht, .cons (.ty "list") (.cons (.ty "tuple") .nil), t.x, kit_any g, q⟩
theorem same_upd {H : Hp} {p : Addr} {o : HO} (h : H p = none) : Same H (upd H p o) := fun b x e => by
  rw [upd_ne (ne_of_none e h)]
  exact e
theorem small {n : Nat} (h : n < 1000) : n < sizeLine := Nat.lt_of_lt_of_le h (by decide)
theorem small_le {n : Nat} (h : n ≤ 1000) : n ≤ sizeLine := Nat.le_trans h (by decide)
/-- an item of a tuple that stands in H by itself -/
def rIxHT : R2 := fun x y H Q => ∃ p xs i v, x = .ref p ∧ y = .int i ∧ H p = some (.tup xs) ∧ atI xs i = some v ∧ Q v H
theorem ixHT {X : Cx} : IxR X rIxHT := fun value slice pins s σ H x y v u Q I rx ry ⟨p, xs, i, z, e1, e2, h, e3, q⟩ hs => ix_tup value slice pins s σ H x y v u Q I rx ry ⟨p, xs, i, z, e1, e2, SqT.of h, e3, q⟩ hs
/-! ### sets of things -/
/-- the things as values -/
def iv (s : List Nat) : List V := s.map fun g => V.int (g : Nat)
theorem iv_len (s : List Nat) : (iv s).length = s.length := List.length_map _
def mk (s : List Nat) : Nat := (s.map fun g => 2 ^ g).sum
def bit (m k : Nat) : Bool := decide (m / 2 ^ k % 2 = 1)
def bits (m : Nat) : List Nat := (List.range 6).filter (bit m)
/-- all sets of n things, in order of size -/
def allS (n : Nat) : List (List Nat) := (List.range (n + 1)).flatMap (combs n)
/-- a part, its masks -/
def Sub (m' m : Nat) : Prop := m' &&& m = m'
instance (m' m : Nat) : Decidable (Sub m' m) := inferInstanceAs (Decidable (_ = _))
def In (S : List Bool) (m : Nat) : Bool := S.getD m false
/-- what may be taken: which masks; () is one, and every part of one -/
structure Fam (n : Nat) (S : List Bool) : Prop where
  n1 : 1 ≤ n
  n6 : n ≤ 6
  len : S.length = 2 ^ n
  zero : In S 0 = true
  down : ∀ m m', Sub m' m → In S m = true → In S m' = true
def famL (n : Nat) (S : List Bool) : List (List Nat) := (allS n).filter fun s => In S (mk s)

/-! ### rules with the table of kept things told -/
theorem op_inK {X : Cx} (K : PySem.W.Frag) (hK : X.K = K := by rfl) : OpR X (compareOp .In) (rIn K false) := by
  subst hK
  exact op_in_seq
theorem op_notInK {X : Cx} (K : PySem.W.Frag) (hK : X.K = K := by rfl) : OpR X (compareOp .NotIn) (rIn K true) := by
  subst hK
  exact op_notIn_seq
theorem pi_combK {X : Cx} {tg e e2 : Expr} {ta : TA} {x : Str} {p pos : Pos} (K : PySem.W.Frag) (hg : Gl X x) (hm : X.mg x = some (.type OwnComb.T)) (ha : PA X [e, e2] ta) (hK : X.K = K := by rfl) (hdb : (x == ("__debug__" : Str)) = false := by decide)
    (hs : starEach [e, e2] X.env = (false, eval e X.env) :: starEach [e2] X.env := by rfl) (hpl : (backTo pos (starEach [e2] X.env)).any (·.1) = false := by rfl) :
    PI X tg (.Call (.Name x p) [e, e2] [] pos) (iComb K ta) := by
  subst hK
  exact pi_comb hg hm ha hdb hs hpl
theorem pe_fldK {X : Cx} {e : Expr} {f : Str} {pos : Pos} {ta : TE} (K : PySem.W.Frag) (he : PE X e ta) (hK : X.K = K := by rfl) (hb : attributeBase e f X.env (eval e X.env) = eval e X.env := by rfl) : PE X (.Attribute e f pos) (tFld K ta f) := by
  subst hK
  exact pe_fld he hb

end K32
namespace K32
open PySem PySem.Spec PyProof.Rows L2 Own OwnSeq OwnSet OwnComb OwnSort OwnHot OwnExN OwnProj
/-! ### the sets of few things: by reckoning -/
def enc (s : List Nat) : PyData := .tuple [.int s.length, .tuple (s.map fun g => .int (g : Nat))]
abbrev leS : List Nat → List Nat → Bool := PySem.W.dataLe false enc
def asc : List Nat → Bool
  | [] => true
  | x :: r => r.all (fun y => decide (x < y)) && asc r
def ordered : List (List Nat) → Bool
  | [] => true
  | s :: r => r.all (fun t => leS s t && !leS t s && decide (s.length ≤ t.length)) && ordered r
def chk (n : Nat) : Bool := ((allS n).all fun s => decide (bits (mk s) = s) && decide (mk s < 2 ^ n) && s.all (fun g => decide (g < n)) && decide (s.length ≤ n) && asc s) &&
  ((List.range (2 ^ n)).all fun m => decide (mk (bits m) = m) && (allS n).contains (bits m)) && ordered (allS n) && decide ((allS n).length = 2 ^ n)
theorem chk_all : ((List.range 7).all chk) = true := by decide +kernel
theorem chk_at {n : Nat} (h : n ≤ 6) : chk n = true := List.all_eq_true.mp chk_all n (List.mem_range.mpr (by omega))
theorem pw_of {r : List Nat → List Nat → Prop} : ∀ {l : List (List Nat)}, ordered l = true → (∀ s t, leS s t = true → leS t s = false → s.length ≤ t.length → r s t) → l.Pairwise r
  | [], _, _ => .nil
  | s :: l, h, k => by
    obtain ⟨a, b⟩ := Bool.and_eq_true_iff.mp h
    refine .cons (fun t ht => ?_) (pw_of b k)
    have z := List.all_eq_true.mp a t ht
    simp at z
    exact k s t z.1.1 z.1.2 z.2
section
variable {n : Nat} (h : n ≤ 6)
theorem allS_at {s : List Nat} (hs : s ∈ allS n) (h : n ≤ 6) : bits (mk s) = s ∧ mk s < 2 ^ n ∧ (∀ g ∈ s, g < n) ∧ s.length ≤ n ∧ asc s = true := by
  have z := chk_at h
  unfold chk at z
  simp only [Bool.and_eq_true] at z
  have y := List.all_eq_true.mp z.1.1.1 s hs
  simp only [Bool.and_eq_true, decide_eq_true_eq] at y
  exact ⟨y.1.1.1.1, y.1.1.1.2, fun g hg => of_decide_eq_true (List.all_eq_true.mp y.1.1.2 g hg), y.1.2, y.2⟩
theorem bits_in {m : Nat} (h : n ≤ 6) (hm : m < 2 ^ n) : mk (bits m) = m ∧ bits m ∈ allS n := by
  have z := chk_at h
  unfold chk at z
  simp only [Bool.and_eq_true] at z
  have y := List.all_eq_true.mp z.1.1.2 m (List.mem_range.mpr hm)
  simp only [Bool.and_eq_true, decide_eq_true_eq] at y
  exact ⟨y.1, List.contains_iff_mem.mp y.2⟩
theorem allS_len (h : n ≤ 6) : (allS n).length = 2 ^ n := by
  have z := chk_at h
  unfold chk at z
  simp only [Bool.and_eq_true, decide_eq_true_eq] at z
  exact z.2
theorem allS_strict (h : n ≤ 6) : (allS n).Pairwise fun s t => leS s t = true ∧ leS t s = false ∧ s.length ≤ t.length := by
  have z := chk_at h
  unfold chk at z
  simp only [Bool.and_eq_true] at z
  exact pw_of z.1.2 fun s t a b c => ⟨a, b, c⟩
theorem allS_nodup (h : n ≤ 6) : (allS n).Nodup := (allS_strict h).imp fun {s t} z e => by
  subst e
  rw [z.1] at z
  exact absurd z.2.1 (by decide)
/-- the masks' sets are all sets -/
theorem perm_masks (h : n ≤ 6) : ((List.range (2 ^ n)).map bits).Perm (allS n) := by
  refine (List.perm_ext_iff_of_nodup ?_ (allS_nodup h)).mpr fun s => ?_
  · refine List.pairwise_map.mpr (List.Pairwise.imp_of_mem (fun {x y} hx hy ne e => ne ?_) List.nodup_range)
    have a := (bits_in h (List.mem_range.mp hx)).1
    rw [e, (bits_in h (List.mem_range.mp hy)).1] at a
    exact a.symm
  · refine ⟨fun z => ?_, fun z => ?_⟩
    · obtain ⟨m, hm, rfl⟩ := List.mem_map.mp z
      exact (bits_in h (List.mem_range.mp hm)).2
    · have y := allS_at z h
      exact List.mem_map.mpr ⟨mk s, List.mem_range.mpr y.2.1, y.1⟩
end
theorem _root_.List.Pairwise.of_mem_or {α : Type} {r : α → α → Prop} : ∀ {l : List α}, l.Pairwise r → ∀ {x y : α}, x ∈ l → y ∈ l → x = y ∨ r x y ∨ r y x
  | _ :: l, .cons a b, x, y, hx, hy => by
    rcases List.mem_cons.mp hx with ex | hx
    · rcases List.mem_cons.mp hy with ey | hy
      · exact .inl (ex.trans ey.symm)
      · exact .inr (.inl (ex ▸ a y hy))
    · rcases List.mem_cons.mp hy with ey | hy
      · exact .inr (.inr (ey ▸ a x hx))
      · exact b.of_mem_or hx hy
theorem sorted_eq {l : List (List Nat)} {n : Nat} (h : n ≤ 6) {p : List Nat → Bool} (hl : l.Perm ((allS n).filter p)) : l.mergeSort leS = (allS n).filter p := by
  have st := (allS_strict h).filter p
  refine List.Perm.eq_of_pairwise (le := fun s t => leS s t = true) ?_ (PySem.W.sort_pairwise ?_ l) (st.imp fun z => z.1) ((List.mergeSort_perm l leS).trans hl)
  · intro s t hs ht a b
    have hs' : s ∈ (allS n).filter p := hl.mem_iff.mp (List.mem_mergeSort.mp hs)
    rcases st.of_mem_or hs' ht with e | e | e
    · exact e
    · rw [e.2.1] at b; cases b
    · rw [e.2.1] at a; cases a
  · exact PySem.W.sortLe_total _ _ _

end K32
namespace K32
open PySem PySem.Spec PyProof.Rows L2 Own OwnSeq OwnSet OwnComb OwnSort OwnHot OwnExN OwnProj
local macro_rules | `(tactic| walk_at "rd") => `(tactic| simp only [tSeq, tAsg, tOp, tUn, tVar, gName, gSub, rIxL, rIxT, rSetL, tC, rI0, rI, rU, rEq, rNe, tCons, tNil, tCB, tLst, tTup, tIfS, tAnd, tOr, tNot, tAndV, tOrV, tNotV, tTest, tB, tIf, tRet, tDrop, tNext, tBreak, tCont, tCall, tCallS, L2.WE, tMakeS, rIsS, rIsB, tChain, gSeq, gRest, gCons, gNil, tFor_seq, tFor_enumS, tLc_seq, tLc_enumS, rAny, rAll, L2.tMeth, StX.tStar, rIn, tLstRg, tRg1, tRg2, rSetI, rSortedSet, rInDT, rInD, rNotInD, rEqD, rNeD, iComb, tFld, tMake, tMkO, sFld, tOst, tNever, tBits, clv, isB,
  Rd.tFor_rng1, Rd.tFor_rng2, Rd.tFor_list, Rd.tFor_tup, Rd.tLc_list, Rd.tLc_tup, Rd.tLc_rng1, Rd.LcTurn, tYes, wipe, Rd.rLenL, Rd.rLenT, Rd.rIntI, Rd.rIxH, rIxHT,  HO.tup.injEq, Rd.at0, Rd.at1, Rd.at2, Rd.at3, Rd.ixN40, Rd.ixN41, Rd.ixN42, Rd.ixN43, Rd.scal_ii, cxOf,
  List.length_cons, List.length_nil, List.length_map, List.map_cons, List.map_nil, upd_same, decide_eq_true_eq, decide_true, decide_false, if_true, if_false, Bool.false_eq_true, Bool.not_true, Bool.not_false, HO.lst.injEq, HO.ins.injEq, List.set_cons_zero, List.set_cons_succ, List.getElem?_cons_zero, List.getElem?_cons_succ, List.append_nil, List.nil_append, List.cons_append, Option.some.injEq, V.ref.injEq, V.int.injEq, V.bl.injEq, List.cons.injEq, exists_eq_left', exists_and_left, exists_eq_left, true_and, and_true, and_self, and_assoc, implies_true, reduceCtorEq, Nat.reduceAdd])

/-- the sets as new tuples -/
def Tups (H : Hp) : List V → List (List Nat) → Prop
  | [], [] => True
  | v :: vs, s :: ss => (∃ q, v = .ref q ∧ H q = some (.tup (iv s))) ∧ Tups H vs ss
  | _, _ => False
theorem Tups.same {H H' : Hp} (e : Same H H') : ∀ {vs : List V} {ss : List (List Nat)}, Tups H vs ss → Tups H' vs ss
  | [], [], _ => trivial
  | _ :: _, _ :: _, ⟨⟨q, a, b⟩, r⟩ => ⟨⟨q, a, e _ _ b⟩, Tups.same e r⟩
  | [], _ :: _, h => h.elim
  | _ :: _, [], h => h.elim
theorem Tups.upd {H : Hp} {D : Addr} {xs : List V} {o : HO} (h : H D = some (.lst xs)) : ∀ {vs : List V} {ss : List (List Nat)}, Tups H vs ss → Tups (upd H D o) vs ss
  | [], [], _ => trivial
  | _ :: _, _ :: _, ⟨⟨q, a, b⟩, r⟩ => ⟨⟨q, a, by rw [upd_ne (fun z => by rw [z, h] at b; cases b)]; exact b⟩, Tups.upd h r⟩
  | [], _ :: _, h => h.elim
  | _ :: _, [], h => h.elim
theorem Tups.app {H : Hp} : ∀ {vs ws : List V} {gs hs : List (List Nat)}, Tups H vs gs → Tups H ws hs → Tups H (vs ++ ws) (gs ++ hs)
  | [], _, [], _, _, h => h
  | _ :: _, _, _ :: _, _, ⟨a, r⟩, h => ⟨a, Tups.app r h⟩
  | [], _, _ :: _, _, h, _ => h.elim
  | _ :: _, _, [], _, h, _ => h.elim
theorem Tups.len {H : Hp} : ∀ {xs : List V} {gs : List (List Nat)}, Tups H xs gs → xs.length = gs.length
  | [], [], _ => rfl
  | _ :: _, _ :: _, h => congrArg (· + 1) h.2.len
  | [], _ :: _, h => h.elim
  | _ :: _, [], h => h.elim
theorem Tups.at {H : Hp} : ∀ {xs : List V} {gs : List (List Nat)} {i : Nat} {x : V}, Tups H xs gs → xs[i]? = some x → ∃ g, gs[i]? = some g ∧ ∃ q, x = .ref q ∧ H q = some (.tup (iv g))
  | _ :: _, g :: _, 0, _, h, e => ⟨g, rfl, by cases Option.some.inj e; exact h.1⟩
  | _ :: _, _ :: _, i + 1, _, h, e => Tups.at (i := i) h.2 e
  | [], [], _, _, _, e => by cases e
  | [], _ :: _, _, _, h, _ => h.elim
  | _ :: _, [], _, _, h, _ => h.elim
theorem seqOr {K : PySem.W.Frag} {H : Hp} {p : Addr} {l : Bool} {xs : List V} (h : H p = some (sq l xs)) : SqL K H p xs ∨ SqT K H p xs := by
  cases l with
  | true => exact .inl (SqL.of h)
  | false => exact .inr (SqT.of h)
theorem seqOr' {K : PySem.W.Frag} {H : Hp} {p : Addr} {l : Bool} {xs : List V} (h : H p = some (sq l xs)) : SqT K H p xs ∨ SqL K H p xs := (seqOr h).symm
theorem flat_len : ((List.range 7).all fun n => (List.range 9).all fun i => decide (((List.range i).flatMap (combs n)).length ≤ 64)) = true := by decide +kernel
theorem flat_at {n i : Nat} (hn : n ≤ 6) (hi : i ≤ 8) : ((List.range i).flatMap (combs n)).length ≤ 64 := of_decide_eq_true (List.all_eq_true.mp (List.all_eq_true.mp flat_len n (List.mem_range.mpr (by omega))) i (List.mem_range.mpr (by omega)))
/-- the parts of a row, in order of size -/
def pick (s js : List Nat) : List Nat := js.map fun j => s.getD j 0
def partsL (s : List Nat) : List (List Nat) := (allS s.length).map (pick s)
theorem pick_iv {s js : List Nat} (h : ∀ j ∈ js, j < s.length) : (js.map fun j => (iv s).getD j .non) = iv (pick s js) := by
  unfold pick
  unfold iv
  rw [List.map_map]
  refine List.map_congr_left fun j hj => ?_
  have z := h j hj
  rw [List.getD_eq_getElem?_getD, List.getElem?_map, List.getElem?_eq_getElem z]
  show V.int _ = V.int ((s.getD j 0 : Nat) : Int)
  rw [List.getD_eq_getElem?_getD, List.getElem?_eq_getElem z]
  rfl
theorem pick_range {n : Nat} {js : List Nat} (h : ∀ j ∈ js, j < n) : pick (List.range n) js = js := by
  unfold pick
  refine (List.map_congr_left fun j hj => ?_).trans (List.map_id js)
  rw [List.getD_eq_getElem?_getD, List.getElem?_range (h j hj)]
  rfl
theorem parts_range {n : Nat} (h : n ≤ 6) : partsL (List.range n) = allS n := by
  unfold partsL
  rw [List.length_range]
  exact (List.map_congr_left fun s hs => pick_range fun j hj => (allS_at hs h).2.2.1 j hj).trans (List.map_id _)
theorem all_flat {α β : Type} {f : α → Bool} : True := trivial
theorem iv_flat (s : List Nat) : (iv s).all flatV = true := List.all_eq_true.mpr fun x hx => by
  obtain ⟨g, _, rfl⟩ := List.mem_map.mp hx
  rfl
theorem inV_iv (g : Nat) (s : List Nat) : inV (.int (g : Nat)) (iv s) = s.contains g := by
  unfold inV iv
  rw [List.any_map]
  induction s with
  | nil => rfl
  | cons x s ih =>
    rw [List.any_cons, List.contains_cons, ih]
    congr 1
    show ((x : Int) == (g : Int)) = (g == x)
    exact Bool.eq_iff_iff.mpr ⟨fun z => beq_iff_eq.mpr (by have := beq_iff_eq.mp z; omega), fun z => beq_iff_eq.mpr (by have := beq_iff_eq.mp z; omega)⟩
section
variable {P : Program} {w : World} {K : PySem.W.Frag} {mg : Str → Option Value} {base : Heap} {a : Ad}
/-! ### parts_of(list(range(n))), all_sets -/
def spParts : Sp := fun vs H Q _ => ∃ (p : Addr) (l : Bool) (s : List Nat), vs = [.ref p] ∧ H p = some (sq l (iv s)) ∧ s.length ≤ 6 ∧ ∀ q ys H', H q = none → Same H H' → H' q = some (.lst ys) → Tups H' ys (partsL s) → Q (.ref q) H'
theorem sc_parts_of : FnScope ["things", "row", "many", "part"] ["things"] (defScope s_parts_of) := ⟨rfl, rfl, rfl, by decide +kernel, rfl, by decide +kernel, by decide +kernel⟩
theorem ok_parts_of (T : Txt K mg a) : FnOk P w K mg base CX0 1 a.a_parts_of a.d_parts_of ["things"] spParts := by
  refine T.fn_parts_of.ok sc_parts_of (fun vs H Q E h => ?_) (fun cdv A outer s H vs Q E hr h => ?_)
  · obtain ⟨p, l, s, rfl, _⟩ := h
    rfl
  · obtain ⟨p, lb, s, rfl, hp, hs, k⟩ := h
    obtain ⟨n, hnn⟩ : ∃ n, n = s.length := ⟨_, rfl⟩
    have hn : n ≤ 6 := by omega
    refine ⟨_, (pss_cons (ps_set (i := 1) sc_parts_of.nd rfl (Or.inr rfl) (pe_callTy call_list_of (by rfl) T.no_list (by decide +kernel) (pa_cons (pv 0) pa_nil)))
      (pss_one (ps_ret (pe_lc2 (own := [("many", 2), ("part", 3)]) (vs1 := [3]) (by rfl) sc_parts_of.nd (pi_range1 (by rfl) T.no_range (pa_cons (pe_op op_add (pe_callB Rd.call_lenL (by rfl) T.no_len PySem.boot_len (pa_cons (pv 1) pa_nil)) pe_int) pa_nil)) (blkOk_by (own := [("many", 2), ("part", 3)]) (N := ["things", "row", "many", "part"]) (sc := defScope s_parts_of) (by decide +kernel)) (by decide) (fun _ _ _ _ _ => pg_name (i := 2) sc_parts_of.nd rfl (Or.inl rfl)) (fun _ _ _ _ _ => pts_nil) (fun _ _ _ _ _ => (pi_combK K (by rfl) T.mg_combinations (pa_cons (pv 1) (pa_cons (pv 2) pa_nil)))) (fun _ _ _ _ _ => pg_name (i := 3) sc_parts_of.nd rfl (Or.inl rfl)) (fun _ _ _ _ _ => pts_nil) (fun _ _ _ _ _ => (pv 3)))))), ?_⟩
    show (_ : TS) _ [some (V.ref p), none, none, none] H
    walk_at "rd"
    refine ⟨_, seqOr hp, fun l hl => ?_⟩
    have e1 := same_upd (o := .lst (iv s)) hl
    have at1 := upd_same (H := H) (a := l) (o := .lst (iv s))
    generalize upd H l (.lst (iv s)) = H1 at e1 at1 ⊢
    unfold tLc2 iRng1
    walk_at "rd"
    refine ⟨_, SqL.of at1, ?_⟩
    rw [iv_len, ← hnn]
    refine ⟨by omega, by omega, fun D hD => ⟨fun i m H' => m = n + 1 - i ∧ i ≤ n + 1 ∧ ∃ ys, Same H1 H' ∧ H' D = some (.lst ys) ∧ Tups H' ys (((List.range i).flatMap (combs n)).map (pick s)), ⟨n + 1, rfl, Nat.zero_le _, [], same_upd hD, upd_same, trivial⟩, fun i m H2 ⟨em, hi, ys, e2, hy, tv⟩ => ?_⟩⟩
    have jn : ((n : Int) + 1).toNat = n + 1 := by omega
    rw [jn]
    rcases Nat.lt_or_eq_of_le hi with lt | eq
    · refine .inr ⟨lt, fun H' => ∃ ys, Same H1 H' ∧ H' D = some (.lst ys) ∧ Tups H' ys (((List.range (i + 1)).flatMap (combs n)).map (pick s)), fun H' z => ⟨n + 1 - (i + 1), by omega, rfl, lt, z⟩, fun x H' yl => ?_⟩
      obtain ⟨rfl, rfl⟩ : H' = H2 ∧ x = V.int ((0 : Int) + (i : Nat)) := yl
      refine ⟨i, by rw [Int.zero_add], _, SqL.of (e2 _ _ at1), by omega, by rw [iv_len, ← hnn]; omega, combs n i, by rw [iv_len, ← hnn]; exact chain6 hn (by omega), ?_⟩
      have C := chain6 (n := n) (r := i) hn (by omega)
      have fl := flat_at (n := n) (i := i + 1) hn (by omega)
      rw [List.range_succ, List.flatMap_append, List.flatMap_cons, List.flatMap_nil, List.append_nil] at fl ⊢
      refine ⟨fun j k H' => k = (combs n i).length - j ∧ j ≤ (combs n i).length ∧ ∃ ys, Same H1 H' ∧ H' D = some (.lst ys) ∧ Tups H' ys (((List.range i).flatMap (combs n) ++ (combs n i).take j).map (pick s)), ⟨_, rfl, Nat.zero_le _, ys, e2, hy, by rw [List.take_zero, List.append_nil]; exact tv⟩, fun j k H3 ⟨ek, hj, ys, e3, hy3, tv3⟩ => ?_⟩
      rcases Nat.lt_or_eq_of_le hj with lt2 | eq2
      · refine .inr ⟨lt2, fun H' => ∃ ys, Same H1 H' ∧ H' D = some (.lst ys) ∧ Tups H' ys (((List.range i).flatMap (combs n) ++ (combs n i).take (j + 1)).map (pick s)), fun H' z => ⟨_, by omega, rfl, lt2, z⟩, fun x H4 yl => ?_⟩
        obtain ⟨t, js, hjs, rfl, ht, rfl⟩ := yl
        have te := same_upd (o := .tup (js.map fun j => (iv s).getD j .non)) ht
        have yl := tv3.len
        rw [List.length_map, List.length_append, List.length_take] at yl
        rw [List.length_append] at fl
        refine ⟨ys, te _ _ hy3, small (by omega), ys ++ [.ref t], fun b o hb => (upd_ne (ne_of_none hb hD)).trans (te _ _ (e3 _ _ hb)), upd_same, ?_⟩
        rw [List.take_add_one, hjs, ← List.append_assoc, List.map_append]
        exact Tups.upd (te _ _ hy3) (Tups.app (tv3.same te) ⟨⟨t, rfl, by rw [upd_same, pick_iv (fun j hj => hnn ▸ C.inn js (List.mem_of_getElem? hjs) j hj)]⟩, trivial⟩)
      · subst eq2
        rw [List.take_length] at tv3
        exact .inl ⟨rfl, ys, e3, hy3, tv3⟩
    · subst eq
      refine .inl ⟨Nat.le_refl _, k D ys H2 (e1.free hD) (e1.trans e2) hy (by unfold partsL allS; rw [← hnn]; exact tv)⟩
def spAll : Sp := fun vs H Q _ => ∃ (n : Nat), vs = [.int n] ∧ n ≤ 6 ∧ ∀ q ys H', H q = none → Same H H' → H' q = some (.lst ys) → Tups H' ys (allS n) → Q (.ref q) H'
theorem sc_all_sets : FnScope ["size"] ["size"] (defScope s_all_sets) := ⟨rfl, rfl, rfl, by decide +kernel, rfl, by decide +kernel, by decide +kernel⟩
theorem ok_all_sets (T : Txt K mg a) : FnOk P w K mg base CX0 2 a.a_all_sets a.d_all_sets ["size"] spAll := by
  refine T.fn_all_sets.ok sc_all_sets (fun vs H Q E h => ?_) (fun cdv A outer s H vs Q E hr h => ?_)
  · obtain ⟨n, rfl, _⟩ := h
    rfl
  · obtain ⟨n, rfl, hn, k⟩ := h
    refine ⟨_, (pss_one (ps_ret (pe_call (ok_parts_of T) (hr.mono (by decide)) (by rfl) T.mg_parts_of T.fn_parts_of.kp T.b_parts_of .nil pass0 (pa_cons (pe_listRg rfl (by rfl) T.no_list (prg_1 (by rfl) T.no_range (pv 0))) pa_nil)))), ?_⟩
    show (_ : TS) _ [some (V.int n)] H
    walk_at "rd"
    refine ⟨RgOk.of_le (by decide) (by omega) (by decide) (by omega), fun q hq => ⟨q, true, List.range n, rfl, ?_, by rw [List.length_range]; exact hn, fun r ys H' hr e ha ht => k r ys H' ((same_upd hq).free hr) ((same_upd hq).trans e) ha (by rw [parts_range hn] at ht; exact ht)⟩⟩
    rw [upd_same]
    unfold rgV iv
    rw [show ((n : Int) - 0).toNat = n by omega]
    congr 2
    refine List.map_congr_left fun j hj => ?_
    rw [Int.zero_add]
/-! ### is_part, touches -/
def subL (s t : List Nat) : Bool := s.all fun g => t.contains g
def spPart : Sp := fun vs H Q _ => ∃ (p q : Addr) (l l' : Bool) (s t : List Nat), vs = [.ref p, .ref q] ∧ H p = some (sq l (iv s)) ∧ H q = some (sq l' (iv t)) ∧ s.length ≤ 6 ∧ ∀ H', Same H H' → Q (.bl (subL s t)) H'
theorem sc_is_part : FnScope ["part", "things", "thing"] ["part", "things"] (defScope s_is_part) := ⟨rfl, rfl, rfl, by decide +kernel, rfl, by decide +kernel, by decide +kernel⟩
theorem ok_is_part (T : Txt K mg a) : FnOk P w K mg base CX0 1 a.a_is_part a.d_is_part ["part", "things"] spPart := by
  refine T.fn_is_part.ok sc_is_part (fun vs H Q E h => ?_) (fun cdv A outer s H vs Q E hr h => ?_)
  · obtain ⟨p, q, l, l', s, t, rfl, _⟩ := h
    rfl
  · obtain ⟨p, q, l, l', s, t, rfl, hp, hq, h6, k⟩ := h
    refine ⟨_, (pss_one (ps_ret (pe_callB (cr_all rfl) (by rfl) T.no_all (by decide +kernel) (pa_cons (pe_lc (own := [("thing", 2)]) (by rfl) sc_is_part.nd (pi_seq (pv 0)) (blkOk_by (own := [("thing", 2)]) (N := ["part", "things", "thing"]) (sc := defScope s_is_part) (by decide +kernel)) (fun _ _ _ _ _ => pg_name (i := 2) sc_is_part.nd rfl (Or.inl rfl)) (fun _ _ _ _ _ => pts_nil) (fun _ _ _ _ _ => (pe_cmpR (op_inK K) (pv 2) (pv 1) (by with_unfolding_all rfl)))) pa_nil)))), ?_⟩
    show (_ : TS) _ [some (V.ref p), some (V.ref q), none] H
    walk_at "rd"
    refine ⟨l, _, hp, lcl_goes goes_seq (fun D i H5 => H D = none ∧ Same H H5 ∧ H5 D = some (.lst (((s.take i).map fun g => t.contains g).map V.bl))) (fun D hD => ⟨hD, same_upd hD, upd_same⟩)
      (fun D i H5 _ h => h.2.1 _ _ hp) (fun D i x H5 H5' hi ⟨n5, e5, a5⟩ ⟨eq5, hx⟩ => ?_) (fun D H5 _ ⟨n5, e5, a5⟩ => ?_)⟩
    · subst eq5
      rw [iv_len] at hi
      obtain ⟨g, hg, rfl⟩ : ∃ g, s[i]? = some g ∧ x = V.int (g : Nat) := by
        unfold iv at hx
        rw [List.getElem?_map] at hx
        cases z : s[i]? with
        | none => rw [z] at hx; cases hx
        | some g => rw [z] at hx; exact ⟨g, rfl, (Option.some.inj hx).symm⟩
      walk_at "rd"
      refine ⟨_, seqOr (e5 _ _ hq), rfl, iv_flat t, _, a5, small (by rw [List.length_map, List.length_map, List.length_take]; omega), n5, fun b o hb => (upd_ne (ne_of_none hb n5)).trans (e5 _ _ hb), ?_⟩
      rw [List.take_add_one, hg, List.map_append, List.map_append, inV_iv]
      rfl
    · rw [iv_len, List.take_length] at a5
      exact ⟨D, rfl, _, SqL.of a5, by rw [List.all_map]; exact k _ e5⟩
def metL (s t : List Nat) : Bool := s.any fun g => t.contains g
def spTouches : Sp := fun vs H Q _ => ∃ (p q : Addr) (l l' : Bool) (s t : List Nat), vs = [.ref p, .ref q] ∧ H p = some (sq l (iv s)) ∧ H q = some (sq l' (iv t)) ∧ s.length ≤ 6 ∧ ∀ H', Same H H' → Q (.bl (metL s t)) H'
theorem sc_touches : FnScope ["one", "other", "thing"] ["one", "other"] (defScope s_touches) := ⟨rfl, rfl, rfl, by decide +kernel, rfl, by decide +kernel, by decide +kernel⟩
theorem ok_touches (T : Txt K mg a) : FnOk P w K mg base CX0 1 a.a_touches a.d_touches ["one", "other"] spTouches := by
  refine T.fn_touches.ok sc_touches (fun vs H Q E h => ?_) (fun cdv A outer s H vs Q E hr h => ?_)
  · obtain ⟨p, q, l, l', s, t, rfl, _⟩ := h
    rfl
  · obtain ⟨p, q, l, l', s, t, rfl, hp, hq, h6, k⟩ := h
    refine ⟨_, (pss_one (ps_ret (pe_callB (cr_any rfl) (by rfl) T.no_any (by decide +kernel) (pa_cons (pe_lc (own := [("thing", 2)]) (by rfl) sc_touches.nd (pi_seq (pv 0)) (blkOk_by (own := [("thing", 2)]) (N := ["one", "other", "thing"]) (sc := defScope s_touches) (by decide +kernel)) (fun _ _ _ _ _ => pg_name (i := 2) sc_touches.nd rfl (Or.inl rfl)) (fun _ _ _ _ _ => pts_nil) (fun _ _ _ _ _ => (pe_cmpR (op_inK K) (pv 2) (pv 1) (by with_unfolding_all rfl)))) pa_nil)))), ?_⟩
    show (_ : TS) _ [some (V.ref p), some (V.ref q), none] H
    walk_at "rd"
    refine ⟨l, _, hp, lcl_goes goes_seq (fun D i H5 => H D = none ∧ Same H H5 ∧ H5 D = some (.lst (((s.take i).map fun g => t.contains g).map V.bl))) (fun D hD => ⟨hD, same_upd hD, upd_same⟩)
      (fun D i H5 _ h => h.2.1 _ _ hp) (fun D i x H5 H5' hi ⟨n5, e5, a5⟩ ⟨eq5, hx⟩ => ?_) (fun D H5 _ ⟨n5, e5, a5⟩ => ?_)⟩
    · subst eq5
      rw [iv_len] at hi
      obtain ⟨g, hg, rfl⟩ : ∃ g, s[i]? = some g ∧ x = V.int (g : Nat) := by
        unfold iv at hx
        rw [List.getElem?_map] at hx
        cases z : s[i]? with
        | none => rw [z] at hx; cases hx
        | some g => rw [z] at hx; exact ⟨g, rfl, (Option.some.inj hx).symm⟩
      walk_at "rd"
      refine ⟨_, seqOr (e5 _ _ hq), rfl, iv_flat t, _, a5, small (by rw [List.length_map, List.length_map, List.length_take]; omega), n5, fun b o hb => (upd_ne (ne_of_none hb n5)).trans (e5 _ _ hb), ?_⟩
      rw [List.take_add_one, hg, List.map_append, List.map_append, inV_iv]
      rfl
    · rw [iv_len, List.take_length] at a5
      exact ⟨D, rfl, _, SqL.of a5, by rw [List.any_map]; exact k _ e5⟩
/-! ### joined, rest_of -/
def spJoined : Sp := fun vs H Q _ => ∃ (p q : Addr) (l l' : Bool) (s t : List Nat), vs = [.ref p, .ref q] ∧ H p = some (sq l (iv s)) ∧ H q = some (sq l' (iv t)) ∧ s.length ≤ 6 ∧ t.length ≤ 6 ∧
  ∀ r u H', H r = none → Same H H' → u.Pairwise (· < ·) → (∀ g, g ∈ u ↔ g ∈ s ∨ g ∈ t) → H' r = some (.tup (iv u)) → Q (.ref r) H'
theorem sc_joined : FnScope ["one", "other"] ["one", "other"] (defScope s_joined) := ⟨rfl, rfl, rfl, by decide +kernel, rfl, by decide +kernel, by decide +kernel⟩
theorem ok_joined (T : Txt K mg a) : FnOk P w K mg base CX0 1 a.a_joined a.d_joined ["one", "other"] spJoined := by
  refine T.fn_joined.ok sc_joined (fun vs H Q E h => ?_) (fun cdv A outer s H vs Q E hr h => ?_)
  · obtain ⟨p, q, l, l', s, t, rfl, _⟩ := h
    rfl
  · obtain ⟨p, q, l, l', s, t, rfl, hp, hq, h6, h6', k⟩ := h
    refine ⟨_, (pss_one (ps_ret (pe_callTy call_tuple_of (by rfl) T.no_tuple (by decide +kernel) (pa_cons (pe_callB (cr_sortedSet rfl) (by rfl) T.no_sorted (by decide +kernel) (pa_cons (pe_callTy (OwnSet.cr_setI rfl) (by rfl) T.no_set (by decide +kernel) (pa_cons (pe_lst (StX.pa_star (pv 0) (StX.pa_star (pv 1) pa_nil))) pa_nil)) pa_nil)) pa_nil)))), ?_⟩
    show (_ : TS) _ [some (V.ref p), some (V.ref q)] H
    walk_at "rd"
    have ln : (iv s ++ iv t).length ≤ 12 := by rw [List.length_append, iv_len, iv_len]; omega
    have e0 : iv s ++ iv t = ((s ++ t).map fun g => ((g : Nat) : Int)).map V.int := by
      unfold iv
      rw [← List.map_append, List.map_map]
      rfl
    refine ⟨_, seqOr' hp, _, seqOr' hq, small_le (by omega), fun d hd => ⟨(s ++ t).map fun g => ((g : Nat) : Int), SqL.of (by rw [upd_same, e0]), by rw [List.length_map, List.length_append]; omega, fun x n hx hn => ⟨_, n, rfl, ?_, fun ns y pw mem nl hy => ⟨_, .inl ⟨SqL.of upd_same, fun z hz => ?_⟩⟩⟩⟩⟩
    · rw [List.length_map, List.length_append] at hn
      omega
    · have m : ∀ j ∈ ns, ∃ g, (g ∈ s ∨ g ∈ t) ∧ j = ((g : Nat) : Int) := fun j hj => by
        have z := of_decide_eq_true ((mem j).mp hj)
        obtain ⟨g, hg, rfl⟩ := List.mem_map.mp z
        exact ⟨g, List.mem_append.mp hg, rfl⟩
      have c : ns = (ns.map Int.toNat).map fun g => ((g : Nat) : Int) := by
        rw [List.map_map]
        refine (List.map_id ns).symm.trans (List.map_congr_left fun j hj => ?_)
        obtain ⟨g, _, rfl⟩ := m j hj
        exact (congrArg _ (Int.toNat_natCast g)).symm
      have s1 := same_upd (o := .lst (iv s ++ iv t)) hd
      have s2 := same_upd (o := SetO w x (fun j => decide (j ∈ (s ++ t).map fun g => ((g : Nat) : Int))) n) hx
      have s3 := same_upd (o := .lst (ns.map V.int)) hy
      refine k z (ns.map Int.toNat) _ ((((s1.trans s2).trans s3)).free hz) (((s1.trans s2).trans s3).trans (same_upd hz)) ?_ (fun g => ?_) ?_
      · rw [c] at pw
        exact (List.pairwise_map.mp pw).imp fun h => by simpa using h
      · refine ⟨fun h => ?_, fun h => ?_⟩
        · obtain ⟨j, hj, rfl⟩ := List.mem_map.mp h
          obtain ⟨g, hg, rfl⟩ := m j hj
          rw [Int.toNat_natCast]
          exact hg
        · exact List.mem_map.mpr ⟨(g : Int), (mem _).mpr (decide_eq_true (List.mem_map.mpr ⟨g, List.mem_append.mpr h, rfl⟩)), Int.toNat_natCast g⟩
      · have c2 : iv (ns.map Int.toNat) = ns.map V.int := by
          unfold iv
          rw [List.map_map]
          refine List.map_congr_left fun j hj => ?_
          obtain ⟨g, _, rfl⟩ := m j hj
          exact congrArg (fun g : Nat => V.int (g : Int)) (Int.toNat_natCast g)
        rw [upd_same, c2]
def restL (s t : List Nat) : List Nat := s.filter fun g => !t.contains g
def spRest : Sp := fun vs H Q _ => ∃ (p q : Addr) (l l' : Bool) (s t : List Nat), vs = [.ref p, .ref q] ∧ H p = some (sq l (iv s)) ∧ H q = some (sq l' (iv t)) ∧ s.length ≤ 6 ∧ ∀ r H', H r = none → Same H H' → H' r = some (.tup (iv (restL s t))) → Q (.ref r) H'
theorem sc_rest_of : FnScope ["things", "out", "thing"] ["things", "out"] (defScope s_rest_of) := ⟨rfl, rfl, rfl, by decide +kernel, rfl, by decide +kernel, by decide +kernel⟩
theorem ok_rest_of (T : Txt K mg a) : FnOk P w K mg base CX0 1 a.a_rest_of a.d_rest_of ["things", "out"] spRest := by
  refine T.fn_rest_of.ok sc_rest_of (fun vs H Q E h => ?_) (fun cdv A outer s H vs Q E hr h => ?_)
  · obtain ⟨p, q, l, l', s, t, rfl, _⟩ := h
    rfl
  · obtain ⟨p, q, l, l', s, t, rfl, hp, hq, h6, k⟩ := h
    refine ⟨_, (pss_one (ps_ret (pe_callTy call_tuple_of (by rfl) T.no_tuple (by decide +kernel) (pa_cons (pe_lc (own := [("thing", 2)]) (by rfl) sc_rest_of.nd (pi_seq (pv 0)) (blkOk_by (own := [("thing", 2)]) (N := ["things", "out", "thing"]) (sc := defScope s_rest_of) (by decide +kernel)) (fun _ _ _ _ _ => pg_name (i := 2) sc_rest_of.nd rfl (Or.inl rfl)) (fun _ _ _ _ _ => pts_one (pt_cmpR (op_notInK K) (pv 2) (pv 1) (by with_unfolding_all rfl))) (fun _ _ _ _ _ => (pv 2))) pa_nil)))), ?_⟩
    show (_ : TS) _ [some (V.ref p), some (V.ref q), none] H
    walk_at "rd"
    refine ⟨l, _, hp, lcl_goes goes_seq (fun D i H5 => H D = none ∧ Same H H5 ∧ H5 D = some (.lst (iv (restL (s.take i) t)))) (fun D hD => ⟨hD, same_upd hD, upd_same⟩)
      (fun D i H5 _ h => h.2.1 _ _ hp) (fun D i x H5 H5' hi ⟨n5, e5, a5⟩ ⟨eq5, hx⟩ => ?_) (fun D H5 _ ⟨n5, e5, a5⟩ => ?_)⟩
    · subst eq5
      rw [iv_len] at hi
      obtain ⟨g, hg, rfl⟩ : ∃ g, s[i]? = some g ∧ x = V.int (g : Nat) := by
        unfold iv at hx
        rw [List.getElem?_map] at hx
        cases z : s[i]? with
        | none => rw [z] at hx; cases hx
        | some g => rw [z] at hx; exact ⟨g, rfl, (Option.some.inj hx).symm⟩
      walk_at "rd"
      refine ⟨_, seqOr (e5 _ _ hq), rfl, iv_flat t, ?_⟩
      have st : restL (s.take (i + 1)) t = restL (s.take i) t ++ (if t.contains g = true then [] else [g]) := by
        unfold restL
        rw [List.take_add_one, hg, List.filter_append]
        cases z : t.contains g with
        | true => rw [show (some g).toList = [g] from rfl, List.filter_cons_of_neg (by rw [z]; decide)]; rfl
        | false => rw [show (some g).toList = [g] from rfl, List.filter_cons_of_pos (by rw [z]; decide)]; rfl
      rw [inV_iv, st]
      cases z : t.contains g with
      | true =>
        rw [if_neg (by decide), if_pos rfl, List.append_nil]
        exact ⟨n5, e5, a5⟩
      | false =>
        rw [if_pos (by decide), if_neg (by decide)]
        refine ⟨_, a5, small ?_, n5, fun b o hb => (upd_ne (ne_of_none hb n5)).trans (e5 _ _ hb), ?_⟩
        · rw [iv_len]
          have := List.length_filter_le (fun g => !t.contains g) (s.take i)
          rw [List.length_take] at this
          show (restL (s.take i) t).length < 1000
          unfold restL
          omega
        · unfold iv
          rw [List.map_append]
          rfl
    · rw [iv_len, List.take_length] at a5
      exact ⟨D, rfl, _, .inl ⟨SqL.of a5, fun r hr => k r _ (e5.free hr) (e5.trans (same_upd hr)) upd_same⟩⟩
end

end K32
namespace K32
open PySem PySem.Spec PyProof.Rows L2 Own OwnSeq OwnSet OwnComb OwnSort OwnHot OwnExN OwnProj
local macro_rules | `(tactic| walk_at "rd") => `(tactic| simp only [tSeq, tAsg, tOp, tUn, tVar, gName, gSub, rIxL, rIxT, rSetL, tC, rI0, rI, rU, rEq, rNe, tCons, tNil, tCB, tLst, tTup, tIfS, tAnd, tOr, tNot, tAndV, tOrV, tNotV, tTest, tB, tIf, tRet, tDrop, tNext, tBreak, tCont, tCall, tCallS, L2.WE, tMakeS, rIsS, rIsB, tChain, gSeq, gRest, gCons, gNil, tFor_seq, tFor_enumS, tLc_seq, tLc_enumS, rAny, rAll, L2.tMeth, StX.tStar, rIn, tLstRg, tRg1, tRg2, rSetI, rSortedSet, rInDT, rInD, rNotInD, rEqD, rNeD, iComb, tFld, tMake, tMkO, sFld, tOst, tNever, tBits, clv, isB,
  Rd.tFor_rng1, Rd.tFor_rng2, Rd.tFor_list, Rd.tFor_tup, Rd.tLc_list, Rd.tLc_tup, Rd.tLc_rng1, Rd.LcTurn, tYes, wipe, Rd.rLenL, Rd.rLenT, Rd.rIntI, Rd.rIxH, rIxHT,  HO.tup.injEq, Rd.at0, Rd.at1, Rd.at2, Rd.at3, Rd.ixN40, Rd.ixN41, Rd.ixN42, Rd.ixN43, Rd.scal_ii, cxOf,
  List.length_cons, List.length_nil, List.length_map, List.map_cons, List.map_nil, upd_same, decide_eq_true_eq, decide_true, decide_false, if_true, if_false, Bool.false_eq_true, Bool.not_true, Bool.not_false, HO.lst.injEq, HO.ins.injEq, List.set_cons_zero, List.set_cons_succ, List.getElem?_cons_zero, List.getElem?_cons_succ, List.append_nil, List.nil_append, List.cons_append, Option.some.injEq, V.ref.injEq, V.int.injEq, V.bl.injEq, List.cons.injEq, exists_eq_left', exists_and_left, exists_eq_left, true_and, and_true, and_self, and_assoc, implies_true, reduceCtorEq, Nat.reduceAdd])

/-- sets as lists or tuples -/
def Seqs (H : Hp) : List V → List (List Nat) → Prop
  | [], [] => True
  | v :: vs, s :: ss => (∃ q l, v = .ref q ∧ H q = some (sq l (iv s))) ∧ Seqs H vs ss
  | _, _ => False
theorem Seqs.len {H : Hp} : ∀ {xs : List V} {gs : List (List Nat)}, Seqs H xs gs → xs.length = gs.length
  | [], [], _ => rfl
  | _ :: _, _ :: _, h => congrArg (· + 1) h.2.len
  | [], _ :: _, h => h.elim
  | _ :: _, [], h => h.elim
theorem Seqs.at {H : Hp} : ∀ {xs : List V} {gs : List (List Nat)} {i : Nat} {x : V}, Seqs H xs gs → xs[i]? = some x → ∃ g, gs[i]? = some g ∧ ∃ q l, x = .ref q ∧ H q = some (sq l (iv g))
  | _ :: _, g :: _, 0, _, h, e => ⟨g, rfl, by cases Option.some.inj e; exact h.1⟩
  | _ :: _, _ :: _, i + 1, _, h, e => Seqs.at (i := i) h.2 e
  | [], [], _, _, _, e => by cases e
  | [], _ :: _, _, _, h, _ => h.elim
  | _ :: _, [], _, _, h, _ => h.elim
theorem at_iv {s : List Nat} {i : Nat} {x : V} (hx : (iv s)[i]? = some x) : ∃ g, s[i]? = some g ∧ x = V.int (g : Nat) := by
  unfold iv at hx
  rw [List.getElem?_map] at hx
  cases z : s[i]? with
  | none => rw [z] at hx; cases hx
  | some g => rw [z] at hx; exact ⟨g, rfl, (Option.some.inj hx).symm⟩
theorem Seqs.same {H H' : Hp} (e : Same H H') : ∀ {vs : List V} {ss : List (List Nat)}, Seqs H vs ss → Seqs H' vs ss
  | [], [], _ => trivial
  | _ :: _, _ :: _, ⟨⟨q, l, a, b⟩, r⟩ => ⟨⟨q, l, a, e _ _ b⟩, Seqs.same e r⟩
  | [], _ :: _, h => h.elim
  | _ :: _, [], h => h.elim
theorem ty_sq {H : Hp} {p : Addr} {l : Bool} {xs : List V} (h : H p = some (sq l xs)) : ∃ g, Ty H (.ref p) g ∧ (decide (g = .lst) || decide (g = .tup)) = true ∧ (decide (g = .tup)) = !l := by
  cases l with
  | true => exact ⟨.lst, .lst h, by decide, by decide⟩
  | false => exact ⟨.tup, .tup h, by decide, by decide⟩
theorem asc_step {s : List Nat} {i g : Nat} (h : asc s = true) (hg : s[i]? = some g) : ∀ g', g' ∈ s.take i → g' < g := by
  induction s generalizing i with
  | nil => cases hg
  | cons x s ih =>
    obtain ⟨a, b⟩ := Bool.and_eq_true_iff.mp h
    cases i with
    | zero => intro g' hm; cases hm
    | succ i =>
      intro g' hm
      have hg : s[i]? = some g := hg
      rcases List.mem_cons.mp hm with rfl | hm
      · exact of_decide_eq_true (List.all_eq_true.mp a g (List.mem_of_getElem? hg))
      · exact ih b hg g' hm
section
variable {P : Program} {w : World} {K : PySem.W.Frag} {mg : Str → Option Value} {base : Heap} {a : Ad}
/-! ### is_whole, is_within, is_ascending -/
def spWhole : Sp := fun vs H Q _ => ∃ (i : Int), vs = [.int i] ∧ Q (.bl true) H
theorem sc_is_whole : FnScope ["value"] ["value"] (defScope s_is_whole) := ⟨rfl, rfl, rfl, by decide +kernel, rfl, by decide +kernel, by decide +kernel⟩
theorem ok_is_whole (T : Txt K mg a) : FnOk P w K mg base CX0 1 a.a_is_whole a.d_is_whole ["value"] spWhole := by
  refine T.fn_is_whole.ok sc_is_whole (fun vs H Q E h => ?_) (fun cdv A outer s H vs Q E hr h => ?_)
  · obtain ⟨i, rfl, _⟩ := h
    rfl
  · obtain ⟨i, rfl, k⟩ := h
    refine ⟨_, (pss_one (ps_ret (pe_and (pe_callB (call_isB .int) (by rfl) T.no_isinstance (by decide +kernel) (pa_cons (pv 0) (pa_cons (pe_bltn (v := .ty "int") (u := .type "int") (by rfl) T.no_int (by decide +kernel) rfl) pa_nil))) (pe_one (pe_not (pe_callB (call_isB .bl) (by rfl) T.no_isinstance (by decide +kernel) (pa_cons (pv 0) (pa_cons (pe_bltn (v := .ty "bool") (u := .type "bool") (by rfl) T.no_bool (by decide +kernel) rfl) pa_nil)))))))), ?_⟩
    show (_ : TS) _ [some (V.int i)] H
    walk_at "rd"
    refine ⟨_, .int i, ?_⟩
    rw [if_pos (by decide)]
    exact ⟨_, .int i, k⟩
def spWithin : Sp := fun vs H Q _ => ∃ (i lo hi : Int), vs = [.int i, .int lo, .int hi] ∧ Q (.bl (decide (lo ≤ i) && decide (i ≤ hi))) H
theorem sc_is_within : FnScope ["value", "least", "most"] ["value", "least", "most"] (defScope s_is_within) := ⟨rfl, rfl, rfl, by decide +kernel, rfl, by decide +kernel, by decide +kernel⟩
theorem ok_is_within (T : Txt K mg a) : FnOk P w K mg base CX0 2 a.a_is_within a.d_is_within ["value", "least", "most"] spWithin := by
  refine T.fn_is_within.ok sc_is_within (fun vs H Q E h => ?_) (fun cdv A outer s H vs Q E hr h => ?_)
  · obtain ⟨i, lo, hi, rfl, _⟩ := h
    rfl
  · obtain ⟨i, lo, hi, rfl, k⟩ := h
    refine ⟨_, (pss_one (ps_ret (pe_and (pe_call (ok_is_whole T) (hr.mono (by decide)) (by rfl) T.mg_is_whole T.fn_is_whole.kp T.b_is_whole .nil pass0 (pa_cons (pv 0) pa_nil)) (pe_one (pe_chain op_le op_le (pv 1) (pv 0) (pv 2)))))), ?_⟩
    show (_ : TS) _ [some (V.int i), some (V.int lo), some (V.int hi)] H
    walk_at "rd"
    refine ⟨i, rfl, true, rfl, ?_⟩
    rw [if_pos rfl]
    by_cases z : lo ≤ i
    · rw [if_pos z]
      rw [decide_eq_true z] at k
      exact k
    · rw [if_neg z]
      rw [decide_eq_false z] at k
      exact k
def spAsc : Sp := fun vs H Q _ => ∃ (p : Addr) (l : Bool) (s : List Nat) (n : Nat), vs = [.ref p, .int n] ∧ H p = some (sq l (iv s)) ∧ asc s = true ∧ (∀ g ∈ s, g < n) ∧ ∀ H', Same H H' → Q (.bl true) H'
theorem sc_is_ascending : FnScope ["value", "size", "least", "number"] ["value", "size"] (defScope s_is_ascending) := ⟨rfl, rfl, rfl, by decide +kernel, rfl, by decide +kernel, by decide +kernel⟩
theorem ok_is_ascending (T : Txt K mg a) : FnOk P w K mg base CX0 3 a.a_is_ascending a.d_is_ascending ["value", "size"] spAsc := by
  refine T.fn_is_ascending.ok sc_is_ascending (fun vs H Q E h => ?_) (fun cdv A outer s H vs Q E hr h => ?_)
  · obtain ⟨p, l, s, n, rfl, _⟩ := h
    rfl
  · obtain ⟨p, l, t, n, rfl, hp, ha, hn, k⟩ := h
    refine ⟨_, (pss_cons (ps_if (pt_not (pt_val (pe_callB call_isS (by rfl) T.no_isinstance (by decide +kernel) (pa_cons (pv 0) (pa_cons (pe_tup (pa_cons (pe_bltn (v := .ty "list") (u := .type "list") (by rfl) T.no_list (by decide +kernel) rfl) (pa_cons (pe_bltn (v := .ty "tuple") (u := .type "tuple") (by rfl) T.no_tuple (by decide +kernel) rfl) pa_nil))) pa_nil))))) (pss_one (ps_ret pe_bl)) pss_nil)
      (pss_cons (ps_set (i := 2) sc_is_ascending.nd rfl (Or.inl rfl) pe_int)
      (pss_cons (ps_for PassesOwn.never rfl (pi_seq (pv 0)) (pg_name (i := 3) sc_is_ascending.nd rfl (Or.inl rfl))
        (pss_cons (ps_if (pt_not (pt_val (pe_call (ok_is_within T) (hr.mono (by decide)) (by rfl) T.mg_is_within T.fn_is_within.kp T.b_is_within .nil pass0 (pa_cons (pv 3) (pa_cons (pv 2) (pa_cons (pe_op op_sub (pv 1) pe_int) pa_nil)))))) (pss_one (ps_ret pe_bl)) pss_nil)
        (pss_one (ps_set (i := 2) sc_is_ascending.nd rfl (Or.inl rfl) (pe_op op_add (pv 3) pe_int)))))
      (pss_one (ps_ret pe_bl))))), ?_⟩
    show (_ : TS) _ [some (V.ref p), some (V.int n), none, none] H
    walk_at "rd"
    refine ⟨by decide, fun c hc => ?_⟩
    have e1 := same_upd (o := .tup [V.ty "list", V.ty "tuple"]) hc
    generalize upd H c (.tup [V.ty "list", V.ty "tuple"]) = H1 at e1 ⊢
    obtain ⟨g, t1, t2, _⟩ := ty_sq (e1 _ _ hp)
    refine ⟨g, t1, ?_⟩
    rw [if_neg (by rw [t2]; decide)]
    refine ⟨l, _, e1 _ _ hp, loop_goes goes_seq (fun σ H' => Same H H' ∧ ∃ o2 o3, σ = [some (V.ref p), some (V.int n), o2, o3])
      (fun i σ H' => Same H H' ∧ ∃ (z : Nat) (o3 : Option V), σ = [some (V.ref p), some (V.int n), some (V.int z), o3] ∧ ∀ g ∈ t.drop i, z ≤ g) ⟨e1, 0, none, rfl, fun g _ => Nat.zero_le g⟩ (fun i σ H' _ ⟨e, _⟩ => e _ _ hp) ?_ (fun σ H' ⟨e, z, o3, q, _⟩ => ⟨e, _, _, q⟩) ?_⟩
    · rintro bk hbk i x σ H2 H2' hi ⟨e2, z, o3, rfl, lo⟩ ⟨rfl, hx⟩
      obtain ⟨g, hg, rfl⟩ := at_iv hx
      have hm := List.mem_of_getElem? hg
      have hd : t.drop i = g :: t.drop (i + 1) := by
        rw [List.drop_eq_getElem_cons (List.getElem?_eq_some_iff.mp hg).1]
        rw [(List.getElem?_eq_some_iff.mp hg).2]
      have zg := lo g (by rw [hd]; exact List.mem_cons_self)
      have gn := hn g hm
      walk_at "rd"
      refine ⟨_, _, _, rfl, true, ?_, ?_⟩
      · rw [decide_eq_true (show (z : Int) ≤ (g : Int) by omega), decide_eq_true (show (g : Int) ≤ (n : Int) - 1 by omega)]
        rfl
      rw [if_neg (by decide)]
      refine ⟨e2, g + 1, rfl, fun g' hg' => ?_⟩
      obtain ⟨j, hj⟩ := List.mem_iff_getElem?.mp hg'
      rw [List.getElem?_drop] at hj
      refine asc_step ha hj g ?_
      refine List.mem_take_iff_getElem.mpr ⟨i, ?_, (List.getElem?_eq_some_iff.mp hg).2⟩
      have := (List.getElem?_eq_some_iff.mp hj).1
      omega
    · rintro σ H2 ⟨e2, o2, o3, rfl⟩
      exact k _ e2
/-! ### clean_sets -/
def spCleanS : Sp := fun vs H Q _ => ∃ (p : Addr) (n : Nat) (xs : List V) (ss : List (List Nat)), vs = [.int n, .ref p] ∧ H p = some (.lst xs) ∧ Seqs H xs ss ∧ 1 ≤ n ∧ n ≤ 6 ∧ ss.length ≤ 64 ∧ (∀ s ∈ ss, s ∈ allS n) ∧
  ∀ q ys H', H q = none → Same H H' → H' q = some (.lst ys) → Tups H' ys ss → Q (.ref q) H'
theorem sc_clean_sets : FnScope ["size", "sets", "cleaned", "at", "things"] ["size", "sets"] (defScope s_clean_sets) := ⟨rfl, rfl, rfl, by decide +kernel, rfl, by decide +kernel, by decide +kernel⟩
theorem ok_clean_sets (T : Txt K mg a) : FnOk P w K mg base CX0 4 a.a_clean_sets a.d_clean_sets ["size", "sets"] spCleanS := by
  refine T.fn_clean_sets.ok sc_clean_sets (fun vs H Q E h => ?_) (fun cdv A outer s H vs Q E hr h => ?_)
  · obtain ⟨p, n, xs, ss, rfl, _⟩ := h
    rfl
  · obtain ⟨p, n, xs, ss, rfl, hp, sv, n1, n6, l64, ha, k⟩ := h
    obtain ⟨t1, mg_MOST_THINGS⟩ := T.mg_MOST_THINGS
    refine ⟨_, (pss_cons (ps_if (pt_not (pt_val (pe_call (ok_is_within T) (hr.mono (by decide)) (by rfl) T.mg_is_within T.fn_is_within.kp T.b_is_within .nil pass0 (pa_cons (pv 0) (pa_cons pe_int (pa_cons (pe_glob (v := .int 6) rfl mg_MOST_THINGS ⟨_, rfl⟩) pa_nil)))))) (pss_one ps_never) pss_nil)
      (pss_cons (ps_set (i := 2) sc_clean_sets.nd rfl (Or.inl rfl) (pe_lst pa_nil))
      (pss_cons (ps_for PassesOwn.never rfl (pi_enumS (by rfl) T.no_enumerate (pa_cons (pv 1) pa_nil)) (pg_seq (n := 2) rfl (pgs_cons (pg_name (i := 3) sc_clean_sets.nd rfl (Or.inl rfl)) (pgs_cons (pg_name (i := 4) sc_clean_sets.nd rfl (Or.inl rfl)) pgs_nil)))
        (pss_cons (ps_if (pt_not (pt_val (pe_call (ok_is_ascending T) (hr.mono (by decide)) (by rfl) T.mg_is_ascending T.fn_is_ascending.kp T.b_is_ascending .nil pass0 (pa_cons (pv 4) (pa_cons (pv 0) pa_nil))))) (pss_one ps_never) pss_nil)
        (pss_one (ps_expr (pe_bm PySem.F.plainAttrs_list PySem.F.slot_list_append PySem.F.type_list_append mt_append (pv 2) (pa_cons (pe_callTy call_tuple_of (by rfl) T.no_tuple (by decide +kernel) (pa_cons (pv 4) pa_nil)) pa_nil))))))
      (pss_one (ps_ret (pv 2)))))), ?_⟩
    show (_ : TS) _ [some (V.int n), some (V.ref p), none, none, none] H
    walk_at "rd"
    refine ⟨_, _, _, rfl, true, ?_, ?_⟩
    · rw [decide_eq_true (show (1 : Int) ≤ (n : Int) by omega), decide_eq_true (show (n : Int) ≤ 6 by omega)]
      rfl
    rw [if_neg (by decide)]
    refine ⟨by decide, fun c hc => ?_⟩
    have e1 := same_upd (o := .lst []) hc
    have at1 := upd_same (H := H) (a := c) (o := .lst [])
    generalize upd H c (.lst []) = H1 at e1 at1 ⊢
    have len := sv.len
    refine ⟨true, xs, e1 _ _ hp, loop_goes goes_enum (fun σ H' => ∃ o3 o4 acc, σ = [some (V.int n), some (V.ref p), some (V.ref c), o3, o4] ∧ Same H H' ∧ H' c = some (.lst acc) ∧ Tups H' acc ss)
      (fun i σ H' => ∃ o3 o4 acc, σ = [some (V.int n), some (V.ref p), some (V.ref c), o3, o4] ∧ Same H H' ∧ H' c = some (.lst acc) ∧ Tups H' acc (ss.take i)) ⟨none, none, [], rfl, e1, at1, trivial⟩ (fun i σ H' _ ⟨_, _, _, _, e, _⟩ => e _ _ hp) ?_
      (fun σ H' ⟨o3, o4, acc, q1, q2, q3, q4⟩ => ⟨o3, o4, acc, q1, q2, q3, by rw [len, List.take_length] at q4; exact q4⟩) ?_⟩
    · rintro bk hbk i y σ H3 H3' hi ⟨o3, o4, acc, rfl, e3, a3, c3⟩ ⟨t, z, rfl, ht, rfl, hz⟩
      obtain ⟨s', hs, q, l, rfl, hq⟩ := sv.at hz
      have te := same_upd (o := .tup [.int (i : Nat), .ref q]) ht
      have e4 := e3.trans te
      have ss' := allS_at (ha _ (List.mem_of_getElem? hs)) n6
      walk_at "rd"
      refine ⟨false, _, rfl, rfl, _, _, rfl, _, _, rfl, rfl, q, l, s', n, rfl, e4 _ _ hq, ss'.2.2.2.2, ss'.2.2.1, fun H5 e5 => ⟨true, rfl, ?_⟩⟩
      rw [if_neg (by decide)]
      simp only [tBM, rAppend]
      walk_at "rd"
      have a5 := e5 _ _ (te _ _ a3)
      have cl := c3.len
      rw [List.length_take] at cl
      have fin : ∀ r H6, Same H5 H6 → H6 r = some (.tup (iv s')) → ∃ x, H6 c = some (.lst x) ∧ x.length < sizeLine ∧ Same H (upd H6 c (.lst (x ++ [.ref r]))) ∧ Tups (upd H6 c (.lst (x ++ [.ref r]))) (x ++ [.ref r]) (ss.take (i + 1)) := fun r H6 e6 hr => by
        have a6 := e6 _ _ a5
        have c6 := ((c3.same te).same e5).same e6
        refine ⟨acc, a6, small (by omega), fun b o hb => (upd_ne (ne_of_none hb hc)).trans (e6 _ _ (e5 _ _ (e4 _ _ hb))), ?_⟩
        rw [List.take_add_one, hs]
        exact Tups.upd a6 (Tups.app c6 ⟨⟨r, rfl, hr⟩, trivial⟩)
      have hq5 := e5 _ _ (e4 _ _ hq)
      cases l with
      | true =>
        refine ⟨.inl ⟨rfl, _, SqL.of a5⟩, _, .inl ⟨SqL.of hq5, fun r hr => ?_⟩⟩
        obtain ⟨x, h1, h2, h3, h4⟩ := fin r _ (same_upd hr) upd_same
        exact ⟨x, h1, h2, h3, h4⟩
      | false =>
        refine ⟨.inl ⟨rfl, _, SqL.of a5⟩, _, .inr ⟨SqT.of hq5, ?_⟩⟩
        obtain ⟨x, h1, h2, h3, h4⟩ := fin q _ (Same.refl _) hq5
        exact ⟨x, h1, h2, h3, h4⟩
    · rintro σ H3 ⟨o3, o4, acc, rfl, e3, a3, c3⟩
      walk_at "rd"
      exact k c acc H3 hc e3 a3 c3
end

end K32
namespace K32
open PySem PySem.Spec PyProof.Rows L2 Own OwnSeq OwnSet OwnComb OwnSort OwnHot OwnExN OwnProj
local macro_rules | `(tactic| walk_at "rd") => `(tactic| simp only [tSeq, tAsg, tOp, tUn, tVar, gName, gSub, rIxL, rIxT, rSetL, tC, rI0, rI, rU, rEq, rNe, tCons, tNil, tCB, tLst, tTup, tIfS, tAnd, tOr, tNot, tAndV, tOrV, tNotV, tTest, tB, tIf, tRet, tDrop, tNext, tBreak, tCont, tCall, tCallS, L2.WE, tMakeS, rIsS, rIsB, tChain, gSeq, gRest, gCons, gNil, tFor_seq, tFor_enumS, tLc_seq, tLc_enumS, rAny, rAll, L2.tMeth, StX.tStar, rIn, tLstRg, tRg1, tRg2, rSetI, rSortedSet, rInDT, rInD, rNotInD, rEqD, rNeD, iComb, tFld, tMake, tMkO, sFld, tOst, tNever, tBits, clv, isB,
  Rd.tFor_rng1, Rd.tFor_rng2, Rd.tFor_list, Rd.tFor_tup, Rd.tLc_list, Rd.tLc_tup, Rd.tLc_rng1, Rd.LcTurn, tYes, wipe, Rd.rLenL, Rd.rLenT, Rd.rIntI, Rd.rIxH, rIxHT,  HO.tup.injEq, Rd.at0, Rd.at1, Rd.at2, Rd.at3, Rd.ixN40, Rd.ixN41, Rd.ixN42, Rd.ixN43, Rd.scal_ii, cxOf,
  List.length_cons, List.length_nil, List.length_map, List.map_cons, List.map_nil, upd_same, decide_eq_true_eq, decide_true, decide_false, if_true, if_false, Bool.false_eq_true, Bool.not_true, Bool.not_false, HO.lst.injEq, HO.ins.injEq, List.set_cons_zero, List.set_cons_succ, List.getElem?_cons_zero, List.getElem?_cons_succ, List.append_nil, List.nil_append, List.cons_append, Option.some.injEq, V.ref.injEq, V.int.injEq, V.bl.injEq, List.cons.injEq, exists_eq_left', exists_and_left, exists_eq_left, true_and, and_true, and_self, and_assoc, implies_true, reduceCtorEq, Nat.reduceAdd])

theorem eqD_at {X : Cx} (K : PySem.W.Frag) (hu : X.A.units + 64 < cLine) (hK : X.K = K := by rfl) : OpR X (compareOp .Eq) (rEqD K) := by
  subst hK
  exact op_eqD hu
theorem u65 {k : Nat} {A : Around} (r : Room k A) : A.units + 65 < cLine := by have := r.un; omega
theorem inD_at {X : Cx} (K : PySem.W.Frag) (hu : X.A.units + 65 < cLine) (hK : X.K = K := by rfl) : OpR X (compareOp .In) (rInD K) := by
  subst hK
  exact op_inD hu
theorem inDT_at {X : Cx} (K : PySem.W.Frag) (hu : X.A.units + 65 < cLine) (hK : X.K = K := by rfl) : OpR X (compareOp .In) (rInDT K) := by
  subst hK
  exact op_inDT hu
/-! ### sets as data -/
def dS (s : List Nat) : PyData := .tuple (s.map fun g => .int (g : Nat))
theorem dp_ints {K : PySem.W.Frag} {H : Hp} : ∀ s : List Nat, DpAll K H (iv s) (s.map fun g => PyData.int (g : Nat))
  | [] => .nil
  | g :: s => .cons (.int _) (dp_ints s)
theorem dp_set {K : PySem.W.Frag} {H : Hp} {q : Addr} {s : List Nat} (h : H q = some (.tup (iv s))) : Dp K H (.ref q) (dS s) := .tup (SqT.of h) (dp_ints s)
theorem dp_sets {K : PySem.W.Frag} {H : Hp} : ∀ {vs : List V} {ss : List (List Nat)}, Tups H vs ss → DpAll K H vs (ss.map dS)
  | [], [], _ => .nil
  | _ :: _, _ :: _, ⟨⟨q, e, h⟩, r⟩ => e ▸ .cons (dp_set h) (dp_sets r)
  | [], _ :: _, h => h.elim
  | _ :: _, [], h => h.elim
theorem lay_ints : ∀ s : List Nat, PyData.canLayAll0 (s.map fun g => PyData.int (g : Nat)) = true ∧ PyData.depthAll (s.map fun g => PyData.int (g : Nat)) = 0
  | [] => ⟨by simp [PyData.canLayAll0], by simp [PyData.depthAll]⟩
  | g :: s => by
    obtain ⟨a, b⟩ := lay_ints s
    refine ⟨?_, ?_⟩
    · simp only [List.map_cons, PyData.canLayAll0, PyData.canLay0, a, Bool.and_self]
    · simp only [List.map_cons, PyData.depthAll, PyData.depth, b, Nat.max_self]
theorem lay_set (s : List Nat) : (dS s).canLay0 = true ∧ (dS s).depth = 1 := by
  obtain ⟨a, b⟩ := lay_ints s
  unfold dS
  exact ⟨by simp only [PyData.canLay0, a], by simp only [PyData.depth, b]⟩
theorem lay_sets : ∀ ss : List (List Nat), PyData.canLayAll0 (ss.map dS) = true ∧ PyData.depthAll (ss.map dS) ≤ 1
  | [] => ⟨by simp [PyData.canLayAll0], by simp [PyData.depthAll]⟩
  | s :: ss => by
    obtain ⟨a, b⟩ := lay_sets ss
    obtain ⟨c, d⟩ := lay_set s
    refine ⟨?_, ?_⟩
    · simp only [List.map_cons, PyData.canLayAll0, a, c, Bool.and_self]
    · simp only [List.map_cons, PyData.depthAll, d]
      omega
theorem sh_set (s : List Nat) : SeqAt.shaped (dS s) = true := by
  unfold SeqAt.shaped
  rw [(lay_set s).1, (lay_set s).2]
  decide
theorem sh_list (ss : List (List Nat)) : SeqAt.shaped (.list (ss.map dS)) = true := by
  have := (lay_sets ss).2
  unfold SeqAt.shaped
  rw [show (PyData.list (ss.map dS)).canLay0 = PyData.canLayAll0 (ss.map dS) by simp only [PyData.canLay0], (lay_sets ss).1]
  simp only [PyData.depth, Bool.true_and]
  exact decide_eq_true (by omega)
theorem sh_tup (ss : List (List Nat)) : SeqAt.shaped (.tuple (ss.map dS)) = true := by
  have := (lay_sets ss).2
  unfold SeqAt.shaped
  rw [show (PyData.tuple (ss.map dS)).canLay0 = PyData.canLayAll0 (ss.map dS) by simp only [PyData.canLay0], (lay_sets ss).1]
  simp only [PyData.depth, Bool.true_and]
  exact decide_eq_true (by omega)
theorem eqv_ints : ∀ s t : List Nat, PyData.eqvAll (s.map fun g => PyData.int (g : Nat)) (t.map fun g => PyData.int (g : Nat)) = decide (s = t)
  | [], [] => by simp [PyData.eqvAll]
  | [], _ :: _ => by simp [PyData.eqvAll]
  | _ :: _, [] => by simp [PyData.eqvAll]
  | x :: s, y :: t => by
    simp only [List.map_cons, PyData.eqvAll, PyData.eqv, eqv_ints s t]
    by_cases h : x = y
    · subst h
      by_cases h2 : s = t <;> simp [h2]
    · have : ¬ ((x : Int) = (y : Int)) := by omega
      simp [h, this]
theorem eqv_set (s t : List Nat) : PyData.eqv (dS s) (dS t) = decide (s = t) := by
  unfold dS
  simp only [PyData.eqv]
  exact eqv_ints s t
theorem any_sets (ss : List (List Nat)) (s : List Nat) : ((ss.map dS).any fun z => PyData.eqv z (dS s)) = ss.contains s := by
  rw [List.any_map]
  induction ss with
  | nil => rfl
  | cons t ss ih =>
    rw [List.any_cons, List.contains_cons, ih]
    congr 1
    show PyData.eqv (dS t) (dS s) = (s == t)
    rw [eqv_set, Bool.eq_iff_iff, decide_eq_true_eq, beq_iff_eq]
    exact eq_comm
theorem famL_mem {n : Nat} {S : List Bool} {s : List Nat} : s ∈ famL n S ↔ s ∈ allS n ∧ In S (mk s) = true := List.mem_filter
theorem subs_all : ((List.range 7).all fun n => (allS n).all fun s => (allS n).all fun t => !subL s t || decide (Sub (mk s) (mk t))) = true := by decide +kernel
theorem sub_mk {n : Nat} {s t : List Nat} (h : n ≤ 6) (hs : s ∈ allS n) (ht : t ∈ allS n) (z : subL s t = true) : Sub (mk s) (mk t) := by
  have y := List.all_eq_true.mp (List.all_eq_true.mp (List.all_eq_true.mp subs_all n (List.mem_range.mpr (by omega))) s hs) t ht
  rw [z] at y
  simpa using y
theorem nil_in {n : Nat} (h : n ≤ 6) : ([] : List Nat) ∈ allS n := by
  have z := (bits_in (n := n) (m := 0) h (Nat.pow_pos (by decide))).2
  rwa [show bits 0 = [] by decide] at z
section
variable {P : Program} {w : World} {K : PySem.W.Frag} {mg : Str → Option Value} {base : Heap} {a : Ad}
/-! ### closed_sets -/
def spClosed : Sp := fun vs H Q _ => ∃ (p : Addr) (n : Nat) (S : List Bool) (xs : List V) (ss : List (List Nat)), vs = [.int n, .ref p] ∧ H p = some (.lst xs) ∧ Seqs H xs ss ∧ Fam n S ∧ ss.length ≤ 64 ∧ (∀ s, s ∈ ss ↔ s ∈ famL n S) ∧
  ∀ q ys H', H q = none → Same H H' → H' q = some (.tup ys) → Tups H' ys (famL n S) → Q (.ref q) H'
theorem sc_closed_sets : FnScope ["size", "sets", "given", "kept", "things", "other"] ["size", "sets"] (defScope s_closed_sets) := ⟨rfl, rfl, rfl, by decide +kernel, rfl, by decide +kernel, by decide +kernel⟩
theorem ok_closed_sets (T : Txt K mg a) : FnOk P w K mg base CX0 5 a.a_closed_sets a.d_closed_sets ["size", "sets"] spClosed := by
  refine T.fn_closed_sets.ok sc_closed_sets (fun vs H Q E h => ?_) (fun cdv A outer s H vs Q E hr h => ?_)
  · obtain ⟨p, n, S, xs, ss, rfl, _⟩ := h
    rfl
  · obtain ⟨p, n, S, xs, ss, rfl, hp, sv, F, l64, hs, k⟩ := h
    refine ⟨_, (pss_cons (ps_set (i := 2) sc_closed_sets.nd rfl (Or.inl rfl) (pe_call (ok_clean_sets T) (hr.mono (by decide)) (by rfl) T.mg_clean_sets T.fn_clean_sets.kp T.b_clean_sets .nil pass0 (pa_cons (pv 0) (pa_cons (pv 1) pa_nil))))
      (pss_cons (ps_set (i := 3) sc_closed_sets.nd rfl (Or.inl rfl) (pe_lst pa_nil))
      (pss_cons (ps_for PassesOwn.never rfl (pi_list (pe_call (ok_all_sets T) (hr.mono (by decide)) (by rfl) T.mg_all_sets T.fn_all_sets.kp T.b_all_sets .nil pass0 (pa_cons (pv 0) pa_nil))) (pg_name (i := 4) sc_closed_sets.nd rfl (Or.inr rfl))
        (pss_one (ps_if (pt_cmpR (inD_at K (u65 hr)) (pv 4) (pv 2) (by with_unfolding_all rfl)) (pss_one (ps_expr (pe_bm PySem.F.plainAttrs_list PySem.F.slot_list_append PySem.F.type_list_append mt_append (pv 3) (pa_cons (pv 4) pa_nil)))) (pss_one (ps_if (PW.pt (pw_or (pt_cmpR (eqD_at K hr.units) (pv 4) (pe_tup pa_nil) (nomark _)) (pw_or1 (pt_val (pe_callB (cr_any rfl) (by rfl) T.no_any (by decide +kernel) (pa_cons (pe_lc (own := [("other", 5)]) (by rfl) sc_closed_sets.nd (pi_list (pv 2)) (blkOk_by (own := [("other", 5)]) (N := ["size", "sets", "given", "kept", "things", "other"]) (sc := defScope s_closed_sets) (by decide +kernel)) (fun _ _ _ _ _ => pg_name (i := 5) sc_closed_sets.nd rfl (Or.inl rfl)) (fun _ _ _ _ _ => pts_nil) (fun _ _ _ _ _ => (pe_call (ok_is_part T) (hr.mono (by decide)) (by rfl) T.mg_is_part T.fn_is_part.kp T.b_is_part .nil pass0 (pa_cons (pv 4) (pa_cons (pv 5) pa_nil))))) pa_nil)))))) (pss_one ps_never) pss_nil)))))
      (pss_one (ps_ret (pe_callTy call_tuple_of (by rfl) T.no_tuple (by decide +kernel) (pa_cons (pv 3) pa_nil))))))), ?_⟩
    show (_ : TS) _ [some (V.int n), some (V.ref p), none, none, none, none] H
    walk_at "rd"
    have al : ∀ s ∈ ss, s ∈ allS n := fun s h => (famL_mem.mp ((hs s).mp h)).1
    refine ⟨p, n, xs, ss, rfl, hp, sv, F.n1, F.n6, l64, al, fun gv gl H1 g0 e1 hg tg => ⟨by decide, fun c hc => ⟨n, rfl, F.n6, fun q ys H2 q0 e2 hq tq => ⟨q, rfl, ⟨_, SqL.of hq⟩, ?_⟩⟩⟩⟩
    have ec := same_upd (o := .lst []) hc
    have hc2 := e2 _ _ (upd_same (H := H1) (a := c) (o := .lst []))
    have c0 : H c = none := e1.free hc
    have e02 : Same H H2 := (e1.trans ec).trans e2
    have hg2 := e2 _ _ (ec _ _ hg)
    have tg2 := (tg.same ec).same e2
    have gc : gv ≠ c := fun z => by rw [z, hc] at hg; cases hg
    have qc : q ≠ c := fun z => by rw [z, upd_same] at q0; cases q0
    have ql := tq.len
    refine Rd.loop_listC (xs := ys) (fun σ H' => ∃ acc o4 o5, σ = [some (V.int n), some (V.ref p), some (V.ref gv), some (V.ref c), o4, o5] ∧ Same H H' ∧ H' c = some (.lst acc) ∧ Tups H' acc (famL n S))
      (fun i σ H' => ∃ acc o4 o5, σ = [some (V.int n), some (V.ref p), some (V.ref gv), some (V.ref c), o4, o5] ∧ (∀ b o, b ≠ c → H2 b = some o → H' b = some o) ∧ H' c = some (.lst acc) ∧ acc.length ≤ i ∧ Tups H' acc (((allS n).take i).filter fun s => In S (mk s)))
      ⟨[], none, none, rfl, fun _ _ _ h => h, hc2, Nat.le_refl _, trivial⟩ (fun i σ H' _ ⟨_, _, _, _, e, _⟩ => SqL.of (e _ _ qc hq)) ?_ ?_ ?_
    · rintro bk hbk i x σ H3 hx ⟨acc, o4, o5, rfl, e3, hc3, al3, ta⟩
      obtain ⟨s', hs', t, rfl, ht⟩ := tq.at hx
      have sm := List.mem_of_getElem? hs'
      have tc : t ≠ c := fun z => by rw [z, hc2] at ht; cases ht
      have ht3 := e3 _ _ tc ht
      have hg3 := e3 _ _ gc hg2
      have mv : ∀ {vs : List V} {us : List (List Nat)}, Tups H2 vs us → Tups H3 vs us := fun {vs us} h => by
        induction vs generalizing us with
        | nil => cases us <;> exact h
        | cons v vs ih =>
          cases us with
          | nil => exact h
          | cons u us => exact let ⟨⟨q, a, b⟩, r⟩ := h; ⟨⟨q, a, e3 _ _ (fun z => by rw [z, hc2] at b; cases b) b⟩, ih r⟩
      have tg3 := mv tg2
      have i64 : i < 64 := by
        have := (List.getElem?_eq_some_iff.mp hs').1
        rw [allS_len F.n6] at this
        exact Nat.lt_of_lt_of_le this (Nat.le_trans (Nat.pow_le_pow_right (by decide) F.n6) (by decide))
      have nx : ((allS n).take (i + 1)).filter (fun s => In S (mk s)) = ((allS n).take i).filter (fun s => In S (mk s)) ++ (if In S (mk s') = true then [s'] else []) := by
        rw [List.take_add_one, hs', List.filter_append]
        cases z : In S (mk s') with
        | true => rw [show (some s').toList = [s'] from rfl, List.filter_cons_of_pos (p := fun s => In S (mk s)) z]; rfl
        | false => rw [show (some s').toList = [s'] from rfl, List.filter_cons_of_neg (p := fun s => In S (mk s)) (by rw [z]; decide)]; rfl
      walk_at "rd"
      refine ⟨_, dp_set ht3, _, .lst (SqL.of hg3) (dp_sets tg3), sh_set _, sh_list _, ?_⟩
      rw [any_sets]
      cases hin : ss.contains s' with
      | true =>
        have z : In S (mk s') = true := (famL_mem.mp ((hs s').mp (List.contains_iff_mem.mp hin))).2
        rw [if_pos rfl]
        simp only [tBM, rAppend]
        walk_at "rd"
        refine ⟨.inl ⟨rfl, _, SqL.of hc3⟩, acc, hc3, small (by omega), fun b o nb h => (upd_ne nb).trans (e3 _ _ nb h), by rw [List.length_append]; exact Nat.succ_le_succ al3, ?_⟩
        rw [nx, if_pos z]
        exact Tups.upd hc3 (Tups.app ta ⟨⟨t, rfl, ht3⟩, trivial⟩)
      | false =>
        have z : ¬ In S (mk s') = true := fun z => by
          have := List.contains_iff_mem.mpr ((hs s').mpr (famL_mem.mpr ⟨sm, z⟩))
          rw [hin] at this
          cases this
        have ns : s' ≠ [] := fun e => z (by rw [e]; exact F.zero)
        rw [if_neg (by decide)]
        refine ⟨by decide, fun u hu => ?_⟩
        have eu := same_upd (o := .tup []) hu
        refine ⟨_, dp_set (eu _ _ ht3), _, dp_set (s := []) upd_same, sh_set _, sh_set _, ?_⟩
        rw [eqv_set, decide_eq_false ns]
        rw [if_neg (by decide)]
        have glen := tg3.len
        have e3u : ∀ b o, b ≠ c → H2 b = some o → (upd H3 u (.tup [])) b = some o := fun b o nb h => eu _ _ (e3 _ _ nb h)
        have hc4 := eu _ _ hc3
        have ta4 := ta.same eu
        have tg4 := tg3.same eu
        have hg4 := eu _ _ hg3
        have ht4 := eu _ _ ht3
        generalize upd H3 u (.tup []) = H4 at e3u hc4 ta4 tg4 hg4 ht4 ⊢
        refine ⟨⟨_, SqL.of hg4⟩, Rd.lcl_list (xs := gl) (fun D j H' => H4 D = none ∧ Same H4 H' ∧ H' D = some (.lst (((ss.take j).map fun t => subL s' t).map V.bl))) (fun D hD => ⟨hD, same_upd hD, upd_same⟩) (fun D j H' _ h => SqL.of (h.2.1 _ _ hg4))
          (fun D j y H5 hy ⟨n5, e5, a5⟩ => ?_) (fun D H5 _ ⟨n5, e5, a5⟩ => ?_)⟩
        · obtain ⟨t', ht', r', rfl, hr'⟩ := tg4.at hy
          have jl := (List.getElem?_eq_some_iff.mp ht').1
          walk_at "rd"
          have al' := allS_at sm F.n6
          refine ⟨t, r', false, false, s', t', rfl, e5 _ _ ht4, e5 _ _ hr', Nat.le_trans al'.2.2.2.1 F.n6, fun H6 e6 => ⟨_, e6 _ _ a5, small (by rw [List.length_map, List.length_map, List.length_take]; omega), n5, fun b o hb => (upd_ne (ne_of_none hb n5)).trans (e6 _ _ (e5 _ _ hb)), ?_⟩⟩
          rw [List.take_add_one, ht', List.map_append, List.map_append]
          rfl
        · rw [glen, List.take_length] at a5
          refine ⟨D, rfl, _, SqL.of a5, ?_⟩
          rw [if_neg ?_]
          · refine ⟨fun b o nb h => e5 _ _ (e3u b o nb h), acc, e5 _ _ hc4, by omega, ?_⟩
            rw [nx, if_neg z, List.append_nil]
            exact ta4.same e5
          · intro y
            obtain ⟨b, hb, rfl⟩ := List.any_eq_true.mp y
            obtain ⟨t', ht', e⟩ := List.mem_map.mp hb
            have z2 := famL_mem.mp ((hs t').mp ht')
            exact z (F.down _ _ (sub_mk F.n6 sm z2.1 e) z2.2)
    · rintro σ H3 ⟨acc, o4, o5, rfl, e3, hc3, al3, ta⟩
      refine ⟨acc, o4, o5, rfl, fun b o h => e3 _ _ (ne_of_none h c0) (e02 _ _ h), hc3, ?_⟩
      rw [ql, List.take_length] at ta
      exact ta
    · rintro σ H3 ⟨acc, o4, o5, rfl, e3, hc3, ta⟩
      walk_at "rd"
      exact ⟨_, .inl ⟨SqL.of hc3, fun r hr => k r acc _ (e3.free hr) (e3.trans (same_upd hr)) upd_same (ta.same (same_upd hr))⟩⟩
/-! ### Family.__init__ -/
def ff (t : Addr) (n : Nat) : List (Str × V) := putF "size" (.int (n : Nat)) (putF "sets" (.ref t) [])
def spFam (C : Addr) : Sp := fun vs H Q _ => ∃ (x dx p : Addr) (n : Nat) (S : List Bool) (xs : List V) (ss : List (List Nat)), vs = [.ref x, .int n, .ref p] ∧ H x = some (.ins C dx []) ∧ H p = some (.lst xs) ∧ Seqs H xs ss ∧ Fam n S ∧ ss.length ≤ 64 ∧ (∀ s, s ∈ ss ↔ s ∈ famL n S) ∧
  ∀ t ys H1 H', Same H H1 → H1 t = some (.tup ys) → Tups H1 ys (famL n S) → H' = upd H1 x (.ins C dx (ff t n)) → Q .non H'
theorem sc_Family_init : FnScope ["self", "size", "sets"] ["self", "size", "sets"] (defScope s_Family_init) := ⟨rfl, rfl, rfl, by decide +kernel, rfl, by decide +kernel, by decide +kernel⟩
theorem ok_Family_init (T : Txt K mg a) : FnOk P w K mg base CX0 6 a.a_Family_init a.d_Family_init ["self", "size", "sets"] (spFam a.C_Family) := by
  refine T.fn_Family_init.ok sc_Family_init (fun vs H Q E h => ?_) (fun cdv A outer s H vs Q E hr h => ?_)
  · obtain ⟨x, dx, p, n, S, xs, ss, rfl, _⟩ := h
    rfl
  · obtain ⟨x, dx, p, n, S, xs, ss, rfl, hx, hp, sv, F, l64, hs, k⟩ := h
    refine ⟨_, (pss_cons (ps_fld (pv 0) (pe_call (ok_closed_sets T) (hr.mono (by decide)) (by rfl) T.mg_closed_sets T.fn_closed_sets.kp T.b_closed_sets .nil pass0 (pa_cons (pv 1) (pa_cons (pv 2) pa_nil))) rfl)
      (pss_one (ps_fld (pv 0) (pv 1) rfl))), ?_⟩
    show (_ : TS) _ [some (V.ref x), some (V.int n), some (V.ref p)] H
    walk_at "rd"
    refine ⟨p, n, S, xs, ss, rfl, hp, sv, F, l64, hs, fun t ys H1 t0 e1 ht tt => ⟨a.C_Family, dx, [], e1 _ _ hx, ?_⟩⟩
    refine ⟨T.cl_Family, T.na_Family_sets, by decide, T.cl_Family, T.na_Family_size, by show 1 < 1000; decide, ?_⟩
    rw [upd_upd]
    exact k t ys H1 _ e1 ht tt rfl
end

end K32
namespace K32
open PySem PySem.Spec PyProof.Rows L2 Own OwnSeq OwnSet OwnComb OwnSort OwnHot OwnExN OwnProj
local macro_rules | `(tactic| walk_at "rd") => `(tactic| simp only [tSeq, tAsg, tOp, tUn, tVar, gName, gSub, rIxL, rIxT, rSetL, tC, rI0, rI, rU, rEq, rNe, tCons, tNil, tCB, tLst, tTup, tIfS, tAnd, tOr, tNot, tAndV, tOrV, tNotV, tTest, tB, tIf, tRet, tDrop, tNext, tBreak, tCont, tCall, tCallS, L2.WE, tMakeS, rIsS, rIsB, tChain, gSeq, gRest, gCons, gNil, tFor_seq, tFor_enumS, tLc_seq, tLc_enumS, rAny, rAll, L2.tMeth, StX.tStar, rIn, tLstRg, tRg1, tRg2, rSetI, rSortedSet, rInDT, rInD, rNotInD, rEqD, rNeD, iComb, tFld, tMake, tMkO, sFld, tOst, tNever, tBits, clv, isB,
  Rd.tFor_rng1, Rd.tFor_rng2, Rd.tFor_list, Rd.tFor_tup, Rd.tLc_list, Rd.tLc_tup, Rd.tLc_rng1, Rd.LcTurn, tYes, wipe, Rd.rLenL, Rd.rLenT, Rd.rIntI, Rd.rIxH, rIxHT,  HO.tup.injEq, Rd.at0, Rd.at1, Rd.at2, Rd.at3, Rd.ixN40, Rd.ixN41, Rd.ixN42, Rd.ixN43, Rd.scal_ii, cxOf,
  List.length_cons, List.length_nil, List.length_map, List.map_cons, List.map_nil, upd_same, decide_eq_true_eq, decide_true, decide_false, if_true, if_false, Bool.false_eq_true, Bool.not_true, Bool.not_false, HO.lst.injEq, HO.ins.injEq, List.set_cons_zero, List.set_cons_succ, List.getElem?_cons_zero, List.getElem?_cons_succ, List.append_nil, List.nil_append, List.cons_append, Option.some.injEq, V.ref.injEq, V.int.injEq, V.bl.injEq, List.cons.injEq, exists_eq_left', exists_and_left, exists_eq_left, true_and, and_true, and_self, and_assoc, implies_true, reduceCtorEq, Nat.reduceAdd])

theorem ff_sets (t : Addr) (n : Nat) : (ff t n).lookup ("sets" : Str) = some (.ref t) := by
  unfold ff
  rw [lookup_putF, if_neg (by decide +kernel), lookup_putF, if_pos rfl]
theorem ff_size (t : Addr) (n : Nat) : (ff t n).lookup ("size" : Str) = some (.int (n : Nat)) := by
  unfold ff
  rw [lookup_putF, if_pos rfl]
theorem ff_no (t : Addr) (n : Nat) {m : Str} (h1 : ¬ m = "size") (h2 : ¬ m = "sets") : (ff t n).lookup m = none := by
  unfold ff
  rw [lookup_putF, if_neg h1, lookup_putF, if_neg h2]
  rfl
/-- a family as an object -/
structure FamV (C : Addr) (H : Hp) (f : Addr) (n : Nat) (S : List Bool) : Prop where
  fam : Fam n S
  ob : ∃ dx t ys, H f = some (.ins C dx (ff t n)) ∧ H t = some (.tup ys) ∧ Tups H ys (famL n S)
theorem FamV.same {C : Addr} {H H' : Hp} {f : Addr} {n : Nat} {S : List Bool} (F : FamV C H f n S) (e : Same H H') : FamV C H' f n S :=
  let ⟨dx, t, ys, a, b, c⟩ := F.ob
  ⟨F.fam, dx, t, ys, e _ _ a, e _ _ b, c.same e⟩
/-- the things that can be added -/
def addL (n : Nat) (S : List Bool) (s : List Nat) : List Nat := (restL (List.range n) s).filter fun g => In S (mk s + 2 ^ g)
def joinB (n : Nat) (s : List Nat) (g : Nat) : Bool := s.contains g || (decide (bits (mk s + 2 ^ g) ∈ allS n) && decide (mk (bits (mk s + 2 ^ g)) = mk s + 2 ^ g) && (List.range 6).all fun x => (bits (mk s + 2 ^ g)).contains x == (s.contains x || x == g))
theorem join_all : ((List.range 7).all fun n => (allS n).all fun s => (List.range n).all fun g => joinB n s g) = true := by decide +kernel
theorem asc_pw : ∀ {s : List Nat}, asc s = true → s.Pairwise (· < ·)
  | [], _ => .nil
  | x :: s, h => by
    obtain ⟨a, b⟩ := Bool.and_eq_true_iff.mp h
    exact .cons (fun y hy => of_decide_eq_true (List.all_eq_true.mp a y hy)) (asc_pw b)
theorem asc_ext {s t : List Nat} (hs : s.Pairwise (· < ·)) (ht : t.Pairwise (· < ·)) (h : ∀ g, g ∈ s ↔ g ∈ t) : s = t :=
  List.Perm.eq_of_pairwise (le := fun x y => x < y) (fun a b _ _ x y => absurd x (Nat.lt_asymm y)) hs ht ((List.perm_ext_iff_of_nodup (hs.imp Nat.ne_of_lt) (ht.imp Nat.ne_of_lt)).mpr h)
/-- one thing more -/
theorem join_at {n : Nat} {s u : List Nat} {g : Nat} (h : n ≤ 6) (hs : s ∈ allS n) (hg : g < n) (ns : ¬ g ∈ s) (hu : u.Pairwise (· < ·)) (mem : ∀ x, x ∈ u ↔ x ∈ s ∨ x = g) : u ∈ allS n ∧ mk u = mk s + 2 ^ g := by
  have y := List.all_eq_true.mp (List.all_eq_true.mp (List.all_eq_true.mp join_all n (List.mem_range.mpr (by omega))) s hs) g (List.mem_range.mpr hg)
  unfold joinB at y
  rw [show s.contains g = false by simpa using ns] at y
  simp only [Bool.false_or, Bool.and_eq_true, decide_eq_true_eq] at y
  obtain ⟨⟨y1, y2⟩, y3⟩ := y
  have al := allS_at hs h
  have bl := allS_at y1 h
  have e : u = bits (mk s + 2 ^ g) := asc_ext hu (asc_pw bl.2.2.2.2) fun x => by
    rw [mem]
    by_cases x6 : x < 6
    · have z := List.all_eq_true.mp y3 x (List.mem_range.mpr x6)
      have z := beq_iff_eq.mp z
      rw [← List.contains_iff_mem (as := bits _), z]
      simp
    · refine ⟨fun k => ?_, fun k => ?_⟩
      · rcases k with k | k
        · have := al.2.2.1 x k; omega
        · omega
      · have := bl.2.2.1 x k
        omega
  rw [e]
  exact ⟨y1, y2⟩
theorem rg_iv (n : Nat) : rgV 0 n = iv (List.range n) := by
  unfold rgV iv
  rw [show ((n : Int) - 0).toNat = n by omega]
  exact List.map_congr_left fun j hj => by rw [Int.zero_add]
theorem rest_mem {s t : List Nat} {g : Nat} : g ∈ restL s t ↔ g ∈ s ∧ ¬ g ∈ t := by
  unfold restL
  rw [List.mem_filter]
  simp
theorem rest_len (s t : List Nat) : (restL s t).length ≤ s.length := List.length_filter_le _ _
theorem add_len (n : Nat) (S : List Bool) (s : List Nat) : (addL n S s).length ≤ n := by
  have a := rest_len (List.range n) s
  rw [List.length_range] at a
  exact Nat.le_trans (List.length_filter_le _ _) a
theorem find_map_none {l : List (List Nat)} {p : List Nat → Bool} : True := trivial
theorem findSome_at {α β : Type} {f : α → Option β} : ∀ {l : List α} {i : Nat} {x : α} {y : β}, l[i]? = some x → f x = some y → (∀ z ∈ l.take i, f z = none) → l.findSome? f = some y
  | a :: l, 0, x, y, h, e, _ => by
    cases Option.some.inj h
    rw [List.findSome?_cons, e]
  | a :: l, i + 1, x, y, h, e, no => by
    rw [List.findSome?_cons, no a List.mem_cons_self]
    exact findSome_at (l := l) (i := i) h e fun z hz => no z (List.mem_cons_of_mem _ hz)
theorem find_at' {α : Type} {p : α → Bool} : ∀ {l : List α} {i : Nat} {x : α}, l[i]? = some x → p x = true → (∀ z ∈ l.take i, p z = false) → l.find? p = some x
  | a :: l, 0, x, h, e, _ => by
    cases Option.some.inj h
    rw [List.find?_cons, e]
  | a :: l, i + 1, x, h, e, no => by
    rw [List.find?_cons, no a List.mem_cons_self]
    exact find_at' (l := l) (i := i) h e fun z hz => no z (List.mem_cons_of_mem _ hz)
section
variable {P : Program} {w : World} {K : PySem.W.Frag} {mg : Str → Option Value} {base : Heap} {a : Ad}
/-! ### addable -/
def spAdd (C : Addr) : Sp := fun vs H Q _ => ∃ (f p : Addr) (l : Bool) (n : Nat) (S : List Bool) (s : List Nat), vs = [.ref f, .ref p] ∧ FamV C H f n S ∧ H p = some (sq l (iv s)) ∧ s ∈ famL n S ∧
  ∀ r H', H r = none → Same H H' → H' r = some (.tup (iv (addL n S s))) → Q (.ref r) H'
theorem sc_Family_addable : FnScope ["self", "taken", "others", "thing"] ["self", "taken"] (defScope s_Family_addable) := ⟨rfl, rfl, rfl, by decide +kernel, rfl, by decide +kernel, by decide +kernel⟩
theorem ok_Family_addable (T : Txt K mg a) : FnOk P w K mg base CX0 3 a.a_Family_addable a.d_Family_addable ["self", "taken"] (spAdd a.C_Family) := by
  refine T.fn_Family_addable.ok sc_Family_addable (fun vs H Q E h => ?_) (fun cdv A outer s H vs Q E hr h => ?_)
  · obtain ⟨f, p, l, n, S, s, rfl, _⟩ := h
    rfl
  · obtain ⟨f, p, l, n, S, s', rfl, F, hp, hs, k⟩ := h
    refine ⟨_, (pss_cons (ps_set (i := 2) sc_Family_addable.nd rfl (Or.inl rfl) (pe_call (ok_rest_of T) (hr.mono (by decide)) (by rfl) T.mg_rest_of T.fn_rest_of.kp T.b_rest_of .nil pass0 (pa_cons (pe_listRg rfl (by rfl) T.no_list (prg_1 (by rfl) T.no_range (pe_fldK K (pv 0)))) (pa_cons (pv 1) pa_nil))))
      (pss_one (ps_ret (pe_callTy call_tuple_of (by rfl) T.no_tuple (by decide +kernel) (pa_cons (pe_lc (own := [("thing", 3)]) (by rfl) sc_Family_addable.nd (pi_seq (pv 2)) (blkOk_by (own := [("thing", 3)]) (N := ["self", "taken", "others", "thing"]) (sc := defScope s_Family_addable) (by decide +kernel)) (fun _ _ _ _ _ => pg_name (i := 3) sc_Family_addable.nd rfl (Or.inl rfl)) (fun _ _ _ _ _ => pts_one (pt_cmpR (inDT_at K (u65 hr)) (pe_call (ok_joined T) (hr.mono (by decide)) (by rfl) T.mg_joined T.fn_joined.kp T.b_joined .nil pass0 (pa_cons (pv 1) (pa_cons (pe_tup (pa_cons (pv 3) pa_nil)) pa_nil))) (pe_fldK K (pv 0)) (by with_unfolding_all rfl))) (fun _ _ _ _ _ => (pv 3))) pa_nil))))), ?_⟩
    show (_ : TS) _ [some (V.ref f), some (V.ref p), none, none] H
    walk_at "rd"
    obtain ⟨dx, t, ys, hf, ht, tv⟩ := F.ob
    have sa := allS_at (famL_mem.mp hs).1 F.fam.n6
    have n6 := F.fam.n6
    refine ⟨_, dx, ff t n, hf, T.cl_Family, T.na_Family_size, _, ff_size t n, n, rfl, RgOk.of_le (by decide) (by omega) (by decide) (by omega), fun q hq => ?_⟩
    have eq1 := same_upd (o := .lst (rgV 0 n)) hq
    refine ⟨q, p, true, l, List.range n, s', rfl, by rw [upd_same, rg_iv]; rfl, eq1 _ _ hp, by rw [List.length_range]; exact n6, fun r H1 r0 e1 hr1 => ⟨r, rfl, false, _, hr1, ?_⟩⟩
    have e01 := eq1.trans e1
    refine lcl_goes goes_seq (fun D i H' => H1 D = none ∧ Same H1 H' ∧ H' D = some (.lst (iv (((restL (List.range n) s').take i).filter fun g => In S (mk s' + 2 ^ g))))) (fun D hD => ⟨hD, same_upd hD, upd_same⟩)
      (fun D i H' _ h => h.2.1 _ _ hr1) (fun D i x H5 H5' hi ⟨n5, e5, a5⟩ ⟨eq5, hx⟩ => ?_) (fun D H5 _ ⟨n5, e5, a5⟩ => ?_)
    · subst eq5
      obtain ⟨g, hg, rfl⟩ := at_iv hx
      have gm := rest_mem.mp (List.mem_of_getElem? hg)
      have gn := List.mem_range.mp gm.1
      have il := (List.getElem?_eq_some_iff.mp hg).1
      have rl := rest_len (List.range n) s'
      rw [List.length_range] at rl
      walk_at "rd"
      refine ⟨by decide, fun u hu => ?_⟩
      have eu := same_upd (o := .tup [V.int (g : Nat)]) hu
      refine ⟨p, u, l, false, s', [g], rfl, eu _ _ (e5 _ _ (e01 _ _ hp)), upd_same, Nat.le_trans sa.2.2.2.1 n6, by show 1 ≤ 6; decide, fun v us H6 v0 e6 pw mem hv => ?_⟩
      have e56 := eu.trans e6
      have e06 := (e01.trans e5).trans e56
      obtain ⟨j1, j2⟩ := join_at n6 (famL_mem.mp hs).1 gn gm.2 pw fun x => by rw [mem, List.mem_singleton]
      refine ⟨_, dx, ff t n, e06 _ _ hf, T.cl_Family, T.na_Family_sets, _, ff_sets t n, _, dp_set hv, _, .tup (SqT.of (e06 _ _ ht)) (dp_sets (tv.same e06)), sh_set _, sh_tup _, ?_⟩
      have a6 := e56 _ _ a5
      have s6 := e5.trans e56
      have nx : ((restL (List.range n) s').take (i + 1)).filter (fun g => In S (mk s' + 2 ^ g)) = ((restL (List.range n) s').take i).filter (fun g => In S (mk s' + 2 ^ g)) ++ (if In S (mk s' + 2 ^ g) = true then [g] else []) := by
        rw [List.take_add_one, hg, List.filter_append]
        cases z : In S (mk s' + 2 ^ g) with
        | true => rw [show (some g).toList = [g] from rfl, List.filter_cons_of_pos (p := fun g => In S (mk s' + 2 ^ g)) z]; rfl
        | false => rw [show (some g).toList = [g] from rfl, List.filter_cons_of_neg (p := fun g => In S (mk s' + 2 ^ g)) (by rw [z]; decide)]; rfl
      have c : (famL n S).contains us = In S (mk s' + 2 ^ g) := by
        rw [← j2, Bool.eq_iff_iff, List.contains_iff_mem, famL_mem]
        exact ⟨fun z => z.2, fun z => ⟨j1, z⟩⟩
      rw [any_sets, c, nx]
      cases z : In S (mk s' + 2 ^ g) with
      | true =>
        rw [if_pos rfl, if_pos rfl]
        refine ⟨_, a6, small ?_, n5, fun b o hb => (upd_ne (ne_of_none hb n5)).trans (s6 _ _ hb), ?_⟩
        · rw [iv_len]
          have := List.length_filter_le (fun g => In S (mk s' + 2 ^ g)) ((restL (List.range n) s').take i)
          rw [List.length_take] at this
          omega
        · unfold iv
          rw [List.map_append]
          rfl
      | false =>
        rw [if_neg (by decide), if_neg (by decide), List.append_nil]
        exact ⟨n5, s6, a6⟩
    · rw [iv_len, List.take_length] at a5
      exact ⟨D, rfl, _, .inl ⟨SqL.of a5, fun u hu => k u _ (e01.free (e5.free hu)) ((e01.trans e5).trans (same_upd hu)) upd_same⟩⟩
/-! ### exchange_fault -/
/-- the first pair without a thing to be added -/
def firstPair (n : Nat) (S : List Bool) : Option (List Nat × List Nat) := (famL n S).findSome? fun s => ((famL n S).find? fun t => decide (t.length > s.length) && !metL (addL n S s) t).map fun t => (s, t)
def PairV (H : Hp) (v : V) : Option (List Nat × List Nat) → Prop
  | none => v = .non
  | some p => ∃ q p1 p2, v = .ref q ∧ H q = some (.tup [.ref p1, .ref p2]) ∧ H p1 = some (.tup (iv p.1)) ∧ H p2 = some (.tup (iv p.2))
def spFault (C : Addr) : Sp := fun vs H Q _ => ∃ (f : Addr) (n : Nat) (S : List Bool), vs = [.ref f] ∧ FamV C H f n S ∧ ∀ v H', Same H H' → PairV H' v (firstPair n S) → Q v H'
theorem sc_exchange_fault : FnScope ["family", "smaller", "addable", "larger"] ["family"] (defScope s_exchange_fault) := ⟨rfl, rfl, rfl, by decide +kernel, rfl, by decide +kernel, by decide +kernel⟩
theorem ok_exchange_fault (T : Txt K mg a) : FnOk P w K mg base CX0 4 a.a_exchange_fault a.d_exchange_fault ["family"] (spFault a.C_Family) := by
  refine T.fn_exchange_fault.ok sc_exchange_fault (fun vs H Q E h => ?_) (fun cdv A outer s H vs Q E hr h => ?_)
  · obtain ⟨f, n, S, rfl, _⟩ := h
    rfl
  · obtain ⟨f, n, S, rfl, F, k⟩ := h
    refine ⟨_, (pss_cons (ps_for PassesOwn.never rfl (pi_seq (pe_fldK K (pv 0))) (pg_name (i := 1) sc_exchange_fault.nd rfl (Or.inl rfl))
        (pss_cons (ps_set (i := 2) sc_exchange_fault.nd rfl (Or.inl rfl) (pe_meth (pv 0) T.cl_Family T.mt_Family_addable (ok_Family_addable T) (hr.mono (by decide)) T.b_Family_addable .nil pass0 (pa_cons (pv 1) pa_nil)))
        (pss_one (ps_for PassesOwn.never rfl (pi_seq (pe_fldK K (pv 0))) (pg_name (i := 3) sc_exchange_fault.nd rfl (Or.inl rfl))
          (pss_one (ps_if (PW.pt (pw_and (pt_cmpR op_gt (pe_callB call_len_seq (by rfl) T.no_len PySem.boot_len (pa_cons (pv 3) pa_nil)) (pe_callB call_len_seq (by rfl) T.no_len PySem.boot_len (pa_cons (pv 1) pa_nil)) (nomark _)) (pw_and1 (pt_not (pt_val (pe_call (ok_touches T) (hr.mono (by decide)) (by rfl) T.mg_touches T.fn_touches.kp T.b_touches .nil pass0 (pa_cons (pv 2) (pa_cons (pv 3) pa_nil)))))))) (pss_one (ps_ret (pe_tup (pa_cons (pv 1) (pa_cons (pv 3) pa_nil))))) pss_nil))))))
      (pss_one (ps_ret pe_non))), ?_⟩
    show (_ : TS) _ [some (V.ref f), none, none, none] H
    walk_at "rd"
    obtain ⟨dx, t, ys, hf, ht, tv⟩ := F.ob
    have len := tv.len
    refine ⟨_, dx, ff t n, hf, T.cl_Family, T.na_Family_sets, _, ff_sets t n, t, rfl, false, ys, ht, loop_goes goes_seq (fun σ H' => ∃ o1 o2 o3, σ = [some (V.ref f), o1, o2, o3] ∧ Same H H' ∧ ∀ s ∈ famL n S, ((famL n S).find? fun t => decide (t.length > s.length) && !metL (addL n S s) t) = none)
      (fun i σ H' => ∃ o1 o2 o3, σ = [some (V.ref f), o1, o2, o3] ∧ Same H H' ∧ ∀ s ∈ (famL n S).take i, ((famL n S).find? fun t => decide (t.length > s.length) && !metL (addL n S s) t) = none) ⟨none, none, none, rfl, Same.refl H, by simp⟩ (fun i σ H' _ ⟨_, _, _, _, e, _⟩ => e _ _ ht) ?_
      (fun σ H' ⟨o1, o2, o3, q1, q2, q3⟩ => ⟨o1, o2, o3, q1, q2, by rw [len, List.take_length] at q3; exact q3⟩) ?_⟩
    · rintro bk hbk i x σ H2 H2' hi ⟨o1, o2, o3, rfl, e2, no⟩ ⟨rfl, hx⟩
      obtain ⟨s', hs, p1, rfl, hp1⟩ := (tv.same e2).at hx
      have sm := List.mem_of_getElem? hs
      have sa := allS_at (famL_mem.mp sm).1 F.fam.n6
      walk_at "rd"
      have hf2 := e2 _ _ hf
      refine ⟨dx, ff t n, hf2, ff_no t n (by decide +kernel) (by decide +kernel), f, p1, false, n, S, s', rfl, F.same e2, hp1, sm, fun r H3 r0 e3 hr3 => ?_⟩
      have e03 := e2.trans e3
      have ht3 := e03 _ _ ht
      refine ⟨_, dx, ff t n, e3 _ _ hf2, T.cl_Family, T.na_Family_sets, _, ff_sets t n, t, rfl, false, ys, ht3, loop_goes goes_seq (fun σ H' => ∃ o3, σ = [some (V.ref f), some (V.ref p1), some (V.ref r), o3] ∧ Same H3 H' ∧ ((famL n S).find? fun t => decide (t.length > s'.length) && !metL (addL n S s') t) = none)
        (fun j σ H' => ∃ o3, σ = [some (V.ref f), some (V.ref p1), some (V.ref r), o3] ∧ Same H3 H' ∧ ∀ t ∈ (famL n S).take j, (decide (t.length > s'.length) && !metL (addL n S s') t) = false) ⟨_, rfl, Same.refl H3, by simp⟩ (fun i σ H' _ ⟨_, _, e, _⟩ => e _ _ ht3) ?_
        (fun σ H' ⟨o3, q1, q2, q3⟩ => ⟨o3, q1, q2, by rw [len, List.take_length] at q3; exact List.find?_eq_none.mpr fun t ht => by rw [q3 t ht]; decide⟩) ?_⟩
      · rintro bk2 hbk2 j x σ H4 H4' hj ⟨o3, rfl, e4, no2⟩ ⟨rfl, hx2⟩
        obtain ⟨t', ht', p2, rfl, hp2⟩ := ((tv.same e03).same e4).at hx2
        have tm := List.mem_of_getElem? ht'
        have ta := allS_at (famL_mem.mp tm).1 F.fam.n6
        walk_at "rd"
        have nx : ∀ {b : Bool}, (decide (t'.length > s'.length) && !metL (addL n S s') t') = b → b = false → ∀ t ∈ (famL n S).take (j + 1), (decide (t.length > s'.length) && !metL (addL n S s') t) = false := fun {b} e1 e2 t ht2 => by
          rw [List.take_add_one, ht'] at ht2
          rcases List.mem_append.mp ht2 with z | z
          · exact no2 t z
          · rw [List.mem_singleton.mp z, e1, e2]
        refine ⟨_, .inr (SqT.of hp2), _, .inr (SqT.of (e4 _ _ (e3 _ _ hp1))), ?_⟩
        rw [iv_len, iv_len]
        by_cases lt : s'.length < t'.length
        · rw [if_pos (by omega)]
          refine ⟨r, p2, false, false, _, t', rfl, e4 _ _ hr3, hp2, Nat.le_trans (add_len n S s') F.fam.n6, fun H5 e5 => ⟨_, rfl, ?_⟩⟩
          cases z : metL (addL n S s') t' with
          | false =>
            rw [if_pos (by decide)]
            refine ⟨by decide, fun u hu => ?_⟩
            have e6 := same_upd (o := .tup [V.ref p1, V.ref p2]) hu
            refine k _ _ (((e03.trans e4).trans e5).trans e6) ?_
            have fs : firstPair n S = some (s', t') := findSome_at hs (by
              rw [find_at' (p := fun t => decide (t.length > s'.length) && !metL (addL n S s') t) ht' (by show (decide (t'.length > s'.length) && !metL (addL n S s') t') = true; rw [z, decide_eq_true lt]; rfl) no2]
              rfl) fun s hs' => by rw [no s hs']; rfl
            rw [fs]
            exact ⟨u, p1, p2, rfl, upd_same, e6 _ _ (e5 _ _ (e4 _ _ (e3 _ _ hp1))), e6 _ _ (e5 _ _ hp2)⟩
          | true =>
            rw [if_neg (by decide)]
            exact ⟨e4.trans e5, nx rfl (by rw [z, Bool.not_true, Bool.and_false])⟩
        · rw [if_neg (by omega)]
          exact ⟨e4, nx rfl (by rw [decide_eq_false lt, Bool.false_and])⟩
      · rintro σ H4 ⟨o3, rfl, e4, no2⟩
        refine ⟨_, _, _, rfl, e03.trans e4, fun s hs' => ?_⟩
        rw [List.take_add_one, hs] at hs'
        rcases List.mem_append.mp hs' with z | z
        · exact no s z
        · rw [List.mem_singleton.mp z]; exact no2
    · rintro σ H2 ⟨o1, o2, o3, rfl, e2, no⟩
      walk_at "rd"
      refine k _ _ e2 ?_
      rw [show firstPair n S = none from List.findSome?_eq_none_iff.mpr fun s hs => by rw [no s hs]; rfl]
      rfl
end

end K32
namespace K32
open PySem PySem.Spec PyProof.Rows L2 Own OwnSeq OwnSet OwnComb OwnSort OwnHot OwnExN OwnProj
local macro_rules | `(tactic| walk_at "rd") => `(tactic| simp only [tSeq, tAsg, tOp, tUn, tVar, gName, gSub, rIxL, rIxT, rSetL, tC, rI0, rI, rU, rEq, rNe, tCons, tNil, tCB, tLst, tTup, tIfS, tAnd, tOr, tNot, tAndV, tOrV, tNotV, tTest, tB, tIf, tRet, tDrop, tNext, tBreak, tCont, tCall, tCallS, L2.WE, tMakeS, rIsS, rIsB, tChain, gSeq, gRest, gCons, gNil, tFor_seq, tFor_enumS, tLc_seq, tLc_enumS, rAny, rAll, L2.tMeth, StX.tStar, rIn, tLstRg, tRg1, tRg2, rSetI, rSortedSet, rInDT, rInD, rNotInD, rEqD, rNeD, iComb, tFld, tMake, tMkO, sFld, tOst, tNever, tBits, clv, isB,
  Rd.tFor_rng1, Rd.tFor_rng2, Rd.tFor_list, Rd.tFor_tup, Rd.tLc_list, Rd.tLc_tup, Rd.tLc_rng1, Rd.LcTurn, tYes, wipe, Rd.rLenL, Rd.rLenT, Rd.rIntI, Rd.rIxH, rIxHT,  HO.tup.injEq, Rd.at0, Rd.at1, Rd.at2, Rd.at3, Rd.ixN40, Rd.ixN41, Rd.ixN42, Rd.ixN43, Rd.scal_ii, cxOf,
  List.length_cons, List.length_nil, List.length_map, List.map_cons, List.map_nil, upd_same, decide_eq_true_eq, decide_true, decide_false, if_true, if_false, Bool.false_eq_true, Bool.not_true, Bool.not_false, HO.lst.injEq, HO.ins.injEq, List.set_cons_zero, List.set_cons_succ, List.getElem?_cons_zero, List.getElem?_cons_succ, List.append_nil, List.nil_append, List.cons_append, Option.some.injEq, V.ref.injEq, V.int.injEq, V.bl.injEq, List.cons.injEq, exists_eq_left', exists_and_left, exists_eq_left, true_and, and_true, and_self, and_assoc, implies_true, reduceCtorEq, Nat.reduceAdd])

theorem at_int {ns : List Int} {z : Int} (h0 : 0 ≤ z) (h1 : z < (ns.length : Int)) : ∃ y, atI (ns.map V.int) z = some (V.int y) := by
  obtain ⟨j, rfl⟩ : ∃ j : Nat, z = (j : Int) := ⟨z.toNat, by omega⟩
  have hj : j < ns.length := by omega
  exact ⟨ns[j], atI_nat (by rw [List.getElem?_map, List.getElem?_eq_getElem hj]; rfl)⟩
theorem abs_nn (x : Int) : 0 ≤ (if x < 0 then -x else x) := by split <;> omega
theorem abs_eq (x : Int) : (if x < 0 then -x else x) = (x.natAbs : Int) := by split <;> omega
theorem cm_mod {x y m : Int} (h : 0 < m) (h2 : m ≤ 2 ^ 64) : CMul (x % m) y := by
  have a := Int.emod_nonneg x (show m ≠ 0 by omega)
  have b := Int.emod_lt_of_pos x h
  exact .inl ⟨by omega, by omega⟩
/-- what stood stands, but for b -/
def But (b : Addr) (H H' : Hp) : Prop := ∀ p o, p ≠ b → H p = some o → H' p = some o
theorem But.refl (b : Addr) (H : Hp) : But b H H := fun _ _ _ h => h
theorem But.trans {b : Addr} {H H1 H2 : Hp} (x : But b H H1) (y : But b H1 H2) : But b H H2 := fun p o n h => y p o n (x p o n h)
theorem But.free {b : Addr} {H H1 : Hp} (x : But b H H1) {p : Addr} (n : p ≠ b) (h : H1 p = none) : H p = none := by
  cases e : H p with
  | none => rfl
  | some o =>
    rw [x p o n e] at h
    cases h
theorem Same.but {b : Addr} {H H1 : Hp} (x : Same H H1) : But b H H1 := fun p o _ h => x p o h
theorem SqL.but {K : PySem.W.Frag} {H H' : Hp} {b c : Addr} {xs : List V} (h : SqL K H c xs) (n : c ≠ b) (e : But b H H') : SqL K H' c xs := by
  rcases h with (h | ⟨o, h⟩) | h
  · exact .inl (.inl (e _ _ n h))
  · exact .inl (.inr ⟨o, e _ _ n h⟩)
  · exact .inr h
/-- the law's box: its cells, what is drawn from -/
structure BoxAt (K : PySem.W.Frag) (H : Hp) (b c : Addr) (ns : List Int) : Prop where
  ne : c ≠ b
  len : ns.length ≤ 63
  ob : ∃ n1 n2 n3 : Int, H b = some (.lst [.ref c, .int n1, .int n2, .int n3]) ∧ 0 ≤ n2 ∧ 0 ≤ n3
  cells : SqL K H c (ns.map V.int)
theorem BoxAt.same {K : PySem.W.Frag} {H H' : Hp} {b c : Addr} {ns : List Int} (B : BoxAt K H b c ns) (e : Same H H') : BoxAt K H' b c ns :=
  let ⟨n1, n2, n3, h, p, q⟩ := B.ob
  ⟨B.ne, B.len, ⟨n1, n2, n3, e _ _ h, p, q⟩, e.seq B.cells⟩
theorem BoxAt.ne_new {K : PySem.W.Frag} {H : Hp} {b c : Addr} {ns : List Int} (B : BoxAt K H b c ns) {p : Addr} (h : H p = none) : p ≠ b := fun e => by
  obtain ⟨n1, n2, n3, hb, _⟩ := B.ob
  rw [e, hb] at h
  cases h
section
variable {P : Program} {w : World} {K : PySem.W.Frag} {mg : Str → Option Value} {base : Heap} {a : Ad}
/-! ### _law_box -/
def spBox (K : PySem.W.Frag) : Sp := fun vs H Q _ => ∃ (s : Addr) (ns : List Int), vs = [.ref s] ∧ SqL K H s (ns.map V.int) ∧ ns.length ≤ 63 ∧ ∀ b c H', BoxAt K H' b c ns → Same H H' → H b = none → Q (.ref b) H'
theorem sc_law_box : FnScope ["script", "cell"] ["script"] (defScope s_law_box) := ⟨rfl, rfl, rfl, by decide +kernel, rfl, by decide +kernel, by decide +kernel⟩
theorem ok_law_box (T : Txt K mg a) : FnOk P w K mg base CX0 1 a.a_law_box a.d_law_box ["script"] (spBox K) := by
  refine T.fn_law_box.ok sc_law_box (fun vs H Q E h => ?_) (fun cdv A outer s H vs Q E hr h => ?_)
  · obtain ⟨p, ns, rfl, _⟩ := h
    rfl
  · obtain ⟨p, ns, rfl, hs, hl, k⟩ := h
    refine ⟨_, (pss_one (ps_ret (pe_lst (pa_cons (pe_lc (own := [("cell", 1)]) (by rfl) sc_law_box.nd (pi_list (pv 0)) (blkOk_by (own := [("cell", 1)]) (N := ["script", "cell"]) (sc := defScope s_law_box) (by decide +kernel)) (fun _ _ _ _ _ => pg_name (i := 1) sc_law_box.nd rfl (Or.inl rfl)) (fun _ _ _ _ _ => pts_nil) (fun _ _ _ _ _ => (pe_callTy Rd.call_intI (by rfl) T.no_int (by decide +kernel) (pa_cons (pv 1) pa_nil)))) (pa_cons pe_int (pa_cons pe_int (pa_cons pe_int pa_nil))))))), ?_⟩
    show (_ : TS) _ [some (V.ref p), none] H
    walk_at "rd"
    refine ⟨⟨_, hs⟩, Rd.lcl_list (xs := ns.map V.int) (fun D i H1 => (Same H H1 ∧ H D = none) ∧ H1 D = some (.lst ((ns.take i).map V.int))) (fun D hD => ⟨⟨same_upd hD, hD⟩, upd_same⟩) (fun D i H1 _ p => p.1.1.seq hs) ?_ ?_⟩
    · rintro D i x H1 hx ⟨⟨s1, hD⟩, e1⟩
      obtain ⟨z, hz, rfl⟩ : ∃ z, ns[i]? = some z ∧ x = V.int z := by
        rw [List.getElem?_map] at hx
        cases e : ns[i]? with
        | none => rw [e] at hx; cases hx
        | some z => rw [e] at hx; exact ⟨z, rfl, (Option.some.inj hx).symm⟩
      walk_at "rd"
      refine ⟨_, e1, ?_, fun b o e => ?_, ?_⟩
      · rw [List.length_map, List.length_take]
        exact Nat.lt_of_le_of_lt (Nat.min_le_left _ _) (by have := (List.getElem?_eq_some_iff.mp hz).1; exact small1000 (by omega))
      · rw [upd_ne (ne_of_none e hD)]
        exact s1 _ _ e
      · rw [List.take_add_one, hz, List.map_append]
        exact ⟨hD, rfl⟩
    · rw [List.length_map, List.take_length]
      rintro D H1 _ ⟨⟨s1, hD⟩, e1⟩
      refine ⟨by decide, fun b hb => ?_⟩
      have nbD : D ≠ b := fun e => by rw [← e, e1] at hb; cases hb
      refine k b D _ ⟨nbD, hl, ⟨0, 0, 0, upd_same, Int.le_refl _, Int.le_refl _⟩, SqL.of ((upd_ne nbD).trans e1)⟩ (s1.trans (same_upd hb)) (s1.free hb)
/-! ### _law_draw -/
def spDraw (K : PySem.W.Frag) : Sp := fun vs H Q _ => ∃ (b c : Addr) (ns : List Int) (m : Int), vs = [.ref b, .int m] ∧ BoxAt K H b c ns ∧ 0 < m ∧ m < 1000000000 ∧
  ∀ (d : Int) (H' : Hp), 0 ≤ d → d < m → BoxAt K H' b c ns → (∀ p, p ≠ b → H' p = H p) → Q (.int d) H'
theorem sc_law_draw : FnScope ["box", "limit", "cells", "k", "digit", "cell", "mixed"] ["box", "limit"] (defScope s_law_draw) := ⟨rfl, rfl, rfl, by decide +kernel, rfl, by decide +kernel, by decide +kernel⟩
theorem ok_law_draw (T : Txt K mg a) : FnOk P w K mg base CX0 1 a.a_law_draw a.d_law_draw ["box", "limit"] (spDraw K) := by
  refine T.fn_law_draw.ok sc_law_draw (fun vs H Q E h => ?_) (fun cdv A outer s H vs Q E hr h => ?_)
  · obtain ⟨b, c, ns, m, rfl, _⟩ := h
    rfl
  · obtain ⟨b, c, ns, m, rfl, ⟨hbc, hl, ⟨n1, n2, n3, hb, p2, p3⟩, hc⟩, hm, hm2, k⟩ := h
    refine ⟨_, (pss_cons (ps_set (i := 2) sc_law_draw.nd rfl (Or.inl rfl) (pe_ix Rd.ixH (pv 0) pe_int (fun _ _ => rfl)))
      (pss_cons (ps_asg (pe_op op_add (pe_ix Rd.ixH (pv 0) pe_int (fun _ _ => rfl)) pe_int) (pg_sub (pv 0) pe_int set_list))
      (pss_cons (ps_for PassesOwn.never rfl (pi_range1 (by rfl) T.no_range (pa_cons (pe_callB Rd.call_lenL (by rfl) T.no_len PySem.boot_len (pa_cons (pv 2) pa_nil)) pa_nil)) (pg_name (i := 3) sc_law_draw.nd rfl (Or.inl rfl))
        (pss_one (ps_if (PW.pt (pw_and (pt_cmpR op_eq (pe_ix Rd.ixH (pv 0) pe_int (fun _ _ => rfl)) pe_int (nomark _)) (pw_and1 (pt_cmpR op_lt (pe_ix Rd.ixH (pv 0) pe_int (fun _ _ => rfl)) (pe_callB Rd.call_lenL (by rfl) T.no_len PySem.boot_len (pa_cons (pv 2) pa_nil)) (nomark _))))) (pss_cons (ps_if (pt_cmpR op_ge (pe_callB call_abs (by rfl) T.no_abs (by decide +kernel) (pa_cons (pe_ix ix_list (pv 2) (pe_ix Rd.ixH (pv 0) pe_int (fun _ _ => rfl)) (fun _ _ => rfl)) pa_nil)) (pe_op op_pow pe_int pe_int) (nomark _)) (pss_one (ps_asg (pe_callB call_abs (by rfl) T.no_abs (by decide +kernel) (pa_cons (pe_ix ix_list (pv 2) (pe_ix Rd.ixH (pv 0) pe_int (fun _ _ => rfl)) (fun _ _ => rfl)) pa_nil)) (pg_sub (pv 0) pe_int set_list))) pss_nil)
          (pss_one (ps_asg (pe_op op_add (pe_ix Rd.ixH (pv 0) pe_int (fun _ _ => rfl)) pe_int) (pg_sub (pv 0) pe_int set_list)))) (pss_one ps_break))))
      (pss_cons (ps_if (pt_cmpR op_gt (pe_ix Rd.ixH (pv 0) pe_int (fun _ _ => rfl)) pe_int (nomark _)) (pss_cons (ps_set (i := 4) sc_law_draw.nd rfl (Or.inl rfl) (pe_op op_mod (pe_callTy Rd.call_intI (by rfl) T.no_int (by decide +kernel) (pa_cons (pe_ix Rd.ixH (pv 0) pe_int (fun _ _ => rfl)) pa_nil)) (pv 1)))
        (pss_cons (ps_asg (pe_op op_fdiv (pe_ix Rd.ixH (pv 0) pe_int (fun _ _ => rfl)) (pv 1)) (pg_sub (pv 0) pe_int set_list))
        (pss_one (ps_ret (pv 4))))) pss_nil)
      (pss_cons (ps_set (i := 5) sc_law_draw.nd rfl (Or.inl rfl) pe_int)
      (pss_cons (ps_if (pt_cmpR op_gt (pe_callB Rd.call_lenL (by rfl) T.no_len PySem.boot_len (pa_cons (pv 2) pa_nil)) pe_int (nomark _)) (pss_one (ps_set (i := 5) sc_law_draw.nd rfl (Or.inl rfl) (pe_callB call_abs (by rfl) T.no_abs (by decide +kernel) (pa_cons (pe_ix ix_list (pv 2) (pe_op op_mod (pe_callTy Rd.call_intI (by rfl) T.no_int (by decide +kernel) (pa_cons (pe_ix Rd.ixH (pv 0) pe_int (fun _ _ => rfl)) pa_nil)) (pe_callB Rd.call_lenL (by rfl) T.no_len PySem.boot_len (pa_cons (pv 2) pa_nil))) (fun _ _ => rfl)) pa_nil)))) pss_nil)
      (pss_cons (ps_set (i := 6) sc_law_draw.nd rfl (Or.inl rfl) (pe_op op_mod (pe_callTy Rd.call_intI (by rfl) T.no_int (by decide +kernel) (pa_cons (pe_op op_add (pe_op op_add (pe_op op_mul (pv 5) pe_int) (pe_op op_mul (pe_ix Rd.ixH (pv 0) pe_int (fun _ _ => rfl)) pe_int)) pe_int) pa_nil)) pe_int))
      (pss_cons (ps_set (i := 6) sc_law_draw.nd rfl (Or.inl rfl) (pe_op op_mod (pe_callTy Rd.call_intI (by rfl) T.no_int (by decide +kernel) (pa_cons (pe_op op_add (pe_op op_add (pe_op op_mul (pv 6) (pv 6)) (pe_op op_mul (pe_ix Rd.ixH (pv 0) pe_int (fun _ _ => rfl)) pe_int)) (pv 5)) pa_nil)) pe_int))
      (pss_cons (ps_set (i := 6) sc_law_draw.nd rfl (Or.inl rfl) (pe_op op_mod (pe_callTy Rd.call_intI (by rfl) T.no_int (by decide +kernel) (pa_cons (pe_op op_add (pe_op op_add (pe_op op_mul (pe_op op_mul (pv 6) (pv 6)) pe_int) (pe_op op_fdiv (pv 5) pe_int)) pe_int) pa_nil)) pe_int))
      (pss_one (ps_ret (pe_op op_mod (pe_callTy Rd.call_intI (by rfl) T.no_int (by decide +kernel) (pa_cons (pe_op op_fdiv (pv 6) pe_int) pa_nil)) (pv 1))))))))))))), ?_⟩
    show (_ : TS) _ [some (V.ref b), some (V.int m), none, none, none, none, none] H
    walk_at "rd"
    simp only [hb]
    walk_at "rd"
    have e1 : ∀ a, a ≠ b → (upd H b (.lst [V.ref c, .int (n1 + 1), .int n2, .int n3])) a = H a := fun a ha => upd_ne ha
    refine ⟨_, SqL.but hc hbc fun p o n h => (e1 p n).trans h, ?_⟩
    rw [List.length_map]
    refine ⟨by omega, by omega, ?_⟩
    refine Rd.loop_rngC (fun σ H' => ∃ (x : Option V) (k2 k3 : Int), σ = [some (.ref b), some (.int m), some (.ref c), x, none, none, none] ∧ (∀ a, a ≠ b → H' a = H a) ∧ H' b = some (.lst [.ref c, .int (n1 + 1), .int k2, .int k3]) ∧ 0 ≤ k2 ∧ 0 ≤ k3)
      (fun _ σ H' => ∃ (x : Option V) (k2 k3 : Int), σ = [some (.ref b), some (.int m), some (.ref c), x, none, none, none] ∧ (∀ a, a ≠ b → H' a = H a) ∧ H' b = some (.lst [.ref c, .int (n1 + 1), .int k2, .int k3]) ∧ 0 ≤ k2 ∧ 0 ≤ k3)
      ⟨none, n2, n3, rfl, e1, upd_same, p2, p3⟩ ?_ (fun _ _ z => z) ?_
    · rintro bk hbk i σ H1 hi ⟨x, k2, k3, rfl, e, hb1, q2, q3⟩
      walk_at "rd"
      simp only [hb1]
      walk_at "rd"
      have hc1 : SqL K H1 c (ns.map V.int) := SqL.but hc hbc fun p o n h => (e p n).trans h
      have out : bk [some (V.ref b), some (V.int m), some (V.ref c), some (V.int (0 + ↑i)), none, none, none] H1 := hbk _ _ ⟨_, k2, k3, rfl, e, hb1, q2, q3⟩
      refine ite2 (fun h => ?_) (fun _ => out)
      refine ⟨_, hc1, ?_⟩
      try rw [List.length_map]
      refine ite2 (fun h2 => ?_) (fun _ => out)
      obtain ⟨y, hy⟩ := at_int q3 h2
      refine ⟨_, hc1, _, hy, _, rfl, ⟨by decide, by decide, by decide⟩, ite2 (fun _ => ?_) (fun _ => ?_)⟩
      · refine ⟨_, hc1, _, hy, _, rfl, fun a ha => ?_, abs_nn y, by omega⟩
        rw [upd_ne ha, upd_ne ha, e a ha]
      · refine ⟨fun a ha => ?_, q2, by omega⟩
        rw [upd_ne ha, e a ha]
    · rintro σ H1 ⟨x, k2, k3, rfl, e, hb1, q2, q3⟩
      walk_at "rd"
      simp only [hb1]
      walk_at "rd"
      have hc1 : SqL K H1 c (ns.map V.int) := SqL.but hc hbc fun p o n h => (e p n).trans h
      refine ite2 (fun h => ?_) (fun h => ?_)
      · refine ⟨hm, ⟨hm, by omega⟩, k _ _ (Int.emod_nonneg _ (by omega)) (Int.emod_lt_of_pos _ hm) ⟨hbc, hl, ⟨_, _, _, upd_same, Int.ediv_nonneg (by omega) (by omega), q3⟩, SqL.but hc1 hbc fun p o n h => (upd_ne n).trans h⟩ fun a ha => ?_⟩
        rw [upd_ne ha, e a ha]
      · refine ⟨_, hc1, ?_⟩
        try rw [List.length_map]
        have fin : ∀ z : Int, Q (V.int (z % m)) H1 := fun z => k _ _ (Int.emod_nonneg _ (by omega)) (Int.emod_lt_of_pos _ hm) ⟨hbc, hl, ⟨_, _, _, hb1, q2, q3⟩, hc1⟩ e
        refine ite2 (fun h2 => ?_) (fun h2 => ?_)
        · obtain ⟨y, hy⟩ := at_int (ns := ns) (z := (n1 + 1) % (ns.length : Int)) (Int.emod_nonneg _ (by omega)) (Int.emod_lt_of_pos _ h2)
          refine ⟨_, hc1, by rw [List.length_map]; exact h2, _, hc1, _, by rw [List.length_map]; exact hy, _, rfl, .inr ⟨by decide, by decide⟩, .inr ⟨by decide, by decide⟩, by decide, cm_mod (by decide) (by decide), .inr ⟨by decide, by decide⟩, by decide, cm_mod (by decide) (by decide), .inr ⟨by decide, by decide⟩, ⟨by decide, by decide⟩, by decide, ⟨by decide, by decide⟩, hm, fin _⟩
        · exact ⟨.inr ⟨by decide, by decide⟩, .inr ⟨by decide, by decide⟩, by decide, cm_mod (by decide) (by decide), .inr ⟨by decide, by decide⟩, by decide, cm_mod (by decide) (by decide), .inr ⟨by decide, by decide⟩, ⟨by decide, by decide⟩, by decide, ⟨by decide, by decide⟩, hm, fin _⟩
end
section
variable {P : Program} {w : World} {K : PySem.W.Frag} {mg : Str → Option Value} {base : Heap} {a : Ad}
theorem But.of {b : Addr} {H H' : Hp} (e : ∀ p, p ≠ b → H' p = H p) : But b H H' := fun p o n h => (e p n).trans h
theorem But.updn {b p : Addr} {o : HO} {H H' : Hp} (e : But b H H') (h : H p = none) : But b H (upd H' p o) := fun q u n z => (upd_ne (ne_of_none z h)).trans (e q u n z)
theorem BoxAt.upd {H0 H : Hp} {b c p : Addr} {ns : List Int} {o : HO} (B0 : BoxAt K H0 b c ns) (B : BoxAt K H b c ns) (n : p ≠ b) (e : But b H0 (L2.upd H p o)) : BoxAt K (L2.upd H p o) b c ns :=
  let ⟨n1, n2, n3, h, u, v⟩ := B.ob
  ⟨B.ne, B.len, ⟨n1, n2, n3, (upd_ne (Ne.symm n)).trans h, u, v⟩, SqL.but B0.cells B.ne e⟩
theorem drw {H : Hp} {b c : Addr} {ns : List Int} {m : Int} {Q : VK} {E : XK} (B : BoxAt K H b c ns) (h0 : 0 < m) (h1 : m < 1000000000) (k : ∀ (d : Nat) (H' : Hp), (d : Int) < m → BoxAt K H' b c ns → But b H H' → Q (.int (d : Nat)) H') : spDraw K [.ref b, .int m] H Q E :=
  ⟨b, c, ns, m, rfl, B, h0, h1, fun d H' p q B' e => by
    obtain ⟨j, rfl⟩ : ∃ j : Nat, d = (j : Int) := ⟨d.toNat, by omega⟩
    exact k j H' q B' (But.of e)⟩
end

end K32
namespace K32
open PySem PySem.Spec PyProof.Rows L2 Own OwnSeq OwnSet OwnComb OwnSort OwnHot OwnExN OwnProj
local macro_rules | `(tactic| walk_at "rd") => `(tactic| simp only [tSeq, tAsg, tOp, tUn, tVar, gName, gSub, rIxL, rIxT, rSetL, tC, rI0, rI, rU, rEq, rNe, tCons, tNil, tCB, tLst, tTup, tIfS, tAnd, tOr, tNot, tAndV, tOrV, tNotV, tTest, tB, tIf, tRet, tDrop, tNext, tBreak, tCont, tCall, tCallS, L2.WE, tMakeS, rIsS, rIsB, tChain, gSeq, gRest, gCons, gNil, tFor_seq, tFor_enumS, tLc_seq, tLc_enumS, rAny, rAll, L2.tMeth, StX.tStar, rIn, tLstRg, tRg1, tRg2, rSetI, rSortedSet, rInDT, rInD, rNotInD, rEqD, rNeD, iComb, tFld, tMake, tMkO, sFld, tOst, tNever, tBits, clv, isB,
  Rd.tFor_rng1, Rd.tFor_rng2, Rd.tFor_list, Rd.tFor_tup, Rd.tLc_list, Rd.tLc_tup, Rd.tLc_rng1, Rd.LcTurn, tYes, wipe, Rd.rLenL, Rd.rLenT, Rd.rIntI, Rd.rIxH, rIxHT,  HO.tup.injEq, Rd.at0, Rd.at1, Rd.at2, Rd.at3, Rd.ixN40, Rd.ixN41, Rd.ixN42, Rd.ixN43, Rd.scal_ii, cxOf,
  List.length_cons, List.length_nil, List.length_map, List.map_cons, List.map_nil, upd_same, decide_eq_true_eq, decide_true, decide_false, if_true, if_false, Bool.false_eq_true, Bool.not_true, Bool.not_false, HO.lst.injEq, HO.ins.injEq, List.set_cons_zero, List.set_cons_succ, List.getElem?_cons_zero, List.getElem?_cons_succ, List.append_nil, List.nil_append, List.cons_append, Option.some.injEq, V.ref.injEq, V.int.injEq, V.bl.injEq, List.cons.injEq, exists_eq_left', exists_and_left, exists_eq_left, true_and, and_true, and_self, and_assoc, implies_true, reduceCtorEq, Nat.reduceAdd])

/-! ### masks by reckoning -/
def pop (m : Nat) : Nat := (bits m).length
def cntL (n : Nat) : List Nat := (List.range n).map pop
theorem and_nat {x y : Nat} : Builtin.bitAnd (x : Int) (y : Int) = ((x &&& y : Nat) : Int) := by
  rw [bitAnd_pp (by omega) (by omega), Int.toNat_natCast, Int.toNat_natCast]
theorem or_nat {x y : Nat} : Builtin.bitOr (x : Int) (y : Int) = ((x ||| y : Nat) : Int) := by
  rw [bitOr_and, bitAnd_pp (by omega) (by omega), Int.toNat_natCast, Int.toNat_natCast]
  have := nat_or_add_and x y
  omega
theorem sub_iff {m t : Nat} : (Builtin.bitAnd (m : Int) (t : Int) = (m : Int)) ↔ Sub m t := by
  rw [and_nat]
  unfold Sub
  omega
theorem sub_trans {x y z : Nat} (a : Sub x y) (b : Sub y z) : Sub x z := by
  unfold Sub at *
  rw [← a, Nat.and_assoc, b]
theorem sub_zero (x : Nat) : Sub 0 x := Nat.zero_and x
theorem sub_le {x y : Nat} (a : Sub x y) : x ≤ y := a ▸ Nat.and_le_right
theorem pow64 {n : Nat} (h : n ≤ 6) : 2 ^ n ≤ 64 := Nat.le_trans (Nat.pow_le_pow_right (by decide) h) (by decide)
theorem pow_cast (n : Nat) : (1 : Int) * 2 ^ (n : Int).toNat = ((2 ^ n : Nat) : Int) := by
  rw [Int.toNat_natCast, Int.one_mul]
  rfl
theorem pbd {n : Nat} (h : n ≤ 6) : -(2 : Int) ^ 62 ≤ 1 * 2 ^ (n : Int).toNat ∧ (1 : Int) * 2 ^ (n : Int).toNat < 2 ^ 62 ∧ ((1 : Int) * 2 ^ (n : Int).toNat).toNat = 2 ^ n ∧ ((1 : Int) * 2 ^ (n : Int).toNat - 1).toNat = 2 ^ n - 1 := by
  rw [Int.toNat_natCast]
  have hn : n = 0 ∨ n = 1 ∨ n = 2 ∨ n = 3 ∨ n = 4 ∨ n = 5 ∨ n = 6 := by omega
  rcases hn with rfl | rfl | rfl | rfl | rfl | rfl | rfl <;> decide
theorem sum_cast : ∀ s : List Nat, (s.map fun g => ((2 ^ g : Nat) : Int)).sum = ((mk s : Nat) : Int)
  | [] => rfl
  | g :: s => by
    have := sum_cast s
    unfold mk at this ⊢
    rw [List.map_cons, List.sum_cons, this, List.map_cons, List.sum_cons]
    exact (Int.natCast_add _ _).symm
theorem cpw {n : Nat} (h : n ≤ 8) : CPow 1 (n : Int) := ⟨by omega, by omega, by decide⟩
theorem shr_mod (m k : Nat) : ((m : Int) / 2 ^ (k : Int).toNat) = ((m / 2 ^ k : Nat) : Int) := by
  rw [Int.toNat_natCast, Int.natCast_ediv]
  rfl
theorem pops : ((List.range 64).all fun m => decide (m = 0) || decide (pop m = pop (m / 2) + m % 2)) = true := by decide +kernel
theorem pop_at {m : Nat} (h : m < 64) (h0 : m ≠ 0) : pop m = pop (m / 2) + m % 2 := by
  have z := List.all_eq_true.mp pops m (List.mem_range.mpr h)
  simpa [h0] using z
theorem in_bool {S : List Bool} {m : Nat} (h : m < S.length) : atI (S.map V.bl) (m : Nat) = some (V.bl (In S m)) := by
  refine atI_nat ?_
  unfold In
  rw [List.getElem?_map, List.getElem?_eq_getElem h, List.getD_eq_getElem?_getD, List.getElem?_eq_getElem h]
  rfl
theorem ixN_of {n t : Nat} (h : t < n) : ixN n (t : Int) = some t := by
  unfold ixN
  split <;> first
    | (split <;> first | rfl | (simp; omega))
    | (simp; omega)
theorem in_set {S : List Bool} {t m : Nat} {b : Bool} (h : t < S.length) : In (S.set t b) m = if m = t then b else In S m := by
  unfold In
  rw [List.getD_eq_getElem?_getD, List.getElem?_set]
  by_cases e : t = m
  · subst e
    rw [if_pos rfl, if_pos rfl, if_pos h]
    rfl
  · rw [if_neg e, if_neg (fun z => e z.symm), List.getD_eq_getElem?_getD]
theorem iv_at {s : List Nat} {j g : Nat} (h : s[j]? = some g) : atI (iv s) (j : Nat) = some (V.int (g : Nat)) := atI_nat (by unfold iv; rw [List.getElem?_map, h]; rfl)
theorem cnt_at {N j : Nat} (h : j < N) : (cntL N)[j]? = some (pop j) := by
  unfold cntL
  rw [List.getElem?_map, List.getElem?_range h]
  rfl
theorem fam_zero {n : Nat} (n1 : 1 ≤ n) (n6 : n ≤ 6) : Fam n ((List.range (2 ^ n)).map fun m => decide (m = 0)) := by
  have val : ∀ m, In ((List.range (2 ^ n)).map fun m => decide (m = 0)) m = decide (m = 0) := fun m => by
    unfold In
    rw [List.getD_eq_getElem?_getD, List.getElem?_map]
    by_cases h : m < 2 ^ n
    · rw [List.getElem?_range h]; rfl
    · rw [List.getElem?_eq_none (by rw [List.length_range]; omega)]
      have : 0 < 2 ^ n := Nat.pow_pos (by decide)
      rw [decide_eq_false (by omega)]
      rfl
  refine ⟨n1, n6, by rw [List.length_map, List.length_range], by rw [val]; decide, fun m m' s h => ?_⟩
  rw [val] at h ⊢
  have h := of_decide_eq_true h
  have := sub_le s
  exact decide_eq_true (by omega)
section
variable {P : Program} {w : World} {K : PySem.W.Frag} {mg : Str → Option Value} {base : Heap} {a : Ad}
/-! ### _law_things, _law_mask -/
def spThings : Sp := fun vs H Q _ => ∃ (m : Nat), vs = [.int m] ∧ ∀ r H', H r = none → Same H H' → H' r = some (.tup (iv (bits m))) → Q (.ref r) H'
theorem sc_law_things : FnScope ["mask", "thing"] ["mask"] (defScope s_law_things) := ⟨rfl, rfl, rfl, by decide +kernel, rfl, by decide +kernel, by decide +kernel⟩
theorem ok_law_things (T : Txt K mg a) : FnOk P w K mg base CX0 1 a.a_law_things a.d_law_things ["mask"] spThings := by
  refine T.fn_law_things.ok sc_law_things (fun vs H Q E h => ?_) (fun cdv A outer s H vs Q E hr h => ?_)
  · obtain ⟨m, rfl, _⟩ := h
    rfl
  · obtain ⟨m, rfl, k⟩ := h
    refine ⟨_, (pss_one (ps_ret (pe_callTy call_tuple_of (by rfl) T.no_tuple (by decide +kernel) (pa_cons (pe_lc (own := [("thing", 1)]) (by rfl) sc_law_things.nd (pi_range1 (by rfl) T.no_range (pa_cons pe_int pa_nil)) (blkOk_by (own := [("thing", 1)]) (N := ["mask", "thing"]) (sc := defScope s_law_things) (by decide +kernel)) (fun _ _ _ _ _ => pg_name (i := 1) sc_law_things.nd rfl (Or.inl rfl)) (fun _ _ _ _ _ => pts_one (pt_cmpR op_eq (pe_op op_mod (pe_callTy Rd.call_intI (by rfl) T.no_int (by decide +kernel) (pa_cons (pe_op op_shr (pv 0) (pv 1)) pa_nil)) pe_int) pe_int (nomark _))) (fun _ _ _ _ _ => (pv 1))) pa_nil)))), ?_⟩
    show (_ : TS) _ [some (V.int m), none] H
    walk_at "rd"
    refine ⟨by decide, by decide, Rd.lcl_rng (fun D i H5 => H D = none ∧ Same H H5 ∧ H5 D = some (.lst (iv ((List.range i).filter (bit m))))) (fun D hD => ⟨hD, same_upd hD, upd_same⟩) (fun D i H5 hi ⟨n5, e5, a5⟩ => ?_) (fun D H5 _ ⟨n5, e5, a5⟩ => ?_)⟩
    · walk_at "rd"
      have iq : (0 + (i : Int)).toNat = i := by omega
      have bt : ((m : Int) / 2 ^ i % 2 = 1) = (bit m i = true) := by
        unfold bit
        rw [decide_eq_true_eq]
        have z : (m : Int) / 2 ^ i % 2 = ((m / 2 ^ i % 2 : Nat) : Int) := by
          rw [Int.natCast_emod, Int.natCast_ediv]
          rfl
        rw [z]
        exact propext ⟨fun h => by omega, fun h => by omega⟩
      have i6 : i < 6 := hi
      have fl : ((List.range i).filter (bit m)).length ≤ i := by
        have := List.length_filter_le (bit m) (List.range i)
        rwa [List.length_range] at this
      refine ⟨by omega, by decide, ?_⟩
      rw [iq, List.range_succ, List.filter_append]
      refine ite2 (fun h => ⟨_, a5, small (by rw [iv_len]; omega), n5, fun b o hb => (upd_ne (ne_of_none hb n5)).trans (e5 _ _ hb), ?_⟩) (fun h => ⟨n5, e5, ?_⟩)
      · rw [bt] at h
        rw [List.filter_cons_of_pos h, Int.zero_add]
        unfold iv
        rw [List.map_append]
        rfl
      · rw [bt] at h
        rw [List.filter_cons_of_neg h, List.filter_nil, List.append_nil]
        exact a5
    · exact ⟨D, rfl, _, .inl ⟨SqL.of a5, fun r hr => k r _ (e5.free hr) (e5.trans (same_upd hr)) upd_same⟩⟩
def spMask : Sp := fun vs H Q _ => ∃ (p : Addr) (l : Bool) (s : List Nat), vs = [.ref p] ∧ H p = some (sq l (iv s)) ∧ s.length ≤ 6 ∧ (∀ g ∈ s, g < 6) ∧ ∀ H', Same H H' → Q (.int (mk s : Nat)) H'
theorem sc_law_mask : FnScope ["things", "thing"] ["things"] (defScope s_law_mask) := ⟨rfl, rfl, rfl, by decide +kernel, rfl, by decide +kernel, by decide +kernel⟩
theorem ok_law_mask (T : Txt K mg a) : FnOk P w K mg base CX0 1 a.a_law_mask a.d_law_mask ["things"] spMask := by
  refine T.fn_law_mask.ok sc_law_mask (fun vs H Q E h => ?_) (fun cdv A outer s H vs Q E hr h => ?_)
  · obtain ⟨p, l, s, rfl, _⟩ := h
    rfl
  · obtain ⟨p, l, s', rfl, hp, h6, g6, k⟩ := h
    refine ⟨_, (pss_one (ps_ret (pe_callB (cr_sum rfl) (by rfl) T.no_sum (by decide +kernel) (pa_cons (pe_lc (own := [("thing", 1)]) (by rfl) sc_law_mask.nd (pi_seq (pv 0)) (blkOk_by (own := [("thing", 1)]) (N := ["things", "thing"]) (sc := defScope s_law_mask) (by decide +kernel)) (fun _ _ _ _ _ => pg_name (i := 1) sc_law_mask.nd rfl (Or.inl rfl)) (fun _ _ _ _ _ => pts_nil) (fun _ _ _ _ _ => (pe_op op_shl pe_int (pv 1)))) pa_nil)))), ?_⟩
    show (_ : TS) _ [some (V.ref p), none] H
    walk_at "rd"
    refine ⟨l, _, hp, lcl_goes goes_seq (fun D i H5 => H D = none ∧ Same H H5 ∧ H5 D = some (.lst (((s'.take i).map fun g => ((2 ^ g : Nat) : Int)).map V.int))) (fun D hD => ⟨hD, same_upd hD, upd_same⟩)
      (fun D i H5 _ h => h.2.1 _ _ hp) (fun D i x H5 H5' hi ⟨n5, e5, a5⟩ ⟨eq5, hx⟩ => ?_) (fun D H5 _ ⟨n5, e5, a5⟩ => ?_)⟩
    · subst eq5
      obtain ⟨g, hg, rfl⟩ := at_iv hx
      have g6' := g6 g (List.mem_of_getElem? hg)
      have il := (List.getElem?_eq_some_iff.mp hg).1
      walk_at "rd"
      refine ⟨cpw (by omega), _, a5, small (by rw [List.length_map, List.length_map, List.length_take]; omega), n5, fun b o hb => (upd_ne (ne_of_none hb n5)).trans (e5 _ _ hb), ?_⟩
      rw [pow_cast, List.take_add_one, hg, List.map_append, List.map_append]
      rfl
    · rw [iv_len, List.take_length] at a5
      refine ⟨D, _, rfl, SqL.of a5, ?_⟩
      rw [sum_cast]
      exact k _ e5
end

end K32
namespace K32
open PySem PySem.Spec PyProof.Rows L2 Own OwnSeq OwnSet OwnComb OwnSort OwnHot OwnExN OwnProj
local macro_rules | `(tactic| walk_at "rd") => `(tactic| simp only [tSeq, tAsg, tOp, tUn, tVar, gName, gSub, rIxL, rIxT, rSetL, tC, rI0, rI, rU, rEq, rNe, tCons, tNil, tCB, tLst, tTup, tIfS, tAnd, tOr, tNot, tAndV, tOrV, tNotV, tTest, tB, tIf, tRet, tDrop, tNext, tBreak, tCont, tCall, tCallS, L2.WE, tMakeS, rIsS, rIsB, tChain, gSeq, gRest, gCons, gNil, tFor_seq, tFor_enumS, tLc_seq, tLc_enumS, rAny, rAll, L2.tMeth, StX.tStar, rIn, tLstRg, tRg1, tRg2, rSetI, rSortedSet, rInDT, rInD, rNotInD, rEqD, rNeD, iComb, tFld, tMake, tMkO, sFld, tOst, tNever, tBits, clv, isB,
  Rd.tFor_rng1, Rd.tFor_rng2, Rd.tFor_list, Rd.tFor_tup, Rd.tLc_list, Rd.tLc_tup, Rd.tLc_rng1, Rd.LcTurn, tYes, wipe, Rd.rLenL, Rd.rLenT, Rd.rIntI, Rd.rIxH, rIxHT,  HO.tup.injEq, Rd.at0, Rd.at1, Rd.at2, Rd.at3, Rd.ixN40, Rd.ixN41, Rd.ixN42, Rd.ixN43, Rd.scal_ii, cxOf,
  List.length_cons, List.length_nil, List.length_map, List.map_cons, List.map_nil, upd_same, decide_eq_true_eq, decide_true, decide_false, if_true, if_false, Bool.false_eq_true, Bool.not_true, Bool.not_false, HO.lst.injEq, HO.ins.injEq, List.set_cons_zero, List.set_cons_succ, List.getElem?_cons_zero, List.getElem?_cons_succ, List.append_nil, List.nil_append, List.cons_append, Option.some.injEq, V.ref.injEq, V.int.injEq, V.bl.injEq, List.cons.injEq, exists_eq_left', exists_and_left, exists_eq_left, true_and, and_true, and_self, and_assoc, implies_true, reduceCtorEq, Nat.reduceAdd])

theorem lenK {X : Cx} (K : PySem.W.Frag) (hK : X.K = K := by rfl) : CallR X (.builtin "len") fun xs H Q => ∃ p ys, xs = [V.ref p] ∧ (SqL K H p ys ∨ SqT K H p ys) ∧ Q (V.int ys.length) H := by
  subst hK
  exact call_len_seq
theorem steps_all : ((List.range 64).all fun m => (List.range 64).all fun m' => !decide (Sub m' m) || decide (m' = m) || (List.range 6).any fun k => bit m k && decide (Sub m' (m - 2 ^ k)) && decide (2 ^ k ≤ m)) = true := by decide +kernel
theorem fam_step {n : Nat} {S : List Bool} (n1 : 1 ≤ n) (n6 : n ≤ 6) (len : S.length = 2 ^ n) (zero : In S 0 = true) (step : ∀ m, m < 2 ^ n → In S m = true → ∀ k, k < n → bit m k = true → In S (m - 2 ^ k) = true) : Fam n S := by
  have p64 := pow64 n6
  have lt : ∀ {m}, In S m = true → m < 2 ^ n := fun {m} h => by
    rcases Nat.lt_or_ge m S.length with z | z
    · omega
    · unfold In at h
      rw [List.getD_eq_getElem?_getD, List.getElem?_eq_none z] at h
      cases h
  have go : ∀ d m m', m - m' ≤ d → Sub m' m → In S m = true → In S m' = true := fun d => by
    induction d with
    | zero =>
      intro m m' hd s h
      have := sub_le s
      rwa [show m' = m by omega]
    | succ d ih =>
      intro m m' hd s h
      have ml := lt h
      have := sub_le s
      have z := List.all_eq_true.mp (List.all_eq_true.mp steps_all m (List.mem_range.mpr (by omega))) m' (List.mem_range.mpr (by omega))
      rw [decide_eq_true s, Bool.not_true, Bool.false_or] at z
      rcases Bool.or_eq_true_iff.mp z with z | z
      · rwa [of_decide_eq_true z]
      · obtain ⟨k, _, z⟩ := List.any_eq_true.mp z
        simp only [Bool.and_eq_true, decide_eq_true_eq] at z
        have kn : k < n := Nat.lt_of_not_le fun q => by
          have := Nat.pow_le_pow_right (show 0 < 2 by decide) q
          omega
        have kp : 0 < 2 ^ k := Nat.pow_pos (by decide)
        have le := sub_le z.1.2
        exact ih _ _ (by omega) z.1.2 (step m ml h k kn z.1.1)
  exact ⟨n1, n6, len, zero, fun m m' s h => go (m - m') m m' (Nat.le_refl _) s h⟩
theorem bit_and (m k : Nat) : (Builtin.bitAnd ((m : Int) / 2 ^ (k : Int).toNat) 1 = 1) ↔ bit m k = true := by
  have e : (1 : Int) = ((1 : Nat) : Int) := rfl
  rw [shr_mod, e, and_nat]
  unfold bit
  rw [Nat.and_one_is_mod, decide_eq_true_eq]
  omega
theorem bit_and0 (m k : Nat) : (Builtin.bitAnd ((m : Int) / 2 ^ (k : Int).toNat) 1 = 0) ↔ bit m k = false := by
  have e : (1 : Int) = ((1 : Nat) : Int) := rfl
  rw [shr_mod, e, and_nat]
  unfold bit
  rw [Nat.and_one_is_mod, decide_eq_false_iff_not]
  omega
theorem in_app {S : List Bool} {q : Bool} {m : Nat} : In (S ++ [q]) m = if m < S.length then In S m else if m = S.length then q else false := by
  unfold In
  rw [List.getD_eq_getElem?_getD, List.getElem?_append, List.getD_eq_getElem?_getD]
  by_cases h : m < S.length
  · rw [if_pos h, if_pos h]
  · rw [if_neg h, if_neg h]
    by_cases e : m = S.length
    · rw [if_pos e, show m - S.length = 0 by omega]
      rfl
    · rw [if_neg e, List.getElem?_eq_none (by show 1 ≤ _; omega)]
      rfl
section
variable {P : Program} {w : World} {K : PySem.W.Frag} {mg : Str → Option Value} {base : Heap} {a : Ad}
/-- what a family's drawing gives -/
theorem cut {t u : TS} {D : Ends} {σ : L2.St} {H : Hp} (G : L2.St → Hp → Prop) (h : ∀ R : L2.St → Hp → Prop, (∀ σ H, G σ H → R σ H) → t { D with nx := R } σ H) (k : ∀ σ H, G σ H → u D σ H) : tSeq t u D σ H := h (u D) k
abbrev Gives (K : PySem.W.Frag) (b c : Addr) (ns : List Int) (n : Nat) (H : Hp) (Q : VK) : Prop := ∀ (r : Addr) (S : List Bool) (H' : Hp), H r = none → r ≠ b → H' r = some (.lst (S.map V.bl)) → Fam n S → BoxAt K H' b c ns → But b H H' → Q (.ref r) H'
/-! ### _law_vectors -/
def spVec (K : PySem.W.Frag) : Sp := fun vs H Q _ => ∃ (b c : Addr) (ns : List Int) (n : Nat), vs = [.ref b, .int n] ∧ BoxAt K H b c ns ∧ 1 ≤ n ∧ n ≤ 6 ∧ Gives K b c ns n H Q
theorem sc_law_vectors : FnScope ["box", "size", "wide", "thing", "vectors", "most", "out", "mask", "summed", "things", "right"] ["box", "size"] (defScope s_law_vectors) := ⟨rfl, rfl, rfl, by decide +kernel, rfl, by decide +kernel, by decide +kernel⟩
theorem ok_law_vectors (T : Txt K mg a) : FnOk P w K mg base CX0 2 a.a_law_vectors a.d_law_vectors ["box", "size"] (spVec K) := by
  refine T.fn_law_vectors.ok sc_law_vectors (fun vs H Q E h => ?_) (fun cdv A outer s H vs Q E hr h => ?_)
  · obtain ⟨b, c, ns, n, rfl, _⟩ := h
    rfl
  · obtain ⟨b, c, ns, n, rfl, B, n1, n6, k⟩ := h
    refine ⟨_, (pss_cons (ps_set (i := 2) sc_law_vectors.nd rfl (Or.inr rfl) (pe_op op_add pe_int (pe_op op_mul pe_int (pe_call (ok_law_draw T) (hr.mono (by decide)) (by rfl) T.mg_law_draw T.fn_law_draw.kp T.b_law_draw .nil pass0 (pa_cons (pv 0) (pa_cons pe_int pa_nil))))))
      (pss_cons (ps_setLc (i := 4) (own := [("thing", 3)]) (by rfl) sc_law_vectors.nd rfl rfl (sw_true rfl rfl rfl (by decide +kernel)) (pi_range1 (by rfl) T.no_range (pa_cons (pv 1) pa_nil)) (blkOk_by (own := [("thing", 3)]) (N := ["box", "size", "wide", "thing", "vectors", "most", "out", "mask", "summed", "things", "right"]) (sc := defScope s_law_vectors) (by decide +kernel)) (fun _ _ _ _ _ => pg_name (i := 3) sc_law_vectors.nd rfl (Or.inl rfl)) (fun _ _ _ _ _ => pts_nil) (fun _ _ _ _ _ => (pe_call (ok_law_draw T) (hr.mono (by decide)) (by rfl) T.mg_law_draw T.fn_law_draw.kp T.b_law_draw .nil pass0 (pa_cons (pv 0) (pa_cons (pv 2) pa_nil)))))
      (pss_cons (ps_if (pt_cmpR op_eq (pe_call (ok_law_draw T) (hr.mono (by decide)) (by rfl) T.mg_law_draw T.fn_law_draw.kp T.b_law_draw .nil pass0 (pa_cons (pv 0) (pa_cons pe_int pa_nil))) pe_int (nomark _)) (pss_one (ps_setLc (i := 4) (own := [("thing", 3)]) (by rfl) sc_law_vectors.nd rfl rfl (sw_true rfl rfl rfl (by decide +kernel)) (pi_range1 (by rfl) T.no_range (pa_cons (pv 1) pa_nil)) (blkOk_by (own := [("thing", 3)]) (N := ["box", "size", "wide", "thing", "vectors", "most", "out", "mask", "summed", "things", "right"]) (sc := defScope s_law_vectors) (by decide +kernel)) (fun _ _ _ _ _ => pg_name (i := 3) sc_law_vectors.nd rfl (Or.inl rfl)) (fun _ _ _ _ _ => pts_nil) (fun _ _ _ _ _ => (pe_op op_shl pe_int (pv 3))))) pss_nil)
      (pss_cons (ps_set (i := 5) sc_law_vectors.nd rfl (Or.inl rfl) (pe_op op_add pe_int (pe_call (ok_law_draw T) (hr.mono (by decide)) (by rfl) T.mg_law_draw T.fn_law_draw.kp T.b_law_draw .nil pass0 (pa_cons (pv 0) (pa_cons (pv 1) pa_nil)))))
      (pss_cons (ps_set (i := 6) sc_law_vectors.nd rfl (Or.inl rfl) (pe_lst (pa_cons pe_bl pa_nil)))
      (pss_cons (ps_for PassesOwn.never rfl (pi_range2 (by rfl) T.no_range (pa_cons pe_int (pa_cons (pe_op op_shl pe_int (pv 1)) pa_nil))) (pg_name (i := 7) sc_law_vectors.nd rfl (Or.inl rfl))
        (pss_cons (ps_set (i := 8) sc_law_vectors.nd rfl (Or.inl rfl) pe_int)
        (pss_cons (ps_set (i := 9) sc_law_vectors.nd rfl (Or.inl rfl) (pe_call (ok_law_things T) (hr.mono (by decide)) (by rfl) T.mg_law_things T.fn_law_things.kp T.b_law_things .nil pass0 (pa_cons (pv 7) pa_nil)))
        (pss_cons (ps_set (i := 10) sc_law_vectors.nd rfl (Or.inl rfl) (pe_cmpR op_le (pe_callB (lenK K) (by rfl) T.no_len PySem.boot_len (pa_cons (pv 9) pa_nil)) (pv 5) (nomark _)))
        (pss_cons (ps_for PassesOwn.never rfl (pi_seq (pv 9)) (pg_name (i := 3) sc_law_vectors.nd rfl (Or.inl rfl))
          (pss_cons (ps_set (i := 8) sc_law_vectors.nd rfl (Or.inl rfl) (pe_op op_xor (pv 8) (pe_ix Rd.ixH (pv 4) (pv 3) (fun _ _ => rfl))))
          (pss_one (ps_set (i := 10) sc_law_vectors.nd rfl (Or.inl rfl) (pe_and (pv 10) (pe_one (pe_ix Rd.ixH (pv 6) (pe_op op_sub (pv 7) (pe_op op_shl pe_int (pv 3))) (fun _ _ => rfl))))))))
        (pss_one (ps_expr (pe_bm PySem.F.plainAttrs_list PySem.F.slot_list_append PySem.F.type_list_append mt_append (pv 6) (pa_cons (pe_and (pv 10) (pe_one (pe_cmpR op_ne (pv 8) pe_int (nomark _)))) pa_nil)))))))))
      (pss_one (ps_ret (pv 6))))))))), ?_⟩
    show (_ : TS) _ [some (V.ref b), some (V.int n), none, none, none, none, none, none, none, none, none] H
    have p64 := pow64 n6
    refine cut (fun σ H' => ∃ wd : Nat, σ = [some (V.ref b), some (V.int n), some (V.int wd), none, none, none, none, none, none, none, none] ∧ 0 < wd ∧ wd < 100 ∧ BoxAt K H' b c ns ∧ But b H H') (fun R hR => ?_) (fun σ H' h => ?_)
    · walk_at "rd"
      refine drw B (by decide) (by decide) fun x H1 x1 B1 e1 => ⟨x, rfl, .inl ⟨by decide, by decide⟩, hR _ _ ⟨2 + 6 * x, ?_, by omega, by omega, B1, e1⟩⟩
      rw [show ((2 + 6 * x : Nat) : Int) = 2 + 6 * (x : Int) by omega]
    obtain ⟨wd, rfl, w0, w1, B1, e1⟩ := h
    refine cut (fun σ H' => ∃ v us, σ = [some (V.ref b), some (V.int n), some (V.int wd), none, some (V.ref v), none, none, none, none, none, none] ∧ H' v = some (.lst (iv us)) ∧ us.length = n ∧ v ≠ b ∧ BoxAt K H' b c ns ∧ But b H H') (fun R hR => ?_) (fun σ H' h => ?_)
    · walk_at "rd"

      refine ⟨by omega, by omega, Rd.lcl_rng (fun D i H5 => H' D = none ∧ But b H' H5 ∧ BoxAt K H5 b c ns ∧ ∃ us, H5 D = some (.lst (iv us)) ∧ us.length = i) (fun D hD => ⟨hD, Same.but (same_upd hD), B1.same (same_upd hD), [], upd_same, rfl⟩) (fun D i H5 hi ⟨n5, e5, B5, us, a5, ul⟩ => ?_) (fun D H5 _ ⟨n5, e5, B5, us, a5, ul⟩ => ?_)⟩
      · walk_at "rd"
        refine drw B5 (by omega) (by omega) fun x H6 x1 B6 e6 => ?_
        have a6 := e6 _ _ (B1.ne_new n5) a5
        refine ⟨_, a6, small (by rw [iv_len]; omega), n5, ?_⟩
        have e7 : But b H' (upd H6 D (HO.lst (iv us ++ [V.int x]))) := (e5.trans e6).updn n5
        exact ⟨e7, B1.upd B6 (B1.ne_new n5) e7, us ++ [x], by unfold iv; rw [List.map_append]; rfl, by rw [List.length_append, ul]; rfl⟩
      · refine hR _ _ ⟨D, us, rfl, a5, by omega, B1.ne_new n5, B5, e1.trans e5⟩
    obtain ⟨v, us, rfl, hv, ul, nv, B1, e1⟩ := h
    refine cut (fun σ H' => ∃ v us, σ = [some (V.ref b), some (V.int n), some (V.int wd), none, some (V.ref v), none, none, none, none, none, none] ∧ H' v = some (.lst (iv us)) ∧ us.length = n ∧ v ≠ b ∧ BoxAt K H' b c ns ∧ But b H H') (fun R hR => ?_) (fun σ H' h => ?_)
    · walk_at "rd"
      refine drw B1 (by decide) (by decide) fun x H6 x1 B6 e6 => ⟨rfl, ite2 (fun _ => ?_) (fun _ => hR _ _ ⟨v, us, rfl, e6 _ _ nv hv, ul, nv, B6, e1.trans e6⟩)⟩
      refine ⟨by omega, by omega, Rd.lcl_rng (fun D i H5 => H6 D = none ∧ Same H6 H5 ∧ H5 D = some (.lst (iv ((List.range i).map fun k => 2 ^ k)))) (fun D hD => ⟨hD, same_upd hD, upd_same⟩) (fun D i H5 hi ⟨n5, e5, a5⟩ => ?_) (fun D H5 _ ⟨n5, e5, a5⟩ => ?_)⟩
      · walk_at "rd"
        have i6 : i < n := by omega
        rw [Int.zero_add]
        refine ⟨cpw (by omega), _, a5, small (by rw [iv_len, List.length_map, List.length_range]; omega), n5, fun b o hb => (upd_ne (ne_of_none hb n5)).trans (e5 _ _ hb), ?_⟩
        rw [pow_cast, List.range_succ, List.map_append]
        unfold iv
        rw [List.map_append]
        rfl
      · refine hR _ _ ⟨D, _, rfl, a5, ?_, B6.ne_new n5, B6.same e5, (e1.trans e6).trans (Same.but e5)⟩
        rw [List.length_map, List.length_range]
        omega
    obtain ⟨v, us, rfl, hv, ul, nv, B1, e1⟩ := h
    refine cut (fun σ H' => ∃ mo : Nat, σ = [some (V.ref b), some (V.int n), some (V.int wd), none, some (V.ref v), some (V.int mo), none, none, none, none, none] ∧ H' v = some (.lst (iv us)) ∧ BoxAt K H' b c ns ∧ But b H H') (fun R hR => ?_) (fun σ H' h => ?_)
    · walk_at "rd"
      refine drw B1 (by omega) (by omega) fun x H6 x1 B6 e6 => ⟨_, rfl, hR _ _ ⟨1 + x, ?_, e6 _ _ nv hv, B6, e1.trans e6⟩⟩
      rw [Int.natCast_add]
      rfl
    obtain ⟨mo, rfl, hv, B1, e1⟩ := h
    walk_at "rd"
    refine ⟨by decide, fun o ho => ⟨cpw (by omega), by decide, by decide, (pbd n6).1, (pbd n6).2.1, ?_⟩⟩
    have nob := B1.ne_new ho
    rw [(pbd n6).2.2.2]
    refine Rd.loop_rngC (fun σ H2 => ∃ o3 o7 o8 o9 o10 S, σ = [some (V.ref b), some (V.int n), some (V.int wd), o3, some (V.ref v), some (V.int mo), some (V.ref o), o7, o8, o9, o10] ∧ Same H' H2 ∧ H2 o = some (.lst (S.map V.bl)) ∧ S.length = 2 ^ n ∧ In S 0 = true ∧ ∀ m, m < 2 ^ n → In S m = true → ∀ k, k < n → bit m k = true → In S (m - 2 ^ k) = true)
      (fun i σ H2 => ∃ o3 o7 o8 o9 o10 S, σ = [some (V.ref b), some (V.int n), some (V.int wd), o3, some (V.ref v), some (V.int mo), some (V.ref o), o7, o8, o9, o10] ∧ Same H' H2 ∧ H2 o = some (.lst (S.map V.bl)) ∧ S.length = i + 1 ∧ In S 0 = true ∧ ∀ m, m < i + 1 → In S m = true → ∀ k, k < n → bit m k = true → In S (m - 2 ^ k) = true)
      ⟨none, none, none, none, none, [true], rfl, same_upd ho, upd_same, rfl, rfl, fun m hm _ k _ hk => ?_⟩ ?_ ?_ ?_
    · rw [show m = 0 by omega] at hk
      unfold bit at hk
      rw [Nat.zero_div] at hk
      cases hk
    · rintro bk hbk i σ H2 hi ⟨o3, o7, o8, o9, o10, S, rfl, e2, a2, sl, z0, step⟩
      walk_at "rd"
      have mk0 : (1 + (i : Int)) = ((i + 1 : Nat) : Int) := by omega
      rw [mk0]
      have i64 : i + 1 < 64 := by omega
      have inb : ∀ g, g ∈ bits (i + 1) ↔ g < 6 ∧ bit (i + 1) g = true := fun g => by
        unfold bits
        rw [List.mem_filter, List.mem_range]
      have bl6 : (bits (i + 1)).length ≤ 6 := by
        have := List.length_filter_le (bit (i + 1)) (List.range 6)
        rwa [List.length_range] at this
      refine ⟨i + 1, rfl, fun r H3 r0 e3 a3 => ⟨r, rfl, _, .inr (SqT.of a3), r, rfl, false, _, a3, loop_goes goes_seq (fun σ H4 => ∃ o3 z q, σ = [some (V.ref b), some (V.int n), some (V.int wd), o3, some (V.ref v), some (V.int mo), some (V.ref o), some (V.int (i + 1 : Nat)), some (V.int z), some (V.ref r), some (V.bl q)] ∧ H4 = H3 ∧ (q = true → ∀ g ∈ bits (i + 1), In S (i + 1 - 2 ^ g) = true))
        (fun j σ H4 => ∃ o3 z q, σ = [some (V.ref b), some (V.int n), some (V.int wd), o3, some (V.ref v), some (V.int mo), some (V.ref o), some (V.int (i + 1 : Nat)), some (V.int z), some (V.ref r), some (V.bl q)] ∧ H4 = H3 ∧ (q = true → ∀ g ∈ (bits (i + 1)).take j, In S (i + 1 - 2 ^ g) = true))
        ⟨_, _, _, rfl, rfl, fun _ g h => by cases h⟩ (fun j σ H' _ ⟨_, _, _, _, e, _⟩ => e ▸ a3) ?_ (fun σ H' ⟨o3, z, q, q1, q2, q3⟩ => ⟨o3, z, q, q1, q2, by rw [iv_len, List.take_length] at q3; exact q3⟩) ?_⟩⟩
      · rintro bk2 hbk2 j x σ H4 H4' hj ⟨o3, z, q, rfl, rfl, hr⟩ ⟨rfl, hx⟩
        obtain ⟨g, hg, rfl⟩ := at_iv hx
        have gm := (inb g).mp (List.mem_of_getElem? hg)
        have le : 2 ^ g ≤ i + 1 := by
          refine Nat.le_of_not_lt fun z => ?_
          have gb := gm.2
          unfold bit at gb
          rw [Nat.div_eq_of_lt z] at gb
          cases gb
        have gn : g < n := by
          refine Nat.lt_of_not_le fun z => ?_
          have := Nat.pow_le_pow_right (show 0 < 2 by decide) z
          omega
        have jp : 0 < 2 ^ g := Nat.pow_pos (by decide)
        walk_at "rd"
        have hvu := e3 _ _ (e2 _ _ hv)
        have a4 := e3 _ _ a2
        refine ⟨_, hvu, _, iv_at (List.getElem?_eq_getElem (show g < us.length by omega)), _, rfl, ite2 (fun hr1 => ⟨cpw (by omega), _, a4, V.bl (In S (i + 1 - 2 ^ g)), ?_, _, rfl, fun hx k hk => ?_⟩) (fun _ h => h.elim)⟩
        · rw [pow_cast, ← Int.natCast_sub le]
          exact in_bool (by omega)
        · rw [List.take_add_one, hg] at hk
          rcases List.mem_append.mp hk with hk | hk
          · exact hr hr1 k hk
          · rw [List.mem_singleton.mp hk]
            exact hx
      · rintro σ H4 ⟨o3, z, q, rfl, rfl, hr⟩
        walk_at "rd"
        simp only [tBM, rAppend]
        walk_at "rd"
        have fin : ∀ y : Bool, (y = true → q = true) → Same H' (upd H4 o (.lst (S.map V.bl ++ [V.bl y]))) ∧ ∃ S', S.map V.bl ++ [V.bl y] = List.map V.bl S' ∧ S'.length = i + 1 + 1 ∧ In S' 0 = true ∧ ∀ m, m < i + 1 + 1 → In S' m = true → ∀ k, k < n → bit m k = true → In S' (m - 2 ^ k) = true := fun y hq => by
          refine ⟨fun b o hb => (upd_ne (ne_of_none hb ho)).trans (e3 _ _ (e2 _ _ hb)), S ++ [y], by rw [List.map_append]; rfl, by rw [List.length_append, sl]; rfl, ?_, fun m hm h k hk hb => ?_⟩
          · rw [in_app, if_pos (by omega)]
            exact z0
          · have kp : 0 < 2 ^ k := Nat.pow_pos (by decide)
            rw [in_app] at h ⊢
            by_cases e : m = i + 1
            · subst e
              rw [if_neg (by omega), if_pos (by omega)] at h
              rw [if_pos (by omega)]
              exact hr (hq h) k ((inb k).mpr ⟨by omega, hb⟩)
            · rw [if_pos (by omega)] at h
              rw [if_pos (by omega)]
              exact step m (by omega) h k hk hb
        have ll : (S.map V.bl).length < sizeLine := small (by rw [List.length_map]; omega)
        have a4 := e3 _ _ a2
        exact ⟨.inl ⟨rfl, _, SqL.of a4⟩, ite2 (fun h => ⟨_, a4, ll, fin _ fun _ => h⟩) (fun h => ⟨_, a4, ll, fin _ fun z => by cases z⟩)⟩
    · intro σ H2 h
      rwa [show 2 ^ n - 1 + 1 = 2 ^ n by have : 0 < 2 ^ n := Nat.pow_pos (by decide); omega] at h
    · rintro σ H2 ⟨o3, o7, o8, o9, o10, S, rfl, e2, a2, sl, z0, step⟩
      walk_at "rd"
      exact k o S H2 (e1.free nob ho) nob a2 (fam_step n1 n6 sl z0 step) (B1.same e2) (e1.trans (Same.but e2))
/-! ### _law_quotas -/
def qt (f s lo hi m : Nat) : Bool := decide (pop (m &&& f) ≤ lo) && decide (pop (m &&& s) ≤ hi)
theorem in_range {N m : Nat} {f : Nat → Bool} : In ((List.range N).map f) m = (decide (m < N) && f m) := by
  unfold In
  rw [List.getD_eq_getElem?_getD, List.getElem?_map]
  by_cases h : m < N
  · rw [List.getElem?_range h, decide_eq_true h]
    rfl
  · rw [List.getElem?_eq_none (by rw [List.length_range]; omega), decide_eq_false h]
    rfl
theorem pops_sub : ((List.range 64).all fun m => (List.range 64).all fun m' => !decide (Sub m' m) || decide (pop m' ≤ pop m)) = true := by decide +kernel
theorem pop_sub {m m' : Nat} (h : m < 64) (s : Sub m' m) : pop m' ≤ pop m := by
  have := sub_le s
  have z := List.all_eq_true.mp (List.all_eq_true.mp pops_sub m (List.mem_range.mpr h)) m' (List.mem_range.mpr (by omega))
  rw [decide_eq_true s, Bool.not_true, Bool.false_or] at z
  exact of_decide_eq_true z
theorem sub_and {m m' f : Nat} (s : Sub m' m) : Sub (m' &&& f) (m &&& f) := by
  unfold Sub at *
  rw [show m' &&& f &&& (m &&& f) = (m' &&& m) &&& f by rw [Nat.and_assoc, ← Nat.and_assoc f, Nat.and_comm f m, Nat.and_assoc m, Nat.and_self, Nat.and_assoc], s]
theorem pop_and {m m' f : Nat} (h : m < 64) (s : Sub m' m) : pop (m' &&& f) ≤ pop (m &&& f) :=
  pop_sub (Nat.lt_of_le_of_lt Nat.and_le_left h) (sub_and s)
theorem fam_qt {n f s lo hi : Nat} (n1 : 1 ≤ n) (n6 : n ≤ 6) : Fam n ((List.range (2 ^ n)).map (qt f s lo hi)) := by
  have p64 := pow64 n6
  have pz : 0 < 2 ^ n := Nat.pow_pos (by decide)
  refine ⟨n1, n6, by rw [List.length_map, List.length_range], ?_, fun m m' d h => ?_⟩
  · rw [in_range, decide_eq_true pz]
    unfold qt
    rw [Nat.zero_and, Nat.zero_and]
    simp [show pop 0 = 0 from rfl]
  · rw [in_range] at h ⊢
    obtain ⟨a, b⟩ := Bool.and_eq_true_iff.mp h
    have a := of_decide_eq_true a
    have := sub_le d
    obtain ⟨b1, b2⟩ := Bool.and_eq_true_iff.mp b
    have b1 := of_decide_eq_true b1
    have b2 := of_decide_eq_true b2
    have c1 := pop_and (f := f) (show m < 64 by omega) d
    have c2 := pop_and (f := s) (show m < 64 by omega) d
    rw [decide_eq_true (show m' < 2 ^ n by omega), Bool.true_and]
    unfold qt
    rw [decide_eq_true (show pop (m' &&& f) ≤ lo by omega), decide_eq_true (show pop (m' &&& s) ≤ hi by omega)]
    rfl
theorem sc_law_quotas : FnScope ["box", "size", "first", "second", "low", "high", "out", "mask"] ["box", "size"] (defScope s_law_quotas) := ⟨rfl, rfl, rfl, by decide +kernel, rfl, by decide +kernel, by decide +kernel⟩
theorem ok_law_quotas (T : Txt K mg a) : FnOk P w K mg base CX0 2 a.a_law_quotas a.d_law_quotas ["box", "size"] (spVec K) := by
  refine T.fn_law_quotas.ok sc_law_quotas (fun vs H Q E h => ?_) (fun cdv A outer s H vs Q E hr h => ?_)
  · obtain ⟨b, c, ns, n, rfl, _⟩ := h
    rfl
  · obtain ⟨b, c, ns, n, rfl, B, n1, n6, k⟩ := h
    refine ⟨_, (pss_cons (ps_set (i := 2) sc_law_quotas.nd rfl (Or.inl rfl) (pe_call (ok_law_draw T) (hr.mono (by decide)) (by rfl) T.mg_law_draw T.fn_law_draw.kp T.b_law_draw .nil pass0 (pa_cons (pv 0) (pa_cons (pe_op op_shl pe_int (pv 1)) pa_nil))))
      (pss_cons (ps_set (i := 3) sc_law_quotas.nd rfl (Or.inl rfl) (pe_op op_or (pe_call (ok_law_draw T) (hr.mono (by decide)) (by rfl) T.mg_law_draw T.fn_law_draw.kp T.b_law_draw .nil pass0 (pa_cons (pv 0) (pa_cons (pe_op op_shl pe_int (pv 1)) pa_nil))) (pv 2)))
      (pss_cons (ps_if (pt_cmpR op_eq (pe_call (ok_law_draw T) (hr.mono (by decide)) (by rfl) T.mg_law_draw T.fn_law_draw.kp T.b_law_draw .nil pass0 (pa_cons (pv 0) (pa_cons pe_int pa_nil))) pe_int (nomark _)) (pss_one (ps_set (i := 3) sc_law_quotas.nd rfl (Or.inl rfl) (pe_op op_sub (pe_op op_sub (pe_op op_shl pe_int (pv 1)) pe_int) (pv 2)))) pss_nil)
      (pss_cons (ps_set (i := 4) sc_law_quotas.nd rfl (Or.inl rfl) (pe_call (ok_law_draw T) (hr.mono (by decide)) (by rfl) T.mg_law_draw T.fn_law_draw.kp T.b_law_draw .nil pass0 (pa_cons (pv 0) (pa_cons pe_int pa_nil))))
      (pss_cons (ps_set (i := 5) sc_law_quotas.nd rfl (Or.inl rfl) (pe_call (ok_law_draw T) (hr.mono (by decide)) (by rfl) T.mg_law_draw T.fn_law_draw.kp T.b_law_draw .nil pass0 (pa_cons (pv 0) (pa_cons pe_int pa_nil))))
      (pss_cons (ps_set (i := 6) sc_law_quotas.nd rfl (Or.inl rfl) (pe_lst pa_nil))
      (pss_cons (ps_for PassesOwn.never rfl (pi_range1 (by rfl) T.no_range (pa_cons (pe_op op_shl pe_int (pv 1)) pa_nil)) (pg_name (i := 7) sc_law_quotas.nd rfl (Or.inl rfl))
        (pss_one (ps_expr (pe_bm PySem.F.plainAttrs_list PySem.F.slot_list_append PySem.F.type_list_append mt_append (pv 6) (pa_cons (pe_and (pe_cmpR op_le (pe_callB (lenK K) (by rfl) T.no_len PySem.boot_len (pa_cons (pe_call (ok_law_things T) (hr.mono (by decide)) (by rfl) T.mg_law_things T.fn_law_things.kp T.b_law_things .nil pass0 (pa_cons (pe_op op_and (pv 7) (pv 2)) pa_nil)) pa_nil)) (pv 4) (nomark _)) (pe_one (pe_cmpR op_le (pe_callB (lenK K) (by rfl) T.no_len PySem.boot_len (pa_cons (pe_call (ok_law_things T) (hr.mono (by decide)) (by rfl) T.mg_law_things T.fn_law_things.kp T.b_law_things .nil pass0 (pa_cons (pe_op op_and (pv 7) (pv 3)) pa_nil)) pa_nil)) (pv 5) (nomark _)))) pa_nil)))))
      (pss_one (ps_ret (pv 6)))))))))), ?_⟩
    show (_ : TS) _ [some (V.ref b), some (V.int n), none, none, none, none, none, none] H
    have p64 := pow64 n6
    have pz : 0 < 2 ^ n := Nat.pow_pos (by decide)
    refine cut (fun σ H' => ∃ f : Nat, f < 2 ^ n ∧ σ = [some (V.ref b), some (V.int n), some (V.int f), none, none, none, none, none] ∧ BoxAt K H' b c ns ∧ But b H H') (fun R hR => ?_) (fun σ H' h => ?_)
    · walk_at "rd"
      refine ⟨cpw (by omega), drw B (by rw [pow_cast]; omega) (by rw [pow_cast]; omega) fun x H6 x1 B6 e6 => hR _ _ ⟨x, by rw [pow_cast] at x1; omega, rfl, B6, e6⟩⟩
    obtain ⟨f, f1, rfl, B1, e1⟩ := h
    refine cut (fun σ H' => ∃ s : Nat, σ = [some (V.ref b), some (V.int n), some (V.int f), some (V.int s), none, none, none, none] ∧ BoxAt K H' b c ns ∧ But b H H') (fun R hR => ?_) (fun σ H' h => ?_)
    · walk_at "rd"
      refine ⟨cpw (by omega), drw B1 (by rw [pow_cast]; omega) (by rw [pow_cast]; omega) fun x H6 x1 B6 e6 => ⟨_, rfl, hR _ _ ⟨x ||| f, ?_, B6, e1.trans e6⟩⟩⟩
      rw [or_nat]
    obtain ⟨s, rfl, B1, e1⟩ := h
    refine cut (fun σ H' => ∃ s : Nat, σ = [some (V.ref b), some (V.int n), some (V.int f), some (V.int s), none, none, none, none] ∧ BoxAt K H' b c ns ∧ But b H H') (fun R hR => ?_) (fun σ H' h => ?_)
    · walk_at "rd"
      refine drw B1 (by decide) (by decide) fun x H6 x1 B6 e6 => ⟨rfl, ite2 (fun _ => ⟨cpw (by omega), ?_⟩) (fun _ => hR _ _ ⟨s, rfl, B6, e1.trans e6⟩)⟩
      rw [pow_cast, show ((2 ^ n : Nat) : Int) - 1 - (f : Int) = ((2 ^ n - 1 - f : Nat) : Int) by omega]
      exact hR _ _ ⟨_, rfl, B6, e1.trans e6⟩
    obtain ⟨s, rfl, B1, e1⟩ := h
    walk_at "rd"
    refine drw B1 (by decide) (by decide) fun lo H6 _ B6 e6 => drw B6 (by decide) (by decide) fun hi' H7 _ B7 e7 => ?_
    have e8 := (e1.trans e6).trans e7
    refine ⟨by decide, fun o ho => ⟨cpw (by omega), (pbd n6).1, (pbd n6).2.1, ?_⟩⟩
    have nob := B7.ne_new ho
    rw [(pbd n6).2.2.1]
    refine Rd.loop_rngC (fun σ H2 => ∃ o7, σ = [some (V.ref b), some (V.int n), some (V.int f), some (V.int s), some (V.int lo), some (V.int hi'), some (V.ref o), o7] ∧ Same H7 H2 ∧ H2 o = some (.lst (((List.range (2 ^ n)).map (qt f s lo hi')).map V.bl)))
      (fun i σ H2 => ∃ o7, σ = [some (V.ref b), some (V.int n), some (V.int f), some (V.int s), some (V.int lo), some (V.int hi'), some (V.ref o), o7] ∧ Same H7 H2 ∧ H2 o = some (.lst (((List.range i).map (qt f s lo hi')).map V.bl))) ⟨none, rfl, same_upd ho, upd_same⟩ ?_ (fun _ _ z => z) ?_
    · rintro bk hbk i σ H2 hi ⟨o7, rfl, e2, a2⟩
      have al : (((List.range i).map (qt f s lo hi')).map V.bl).length < sizeLine := small (by rw [List.length_map, List.length_map, List.length_range]; omega)
      have eq : ∀ q, q = qt f s lo hi' i → ((List.range i).map (qt f s lo hi')).map V.bl ++ [V.bl q] = ((List.range (i + 1)).map (qt f s lo hi')).map V.bl := fun q hq => by
        rw [List.range_succ, List.map_append, List.map_append, hq]
        rfl
      walk_at "rd"
      simp only [tBM, rAppend]
      walk_at "rd"
      rw [Int.zero_add, and_nat, and_nat]
      have pl : ∀ m, ((iv (bits m)).length : Int) = (pop m : Int) := fun m => by rw [iv_len]; rfl
      refine ⟨.inl ⟨rfl, _, SqL.of a2⟩, _, rfl, fun r1 H3 _ e3 a3 => ⟨r1, rfl, _, .inr (SqT.of a3), ?_⟩⟩
      rw [pl]
      refine ite2 (fun h => ⟨_, rfl, fun r2 H4 _ e4 a4 => ⟨r2, rfl, _, .inr (SqT.of a4), _, e4 _ _ (e3 _ _ a2), al, fun b o hb => (upd_ne (ne_of_none hb ho)).trans (e4 _ _ (e3 _ _ (e2 _ _ hb))), eq _ ?_⟩⟩) (fun h => ⟨_, e3 _ _ a2, al, fun b o hb => (upd_ne (ne_of_none hb ho)).trans (e3 _ _ (e2 _ _ hb)), eq _ ?_⟩)
      · rw [pl]
        unfold qt
        rw [decide_eq_true (show pop (i &&& f) ≤ lo by omega), Bool.true_and]
        exact decide_eq_decide.mpr (by omega)
      · unfold qt
        rw [decide_eq_false (show ¬ pop (i &&& f) ≤ lo by omega), Bool.false_and]
    · rintro σ H2 ⟨o7, rfl, e2, a2⟩
      walk_at "rd"
      exact k o _ H2 (e8.free nob ho) nob a2 (fam_qt n1 n6) (B7.same e2) (e8.trans (Same.but e2))
/-! ### _law_inside -/
theorem sc_law_inside : FnScope ["box", "size", "shape", "tops", "mask", "out", "top", "k"] ["box", "size"] (defScope s_law_inside) := ⟨rfl, rfl, rfl, by decide +kernel, rfl, by decide +kernel, by decide +kernel⟩
theorem ok_law_inside (T : Txt K mg a) : FnOk P w K mg base CX0 3 a.a_law_inside a.d_law_inside ["box", "size"] (spVec K) := by
  refine T.fn_law_inside.ok sc_law_inside (fun vs H Q E h => ?_) (fun cdv A outer s H vs Q E hr h => ?_)
  · obtain ⟨b, c, ns, n, rfl, _⟩ := h
    rfl
  · obtain ⟨b, c, ns, n, rfl, B, n1, n6, k⟩ := h
    refine ⟨_, (pss_cons (ps_set (i := 2) sc_law_inside.nd rfl (Or.inl rfl) (pe_call (ok_law_draw T) (hr.mono (by decide)) (by rfl) T.mg_law_draw T.fn_law_draw.kp T.b_law_draw .nil pass0 (pa_cons (pv 0) (pa_cons pe_int pa_nil))))
      (pss_cons (ps_if (pt_cmpR op_lt (pv 2) pe_int (nomark _)) (pss_one (ps_ret (pe_call (ok_law_quotas T) (hr.mono (by decide)) (by rfl) T.mg_law_quotas T.fn_law_quotas.kp T.b_law_quotas .nil pass0 (pa_cons (pv 0) (pa_cons (pv 1) pa_nil))))) pss_nil)
      (pss_cons (ps_if (pt_cmpR op_lt (pv 2) pe_int (nomark _)) (pss_one (ps_ret (pe_call (ok_law_vectors T) (hr.mono (by decide)) (by rfl) T.mg_law_vectors T.fn_law_vectors.kp T.b_law_vectors .nil pass0 (pa_cons (pv 0) (pa_cons (pv 1) pa_nil))))) pss_nil)
      (pss_cons (ps_setLc (i := 3) (own := [("k", 7)]) (by rfl) sc_law_inside.nd rfl rfl (sw_true rfl rfl rfl (by decide +kernel)) (pi_range1 (by rfl) T.no_range (pa_cons (pe_call (ok_law_draw T) (hr.mono (by decide)) (by rfl) T.mg_law_draw T.fn_law_draw.kp T.b_law_draw .nil pass0 (pa_cons (pv 0) (pa_cons pe_int pa_nil))) pa_nil)) (blkOk_by (own := [("k", 7)]) (N := ["box", "size", "shape", "tops", "mask", "out", "top", "k"]) (sc := defScope s_law_inside) (by decide +kernel)) (fun _ _ _ _ _ => pg_name (i := 7) sc_law_inside.nd rfl (Or.inl rfl)) (fun _ _ _ _ _ => pts_nil) (fun _ _ _ _ _ => (pe_call (ok_law_draw T) (hr.mono (by decide)) (by rfl) T.mg_law_draw T.fn_law_draw.kp T.b_law_draw .nil pass0 (pa_cons (pv 0) (pa_cons (pe_op op_shl pe_int (pv 1)) pa_nil)))))
      (pss_cons (ps_setLc (i := 5) (own := [("mask", 4)]) (by rfl) sc_law_inside.nd rfl rfl (sw_true rfl rfl rfl (by decide +kernel)) (pi_range1 (by rfl) T.no_range (pa_cons (pe_op op_shl pe_int (pv 1)) pa_nil)) (blkOk_by (own := [("mask", 4)]) (N := ["box", "size", "shape", "tops", "mask", "out", "top", "k"]) (sc := defScope s_law_inside) (by decide +kernel)) (fun _ _ _ _ _ => pg_name (i := 4) sc_law_inside.nd rfl (Or.inl rfl)) (fun _ _ _ _ _ => pts_nil) (fun _ _ _ _ _ => (pe_cmpR op_eq (pv 4) pe_int (nomark _))))
      (pss_cons (ps_for PassesOwn.never rfl (pi_list (pv 3)) (pg_name (i := 6) sc_law_inside.nd rfl (Or.inl rfl))
        (pss_one (ps_for PassesOwn.never rfl (pi_range1 (by rfl) T.no_range (pa_cons (pe_op op_shl pe_int (pv 1)) pa_nil)) (pg_name (i := 4) sc_law_inside.nd rfl (Or.inl rfl))
          (pss_one (ps_if (pt_cmpR op_eq (pe_op op_and (pv 4) (pv 6)) (pv 4) (nomark _)) (pss_one (ps_asg pe_bl (pg_sub (pv 5) (pv 4) set_list))) pss_nil)))))
      (pss_one (ps_ret (pv 5))))))))), ?_⟩
    show (_ : TS) _ [some (V.ref b), some (V.int n), none, none, none, none, none, none] H
    have p64 := pow64 n6
    have gv : ∀ {H'' : Hp}, BoxAt K H'' b c ns → But b H H'' → Gives K b c ns n H'' Q := fun B2 e2 r S H3 hr nr h F B3 e3 => k r S H3 (e2.free nr hr) nr h F B3 (e2.trans e3)
    refine cut (fun σ H' => ∃ sh : Nat, σ = [some (V.ref b), some (V.int n), some (V.int sh), none, none, none, none, none] ∧ BoxAt K H' b c ns ∧ But b H H') (fun R hR => ?_) (fun σ H' h => ?_)
    · walk_at "rd"
      exact drw B (by decide) (by decide) fun x H6 x1 B6 e6 => hR _ _ ⟨x, rfl, B6, e6⟩
    obtain ⟨sh, rfl, B1, e1⟩ := h
    refine cut (fun σ H' => σ = [some (V.ref b), some (V.int n), some (V.int sh), none, none, none, none, none] ∧ BoxAt K H' b c ns ∧ But b H H') (fun R hR => ?_) (fun σ H' h => ?_)
    · walk_at "rd"
      exact ite2 (fun _ => ⟨b, c, ns, n, rfl, B1, n1, n6, gv B1 e1⟩) (fun _ => hR _ _ ⟨rfl, B1, e1⟩)
    obtain ⟨rfl, B1, e1⟩ := h
    refine cut (fun σ H' => σ = [some (V.ref b), some (V.int n), some (V.int sh), none, none, none, none, none] ∧ BoxAt K H' b c ns ∧ But b H H') (fun R hR => ?_) (fun σ H' h => ?_)
    · walk_at "rd"
      exact ite2 (fun _ => ⟨b, c, ns, n, rfl, B1, n1, n6, gv B1 e1⟩) (fun _ => hR _ _ ⟨rfl, B1, e1⟩)
    obtain ⟨rfl, B1, e1⟩ := h
    refine cut (fun σ H' => ∃ p ts, σ = [some (V.ref b), some (V.int n), some (V.int sh), some (V.ref p), none, none, none, none] ∧ H' p = some (.lst (iv ts)) ∧ BoxAt K H' b c ns ∧ But b H H') (fun R hR => ?_) (fun σ H' h => ?_)
    · walk_at "rd"
      refine drw B1 (by decide) (by decide) fun x H6 x1 B6 e6 => ⟨_, rfl, by omega, by omega, ?_⟩
      refine Rd.lcl_rng (fun D i H5 => H6 D = none ∧ But b H6 H5 ∧ BoxAt K H5 b c ns ∧ ∃ us, H5 D = some (.lst (iv us)) ∧ us.length = i) (fun D hD => ⟨hD, Same.but (same_upd hD), B6.same (same_upd hD), [], upd_same, rfl⟩) (fun D i H5 hi ⟨n5, e5, B5, us, a5, ul⟩ => ?_) (fun D H5 _ ⟨n5, e5, B5, us, a5, ul⟩ => ?_)
      · walk_at "rd"
        refine ⟨cpw (by omega), drw B5 (by rw [pow_cast]; have : 0 < 2 ^ n := Nat.pow_pos (by decide); omega) (by rw [pow_cast]; omega) fun x H7 x1 B7 e7 => ?_⟩
        have a7 := e7 _ _ (B6.ne_new n5) a5
        have e8 : But b H6 (upd H7 D (HO.lst (iv us ++ [V.int x]))) := (e5.trans e7).updn n5
        exact ⟨_, a7, small (by rw [iv_len]; omega), n5, e8, B6.upd B7 (B6.ne_new n5) e8, us ++ [x], by unfold iv; rw [List.map_append]; rfl, by rw [List.length_append, ul]; rfl⟩
      · exact hR _ _ ⟨D, us, rfl, a5, B5, (e1.trans e6).trans e5⟩
    obtain ⟨p, ts, rfl, hp, B1, e1⟩ := h
    walk_at "rd"
    have pj : ((1 : Int) * 2 ^ (n : Int).toNat).toNat = 2 ^ n := (pbd n6).2.2.1
    refine ⟨cpw (by omega), (pbd n6).1, (pbd n6).2.1, ?_⟩
    rw [pj]
    refine Rd.lcl_rng (fun D i H5 => H' D = none ∧ Same H' H5 ∧ H5 D = some (.lst (((List.range i).map fun m => decide (m = 0)).map V.bl))) (fun D hD => ⟨hD, same_upd hD, upd_same⟩) (fun D i H5 hi ⟨n5, e5, a5⟩ => ?_) (fun D H5 nD ⟨n5, e5, a5⟩ => ?_)
    · walk_at "rd"
      refine ⟨_, a5, small (by rw [List.length_map, List.length_map, List.length_range]; omega), n5, fun b o hb => (upd_ne (ne_of_none hb n5)).trans (e5 _ _ hb), ?_⟩
      rw [List.range_succ, List.map_append, List.map_append, show decide ((0 : Int) + (i : Nat) = 0) = decide (i = 0) from decide_eq_decide.mpr (by omega)]
      rfl
    · have Dp : D ≠ p := fun z => by rw [z, hp] at n5; cases n5
      have Db := B1.ne_new n5
      refine ⟨⟨_, SqL.of (e5 _ _ hp)⟩, Rd.loop_listC (xs := iv ts) (fun σ H4 => ∃ o3 o5 S, σ = [some (V.ref b), some (V.int n), some (V.int sh), some (V.ref p), o3, some (V.ref D), o5, none] ∧ Same H' H4 ∧ H4 D = some (.lst (S.map V.bl)) ∧ Fam n S)
        (fun _ σ H4 => ∃ o3 o5 S, σ = [some (V.ref b), some (V.int n), some (V.int sh), some (V.ref p), o3, some (V.ref D), o5, none] ∧ Same H' H4 ∧ H4 D = some (.lst (S.map V.bl)) ∧ Fam n S) ⟨none, none, _, rfl, e5, a5, fam_zero n1 n6⟩ (fun i σ H4 _ ⟨_, _, _, _, e, _⟩ => SqL.of (e _ _ hp)) ?_ (fun _ _ z => z) ?_⟩
      · rintro bk hbk i x σ H6 hx ⟨o3, o5, S, rfl, e6, a6, F⟩
        obtain ⟨tp, ht, rfl⟩ := at_iv hx
        walk_at "rd"
        refine ⟨cpw (by omega), (pbd n6).1, (pbd n6).2.1, ?_⟩
        rw [pj]
        refine Rd.loop_rngC (fun σ H4 => ∃ o3 S, σ = [some (V.ref b), some (V.int n), some (V.int sh), some (V.ref p), o3, some (V.ref D), some (V.int tp), none] ∧ Same H' H4 ∧ H4 D = some (.lst (S.map V.bl)) ∧ Fam n S)
          (fun j σ H4 => ∃ o3 S', σ = [some (V.ref b), some (V.int n), some (V.int sh), some (V.ref p), o3, some (V.ref D), some (V.int tp), none] ∧ Same H' H4 ∧ H4 D = some (.lst (S'.map V.bl)) ∧ S'.length = 2 ^ n ∧ ∀ m, In S' m = (In S m || (decide (m < j) && decide (Sub m tp))))
          ⟨_, S, rfl, e6, a6, F.len, fun m => by simp⟩ ?_ ?_ ?_
        · rintro bk2 hbk2 j σ H7 hj ⟨o3, S', rfl, e7, a7, sl, val⟩
          walk_at "rd"
          rw [Int.zero_add]
          have fin : (∀ m, In S' m = (In S m || (decide (m < j) && decide (Sub m tp)))) → ∀ b : Bool, b = decide (Sub j tp) → ∀ m, (if m = j then (In S' j || b) else In S' m) = (In S m || (decide (m < j + 1) && decide (Sub m tp))) := fun v b hb m => by
            by_cases e : m = j
            · subst e
              rw [if_pos rfl, v, hb, decide_eq_false (Nat.lt_irrefl m), Bool.false_and, Bool.or_false, decide_eq_true (Nat.lt_succ_self m), Bool.true_and]
            · rw [if_neg e, v]
              by_cases l : m < j
              · rw [decide_eq_true l, decide_eq_true (show m < j + 1 by omega)]
              · rw [decide_eq_false l, decide_eq_false (show ¬ m < j + 1 by omega)]
          by_cases hs : Sub j tp
          · rw [if_pos (sub_iff.mpr hs)]
            refine ⟨_, a7, j, ixN_of (by rw [List.length_map]; omega), fun b o hb => (upd_ne (ne_of_none hb n5)).trans (e7 _ _ hb), S'.set j true, by rw [List.map_set], by rw [List.length_set]; exact sl, fun m => ?_⟩
            rw [in_set (by omega), ← fin val true (decide_eq_true hs).symm m, Bool.or_true]
          · rw [if_neg (fun z => hs (sub_iff.mp z))]
            refine ⟨e7, S', a7, sl, fun m => ?_⟩
            rw [← fin val false (decide_eq_false hs).symm m, Bool.or_false]
            by_cases e : m = j
            · rw [if_pos e, e]
            · rw [if_neg e]
        · rintro σ H7 ⟨o3, S', q1, e7, a7, sl, val⟩
          refine ⟨o3, S', q1, e7, a7, n1, n6, sl, by rw [val, F.zero]; rfl, fun m m' s h => ?_⟩
          rw [val] at h ⊢
          have le := sub_le s
          rcases Bool.or_eq_true_iff.mp h with z | z
          · rw [F.down _ _ s z]; rfl
          · obtain ⟨z1, z2⟩ := Bool.and_eq_true_iff.mp z
            rw [decide_eq_true (show m' < 2 ^ n by have := of_decide_eq_true z1; omega), decide_eq_true (sub_trans s (of_decide_eq_true z2)), Bool.and_self, Bool.or_true]
        · rintro σ H7 ⟨o3, S', rfl, e7, a7, F'⟩
          exact ⟨_, _, rfl, e7, S', a7, F'⟩
      · rintro σ H6 ⟨o3, o5, S, rfl, e6, a6, F⟩
        walk_at "rd"
        exact k D S H6 (e1.free Db n5) Db a6 F (B1.same e6) (e1.trans (Same.but e6))
end

end K32
namespace K32
open PySem PySem.Spec PyProof.Rows L2 Own OwnSeq OwnSet OwnComb OwnSort OwnHot OwnExN OwnProj
local macro_rules | `(tactic| walk_at "rd") => `(tactic| simp only [tSeq, tAsg, tOp, tUn, tVar, gName, gSub, rIxL, rIxT, rSetL, tC, rI0, rI, rU, rEq, rNe, tCons, tNil, tCB, tLst, tTup, tIfS, tAnd, tOr, tNot, tAndV, tOrV, tNotV, tTest, tB, tIf, tRet, tDrop, tNext, tBreak, tCont, tCall, tCallS, L2.WE, tMakeS, rIsS, rIsB, tChain, gSeq, gRest, gCons, gNil, tFor_seq, tFor_enumS, tLc_seq, tLc_enumS, rAny, rAll, L2.tMeth, StX.tStar, rIn, tLstRg, tRg1, tRg2, rSetI, rSortedSet, rInDT, rInD, rNotInD, rEqD, rNeD, iComb, tFld, tMake, tMkO, sFld, tOst, tNever, tBits, clv, isB,
  Rd.tFor_rng1, Rd.tFor_rng2, Rd.tFor_list, Rd.tFor_tup, Rd.tLc_list, Rd.tLc_tup, Rd.tLc_rng1, Rd.LcTurn, tYes, wipe, Rd.rLenL, Rd.rLenT, Rd.rIntI, Rd.rIxH, rIxHT,  HO.tup.injEq, Rd.at0, Rd.at1, Rd.at2, Rd.at3, Rd.ixN40, Rd.ixN41, Rd.ixN42, Rd.ixN43, Rd.scal_ii, cxOf,
  List.length_cons, List.length_nil, List.length_map, List.map_cons, List.map_nil, upd_same, decide_eq_true_eq, decide_true, decide_false, if_true, if_false, Bool.false_eq_true, Bool.not_true, Bool.not_false, HO.lst.injEq, HO.ins.injEq, List.set_cons_zero, List.set_cons_succ, List.getElem?_cons_zero, List.getElem?_cons_succ, List.append_nil, List.nil_append, List.cons_append, Option.some.injEq, V.ref.injEq, V.int.injEq, V.bl.injEq, List.cons.injEq, exists_eq_left', exists_and_left, exists_eq_left, true_and, and_true, and_self, and_assoc, implies_true, reduceCtorEq, Nat.reduceAdd])

theorem sortedK {X : Cx} (K : PySem.W.Frag) (hu : X.A.units + 64 < cLine) (hK : X.K = K := by rfl) : CallR X (.builtin "sorted") (OwnSort.rSortedD K) := by
  subst hK
  exact OwnSort.cr_sortedD hu
/-- a pair of a set's size and the set -/
def PrAt (H : Hp) (x : Addr × List Nat) : Prop := ∃ t, H x.1 = some (.tup [.int x.2.length, .ref t]) ∧ H t = some (.tup (iv x.2))
theorem PrAt.same {H H' : Hp} {x : Addr × List Nat} (e : Same H H') : PrAt H x → PrAt H' x := fun ⟨t, a, b⟩ => ⟨t, e _ _ a, e _ _ b⟩
theorem PrAt.upd {H : Hp} {x : Addr × List Nat} {D : Addr} {l l' : List V} (hD : H D = some (.lst l)) : PrAt H x → PrAt (upd H D (.lst l')) x := fun ⟨t, a, b⟩ =>
  ⟨t, (upd_ne fun e => by rw [e, hD] at a; cases a).trans a, (upd_ne fun e => by rw [e, hD] at b; cases b).trans b⟩
theorem alike_ints : ∀ s t : List Nat, PySem.W.alikeAll (s.map fun g => PyData.int (g : Nat)) (t.map fun g => PyData.int (g : Nat)) = true
  | [], [] => by simp [PySem.W.alikeAll]
  | [], _ :: _ => by simp [PySem.W.alikeAll]
  | _ :: _, [] => by simp [PySem.W.alikeAll]
  | x :: s, y :: t => by
    simp only [List.map_cons, PySem.W.alikeAll, PySem.W.alike, alike_ints s t, Bool.and_self]
theorem alike_enc (s t : List Nat) : PySem.W.alike (enc s) (enc t) = true := by
  unfold enc
  simp only [PySem.W.alike, PySem.W.alikeAll, alike_ints s t, Bool.and_self]
theorem enc_depth (s : List Nat) : (enc s).depth = 2 := by
  have h := (lay_ints s).2
  unfold enc
  simp [PyData.depth, PyData.depthAll, h]
theorem PrAt.dp {K : PySem.W.Frag} {H : Hp} {x : Addr × List Nat} : PrAt H x → Dp K H (.ref x.1) (enc x.2) := fun ⟨t, a, b⟩ => .tup (SqT.of a) (.cons (.int _) (.cons (dp_set b) .nil))
theorem sort_pairs (L : List (Addr × List Nat)) : ((L.map fun x => (x.1, enc x.2)).mergeSort (PySem.W.dataLe false (·.2))) = (L.mergeSort fun x y => leS x.2 y.2).map fun x => (x.1, enc x.2) :=
  (List.map_mergeSort (f := fun x : Addr × List Nat => (x.1, enc x.2)) (r := fun x y => leS x.2 y.2) fun _ _ _ _ => rfl).symm
theorem sort_sets (L : List (Addr × List Nat)) : (L.mergeSort fun x y => leS x.2 y.2).map (·.2) = (L.map (·.2)).mergeSort leS :=
  List.map_mergeSort fun _ _ _ _ => rfl
section
variable {P : Program} {w : World} {K : PySem.W.Frag} {mg : Str → Option Value} {base : Heap} {a : Ad}
/-! ### _law_ordered -/
def spOrd : Sp := fun vs H Q _ => ∃ (p : Addr) (n : Nat) (S : List Bool), vs = [.ref p] ∧ H p = some (.lst (S.map V.bl)) ∧ n ≤ 6 ∧ S.length = 2 ^ n ∧ ∀ r us H', H r = none → Same H H' → H' r = some (.lst us) → Tups H' us (famL n S) → Q (.ref r) H'
theorem sc_law_ordered : FnScope ["inside", "pairs", "mask", "pair"] ["inside"] (defScope s_law_ordered) := ⟨rfl, rfl, rfl, by decide +kernel, rfl, by decide +kernel, by decide +kernel⟩
theorem ok_law_ordered (T : Txt K mg a) : FnOk P w K mg base CX0 2 a.a_law_ordered a.d_law_ordered ["inside"] spOrd := by
  refine T.fn_law_ordered.ok sc_law_ordered (fun vs H Q E h => ?_) (fun cdv A outer s H vs Q E hr h => ?_)
  · obtain ⟨p, n, S, rfl, _⟩ := h
    rfl
  · obtain ⟨p, n, S, rfl, hp, n6, Sl, k⟩ := h
    refine ⟨_, (pss_cons (ps_set (i := 1) sc_law_ordered.nd rfl (Or.inl rfl) (pe_callB (sortedK K hr.units) (by rfl) T.no_sorted (by decide +kernel) (pa_cons (pe_lc (own := [("mask", 2)]) (by rfl) sc_law_ordered.nd (pi_range1 (by rfl) T.no_range (pa_cons (pe_callB Rd.call_lenL (by rfl) T.no_len PySem.boot_len (pa_cons (pv 0) pa_nil)) pa_nil)) (blkOk_by (own := [("mask", 2)]) (N := ["inside", "pairs", "mask", "pair"]) (sc := defScope s_law_ordered) (by decide +kernel)) (fun _ _ _ _ _ => pg_name (i := 2) sc_law_ordered.nd rfl (Or.inl rfl)) (fun _ _ _ _ _ => pts_one (pt_val (pe_ix Rd.ixH (pv 0) (pv 2) (fun _ _ => rfl)))) (fun _ _ _ _ _ => (pe_tup (pa_cons (pe_callB (lenK K) (by rfl) T.no_len PySem.boot_len (pa_cons (pe_call (ok_law_things T) (hr.mono (by decide)) (by rfl) T.mg_law_things T.fn_law_things.kp T.b_law_things .nil pass0 (pa_cons (pv 2) pa_nil)) pa_nil)) (pa_cons (pe_call (ok_law_things T) (hr.mono (by decide)) (by rfl) T.mg_law_things T.fn_law_things.kp T.b_law_things .nil pass0 (pa_cons (pv 2) pa_nil)) pa_nil))))) pa_nil)))
      (pss_one (ps_ret (pe_lc (own := [("pair", 3)]) (by rfl) sc_law_ordered.nd (pi_list (pv 1)) (blkOk_by (own := [("pair", 3)]) (N := ["inside", "pairs", "mask", "pair"]) (sc := defScope s_law_ordered) (by decide +kernel)) (fun _ _ _ _ _ => pg_name (i := 3) sc_law_ordered.nd rfl (Or.inl rfl)) (fun _ _ _ _ _ => pts_nil) (fun _ _ _ _ _ => (pe_ix ixHT (pv 3) pe_int (fun _ _ => rfl))))))), ?_⟩
    show (_ : TS) _ [some (V.ref p), none, none, none] H
    have p64 := pow64 n6
    walk_at "rd"
    refine ⟨_, SqL.of hp, ?_⟩
    rw [List.length_map, Sl, Int.toNat_natCast]
    refine ⟨by have : 0 < 2 ^ n := Nat.pow_pos (by decide); omega, by omega, ?_⟩
    refine Rd.lcl_rng (fun D i H5 => H D = none ∧ Same H H5 ∧ ∃ L : List (Addr × List Nat), H5 D = some (.lst (L.map fun x => V.ref x.1)) ∧ (∀ x ∈ L, PrAt H5 x) ∧ L.map (·.2) = ((List.range i).filter (In S)).map bits) (fun D hD => ⟨hD, same_upd hD, [], upd_same, (fun _ h => by cases h), rfl⟩) (fun D i H5 hi ⟨n5, e5, L, a5, pL, eL⟩ => ?_) (fun D H5 _ ⟨n5, e5, L, a5, pL, eL⟩ => ?_)
    · have Ll : L.length ≤ i := by
        have z := congrArg List.length eL
        rw [List.length_map, List.length_map] at z
        have := List.length_filter_le (In S) (List.range i)
        rw [List.length_range] at this
        omega
      have rs := List.range_succ (n := i)
      walk_at "rd"
      rw [Int.zero_add]
      refine ⟨_, e5 _ _ hp, _, in_bool (by rw [Sl]; exact hi), _, rfl, ite2 (fun hc => ?_) (fun hc => ⟨n5, e5, L, a5, pL, ?_⟩)⟩
      · refine ⟨i, rfl, fun r1 H6 h1 e6 a6 => ⟨r1, rfl, _, .inr (SqT.of a6), i, rfl, fun r2 H7 h2 e7 a7 => ⟨by decide, fun q hq => ?_⟩⟩⟩
        have e8 : Same H7 (upd H7 q (.tup [V.int (iv (bits i)).length, V.ref r2])) := same_upd hq
        have a8 := (e8 _ _ (e7 _ _ (e6 _ _ a5)))
        have e9 := ((e5.trans e6).trans e7).trans e8
        refine ⟨_, a8, small (by rw [List.length_map]; omega), n5, fun b o hb => (upd_ne (ne_of_none hb n5)).trans (e9 _ _ hb), L ++ [(q, bits i)], by rw [List.map_append]; rfl, fun x hx => ?_, ?_⟩
        · refine PrAt.upd a8 ?_
          rcases List.mem_append.mp hx with hx | hx
          · exact (pL x hx).same ((e6.trans e7).trans e8)
          · obtain rfl := List.mem_singleton.mp hx
            refine ⟨r2, ?_, e8 _ _ a7⟩
            rw [iv_len]
            exact upd_same
        · rw [List.map_append, eL, rs, List.filter_append, List.filter_cons_of_pos hc, List.map_append]
          rfl
      · rw [rs, List.filter_append, List.filter_cons_of_neg hc, List.filter_nil, List.append_nil]
        exact eL
    · have Lm : (L.map (·.2)).Perm (famL n S) := by
        rw [eL]
        have z := (perm_masks n6).filter fun s => In S (mk s)
        rw [List.filter_map] at z
        rw [show (List.range (2 ^ n)).filter (In S) = (List.range (2 ^ n)).filter ((fun s => In S (mk s)) ∘ bits) from List.filter_congr fun m hm => by
          show In S m = In S (mk (bits m))
          rw [(bits_in n6 (List.mem_range.mp hm)).1]]
        exact z
      have sorted := sorted_eq n6 Lm
      refine ⟨D, L.map fun x => (x.1, enc x.2), rfl, ?_, fun b hb => ?_, ?_, ?_, fun b hb => ?_, ?_, fun q hq => ?_⟩
      · rw [List.map_map]
        exact SqL.of a5
      · obtain ⟨x, hx, rfl⟩ := List.mem_map.mp hb
        exact (pL x hx).dp
      · rw [List.map_map]
        intro d hd d' hd'
        obtain ⟨x, _, rfl⟩ := List.mem_map.mp hd
        obtain ⟨y, _, rfl⟩ := List.mem_map.mp hd'
        exact alike_enc _ _
      · rw [List.map_map]
        refine .inl fun d hd => ?_
        obtain ⟨x, _, rfl⟩ := List.mem_map.mp hd
        exact ⟨_, _, rfl⟩
      · obtain ⟨x, hx, rfl⟩ := List.mem_map.mp hb
        show (enc x.2).depth ≤ 60
        rw [enc_depth]
        decide
      · rw [List.length_map, show L.length = ((List.range (2 ^ n)).filter (In S)).length by have z := congrArg List.length eL; rwa [List.length_map, List.length_map] at z]
        have := List.length_filter_le (In S) (List.range (2 ^ n))
        rw [List.length_range] at this
        exact Nat.le_of_lt (small (by omega))
      · rw [sort_pairs, List.map_map]
        rw [← sort_sets] at sorted
        refine ⟨q, rfl, ⟨_, SqL.of upd_same⟩, ?_⟩
        have pM : ∀ x ∈ L.mergeSort fun x y => leS x.2 y.2, PrAt H5 x := fun x hx => pL x (List.mem_mergeSort.mp hx)
        generalize (L.mergeSort fun x y => leS x.2 y.2) = M at *
        have e6 : Same H5 (upd H5 q (HO.lst (List.map ((fun b => V.ref b.fst) ∘ fun x => (x.fst, enc x.snd)) M))) := same_upd hq
        have pM := fun x hx => (pM x hx).same e6
        have aM : upd H5 q (HO.lst (List.map ((fun b => V.ref b.fst) ∘ fun x => (x.fst, enc x.snd)) M)) q = some (.lst (M.map fun x => V.ref x.1)) := upd_same
        have fq : H q = none := e5.free hq
        revert pM aM
        generalize upd H5 q (HO.lst (List.map ((fun b => V.ref b.fst) ∘ fun x => (x.fst, enc x.snd)) M)) = H6 at e6
        intro pM aM
        have Ml : M.length < 65 := by
          have z := congrArg List.length sorted
          rw [List.length_map] at z
          have := List.length_filter_le (fun s => In S (mk s)) (allS n)
          rw [allS_len n6] at this
          omega
        refine Rd.lcl_list (xs := M.map fun x => V.ref x.1) (fun D2 i H7 => H6 D2 = none ∧ Same H6 H7 ∧ ∃ us, H7 D2 = some (.lst us) ∧ us.length = i ∧ Tups H7 us ((M.map (·.2)).take i)) (fun D2 hD => ⟨hD, same_upd hD, [], upd_same, rfl, trivial⟩) (fun D2 i H7 _ p => p.2.1.seq (SqL.of aM)) (fun D2 i x H7 hx ⟨n7, e7, us, a7, ul, tu⟩ => ?_) (fun D2 H7 _ ⟨n7, e7, us, a7, ul, tu⟩ => ?_)
        · rw [List.getElem?_map] at hx
          obtain ⟨m, hm, rfl⟩ : ∃ m, M[i]? = some m ∧ x = V.ref m.1 := by
            cases e : M[i]? with
            | none => rw [e] at hx; cases hx
            | some m => rw [e] at hx; exact ⟨m, rfl, (Option.some.inj hx).symm⟩
          have il := (List.getElem?_eq_some_iff.mp hm).1
          obtain ⟨t, b1, b2⟩ := pM m (List.mem_of_getElem? hm)
          walk_at "rd"
          have e8 : Same H6 (upd H7 D2 (.lst (us ++ [V.ref t]))) := fun b o hb => (upd_ne (ne_of_none hb n7)).trans (e7 _ _ hb)
          refine ⟨_, e7 _ _ b1, _, rfl, _, a7, small (by omega), n7, e8, by rw [List.length_append, ul]; rfl, ?_⟩
          rw [List.take_add_one, List.getElem?_map, hm]
          exact Tups.app (Tups.upd a7 tu) ⟨⟨t, rfl, e8 _ _ b2⟩, trivial⟩
        · rw [List.take_of_length_le (by rw [List.length_map, List.length_map]; exact Nat.le_refl _), sorted] at tu
          exact k D2 us H7 (e5.free (e6.free n7)) ((e5.trans e6).trans e7) a7 tu
end

end K32
namespace K32
open PySem PySem.Spec PyProof.Rows L2 Own OwnSeq OwnSet OwnComb OwnSort OwnHot OwnExN OwnProj
local macro_rules | `(tactic| walk_at "rd") => `(tactic| simp only [tSeq, tAsg, tOp, tUn, tVar, gName, gSub, rIxL, rIxT, rSetL, tC, rI0, rI, rU, rEq, rNe, tCons, tNil, tCB, tLst, tTup, tIfS, tAnd, tOr, tNot, tAndV, tOrV, tNotV, tTest, tB, tIf, tRet, tDrop, tNext, tBreak, tCont, tCall, tCallS, L2.WE, tMakeS, rIsS, rIsB, tChain, gSeq, gRest, gCons, gNil, tFor_seq, tFor_enumS, tLc_seq, tLc_enumS, rAny, rAll, L2.tMeth, StX.tStar, rIn, tLstRg, tRg1, tRg2, rSetI, rSortedSet, rInDT, rInD, rNotInD, rEqD, rNeD, iComb, tFld, tMake, tMkO, sFld, tOst, tNever, tBits, clv, isB,
  Rd.tFor_rng1, Rd.tFor_rng2, Rd.tFor_list, Rd.tFor_tup, Rd.tLc_list, Rd.tLc_tup, Rd.tLc_rng1, Rd.LcTurn, tYes, wipe, Rd.rLenL, Rd.rLenT, Rd.rIntI, Rd.rIxH, rIxHT,  HO.tup.injEq, Rd.at0, Rd.at1, Rd.at2, Rd.at3, Rd.ixN40, Rd.ixN41, Rd.ixN42, Rd.ixN43, Rd.scal_ii, cxOf,
  List.length_cons, List.length_nil, List.length_map, List.map_cons, List.map_nil, upd_same, decide_eq_true_eq, decide_true, decide_false, if_true, if_false, Bool.false_eq_true, Bool.not_true, Bool.not_false, HO.lst.injEq, HO.ins.injEq, List.set_cons_zero, List.set_cons_succ, List.getElem?_cons_zero, List.getElem?_cons_succ, List.append_nil, List.nil_append, List.cons_append, Option.some.injEq, V.ref.injEq, V.int.injEq, V.bl.injEq, List.cons.injEq, exists_eq_left', exists_and_left, exists_eq_left, true_and, and_true, and_self, and_assoc, implies_true, reduceCtorEq, Nat.reduceAdd])

theorem famL_len {n : Nat} {S : List Bool} (h : n ≤ 6) : (famL n S).length ≤ 2 ^ n := by
  have := List.length_filter_le (fun s => In S (mk s)) (allS n)
  rw [allS_len h] at this
  exact this
theorem Tups.get {H : Hp} {xs : List V} {gs : List (List Nat)} {i : Nat} {g : List Nat} (h : Tups H xs gs) (hg : gs[i]? = some g) : ∃ q, xs[i]? = some (.ref q) ∧ H q = some (.tup (iv g)) := by
  have il := (List.getElem?_eq_some_iff.mp hg).1
  have e := List.getElem?_eq_getElem (l := xs) (i := i) (by rw [h.len]; exact il)
  obtain ⟨g', hg', q, hq, a⟩ := h.at e
  rw [hg] at hg'
  rw [e, hq]
  exact ⟨q, rfl, Option.some.inj hg' ▸ a⟩
theorem Seqs.ins {H : Hp} {v : V} {s : List Nat} (hv : ∃ q l, v = .ref q ∧ H q = some (sq l (iv s))) : ∀ {xs : List V} {ss : List (List Nat)} (d : Nat), Seqs H xs ss → Seqs H (xs.take d ++ [v] ++ xs.drop d) (ss.take d ++ [s] ++ ss.drop d)
  | xs, ss, 0, h => by
    rw [List.take_zero, List.take_zero, List.drop_zero, List.drop_zero]
    exact ⟨hv, h⟩
  | [], [], d + 1, h => ⟨hv, h⟩
  | _ :: _, _ :: _, d + 1, h => ⟨h.1, Seqs.ins hv d h.2⟩
  | [], _ :: _, _ + 1, h => h.elim
  | _ :: _, [], _ + 1, h => h.elim
theorem Seqs.keep {H H' : Hp} : ∀ {xs : List V} {ss : List (List Nat)}, (∀ q o, V.ref q ∈ xs → H q = some o → H' q = some o) → Seqs H xs ss → Seqs H' xs ss
  | [], [], _, _ => trivial
  | _ :: _, _ :: _, k, ⟨⟨q, l, e, h⟩, r⟩ => ⟨⟨q, l, e, k q _ (e ▸ List.mem_cons_self) h⟩, Seqs.keep (fun q o m => k q o (List.mem_cons_of_mem _ m)) r⟩
  | [], _ :: _, _, h => h.elim
  | _ :: _, [], _, h => h.elim
theorem Tups.keep {H H' : Hp} : ∀ {xs : List V} {ss : List (List Nat)}, (∀ q l, H q = some (.tup l) → H' q = some (.tup l)) → Tups H xs ss → Tups H' xs ss
  | [], [], _, _ => trivial
  | _ :: _, _ :: _, k, ⟨⟨q, e, h⟩, r⟩ => ⟨⟨q, e, k q _ h⟩, Tups.keep k r⟩
  | [], _ :: _, _, h => h.elim
  | _ :: _, [], _, h => h.elim
theorem perm_ins {α : Type} {l m : List α} {s : α} (d : Nat) (h : l.Perm m) : (l.take d ++ [s] ++ l.drop d).Perm (m ++ [s]) := by
  refine List.Perm.trans ?_ (h.append_right [s])
  rw [List.append_assoc]
  refine ((List.perm_append_comm (l₁ := [s]) (l₂ := l.drop d)).append_left (l.take d)).trans ?_
  rw [← List.append_assoc, List.take_append_drop]
section
variable {P : Program} {w : World} {K : PySem.W.Frag} {mg : Str → Option Value} {base : Heap} {a : Ad}
/-! ### _law_family -/
def spLFam (K : PySem.W.Frag) (C : Addr) : Sp := fun vs H Q _ => ∃ (b c p : Addr) (ns : List Int) (n : Nat) (S : List Bool), vs = [.ref b, .int n, .ref p] ∧ BoxAt K H b c ns ∧ p ≠ b ∧ H p = some (.lst (S.map V.bl)) ∧ Fam n S ∧
  ∀ f H', H f = none → BoxAt K H' b c ns → But b H H' → FamV C H' f n S → Q (.ref f) H'
theorem sc_law_family : FnScope ["box", "size", "inside", "sets", "things"] ["box", "size", "inside"] (defScope s_law_family) := ⟨rfl, rfl, rfl, by decide +kernel, rfl, by decide +kernel, by decide +kernel⟩
theorem ok_law_family (T : Txt K mg a) : FnOk P w K mg base CX0 8 a.a_law_family a.d_law_family ["box", "size", "inside"] (spLFam K a.C_Family) := by
  refine T.fn_law_family.ok sc_law_family (fun vs H Q E h => ?_) (fun cdv A outer s H vs Q E hr h => ?_)
  · obtain ⟨b, c, p, ns, n, S, rfl, _⟩ := h
    rfl
  · obtain ⟨b, c, p, ns, n, S, rfl, B, np, hp, F, k⟩ := h
    refine ⟨_, (pss_cons (ps_set (i := 3) sc_law_family.nd rfl (Or.inl rfl) (pe_lst pa_nil))
      (pss_cons (ps_for PassesOwn.never rfl (pi_list (pe_call (ok_law_ordered T) (hr.mono (by decide)) (by rfl) T.mg_law_ordered T.fn_law_ordered.kp T.b_law_ordered .nil pass0 (pa_cons (pv 2) pa_nil))) (pg_name (i := 4) sc_law_family.nd rfl (Or.inl rfl))
        (pss_one (ps_expr (pe_bm PySem.F.plainAttrs_list PySem.F.slot_list_insert PySem.F.type_list_insert mt_insert (pv 3) (pa_cons (pe_call (ok_law_draw T) (hr.mono (by decide)) (by rfl) T.mg_law_draw T.fn_law_draw.kp T.b_law_draw .nil pass0 (pa_cons (pv 0) (pa_cons (pe_op op_add (pe_callB Rd.call_lenL (by rfl) T.no_len PySem.boot_len (pa_cons (pv 3) pa_nil)) pe_int) pa_nil))) (pa_cons (pv 4) pa_nil))))))
      (pss_one (ps_ret (pe_make T.mk_Family (ok_Family_init T) (hr.mono (by decide)) (by rfl) T.mg_Family T.b_Family_init .nil pass0 (pa_cons (pv 1) (pa_cons (pv 3) pa_nil))))))), ?_⟩
    show (_ : TS) _ [some (V.ref b), some (V.int n), some (V.ref p), none, none] H
    have n6 := F.n6
    have p64 := pow64 n6
    have fl := famL_len (S := S) n6
    walk_at "rd"
    refine ⟨by decide, fun r hr => ?_⟩
    have nrb := B.ne_new hr
    refine ⟨p, n, S, rfl, (upd_ne (ne_of_none hp hr)).trans hp, F.n6, F.len, fun q us H1 q0 e1 hq tu => ⟨q, rfl, ⟨_, SqL.of hq⟩, ?_⟩⟩
    have hr1 : H1 r = some (.lst []) := e1 _ _ upd_same
    have B1 := (B.same (same_upd hr)).same e1
    have nqr : q ≠ r := fun z => by rw [z, upd_same] at q0; cases q0
    have nqb : q ≠ b := (B.same (same_upd hr)).ne_new q0
    have e01 : But b H H1 := (Same.but (same_upd hr)).trans (Same.but e1)
    have ul := tu.len
    refine Rd.loop_listC (xs := us) (fun σ H' => ∃ o4 xs ss, σ = [some (V.ref b), some (V.int n), some (V.ref p), some (V.ref r), o4] ∧ BoxAt K H' b c ns ∧ But b H H' ∧ H' r = some (.lst xs) ∧ Seqs H' xs ss ∧ (∀ z, V.ref z ∈ xs → z ≠ b ∧ z ≠ r) ∧ ss.Perm (famL n S))
      (fun i σ H' => ∃ o4 xs ss, σ = [some (V.ref b), some (V.int n), some (V.ref p), some (V.ref r), o4] ∧ BoxAt K H' b c ns ∧ But b H H' ∧ H' r = some (.lst xs) ∧ Seqs H' xs ss ∧ (∀ z, V.ref z ∈ xs → z ≠ b ∧ z ≠ r) ∧ ss.Perm ((famL n S).take i) ∧ H' q = some (.lst us) ∧ Tups H' us (famL n S))
      ⟨none, [], [], rfl, B1, e01, hr1, trivial, (fun _ h => by cases h), List.Perm.refl _, hq, tu⟩ (fun i σ H' _ ⟨_, _, _, _, _, _, _, _, _, _, h, _⟩ => SqL.of h) ?_ (fun σ H' ⟨o4, xs, ss, q1, q2, q3, q4, q5, q6, q7, _⟩ => ⟨o4, xs, ss, q1, q2, q3, q4, q5, q6, by rw [ul, List.take_length] at q7; exact q7⟩) ?_
    · rintro bk hbk i x σ H2 hx ⟨o4, xs, ss, rfl, B2, e2, a2, sq2, far, pm, hq2, tu2⟩
      obtain ⟨s', hs, p1, rfl, hp1⟩ := tu2.at hx
      walk_at "rd"
      simp only [tBM]
      walk_at "rd"
      have xl : xs.length ≤ 64 := by
        have z := pm.length_eq
        rw [List.length_take] at z
        rw [sq2.len]
        omega
      have tb : ∀ {z l H'}, BoxAt K H' b c ns → H' z = some (.tup l) → z ≠ b := fun B h e => by
        obtain ⟨_, _, _, hb, _⟩ := B.ob
        rw [e, hb] at h
        cases h
      have p1b := tb B2 hp1
      have p1r : p1 ≠ r := fun z => by rw [z, a2] at hp1; cases hp1
      refine ⟨.inl ⟨rfl, _, SqL.of a2⟩, _, SqL.of a2, drw B2 (by omega) (by omega) fun d H4 dl B4 eb => ?_⟩
      refine ⟨_, _, rfl, eb _ _ nrb a2, small (by omega), by omega, by omega, ?_⟩
      rw [Int.toNat_natCast]
      have ef : ∀ o : HO, But b H (upd H4 r o) := fun o => (e2.trans eb).updn hr
      refine ⟨B.upd B4 nrb (ef _), ef _, _, Seqs.ins ⟨p1, false, rfl, (upd_ne p1r).trans (eb _ _ p1b hp1)⟩ d (Seqs.keep (fun z o m h => (upd_ne (far z m).2).trans (eb _ _ (far z m).1 h)) sq2), fun z m => ?_, ?_, (upd_ne nqr).trans (eb _ _ nqb hq2), Tups.keep (fun z l h => (upd_ne fun e => by rw [e, a2] at h; cases h).trans (eb _ _ (tb B2 h) h)) tu2⟩
      · rcases List.mem_append.mp m with m | m
        · rcases List.mem_append.mp m with m | m
          · exact far z (List.mem_of_mem_take m)
          · cases List.mem_singleton.mp m
            exact ⟨p1b, p1r⟩
        · exact far z (List.mem_of_mem_drop m)
      · rw [List.take_add_one, hs]
        exact perm_ins d pm
    · rintro σ H2 ⟨o4, xs, ss, rfl, B2, e2, a2, sq2, far, pm⟩
      walk_at "rd"
      intro x dx hx hdx ne
      have nxb := B2.ne_new hx
      have s1 : Same H2 (upd H2 dx (.own x)) := same_upd hdx
      have s2 : Same (upd H2 dx (.own x)) (upd (upd H2 dx (.own x)) x (.ins a.C_Family dx [])) := same_upd ((upd_ne ne.symm).trans hx)
      have s12 := s1.trans s2
      refine ⟨x, dx, r, n, S, xs, ss, rfl, upd_same, s12 _ _ a2, sq2.same s12, F, by rw [pm.length_eq]; omega, fun s => pm.mem_iff, fun t ys H3 H4 e3 ht tt e4 => ⟨rfl, ?_⟩⟩
      subst e4
      have x3 := e3 _ _ upd_same
      have ew : But b H2 (upd H3 x (.ins a.C_Family dx (ff t n))) := (Same.but (s12.trans e3)).updn hx
      refine k x _ (e2.free nxb hx) (B2.upd ((B2.same s12).same e3) nxb ew) (e2.trans ew) ⟨F, dx, t, ys, upd_same, (upd_ne fun z => by rw [z, x3] at ht; cases ht).trans ht, Tups.keep (fun z l h => (upd_ne fun e => by rw [e, x3] at h; cases h).trans h) tt⟩
end

end K32
namespace K32
open PySem PySem.Spec PyProof.Rows L2 Own OwnSeq OwnSet OwnComb OwnSort OwnHot OwnExN OwnProj
local macro_rules | `(tactic| walk_at "rd") => `(tactic| simp only [tSeq, tAsg, tOp, tUn, tVar, gName, gSub, rIxL, rIxT, rSetL, tC, rI0, rI, rU, rEq, rNe, tCons, tNil, tCB, tLst, tTup, tIfS, tAnd, tOr, tNot, tAndV, tOrV, tNotV, tTest, tB, tIf, tRet, tDrop, tNext, tBreak, tCont, tCall, tCallS, L2.WE, tMakeS, rIsS, rIsB, tChain, gSeq, gRest, gCons, gNil, tFor_seq, tFor_enumS, tLc_seq, tLc_enumS, rAny, rAll, L2.tMeth, StX.tStar, rIn, tLstRg, tRg1, tRg2, rSetI, rSortedSet, rInDT, rInD, rNotInD, rEqD, rNeD, iComb, tFld, tMake, tMkO, sFld, tOst, tNever, tBits, clv, isB,
  Rd.tFor_rng1, Rd.tFor_rng2, Rd.tFor_list, Rd.tFor_tup, Rd.tLc_list, Rd.tLc_tup, Rd.tLc_rng1, Rd.LcTurn, tYes, wipe, Rd.rLenL, Rd.rLenT, Rd.rIntI, Rd.rIxH, rIxHT,  HO.tup.injEq, Rd.at0, Rd.at1, Rd.at2, Rd.at3, Rd.ixN40, Rd.ixN41, Rd.ixN42, Rd.ixN43, Rd.scal_ii, cxOf,
  List.length_cons, List.length_nil, List.length_map, List.map_cons, List.map_nil, upd_same, decide_eq_true_eq, decide_true, decide_false, if_true, if_false, Bool.false_eq_true, Bool.not_true, Bool.not_false, HO.lst.injEq, HO.ins.injEq, List.set_cons_zero, List.set_cons_succ, List.getElem?_cons_zero, List.getElem?_cons_succ, List.append_nil, List.nil_append, List.cons_append, Option.some.injEq, V.ref.injEq, V.int.injEq, V.bl.injEq, List.cons.injEq, exists_eq_left', exists_and_left, exists_eq_left, true_and, and_true, and_self, and_assoc, implies_true, reduceCtorEq, Nat.reduceAdd])

theorem mem_bit {n g : Nat} {t : List Nat} (ht : t ∈ allS n) (h : n ≤ 6) : g ∈ t ↔ g < 6 ∧ bit (mk t) g = true := by
  have z := (allS_at ht h).1
  have e : (g ∈ bits (mk t)) ↔ g < 6 ∧ bit (mk t) g = true := by
    unfold bits
    rw [List.mem_filter, List.mem_range]
  rw [← e, z]
theorem or_adds : ((List.range 64).all fun m => (List.range 6).all fun k => bit m k || decide (m ||| 2 ^ k = m + 2 ^ k)) = true := by decide +kernel
theorem or_add {m k : Nat} (hm : m < 64) (hk : k < 6) (h : bit m k = false) : m ||| 2 ^ k = m + 2 ^ k := by
  have z := List.all_eq_true.mp (List.all_eq_true.mp or_adds m (List.mem_range.mpr hm)) k (List.mem_range.mpr hk)
  rw [h, Bool.false_or] at z
  exact of_decide_eq_true z
theorem and_zeros : ((List.range 64).all fun x => (List.range 64).all fun y => decide (x &&& y = 0) == (List.range 6).all fun g => !(bit x g && bit y g)) = true := by decide +kernel
theorem and_zero_iff {x y : Nat} (hx : x < 64) (hy : y < 64) : x &&& y = 0 ↔ ∀ g, g < 6 → ¬ (bit x g = true ∧ bit y g = true) := by
  have z := List.all_eq_true.mp (List.all_eq_true.mp and_zeros x (List.mem_range.mpr hx)) y (List.mem_range.mpr hy)
  rw [beq_iff_eq] at z
  refine (show (x &&& y = 0) ↔ (decide (x &&& y = 0) = true) from (decide_eq_true_iff).symm).trans ?_
  rw [z, List.all_eq_true]
  refine ⟨fun h g hg a => ?_, fun h g hg => ?_⟩
  · have := h g (List.mem_range.mpr hg)
    rw [a.1, a.2] at this
    cases this
  · have := h g (List.mem_range.mp hg)
    cases e1 : bit x g <;> cases e2 : bit y g <;> simp_all
theorem bit_or {x j g : Nat} : bit (x ||| 2 ^ j) g = (bit x g || decide (j = g)) := by
  have e : ∀ m k, bit m k = m.testBit k := fun m k => (Nat.testBit_eq_decide_div_mod_eq).symm
  rw [e, e, Nat.testBit_or, Nat.testBit_two_pow]
def freeAt (n : Nat) (S : List Bool) (s : List Nat) (g : Nat) : Bool := !bit (mk s) g && In S (mk s ||| 2 ^ g)
theorem free_met {n free : Nat} {S : List Bool} {s t : List Nat} (n6 : n ≤ 6) (hs : s ∈ allS n) (ht : t ∈ allS n) (f64 : free < 64) (hf : ∀ g, g < 6 → bit free g = (decide (g < n) && freeAt n S s g)) : (mk t &&& free = 0) ↔ metL (addL n S s) t = false := by
  have p64 := pow64 n6
  have s64 : mk s < 64 := by have := (allS_at hs n6).2.1; omega
  have t64 : mk t < 64 := by have := (allS_at ht n6).2.1; omega
  have ad : ∀ g, g ∈ addL n S s ↔ g < n ∧ freeAt n S s g = true := fun g => by
    unfold addL restL freeAt
    rw [List.mem_filter, List.mem_filter, List.mem_range]
    refine ⟨fun ⟨⟨a, b⟩, c⟩ => ⟨a, ?_⟩, fun ⟨a, b⟩ => ?_⟩
    · have g6 : g < 6 := by omega
      have nb : bit (mk s) g = false := by
        refine Bool.eq_false_iff.mpr fun z => ?_
        have := (mem_bit hs n6).mpr ⟨g6, z⟩
        rw [List.contains_iff_mem.mpr this] at b
        cases b
      rw [nb, or_add s64 g6 nb, c]
      rfl
    · have g6 : g < 6 := by omega
      obtain ⟨b1, b2⟩ := Bool.and_eq_true_iff.mp b
      have nb : bit (mk s) g = false := by cases e : bit (mk s) g <;> simp_all
      rw [or_add s64 g6 nb] at b2
      refine ⟨⟨a, ?_⟩, b2⟩
      rw [Bool.not_eq_true', Bool.eq_false_iff]
      intro z
      have := ((mem_bit hs n6).mp (List.contains_iff_mem.mp z)).2
      rw [nb] at this
      cases this
  rw [and_zero_iff t64 f64]
  unfold metL
  rw [List.any_eq_false]
  refine ⟨fun h g hg => ?_, fun h g hg a => ?_⟩
  · intro z
    have z := (mem_bit ht n6).mp (List.contains_iff_mem.mp z)
    obtain ⟨a, b⟩ := (ad g).mp hg
    refine h g z.1 ⟨z.2, ?_⟩
    rw [hf g z.1, decide_eq_true a, b]
    rfl
  · have z := a.2
    rw [hf g hg] at z
    obtain ⟨z1, z2⟩ := Bool.and_eq_true_iff.mp z
    exact h g ((ad g).mpr ⟨of_decide_eq_true z1, z2⟩) (List.contains_iff_mem.mpr ((mem_bit ht n6).mpr ⟨hg, a.1⟩))
theorem famL_asc {n i j : Nat} {S : List Bool} {s t : List Nat} (h : n ≤ 6) (hs : (famL n S)[i]? = some s) (ht : (famL n S)[j]? = some t) (le : j ≤ i) : t.length ≤ s.length := by
  obtain ⟨i1, i2⟩ := List.getElem?_eq_some_iff.mp hs
  obtain ⟨j1, j2⟩ := List.getElem?_eq_some_iff.mp ht
  rcases Nat.lt_or_ge j i with z | z
  · have pw := List.pairwise_iff_getElem.mp ((allS_strict h).filter fun s => In S (mk s)) j i j1 i1 z
    rw [← i2, ← j2]
    exact pw.2.2
  · have : j = i := by omega
    subst this
    rw [hs] at ht
    rw [Option.some.inj ht]
    exact Nat.le_refl _
section
variable {P : Program} {w : World} {K : PySem.W.Frag} {mg : Str → Option Value} {base : Heap} {a : Ad}
/-! ### _law_fault -/
def spDue : Sp := fun vs H Q _ => ∃ (p : Addr) (n : Nat) (S : List Bool), vs = [.ref p, .int n] ∧ H p = some (.lst (S.map V.bl)) ∧ Fam n S ∧ ∀ v H', Same H H' → PairV H' v (firstPair n S) → Q v H'
theorem sc_law_fault : FnScope ["inside", "size", "sets", "masks", "k", "free", "thing", "at", "things"] ["inside", "size"] (defScope s_law_fault) := ⟨rfl, rfl, rfl, by decide +kernel, rfl, by decide +kernel, by decide +kernel⟩
theorem ok_law_fault (T : Txt K mg a) : FnOk P w K mg base CX0 3 a.a_law_fault a.d_law_fault ["inside", "size"] spDue := by
  refine T.fn_law_fault.ok sc_law_fault (fun vs H Q E h => ?_) (fun cdv A outer s H vs Q E hr h => ?_)
  · obtain ⟨p, n, S, rfl, _⟩ := h
    rfl
  · obtain ⟨p, n, S, rfl, hp, F, k⟩ := h
    refine ⟨_, (pss_cons (ps_set (i := 2) sc_law_fault.nd rfl (Or.inl rfl) (pe_call (ok_law_ordered T) (hr.mono (by decide)) (by rfl) T.mg_law_ordered T.fn_law_ordered.kp T.b_law_ordered .nil pass0 (pa_cons (pv 0) pa_nil)))
      (pss_cons (ps_setLc (i := 3) (own := [("things", 8)]) (by rfl) sc_law_fault.nd rfl rfl (sw_true rfl rfl rfl (by decide +kernel)) (pi_list (pv 2)) (blkOk_by (own := [("things", 8)]) (N := ["inside", "size", "sets", "masks", "k", "free", "thing", "at", "things"]) (sc := defScope s_law_fault) (by decide +kernel)) (fun _ _ _ _ _ => pg_name (i := 8) sc_law_fault.nd rfl (Or.inl rfl)) (fun _ _ _ _ _ => pts_nil) (fun _ _ _ _ _ => (pe_call (ok_law_mask T) (hr.mono (by decide)) (by rfl) T.mg_law_mask T.fn_law_mask.kp T.b_law_mask .nil pass0 (pa_cons (pv 8) pa_nil))))
      (pss_cons (ps_for PassesOwn.never rfl (pi_range1 (by rfl) T.no_range (pa_cons (pe_callB Rd.call_lenL (by rfl) T.no_len PySem.boot_len (pa_cons (pv 2) pa_nil)) pa_nil)) (pg_name (i := 4) sc_law_fault.nd rfl (Or.inl rfl))
        (pss_cons (ps_set (i := 5) sc_law_fault.nd rfl (Or.inl rfl) pe_int)
        (pss_cons (ps_for PassesOwn.never rfl (pi_range1 (by rfl) T.no_range (pa_cons (pv 1) pa_nil)) (pg_name (i := 6) sc_law_fault.nd rfl (Or.inl rfl))
          (pss_one (ps_if (PW.pt (pw_and (pt_cmpR op_eq (pe_op op_and (pe_op op_shr (pe_ix Rd.ixH (pv 3) (pv 4) (fun _ _ => rfl)) (pv 6)) pe_int) pe_int (nomark _)) (pw_and1 (pt_val (pe_ix Rd.ixH (pv 0) (pe_op op_or (pe_ix Rd.ixH (pv 3) (pv 4) (fun _ _ => rfl)) (pe_op op_shl pe_int (pv 6))) (fun _ _ => rfl)))))) (pss_one (ps_set (i := 5) sc_law_fault.nd rfl (Or.inl rfl) (pe_op op_or (pv 5) (pe_op op_shl pe_int (pv 6))))) pss_nil)))
        (pss_one (ps_for PassesOwn.never rfl (pi_range2 (by rfl) T.no_range (pa_cons (pe_op op_add (pv 4) pe_int) (pa_cons (pe_callB Rd.call_lenL (by rfl) T.no_len PySem.boot_len (pa_cons (pv 2) pa_nil)) pa_nil))) (pg_name (i := 7) sc_law_fault.nd rfl (Or.inl rfl))
          (pss_one (ps_if (PW.pt (pw_and (pt_cmpR op_gt (pe_callB (lenK K) (by rfl) T.no_len PySem.boot_len (pa_cons (pe_ix Rd.ixH (pv 2) (pv 7) (fun _ _ => rfl)) pa_nil)) (pe_callB (lenK K) (by rfl) T.no_len PySem.boot_len (pa_cons (pe_ix Rd.ixH (pv 2) (pv 4) (fun _ _ => rfl)) pa_nil)) (nomark _)) (pw_and1 (pt_cmpR op_eq (pe_op op_and (pe_ix Rd.ixH (pv 3) (pv 7) (fun _ _ => rfl)) (pv 5)) pe_int (nomark _))))) (pss_one (ps_ret (pe_tup (pa_cons (pe_ix Rd.ixH (pv 2) (pv 4) (fun _ _ => rfl)) (pa_cons (pe_ix Rd.ixH (pv 2) (pv 7) (fun _ _ => rfl)) pa_nil))))) pss_nil)))))))
      (pss_one (ps_ret pe_non))))), ?_⟩
    show (_ : TS) _ [some (V.ref p), some (V.int n), none, none, none, none, none, none, none] H
    have n6 := F.n6
    have p64 := pow64 n6
    walk_at "rd"
    refine ⟨p, n, S, rfl, hp, F.n6, F.len, fun r us H1 hr1 e1 a1 tu => ⟨r, rfl, ⟨_, SqL.of a1⟩, ?_⟩⟩
    have fl := famL_len (S := S) n6
    have ul := tu.len
    refine Rd.lcl_list (xs := us) (fun D i H5 => H1 D = none ∧ Same H1 H5 ∧ H5 D = some (.lst (iv (((famL n S).take i).map mk)))) (fun D hD => ⟨hD, same_upd hD, upd_same⟩) (fun D i H5 _ p => p.2.1.seq (SqL.of a1)) (fun D i x H5 hx ⟨n5, e5, a5⟩ => ?_) (fun D H5 _ ⟨n5, e5, a5⟩ => ?_)
    · obtain ⟨s', hs, p1, rfl, hp1⟩ := tu.at hx
      have sm := List.mem_of_getElem? hs
      have sa := allS_at (famL_mem.mp sm).1 n6
      walk_at "rd"
      refine ⟨p1, false, s', rfl, e5 _ _ hp1, by omega, fun g hg => by have := sa.2.2.1 g hg; omega, fun H6 e6 => ⟨_, e6 _ _ a5, small ?_, n5, fun b o hb => (upd_ne (ne_of_none hb n5)).trans ((e5.trans e6) _ _ hb), ?_⟩⟩
      · rw [iv_len, List.length_map, List.length_take]
        omega
      · rw [List.take_add_one, hs, List.map_append]
        unfold iv
        rw [List.map_append]
        rfl
    rw [ul, List.take_length] at a5
    have e05 := e1.trans e5
    refine ⟨r, rfl, _, SqL.of (e5 _ _ a1), ?_⟩
    rw [ul, Int.toNat_natCast]
    refine ⟨by omega, by omega, ?_⟩
    refine Rd.loop_rngC (fun σ H' => ∃ o4 o5 o6 o7, σ = [some (V.ref p), some (V.int n), some (V.ref r), some (V.ref D), o4, o5, o6, o7, none] ∧ Same H5 H' ∧ ∀ s ∈ famL n S, ((famL n S).find? fun t => decide (t.length > s.length) && !metL (addL n S s) t) = none)
      (fun i σ H' => ∃ o4 o5 o6 o7, σ = [some (V.ref p), some (V.int n), some (V.ref r), some (V.ref D), o4, o5, o6, o7, none] ∧ Same H5 H' ∧ ∀ s ∈ (famL n S).take i, ((famL n S).find? fun t => decide (t.length > s.length) && !metL (addL n S s) t) = none)
      ⟨none, none, none, none, rfl, Same.refl H5, by simp⟩ ?_ (fun σ H' ⟨o4, o5, o6, o7, q1, q2, q3⟩ => ⟨o4, o5, o6, o7, q1, q2, by rw [List.take_length] at q3; exact q3⟩) ?_
    · rintro bk hbk i σ H2 hi ⟨o4, o5, o6, o7, rfl, e2, no⟩
      obtain ⟨s', hs⟩ : ∃ s', (famL n S)[i]? = some s' := ⟨_, List.getElem?_eq_getElem hi⟩
      have sm := List.mem_of_getElem? hs
      have sl := (famL_mem.mp sm).1
      have sa := allS_at sl n6
      have s64 : mk s' < 64 := by omega
      have e02 := e05.trans e2
      have hms : H2 D = some (.lst (iv ((famL n S).map mk))) := e2 _ _ a5
      have hps : H2 p = some (.lst (S.map V.bl)) := e02 _ _ hp
      have hus : H2 r = some (.lst us) := e2 _ _ (e5 _ _ a1)
      have mks : ∀ {j t}, (famL n S)[j]? = some t → ((famL n S).map mk)[j]? = some (mk t) := fun h => by rw [List.getElem?_map, h]; rfl
      have pwf : ∀ {k}, bit (2 ^ k) k = true := fun {k} => by unfold bit; rw [Nat.div_self (Nat.pow_pos (by decide))]; decide
      walk_at "rd"
      rw [Int.zero_add]
      refine ⟨by omega, by omega, ?_⟩
      rw [Int.toNat_natCast]
      refine Rd.loop_rngC (fun σ H3 => ∃ o6 o7 free, σ = [some (V.ref p), some (V.int n), some (V.ref r), some (V.ref D), some (V.int i), some (V.int (free : Nat)), o6, o7, none] ∧ H3 = H2 ∧ free < 64 ∧ ∀ g, g < 6 → bit free g = (decide (g < n) && freeAt n S s' g))
        (fun j σ H3 => ∃ o6 o7 free, σ = [some (V.ref p), some (V.int n), some (V.ref r), some (V.ref D), some (V.int i), some (V.int (free : Nat)), o6, o7, none] ∧ H3 = H2 ∧ free < 64 ∧ ∀ g, g < 6 → bit free g = (decide (g < j) && freeAt n S s' g))
        ⟨_, _, 0, rfl, rfl, by decide, fun g _ => by unfold bit; rw [Nat.zero_div]; rfl⟩ ?_ (fun _ _ z => z) ?_
      · rintro bk2 hbk2 j σ H3 hj ⟨o6, o7, free, rfl, rfl, f64, hf⟩
        walk_at "rd"
        rw [Int.zero_add]
        have j6 : j < 6 := by omega
        have jn : j < n := hj
        have ol : mk s' ||| 2 ^ j < S.length := by
          rw [F.len]
          exact Nat.or_lt_two_pow sa.2.1 (Nat.pow_lt_pow_right (by decide) jn)
        have skip : freeAt n S s' j = false → ∀ g, g < 6 → bit free g = (decide (g < j + 1) && freeAt n S s' g) := fun z g hg => by
          rw [hf g hg]
          by_cases e : g = j
          · subst e
            rw [z, Bool.and_false, Bool.and_false]
          · rw [show decide (g < j + 1) = decide (g < j) from decide_eq_decide.mpr (by omega)]
        refine ⟨_, hms, _, iv_at (mks hs), _, rfl, by omega, ite2 (fun hb => ⟨_, hms, _, iv_at (mks hs), cpw (by omega), _, rfl, _, hps, _, by rw [pow_cast, or_nat]; exact in_bool ol, _, rfl, ite2 (fun hc => ⟨cpw (by omega), _, _, free ||| 2 ^ j, by rw [pow_cast, or_nat], rfl, rfl, ?_, fun g hg => ?_⟩) (fun hc => ⟨_, _, free, rfl, rfl, rfl, f64, skip ?_⟩)⟩) (fun hb => ⟨_, _, free, rfl, rfl, rfl, f64, skip ?_⟩)⟩
        · exact Nat.or_lt_two_pow (n := 6) f64 (Nat.pow_lt_pow_right (by decide) j6)
        · rw [bit_and0] at hb
          rw [bit_or, hf g hg]
          by_cases e : g = j
          · subst e
            unfold freeAt
            rw [decide_eq_true rfl, hb, hc, Bool.or_true, decide_eq_true (show g < g + 1 by omega)]
            rfl
          · rw [show decide (j = g) = false from decide_eq_false (fun z => e z.symm), Bool.or_false, show decide (g < j + 1) = decide (g < j) from decide_eq_decide.mpr (by omega)]
        · unfold freeAt
          rw [Bool.eq_false_iff.mpr hc, Bool.and_false]
        · rw [bit_and0] at hb
          unfold freeAt
          rw [show bit (mk s') j = true by cases e : bit (mk s') j <;> simp_all]
          rfl
      · rintro σ H3 ⟨o6, o7, free, rfl, rfl, f64, hf⟩
        walk_at "rd"
        refine ⟨_, SqL.of hus, ?_⟩
        rw [ul]
        refine ⟨by omega, by omega, by omega, by omega, ?_⟩
        rw [show ((famL n S).length - ((i : Int) + 1)).toNat = (famL n S).length - (i + 1) by omega]
        refine Rd.loop_rngC (fun σ H4 => ∃ o6 o7, σ = [some (V.ref p), some (V.int n), some (V.ref r), some (V.ref D), some (V.int i), some (V.int (free : Nat)), o6, o7, none] ∧ H4 = H3 ∧ ∀ t ∈ famL n S, (decide (t.length > s'.length) && !metL (addL n S s') t) = false)
          (fun j σ H4 => ∃ o6 o7, σ = [some (V.ref p), some (V.int n), some (V.ref r), some (V.ref D), some (V.int i), some (V.int (free : Nat)), o6, o7, none] ∧ H4 = H3 ∧ ∀ t ∈ (famL n S).take (i + 1 + j), (decide (t.length > s'.length) && !metL (addL n S s') t) = false)
          ⟨_, _, rfl, rfl, fun t ht => ?_⟩ ?_ (fun σ H4 ⟨o6, o7, q1, q2, q3⟩ => ⟨o6, o7, q1, q2, fun t ht => q3 t (by rw [List.take_of_length_le (by omega)]; exact ht)⟩) ?_
        · obtain ⟨q, q1, q2⟩ := List.getElem_of_mem ht
          rw [List.length_take] at q1
          rw [List.getElem_take] at q2
          have := famL_asc n6 hs (j := q) (t := t) (by rw [← q2]; exact List.getElem?_eq_getElem _) (by omega)
          rw [decide_eq_false (by omega), Bool.false_and]
        · rintro bk2 hbk2 j σ H4 hj ⟨o6, o7, rfl, rfl, no2⟩
          have jl : i + 1 + j < (famL n S).length := by omega
          obtain ⟨t', ht⟩ : ∃ t', (famL n S)[i + 1 + j]? = some t' := ⟨_, List.getElem?_eq_getElem jl⟩
          have tm := List.mem_of_getElem? ht
          have tl := (famL_mem.mp tm).1
          have ta := allS_at tl n6
          have tu5 := tu.same (e5.trans e2)
          obtain ⟨p1, up1, hp1⟩ := tu5.get hs
          obtain ⟨p2, up2, hp2⟩ := tu5.get ht
          have c1 : ((i : Int) + 1 + (j : Int)) = ((i + 1 + j : Nat) : Int) := by omega
          have nx : ∀ {b : Bool}, (decide (t'.length > s'.length) && !metL (addL n S s') t') = b → b = false → ∀ t ∈ (famL n S).take (i + 1 + (j + 1)), (decide (t.length > s'.length) && !metL (addL n S s') t) = false := fun {b} e1 e2 t ht2 => by
            rw [show i + 1 + (j + 1) = i + 1 + j + 1 by omega, List.take_add_one, ht] at ht2
            rcases List.mem_append.mp ht2 with z | z
            · exact no2 t z
            · rw [List.mem_singleton.mp z, e1, e2]
          walk_at "rd"
          rw [c1]
          refine ⟨_, hus, _, atI_nat up2, _, rfl, _, .inr (SqT.of hp2), _, hus, _, atI_nat up1, _, rfl, _, .inr (SqT.of hp1), ?_⟩
          rw [iv_len, iv_len]
          refine ite2 (fun lt => ⟨_, hms, _, iv_at (mks ht), _, rfl, ite2 (fun hz => ⟨_, hus, _, atI_nat up1, _, hus, _, atI_nat up2, by decide, fun u hu => ?_⟩) (fun hz => nx rfl ?_)⟩) (fun lt => nx rfl ?_)
          · have e6 := same_upd (o := .tup [V.ref p1, V.ref p2]) hu
            have mf : metL (addL n S s') t' = false := (free_met n6 sl tl f64 hf).mp (by rw [and_nat] at hz; omega)
            refine k _ _ ((e05.trans e2).trans e6) ?_
            have fs : firstPair n S = some (s', t') := findSome_at hs (by
              rw [find_at' (p := fun t => decide (t.length > s'.length) && !metL (addL n S s') t) ht (by show (decide (t'.length > s'.length) && !metL (addL n S s') t') = true; rw [mf, decide_eq_true (by omega)]; rfl) no2]
              rfl) fun s hs' => by rw [no s hs']; rfl
            rw [fs]
            exact ⟨u, p1, p2, rfl, upd_same, e6 _ _ hp1, e6 _ _ hp2⟩
          · have mt : metL (addL n S s') t' = true := by
              cases z : metL (addL n S s') t' with
              | true => rfl
              | false =>
                have := (free_met n6 sl tl f64 hf).mpr z
                rw [and_nat] at hz
                omega
            rw [mt, Bool.not_true, Bool.and_false]
          · rw [decide_eq_false (by omega), Bool.false_and]
        · rintro σ H4 ⟨o6, o7, rfl, rfl, no2⟩
          walk_at "rd"
          refine ⟨e2, fun s hs' => ?_⟩
          rw [List.take_add_one, hs] at hs'
          rcases List.mem_append.mp hs' with z | z
          · exact no s z
          · rw [List.mem_singleton.mp z]
            exact List.find?_eq_none.mpr fun t ht => by rw [no2 t ht]; decide
    · rintro σ H2 ⟨o4, o5, o6, o7, rfl, e2, no⟩
      walk_at "rd"
      refine k _ _ (e05.trans e2) ?_
      rw [show firstPair n S = none from List.findSome?_eq_none_iff.mpr fun s hs => by rw [no s hs]; rfl]
      rfl
end

end K32
namespace K32
open PySem PySem.Spec PyProof.Rows L2 Own OwnSeq OwnSet OwnComb OwnSort OwnHot OwnExN OwnProj
local macro_rules | `(tactic| walk_at "rd") => `(tactic| simp only [tSeq, tAsg, tOp, tUn, tVar, gName, gSub, rIxL, rIxT, rSetL, tC, rI0, rI, rU, rEq, rNe, tCons, tNil, tCB, tLst, tTup, tIfS, tAnd, tOr, tNot, tAndV, tOrV, tNotV, tTest, tB, tIf, tRet, tDrop, tNext, tBreak, tCont, tCall, tCallS, L2.WE, tMakeS, rIsS, rIsB, tChain, gSeq, gRest, gCons, gNil, tFor_seq, tFor_enumS, tLc_seq, tLc_enumS, rAny, rAll, L2.tMeth, StX.tStar, rIn, tLstRg, tRg1, tRg2, rSetI, rSortedSet, rInDT, rInD, rNotInD, rEqD, rNeD, iComb, tFld, tMake, tMkO, sFld, tOst, tNever, tBits, clv, isB,
  Rd.tFor_rng1, Rd.tFor_rng2, Rd.tFor_list, Rd.tFor_tup, Rd.tLc_list, Rd.tLc_tup, Rd.tLc_rng1, Rd.LcTurn, tYes, wipe, Rd.rLenL, Rd.rLenT, Rd.rIntI, Rd.rIxH, rIxHT,  HO.tup.injEq, Rd.at0, Rd.at1, Rd.at2, Rd.at3, Rd.ixN40, Rd.ixN41, Rd.ixN42, Rd.ixN43, Rd.scal_ii, cxOf,
  List.length_cons, List.length_nil, List.length_map, List.map_cons, List.map_nil, upd_same, decide_eq_true_eq, decide_true, decide_false, if_true, if_false, Bool.false_eq_true, Bool.not_true, Bool.not_false, HO.lst.injEq, HO.ins.injEq, List.set_cons_zero, List.set_cons_succ, List.getElem?_cons_zero, List.getElem?_cons_succ, List.append_nil, List.nil_append, List.cons_append, Option.some.injEq, V.ref.injEq, V.int.injEq, V.bl.injEq, List.cons.injEq, exists_eq_left', exists_and_left, exists_eq_left, true_and, and_true, and_self, and_assoc, implies_true, reduceCtorEq, Nat.reduceAdd])

theorem roomM {k : Nat} {A : Around} {h : Option Value} (r : Room k A) : L2H.RoomH k (A.mark h) := ⟨r.dp, r.un⟩
theorem hotN {A : Around} {a : Addr} {oe : Obj} {cls : Value} {d : Option Addr} (hz : L2N.Zn cls d oe) (hf : ∃ vs, oe.data = .fields vs) : L2H.Hot1 (A.mark (some (.ref a))) (a, oe) := ⟨rfl, let ⟨v, e⟩ := hf; ⟨v, e, hz.2.2 v e⟩⟩
section
variable {P : Program} {w : World} {K : PySem.W.Frag} {mg : Str → Option Value} {base : Heap} {a : Ad}
theorem passAt0 {X : Cx} {σ : L2.St} : PassesAt CX0 X σ E0 := fun _ _ _ _ _ _ h => h.elim
/-- the rule of a def that is called while an exception is handled -/
theorem okH {x qual : Str} {st : Stmt} {f : Addr} {fd : FuncData} {N ps : List Str} {k : Nat} {sp : Sp} (F : Fun K x qual st f fd) (S : FnScope N ps (defScope st)) (len : ∀ vs H Q E, sp vs H Q E → vs.length = ps.length)
    (hbody : ∀ (cdv : Value) (A : Around) (outer : List Env) (s : Shared) (H : Hp) (vs : List V) (Q : VK) (E : XK) (p : Addr × Obj), L2H.Hot1 A p → L2H.RoomH k (A.deeper (envOfC qual (defScope st) s.heap.objs.size f cdv)) → sp vs H Q E →
      ∃ t, PSs (L2H.cxH CX0 P w K mg base N qual (defScope st) f cdv A outer s H E p) (defBody st) t ∧ t { nx := fun _ H' => Q .non H', rt := Q } (L2.start N vs) H) : L2H.FnH P w K mg base CX0 (k + 1) f fd ps sp := by
  obtain ⟨oc, od, kV, doc, pm, an, cdv, ct, osl, rfl, lk, hcd⟩ := F.ex
  exact L2H.fn_ofH lk hcd S len fun A outer s H vs Q E p hot hr hsp => hbody cdv A outer s H vs Q E p hot hr hsp
/-- an item of a list or a tuple -/
def rIxHS : R2 := fun x y H Q => ∃ p xs i z l, x = .ref p ∧ y = .int i ∧ H p = some (sq l xs) ∧ atI xs i = some z ∧ Q z H
theorem ixHS {X : Cx} : IxR X rIxHS := fun value slice pins s σ H x y v u Q I rx ry ⟨p, xs, i, z, l, e1, e2, h, e3, q⟩ hs => by
  cases l with
  | true => exact Rd.ixH value slice pins s σ H x y v u Q I rx ry ⟨p, xs, i, z, e1, e2, h, e3, q⟩ hs
  | false => exact ixHT value slice pins s σ H x y v u Q I rx ry ⟨p, xs, i, z, e1, e2, h, e3, q⟩ hs
/-! ### _law_mask while an exception is handled -/
def spMaskT : Sp := fun vs H Q _ => ∃ (p : Addr) (s : List Nat), vs = [.ref p] ∧ H p = some (.tup (iv s)) ∧ s.length ≤ 6 ∧ (∀ g ∈ s, g < 6) ∧ ∀ H', Same H H' → Q (.int (mk s : Nat)) H'
theorem okH_law_mask (T : Txt K mg a) : L2H.FnH P w K mg base CX0 1 a.a_law_mask a.d_law_mask ["things"] spMaskT := by
  refine okH T.fn_law_mask sc_law_mask (fun vs H Q E h => ?_) (fun cdv A outer s H vs Q E hp0 hot hr h => ?_)
  · obtain ⟨p, s, rfl, _⟩ := h
    rfl
  · obtain ⟨p, s', rfl, hp, h6, g6, k⟩ := h
    refine ⟨_, (pss_one (ps_ret (pe_callB (OwnSumH.cr_sumH K ⟨hp0, hot, List.mem_singleton.mpr rfl⟩) (by rfl) T.no_sum (by decide +kernel) (pa_cons (pe_lcH ⟨hp0, hot, List.mem_singleton.mpr rfl⟩ (own := [("thing", 1)]) sc_law_mask.nd (pi_tupH (pv 0)) (blkOk_by (own := [("thing", 1)]) (N := ["things", "thing"]) (sc := defScope s_law_mask) (by decide +kernel)) (fun _ _ _ _ _ => pg_name (i := 1) sc_law_mask.nd rfl (Or.inl rfl)) (fun _ _ _ _ _ => (pe_op op_shl pe_int (pv 1)))) pa_nil)))), ?_⟩
    show (_ : TS) _ [some (V.ref p), none] H
    walk_at "rd"
    refine ⟨⟨_, SqT.of hp⟩, lcl_goes (goes_seq (K := K) (a := p) (l := false) (xs := iv s')) (fun D i H5 => H D = none ∧ Same H H5 ∧ H5 D = some (.lst (((s'.take i).map fun g => ((2 ^ g : Nat) : Int)).map V.int))) (fun D hD => ⟨hD, same_upd hD, upd_same⟩)
      (fun D i H5 _ h => h.2.1 _ _ hp) (fun D i x H5 H5' hi ⟨n5, e5, a5⟩ ⟨eq5, hx⟩ => ?_) (fun D H5 _ ⟨n5, e5, a5⟩ => ?_)⟩
    · subst eq5
      obtain ⟨g, hg, rfl⟩ := at_iv hx
      have g6' := g6 g (List.mem_of_getElem? hg)
      have il := (List.getElem?_eq_some_iff.mp hg).1
      walk_at "rd"
      refine ⟨cpw (by omega), _, a5, small (by rw [List.length_map, List.length_map, List.length_take]; omega), n5, fun b o hb => (upd_ne (ne_of_none hb n5)).trans (e5 _ _ hb), ?_⟩
      rw [pow_cast, List.take_add_one, hg, List.map_append, List.map_append]
      rfl
    · rw [iv_len, List.take_length] at a5
      refine ⟨D, _, rfl, SqL.of a5, ?_⟩
      rw [sum_cast]
      exact k _ e5
/-! ### _law_told -/
def spTold : Sp := fun vs H Q _ => ∃ (p n : Nat) (s : List Nat), vs = [.ref p, .int n] ∧ H p = some (.tup (iv s)) ∧ n ≤ 6 ∧ asc s = true ∧ (∀ g ∈ s, g < n) ∧ s.length ≤ 6 ∧ ∀ H', Same H H' → Q (.int (mk s : Nat)) H'
theorem asc_lt : ∀ {s : List Nat} {i g : Nat}, asc s = true → s[i]? = some g → ∀ x ∈ s.drop (i + 1), g < x
  | [], _, _, _, h => by cases h
  | y :: s, 0, g, h, e => by
    cases Option.some.inj e
    obtain ⟨a, _⟩ := Bool.and_eq_true_iff.mp h
    exact fun x hx => of_decide_eq_true (List.all_eq_true.mp a x hx)
  | y :: s, i + 1, g, h, e => asc_lt (s := s) (i := i) (Bool.and_eq_true_iff.mp h).2 e
theorem sc_law_told : FnScope ["actual", "size", "last", "thing"] ["actual", "size"] (defScope s_law_told) := ⟨rfl, rfl, rfl, by decide +kernel, rfl, by decide +kernel, by decide +kernel⟩
theorem ok_law_told (T : Txt K mg a) : FnOk P w K mg base CX0 2 a.a_law_told a.d_law_told ["actual", "size"] spTold := by
  refine T.fn_law_told.ok sc_law_told (fun vs H Q E h => ?_) (fun cdv A outer s H vs Q E hr h => ?_)
  · obtain ⟨p, n, s, rfl, _⟩ := h
    rfl
  · obtain ⟨p, n, s', rfl, hp, n6, as, lt, l6, k⟩ := h
    refine ⟨_, (pss_cons (ps_if (pt_not (pt_val (pe_callB (call_isB .tup) (by rfl) T.no_isinstance (by decide +kernel) (pa_cons (pv 0) (pa_cons (pe_bltn (v := .ty "tuple") (u := .type "tuple") (by rfl) T.no_tuple (by decide +kernel) rfl) pa_nil))))) (pss_one (ps_ret pe_non)) pss_nil)
      (pss_cons (ps_set (i := 2) sc_law_told.nd rfl (Or.inl rfl) (pe_un un_neg pe_int))
      (pss_cons (ps_for PassesOwn.never rfl (pi_seq (pv 0)) (pg_name (i := 3) sc_law_told.nd rfl (Or.inl rfl))
        (pss_cons (ps_if (PW.pt (pw_or (pt_not (pt_val (pe_callB (call_isB .int) (by rfl) T.no_isinstance (by decide +kernel) (pa_cons (pv 3) (pa_cons (pe_bltn (v := .ty "int") (u := .type "int") (by rfl) T.no_int (by decide +kernel) rfl) pa_nil))))) (pw_or (pt_val (pe_callB (call_isB .bl) (by rfl) T.no_isinstance (by decide +kernel) (pa_cons (pv 3) (pa_cons (pe_bltn (v := .ty "bool") (u := .type "bool") (by rfl) T.no_bool (by decide +kernel) rfl) pa_nil)))) (pw_or (pt_cmpR op_le (pv 3) (pv 2) (nomark _)) (pw_or1 (pt_cmpR op_ge (pv 3) (pv 1) (nomark _))))))) (pss_one (ps_ret pe_non)) pss_nil)
        (pss_one (ps_set (i := 2) sc_law_told.nd rfl (Or.inl rfl) (pv 3)))))
      (pss_one (ps_ret (pe_call (ok_law_mask T) (hr.mono (by decide)) (by rfl) T.mg_law_mask T.fn_law_mask.kp T.b_law_mask .nil pass0 (pa_cons (pv 0) pa_nil))))))), ?_⟩
    show (_ : TS) _ [some (V.ref p), some (V.int n), none, none] H
    walk_at "rd"
    refine ⟨.tup, .tup hp, ?_⟩
    rw [if_neg (by decide)]
    refine ⟨false, _, hp, loop_goes goes_seq (fun σ H' => ∃ o2 o3, σ = [some (V.ref p), some (V.int n), o2, o3] ∧ Same H H')
      (fun i σ H' => ∃ (z : Int) (o3 : Option V), σ = [some (V.ref p), some (V.int n), some (V.int z), o3] ∧ Same H H' ∧ ∀ g ∈ s'.drop i, z < (g : Nat))
      ⟨-1, none, rfl, fun _ _ h => h, fun g _ => by omega⟩ (fun i σ H' _ ⟨_, _, _, e, _⟩ => e _ _ hp) ?_ (fun σ H' ⟨z, o3, q1, e, _⟩ => ⟨_, o3, q1, e⟩) ?_⟩
    · rintro bk hbk i x σ H2 H2' hi ⟨z, o3, rfl, e2, lo⟩ ⟨rfl, hx⟩
      obtain ⟨g, hg, rfl⟩ := at_iv hx
      have gn := lt g (List.mem_of_getElem? hg)
      have zg := lo g (by
        rw [List.drop_eq_getElem_cons (List.getElem?_eq_some_iff.mp hg).1, (List.getElem?_eq_some_iff.mp hg).2]
        exact List.mem_cons_self)
      walk_at "rd"
      refine ⟨.int, .int _, ?_⟩
      rw [if_neg (by decide)]
      refine ⟨.int, .int _, ?_⟩
      rw [if_neg (by decide), if_neg (by omega), if_neg (by omega)]
      exact ⟨e2, fun x hx => by have := asc_lt as hg x hx; omega⟩
    · rintro σ H2 ⟨o2, o3, rfl, e2⟩
      walk_at "rd"
      exact ⟨p, false, s', rfl, e2 _ _ hp, l6, fun g hg => by have := lt g hg; omega, fun H' e' => k _ (e2.trans e')⟩
theorem okH_law_told (T : Txt K mg a) : L2H.FnH P w K mg base CX0 2 a.a_law_told a.d_law_told ["actual", "size"] spTold := by
  refine okH T.fn_law_told sc_law_told (fun vs H Q E h => ?_) (fun cdv A outer s H vs Q E hp0 hot hr h => ?_)
  · obtain ⟨p, n, s, rfl, _⟩ := h
    rfl
  · obtain ⟨p, n, s', rfl, hp, n6, as, lt, l6, k⟩ := h
    refine ⟨_, (pss_cons (ps_if (pt_not (pt_val (pe_callB (call_isB .tup) (by rfl) T.no_isinstance (by decide +kernel) (pa_cons (pv 0) (pa_cons (pe_bltn (v := .ty "tuple") (u := .type "tuple") (by rfl) T.no_tuple (by decide +kernel) rfl) pa_nil))))) (pss_one (ps_ret pe_non)) pss_nil)
      (pss_cons (ps_set (i := 2) sc_law_told.nd rfl (Or.inl rfl) (pe_un un_neg pe_int))
      (pss_cons (L2H.ps_forH (passes_of rfl) ⟨hp0, hot, List.mem_singleton.mpr rfl⟩ (pi_tupH (pv 0)) (pg_name (i := 3) sc_law_told.nd rfl (Or.inl rfl))
        (pss_cons (ps_if (PW.pt (pw_or (pt_not (pt_val (pe_callB (call_isB .int) (by rfl) T.no_isinstance (by decide +kernel) (pa_cons (pv 3) (pa_cons (pe_bltn (v := .ty "int") (u := .type "int") (by rfl) T.no_int (by decide +kernel) rfl) pa_nil))))) (pw_or (pt_val (pe_callB (call_isB .bl) (by rfl) T.no_isinstance (by decide +kernel) (pa_cons (pv 3) (pa_cons (pe_bltn (v := .ty "bool") (u := .type "bool") (by rfl) T.no_bool (by decide +kernel) rfl) pa_nil)))) (pw_or (pt_cmpR op_le (pv 3) (pv 2) (nomark _)) (pw_or1 (pt_cmpR op_ge (pv 3) (pv 1) (nomark _))))))) (pss_one (ps_ret pe_non)) pss_nil)
        (pss_one (ps_set (i := 2) sc_law_told.nd rfl (Or.inl rfl) (pv 3)))))
      (pss_one (ps_ret (L2H.pe_callH (okH_law_mask T) (hr.mono (by decide)) ⟨hp0, hot, List.mem_singleton.mpr rfl⟩ (by rfl) T.mg_law_mask T.fn_law_mask.kp T.b_law_mask (fun _ => passAt0) (pa_cons (pv 0) pa_nil))))))), ?_⟩
    show (_ : TS) _ [some (V.ref p), some (V.int n), none, none] H
    walk_at "rd"
    refine ⟨.tup, .tup hp, ?_⟩
    rw [if_neg (by decide)]
    refine ⟨⟨_, SqT.of hp⟩, loop_goes (goes_seq (K := K) (a := p) (l := false) (xs := iv s')) (fun σ H' => ∃ o2 o3, σ = [some (V.ref p), some (V.int n), o2, o3] ∧ Same H H')
      (fun i σ H' => ∃ (z : Int) (o3 : Option V), σ = [some (V.ref p), some (V.int n), some (V.int z), o3] ∧ Same H H' ∧ ∀ g ∈ s'.drop i, z < (g : Nat))
      ⟨-1, none, rfl, fun _ _ h => h, fun g _ => by omega⟩ (fun i σ H' _ ⟨_, _, _, e, _⟩ => e _ _ hp) ?_ (fun σ H' ⟨z, o3, q1, e, _⟩ => ⟨_, o3, q1, e⟩) ?_⟩
    · rintro bk hbk i x σ H2 H2' hi ⟨z, o3, rfl, e2, lo⟩ ⟨rfl, hx⟩
      obtain ⟨g, hg, rfl⟩ := at_iv hx
      have gn := lt g (List.mem_of_getElem? hg)
      have zg := lo g (by
        rw [List.drop_eq_getElem_cons (List.getElem?_eq_some_iff.mp hg).1, (List.getElem?_eq_some_iff.mp hg).2]
        exact List.mem_cons_self)
      walk_at "rd"
      refine ⟨.int, .int _, ?_⟩
      rw [if_neg (by decide)]
      refine ⟨.int, .int _, ?_⟩
      rw [if_neg (by decide), if_neg (by omega), if_neg (by omega)]
      exact ⟨e2, fun x hx => by have := asc_lt as hg x hx; omega⟩
    · rintro σ H2 ⟨o2, o3, rfl, e2⟩
      walk_at "rd"
      exact ⟨p, s', rfl, e2 _ _ hp, l6, fun g hg => by have := lt g hg; omega, fun H' e' => k _ (e2.trans e')⟩
/-! ### _law_is_set -/
def spIs : Sp := fun vs H Q _ => ∃ (p q : Addr) (s : List Nat), vs = [.ref p, .ref q] ∧ H p = some (.tup (iv s)) ∧ H q = some (.tup (iv s)) ∧ asc s = true ∧ (∀ g ∈ s, g < 6) ∧ s.length ≤ 6 ∧ ∀ H', Same H H' → Q (.bl true) H'
theorem hotU {k : Nat} {A : Around} (r : L2H.RoomH k A) : A.units + 64 < cLine := by
  have := r.un
  omega
theorem sc_law_is_set : FnScope ["actual", "due"] ["actual", "due"] (defScope s_law_is_set) := ⟨rfl, rfl, rfl, by decide +kernel, rfl, by decide +kernel, by decide +kernel⟩
theorem ok_law_is_set (T : Txt K mg a) : FnOk P w K mg base CX0 3 a.a_law_is_set a.d_law_is_set ["actual", "due"] spIs := by
  refine T.fn_law_is_set.ok sc_law_is_set (fun vs H Q E h => ?_) (fun cdv A outer s H vs Q E hr h => ?_)
  · obtain ⟨p, q, s, rfl, _⟩ := h
    rfl
  · obtain ⟨p, q, s', rfl, hp, hq, as, lt, l6, k⟩ := h
    refine ⟨_, (pss_one (ps_ret (pe_and (pe_cmpR op_notN (pe_call (ok_law_told T) (hr.mono (by decide)) (by rfl) T.mg_law_told T.fn_law_told.kp T.b_law_told .nil pass0 (pa_cons (pv 0) (pa_cons pe_int pa_nil))) pe_non (nomark _)) (pe_one (pe_cmpR (eqD_at K hr.units) (pv 0) (pv 1) (nomark _)))))), ?_⟩
    show (_ : TS) _ [some (V.ref p), some (V.ref q)] H
    walk_at "rd"
    refine ⟨p, 6, s', rfl, hp, by decide, as, lt, l6, fun H' e' => ?_⟩
    show (if (!decide (V.int (mk s' : Nat) = V.non)) = true then _ else _)
    rw [if_pos (by simp)]
    refine ⟨_, dp_set (e' _ _ hp), _, dp_set (e' _ _ hq), sh_set _, sh_set _, ?_⟩
    rw [eqv_set, decide_eq_true rfl]
    exact k _ e'
theorem okH_law_is_set (T : Txt K mg a) : L2H.FnH P w K mg base CX0 3 a.a_law_is_set a.d_law_is_set ["actual", "due"] spIs := by
  refine okH T.fn_law_is_set sc_law_is_set (fun vs H Q E h => ?_) (fun cdv A outer s H vs Q E hp0 hot hr h => ?_)
  · obtain ⟨p, q, s, rfl, _⟩ := h
    rfl
  · obtain ⟨p, q, s', rfl, hp, hq, as, lt, l6, k⟩ := h
    refine ⟨_, (pss_one (ps_ret (pe_and (pe_cmpR op_notN (L2H.pe_callH (okH_law_told T) (hr.mono (by decide)) ⟨hp0, hot, List.mem_singleton.mpr rfl⟩ (by rfl) T.mg_law_told T.fn_law_told.kp T.b_law_told (fun _ => passAt0) (pa_cons (pv 0) (pa_cons pe_int pa_nil))) pe_non (nomark _)) (pe_one (pe_cmpR (eqD_at K (hotU hr)) (pv 0) (pv 1) (nomark _)))))), ?_⟩
    show (_ : TS) _ [some (V.ref p), some (V.ref q)] H
    walk_at "rd"
    refine ⟨p, 6, s', rfl, hp, by decide, as, lt, l6, fun H' e' => ?_⟩
    show (if (!decide (V.int (mk s' : Nat) = V.non)) = true then _ else _)
    rw [if_pos (by simp)]
    refine ⟨_, dp_set (e' _ _ hp), _, dp_set (e' _ _ hq), sh_set _, sh_set _, ?_⟩
    rw [eqv_set, decide_eq_true rfl]
    exact k _ e'
end

end K32
namespace K32
open PySem PySem.Spec PyProof.Rows L2 Own OwnSeq OwnSet OwnComb OwnSort OwnHot OwnExN OwnProj
local macro_rules | `(tactic| walk_at "rd") => `(tactic| simp only [tSeq, tAsg, tOp, tUn, tVar, gName, gSub, rIxL, rIxT, rSetL, tC, rI0, rI, rU, rEq, rNe, tCons, tNil, tCB, tLst, tTup, tIfS, tAnd, tOr, tNot, tAndV, tOrV, tNotV, tTest, tB, tIf, tRet, tDrop, tNext, tBreak, tCont, tCall, tCallS, L2.WE, tMakeS, rIsS, rIsB, tChain, gSeq, gRest, gCons, gNil, tFor_seq, tFor_enumS, tLc_seq, tLc_enumS, rAny, rAll, L2.tMeth, StX.tStar, rIn, tLstRg, tRg1, tRg2, rSetI, rSortedSet, rInDT, rInD, rNotInD, rEqD, rNeD, iComb, tFld, tMake, tMkO, sFld, tOst, tNever, tBits, clv, isB,
  Rd.tFor_rng1, Rd.tFor_rng2, Rd.tFor_list, Rd.tFor_tup, Rd.tLc_list, Rd.tLc_tup, Rd.tLc_rng1, Rd.LcTurn, tYes, wipe, Rd.rLenL, Rd.rLenT, Rd.rIntI, Rd.rIxH, rIxHT,  HO.tup.injEq, Rd.at0, Rd.at1, Rd.at2, Rd.at3, Rd.ixN40, Rd.ixN41, Rd.ixN42, Rd.ixN43, Rd.scal_ii, cxOf,
  List.length_cons, List.length_nil, List.length_map, List.map_cons, List.map_nil, upd_same, decide_eq_true_eq, decide_true, decide_false, if_true, if_false, Bool.false_eq_true, Bool.not_true, Bool.not_false, HO.lst.injEq, HO.ins.injEq, List.set_cons_zero, List.set_cons_succ, List.getElem?_cons_zero, List.getElem?_cons_succ, List.append_nil, List.nil_append, List.cons_append, Option.some.injEq, V.ref.injEq, V.int.injEq, V.bl.injEq, List.cons.injEq, exists_eq_left', exists_and_left, exists_eq_left, true_and, and_true, and_self, and_assoc, implies_true, reduceCtorEq, Nat.reduceAdd])

theorem maxK {X : Cx} (K : PySem.W.Frag) (hc : X.calm = true := by rfl) (hK : X.K = K := by rfl) : CallR X (.builtin "max") (rMax K) := by
  subst hK
  exact cr_max hc
def mxL (l : List Nat) : Nat := l.foldr max 0
theorem mxL_le {l : List Nat} {m : Nat} (h : ∀ x ∈ l, x ≤ m) : mxL l ≤ m := by
  induction l with
  | nil => exact Nat.zero_le _
  | cons x l ih => exact Nat.max_le.mpr ⟨h x List.mem_cons_self, ih fun y hy => h y (List.mem_cons_of_mem _ hy)⟩
theorem le_mxL {l : List Nat} {x : Nat} (h : x ∈ l) : x ≤ mxL l := by
  induction l with
  | nil => cases h
  | cons y l ih =>
    rcases List.mem_cons.mp h with e | h
    · rw [e]
      exact Nat.le_max_left _ _
    · exact Nat.le_trans (ih h) (Nat.le_max_right _ _)
theorem mxL_mem {l : List Nat} (h : l ≠ []) : mxL l ∈ l := by
  induction l with
  | nil => exact absurd rfl h
  | cons y l ih =>
    by_cases e : l = []
    · subst e
      show max y 0 ∈ [y]
      rw [Nat.max_eq_left (Nat.zero_le _)]
      exact List.mem_cons_self
    · show max y (mxL l) ∈ y :: l
      rcases Nat.le_total y (mxL l) with z | z
      · rw [Nat.max_eq_right z]
        exact List.mem_cons_of_mem _ (ih e)
      · rw [Nat.max_eq_left z]
        exact List.mem_cons_self
/-- the rank of a set of things -/
def rk (S : List Bool) (M : Nat) : Nat := mxL (((List.range 64).filter fun x => In S x && decide (Sub x M)).map pop)
theorem Fam.lt {n : Nat} {S : List Bool} (F : Fam n S) {m : Nat} (h : In S m = true) : m < 2 ^ n := by
  rcases Nat.lt_or_ge m S.length with z | z
  · rw [F.len] at z
    exact z
  · unfold In at h
    rw [List.getD_eq_getElem?_getD, List.getElem?_eq_none z] at h
    cases h
theorem rk_mem {S : List Bool} {M y : Nat} : y ∈ ((List.range 64).filter fun x => In S x && decide (Sub x M)).map pop ↔ ∃ x, x < 64 ∧ In S x = true ∧ Sub x M ∧ pop x = y := by
  rw [List.mem_map]
  refine ⟨fun ⟨x, h, e⟩ => ?_, fun ⟨x, h, a, b, e⟩ => ⟨x, List.mem_filter.mpr ⟨List.mem_range.mpr h, by rw [a, decide_eq_true b]; rfl⟩, e⟩⟩
  obtain ⟨a, b⟩ := List.mem_filter.mp h
  obtain ⟨b1, b2⟩ := Bool.and_eq_true_iff.mp b
  exact ⟨x, List.mem_range.mp a, b1, of_decide_eq_true b2, e⟩
theorem rk_ge {n : Nat} {S : List Bool} {M x : Nat} (F : Fam n S) (h : In S x = true) (s : Sub x M) : pop x ≤ rk S M :=
  le_mxL (rk_mem.mpr ⟨x, Nat.lt_of_lt_of_le (F.lt h) (pow64 F.n6), h, s, rfl⟩)
theorem rk_at {n : Nat} {S : List Bool} {M : Nat} (F : Fam n S) : ∃ x, In S x = true ∧ Sub x M ∧ pop x = rk S M := by
  have z : pop 0 ∈ ((List.range 64).filter fun x => In S x && decide (Sub x M)).map pop := rk_mem.mpr ⟨0, by decide, F.zero, sub_zero M, rfl⟩
  obtain ⟨x, _, a, b, c⟩ := rk_mem.mp (mxL_mem (List.ne_nil_of_mem z))
  exact ⟨x, a, b, c⟩
theorem rk_eq {n : Nat} {S : List Bool} {M m : Nat} (F : Fam n S) (h1 : ∃ x, In S x = true ∧ Sub x M ∧ pop x = m) (h2 : ∀ x, In S x = true → Sub x M → pop x ≤ m) : m = rk S M := by
  obtain ⟨x, a, b, c⟩ := h1
  obtain ⟨y, d, e, f⟩ := rk_at F (M := M)
  have := rk_ge F a b
  have := h2 y d e
  omega
theorem subs_iff : ((List.range 7).all fun n => (allS n).all fun s => (allS n).all fun t => subL s t == decide (Sub (mk s) (mk t))) = true := by decide +kernel
theorem sub_of {n : Nat} {s t : List Nat} (n6 : n ≤ 6) (hs : s ∈ allS n) (ht : t ∈ allS n) : subL s t = decide (Sub (mk s) (mk t)) :=
  beq_iff_eq.mp (List.all_eq_true.mp (List.all_eq_true.mp (List.all_eq_true.mp subs_iff n (List.mem_range.mpr (by omega))) s hs) t ht)
theorem pop_len {n : Nat} {s : List Nat} (n6 : n ≤ 6) (hs : s ∈ allS n) : pop (mk s) = s.length := by
  unfold pop
  rw [(allS_at hs n6).1]
section
variable {P : Program} {w : World} {K : PySem.W.Frag} {mg : Str → Option Value} {base : Heap} {a : Ad}
/-! ### NoExchange -/
def spNo (C : Addr) : Sp := fun vs H Q _ => ∃ (p : Addr) (v u : V), vs = [.ref p, v, u] ∧ H p = some (exo p C none) ∧ ∀ d H', H d = none → d ≠ p → H' p = some (exo p C (some d)) → H' d = some (exd d [("larger", u), ("smaller", v)]) → (∀ q, q ≠ p → q ≠ d → H' q = H q) → Q .non H'
theorem sc_NoExchange_init : FnScope ["self", "smaller", "larger"] ["self", "smaller", "larger"] (defScope s_NoExchange_init) := ⟨rfl, rfl, rfl, by decide +kernel, rfl, by decide +kernel, by decide +kernel⟩
theorem ok_NoExchange_init (T : Txt K mg a) : FnOk P w K mg base CX0 1 a.a_NoExchange_init a.d_NoExchange_init ["self", "smaller", "larger"] (spNo a.C_NoExchange) := by
  refine T.fn_NoExchange_init.ok sc_NoExchange_init (fun vs H Q E h => ?_) (fun cdv A outer s H vs Q E hr h => ?_)
  · obtain ⟨p, v, u, rfl, _⟩ := h
    rfl
  · obtain ⟨p, v, u, rfl, hp, k⟩ := h
    refine ⟨_, (pss_cons (ps_ost (pv 0) (pv 1))
      (pss_one (ps_ost (pv 0) (pv 2)))), ?_⟩
    show (_ : TS) _ [some (V.ref p), some v, some u] H
    walk_at "rd"
    refine ⟨a.C_NoExchange, T.ex_NoExchange, T.na_NoExchange_smaller, .inl ⟨hp, fun d hd hne => ⟨a.C_NoExchange, T.ex_NoExchange, T.na_NoExchange_larger, .inr ⟨d, rfl, [("smaller", v)], (upd_ne hne).trans upd_same, by show 1 ≤ 900; decide, ?_⟩⟩⟩⟩
    refine k d _ hd hne ((upd_ne hne.symm).trans upd_same) upd_same fun q n1 n2 => ?_
    rw [upd_ne n2, upd_ne n1, upd_ne n2]
theorem no_made {C x : Addr} {v u : V} {H1 : Hp} {E : XK} (hx : H1 x = none) (k : ∀ d H', H1 d = none → H' d = some (.xd [("larger", u), ("smaller", v)]) → Same H1 H' → E (.ref C) (some d) H') :
    spNo C [.ref x, v, u] (upd H1 x (exo x C none)) (fun v' H2 => v' = .non ∧ ∃ d, H2 x = some (exo x C (some d)) ∧ ∃ fs, H2 d = some (exd d fs) ∧ H1 d = none ∧ E (.ref C) (some d) (upd (del H2 x) d (.xd fs))) (fun _ _ _ => False) := by
  refine ⟨x, v, u, rfl, upd_same, fun d H2 hd hne a1 a2 keep => ?_⟩
  rw [upd_ne hne] at hd
  refine ⟨rfl, d, a1, _, a2, hd, k d _ hd upd_same fun b o e => ?_⟩
  have nd : b ≠ d := ne_of_none e hd
  have nx : b ≠ x := ne_of_none e hx
  rw [upd_ne nd, del_ne nx, keep b nx nd, upd_ne nx]
  exact e
/-! ### need_exchange -/
def spNeed (C NC : Addr) : Sp := fun vs H Q E => ∃ (f n : Nat) (S : List Bool), vs = [.ref f] ∧ FamV C H f n S ∧ (firstPair n S = none → ∀ H', Same H H' → Q .non H') ∧
  (∀ p, firstPair n S = some p → ∀ d p1 p2 H', H d = none → H' d = some (.xd [("larger", .ref p2), ("smaller", .ref p1)]) → H' p1 = some (.tup (iv p.1)) → H' p2 = some (.tup (iv p.2)) → Same H H' → E (.ref NC) (some d) H')
theorem sc_need_exchange : FnScope ["family", "fault", "smaller", "larger"] ["family"] (defScope s_need_exchange) := ⟨rfl, rfl, rfl, by decide +kernel, rfl, by decide +kernel, by decide +kernel⟩
theorem ok_need_exchange (T : Txt K mg a) : FnOk P w K mg base (L2N.CX P w) 5 a.a_need_exchange a.d_need_exchange ["family"] (spNeed a.C_Family a.C_NoExchange) := by
  refine okN T.fn_need_exchange sc_need_exchange (fun vs H Q E h => ?_) (fun cdv A outer s H vs Q E hr h => ?_)
  · obtain ⟨f, n, S, rfl, _⟩ := h
    rfl
  · obtain ⟨f, n, S, rfl, F, k1, k2⟩ := h
    refine ⟨_, (pss_cons (ps_set (i := 1) sc_need_exchange.nd rfl (Or.inl rfl) (pe_call (ok_exchange_fault T) (hr.mono (by decide)) (by rfl) T.mg_exchange_fault T.fn_exchange_fault.kp T.b_exchange_fault .nil pass0 (pa_cons (pv 0) pa_nil)))
      (pss_one (ps_if (pt_cmpR op_notN (pv 1) pe_non (nomark _)) (pss_cons (ps_asg (pv 1) (pg_seq (n := 2) rfl (pgs_cons (pg_name (i := 2) sc_need_exchange.nd rfl (Or.inl rfl)) (pgs_cons (pg_name (i := 3) sc_need_exchange.nd rfl (Or.inl rfl)) pgs_nil))))
        (pss_one (L2N.ps_raise rfl (L2N.takes_of rfl rfl rfl rfl) (pmk_oexN T.ex_NoExchange T.xi_NoExchange T.ti_NoExchange (ok_NoExchange_init T) (hr.mono (by decide)) T.b_NoExchange_init pass0 (by rfl) T.mg_NoExchange (pa_cons (pv 2) (pa_cons (pv 3) pa_nil)))))) pss_nil))), ?_⟩
    show (_ : TS) _ [some (V.ref f), none, none, none] H
    walk_at "rd"
    refine ⟨f, n, S, rfl, F, fun v H1 e1 pv => ?_⟩
    cases fp : firstPair n S with
    | none =>
      rw [fp] at pv
      obtain rfl : v = .non := pv
      show (if (!decide (V.non = V.non)) = true then _ else _)
      rw [if_neg (by simp)]
      exact k1 fp _ e1
    | some o =>
      rw [fp] at pv
      obtain ⟨q, p1, p2, rfl, h1, h2, h3⟩ := pv
      show (if (!decide (V.ref q = V.non)) = true then _ else _)
      rw [if_pos (by simp)]
      refine ⟨q, rfl, false, _, h1, rfl, _, _, rfl, _, _, rfl, rfl, by decide, fun x hx => no_made hx fun d H' hd ed s => k2 o fp d p1 p2 H' (e1.free hd) ed (s _ _ h2) (s _ _ h3) (e1.trans s)⟩
end

end K32
namespace K32
open PySem PySem.Spec PyProof.Rows L2 Own OwnSeq OwnSet OwnComb OwnSort OwnHot OwnExN OwnProj
local macro_rules | `(tactic| walk_at "rd") => `(tactic| simp only [tSeq, tAsg, tOp, tUn, tVar, gName, gSub, rIxL, rIxT, rSetL, tC, rI0, rI, rU, rEq, rNe, tCons, tNil, tCB, tLst, tTup, tIfS, tAnd, tOr, tNot, tAndV, tOrV, tNotV, tTest, tB, tIf, tRet, tDrop, tNext, tBreak, tCont, tCall, tCallS, L2.WE, tMakeS, rIsS, rIsB, tChain, gSeq, gRest, gCons, gNil, tFor_seq, tFor_enumS, tLc_seq, tLc_enumS, rAny, rAll, L2.tMeth, StX.tStar, rIn, tLstRg, tRg1, tRg2, rSetI, rSortedSet, rInDT, rInD, rNotInD, rEqD, rNeD, iComb, tFld, tMake, tMkO, sFld, tOst, tNever, tBits, clv, isB,
  Rd.tFor_rng1, Rd.tFor_rng2, Rd.tFor_list, Rd.tFor_tup, Rd.tLc_list, Rd.tLc_tup, Rd.tLc_rng1, Rd.LcTurn, tYes, wipe, Rd.rLenL, Rd.rLenT, Rd.rIntI, Rd.rIxH, rIxHT,  HO.tup.injEq, Rd.at0, Rd.at1, Rd.at2, Rd.at3, Rd.ixN40, Rd.ixN41, Rd.ixN42, Rd.ixN43, Rd.scal_ii, cxOf,
  List.length_cons, List.length_nil, List.length_map, List.map_cons, List.map_nil, upd_same, decide_eq_true_eq, decide_true, decide_false, if_true, if_false, Bool.false_eq_true, Bool.not_true, Bool.not_false, HO.lst.injEq, HO.ins.injEq, List.set_cons_zero, List.set_cons_succ, List.getElem?_cons_zero, List.getElem?_cons_succ, List.append_nil, List.nil_append, List.cons_append, Option.some.injEq, V.ref.injEq, V.int.injEq, V.bl.injEq, List.cons.injEq, exists_eq_left', exists_and_left, exists_eq_left, true_and, and_true, and_self, and_assoc, implies_true, reduceCtorEq, Nat.reduceAdd])

/-! ### masks by their bits -/
theorem bit_tb (m k : Nat) : bit m k = m.testBit k := (Nat.testBit_eq_decide_div_mod_eq).symm
theorem sub_bits {x y : Nat} : Sub x y ↔ ∀ g, bit x g = true → bit y g = true := by
  unfold Sub
  simp only [bit_tb]
  refine ⟨fun h g hx => ?_, fun h => Nat.eq_of_testBit_eq fun g => ?_⟩
  · rw [← h, Nat.testBit_and] at hx
    exact (Bool.and_eq_true_iff.mp hx).2
  · rw [Nat.testBit_and]
    cases e : x.testBit g with
    | false => rfl
    | true => rw [h g e]; rfl
theorem mask_ext {x y : Nat} (h : ∀ g, bit x g = bit y g) : x = y := Nat.eq_of_testBit_eq fun g => by
  rw [← bit_tb, ← bit_tb]
  exact h g
theorem bit_lt {m g n : Nat} (hm : m < 2 ^ n) (h : bit m g = true) : g < n := by
  rw [bit_tb] at h
  refine Nat.lt_of_not_le fun z => ?_
  rw [Nat.testBit_lt_two_pow (Nat.lt_of_lt_of_le hm (Nat.pow_le_pow_right (by decide) z))] at h
  cases h
theorem bit_big {m g : Nat} (hm : m < 64) (hg : 6 ≤ g) : bit m g = false := by
  refine Bool.eq_false_iff.mpr fun z => ?_
  have := bit_lt (n := 6) hm z
  omega
theorem offs : ((List.range 64).all fun m => (List.range 6).all fun k => !bit m k || (((List.range 6).all fun j => bit (m - 2 ^ k) j == (bit m j && !decide (j = k))) && decide (pop m = pop (m - 2 ^ k) + 1) && decide (2 ^ k ≤ m))) = true := by decide +kernel
theorem off_at {m k : Nat} (hm : m < 64) (hk : bit m k = true) : (∀ j, bit (m - 2 ^ k) j = (bit m j && !decide (j = k))) ∧ pop m = pop (m - 2 ^ k) + 1 ∧ 2 ^ k ≤ m := by
  have k6 := bit_lt (n := 6) hm hk
  have z := List.all_eq_true.mp (List.all_eq_true.mp offs m (List.mem_range.mpr hm)) k (List.mem_range.mpr k6)
  rw [hk, Bool.not_true, Bool.false_or, Bool.and_eq_true, Bool.and_eq_true, decide_eq_true_eq, decide_eq_true_eq] at z
  refine ⟨fun j => ?_, z.1.2, z.2⟩
  by_cases j6 : j < 6
  · exact beq_iff_eq.mp (List.all_eq_true.mp z.1.1 j (List.mem_range.mpr j6))
  · rw [bit_big hm (by omega), bit_big (Nat.lt_of_le_of_lt (Nat.sub_le _ _) hm) (by omega)]
    rfl
theorem ors : ((List.range 64).all fun m => (List.range 6).all fun k => bit m k || decide (pop (m ||| 2 ^ k) = pop m + 1)) = true := by decide +kernel
theorem pop_or {m k : Nat} (hm : m < 64) (k6 : k < 6) (hk : bit m k = false) : pop (m ||| 2 ^ k) = pop m + 1 := by
  have z := List.all_eq_true.mp (List.all_eq_true.mp ors m (List.mem_range.mpr hm)) k (List.mem_range.mpr k6)
  rw [hk, Bool.false_or] at z
  exact of_decide_eq_true z
theorem eqs : ((List.range 64).all fun m => (List.range 64).all fun m' => !(decide (Sub m' m) && decide (pop m' = pop m)) || decide (m' = m)) = true := by decide +kernel
theorem eq_of_pop {x y : Nat} (hy : y < 64) (s : Sub x y) (p : pop x = pop y) : x = y := by
  have := sub_le s
  have z := List.all_eq_true.mp (List.all_eq_true.mp eqs y (List.mem_range.mpr hy)) x (List.mem_range.mpr (by omega))
  rw [decide_eq_true s, decide_eq_true p, Bool.and_self, Bool.not_true, Bool.false_or] at z
  exact of_decide_eq_true z
theorem bit_orm {x y g : Nat} : bit (x ||| y) g = (bit x g || bit y g) := by
  rw [bit_tb, bit_tb, bit_tb, Nat.testBit_or]
theorem bit_pw {j g : Nat} : bit (2 ^ j) g = decide (j = g) := by
  rw [bit_tb, Nat.testBit_two_pow]
/-! ### the exchange property, by masks -/
def Ex (S : List Bool) : Prop := ∀ x y, In S x = true → In S y = true → pop x < pop y → ∃ g, g < 6 ∧ bit y g = true ∧ bit x g = false ∧ In S (x ||| 2 ^ g) = true
theorem Fam.l64 {n : Nat} {S : List Bool} (F : Fam n S) {m : Nat} (h : In S m = true) : m < 64 := Nat.lt_of_lt_of_le (F.lt h) (pow64 F.n6)
theorem ex_of {n : Nat} {S : List Bool} (F : Fam n S) (fp : firstPair n S = none) : Ex S := fun x y hx hy lt => by
  have n6 := F.n6
  obtain ⟨x1, x2⟩ := bits_in n6 (F.lt hx)
  obtain ⟨y1, y2⟩ := bits_in n6 (F.lt hy)
  have z := List.findSome?_eq_none_iff.mp fp (bits x) (famL_mem.mpr ⟨x2, by rw [x1]; exact hx⟩)
  have z := Option.map_eq_none_iff.mp z
  have z := List.find?_eq_none.mp z (bits y) (famL_mem.mpr ⟨y2, by rw [y1]; exact hy⟩)
  rw [show decide ((bits y).length > (bits x).length) = true from decide_eq_true lt, Bool.true_and] at z
  have z : metL (addL n S (bits x)) (bits y) = true := by cases e : metL (addL n S (bits x)) (bits y) <;> simp_all
  obtain ⟨g, hg, c⟩ := List.any_eq_true.mp z
  obtain ⟨a, b⟩ := List.mem_filter.mp hg
  have r := rest_mem.mp a
  have gy := (mem_bit y2 n6).mp (List.contains_iff_mem.mp c)
  rw [y1] at gy
  have gx : bit x g = false := Bool.eq_false_iff.mpr fun q => r.2 ((mem_bit x2 n6).mpr ⟨gy.1, by rw [x1]; exact q⟩)
  refine ⟨g, gy.1, gy.2, gx, ?_⟩
  rw [x1] at b
  rw [or_add (F.l64 hx) gy.1 gx]
  exact b
/-- a set made as large as another by things of it -/
theorem aug {n : Nat} {S : List Bool} (F : Fam n S) (E : Ex S) : ∀ d x y, In S x = true → In S y = true → pop y - pop x ≤ d → pop x ≤ pop y → ∃ z, In S z = true ∧ Sub x z ∧ Sub z (x ||| y) ∧ pop z = pop y := fun d => by
  induction d with
  | zero => exact fun x y hx hy h1 h2 => ⟨x, hx, Nat.and_self x, sub_bits.mpr fun g h => by rw [bit_orm, h]; rfl, by omega⟩
  | succ d ih =>
    intro x y hx hy h1 h2
    rcases Nat.lt_or_ge (pop x) (pop y) with lt | ge
    · obtain ⟨g, g6, by', bx, h⟩ := E x y hx hy lt
      have p := pop_or (F.l64 hx) g6 bx
      obtain ⟨z, a, b, c, e⟩ := ih (x ||| 2 ^ g) y h hy (by omega) (by omega)
      refine ⟨z, a, sub_bits.mpr fun j hj => sub_bits.mp b j (by rw [bit_orm, hj]; rfl), sub_bits.mpr fun j hj => ?_, e⟩
      have q := sub_bits.mp c j hj
      rw [bit_orm, bit_orm, bit_pw] at q
      rw [bit_orm]
      by_cases ej : g = j
      · subst ej
        rw [by', Bool.or_true]
      · rwa [decide_eq_false ej, Bool.or_false] at q
    · exact ⟨x, hx, Nat.and_self x, sub_bits.mpr fun g h => by rw [bit_orm, h]; rfl, by omega⟩
/-! ### what may be left out -/
theorem bit_andm {x y g : Nat} : bit (x &&& y) g = (bit x g && bit y g) := by
  rw [bit_tb, bit_tb, bit_tb, Nat.testBit_and]
theorem bit_0 (g : Nat) : bit 0 g = false := by
  rw [bit_tb, Nat.zero_testBit]
theorem dis_iff {x y : Nat} : x &&& y = 0 ↔ ∀ g, bit x g = true → bit y g = false := by
  constructor
  · intro h g hx
    have z := bit_andm (x := x) (y := y) (g := g)
    rw [h, bit_0, hx, Bool.true_and] at z
    exact z.symm
  · intro h
    refine mask_ext fun g => ?_
    rw [bit_andm, bit_0]
    cases e : bit x g with
    | false => rfl
    | true => rw [h g e]; rfl
/-- all other things -/
def cm (n m : Nat) : Nat := 2 ^ n - 1 - m
theorem cms : ((List.range 7).all fun n => (List.range (2 ^ n)).all fun m => decide (cm n m < 2 ^ n) && decide (pop (cm n m) + pop m = n) && (List.range 6).all fun g => bit (cm n m) g == (decide (g < n) && !bit m g)) = true := by decide +kernel
theorem cm_at {n m : Nat} (n6 : n ≤ 6) (hm : m < 2 ^ n) : cm n m < 2 ^ n ∧ pop (cm n m) + pop m = n ∧ ∀ g, bit (cm n m) g = (decide (g < n) && !bit m g) := by
  have z := List.all_eq_true.mp (List.all_eq_true.mp cms n (List.mem_range.mpr (by omega))) m (List.mem_range.mpr hm)
  rw [Bool.and_eq_true, Bool.and_eq_true, decide_eq_true_eq, decide_eq_true_eq] at z
  refine ⟨z.1.1, z.1.2, fun g => ?_⟩
  by_cases g6 : g < 6
  · exact beq_iff_eq.mp (List.all_eq_true.mp z.2 g (List.mem_range.mpr g6))
  · have := pow64 n6
    rw [bit_big (by omega) (by omega), decide_eq_false (by omega)]
    rfl
theorem splits : ((List.range 64).all fun x => (List.range 64).all fun y => decide (pop x = pop (x &&& y) + pop (x &&& (63 - y))) && (!decide (x &&& y = 0) || decide (pop (x ||| y) = pop x + pop y)) && (!decide (Sub x y) || decide (pop x ≤ pop y)) && (List.range 6).all fun g => bit (63 - y) g == !bit y g) = true := by decide +kernel
theorem split_at {x y : Nat} (hx : x < 64) (hy : y < 64) : pop x = pop (x &&& y) + pop (x &&& (63 - y)) ∧ (x &&& y = 0 → pop (x ||| y) = pop x + pop y) ∧ (Sub x y → pop x ≤ pop y) ∧ ∀ g, g < 6 → bit (63 - y) g = !bit y g := by
  have z := List.all_eq_true.mp (List.all_eq_true.mp splits x (List.mem_range.mpr hx)) y (List.mem_range.mpr hy)
  rw [Bool.and_eq_true, Bool.and_eq_true, Bool.and_eq_true, decide_eq_true_eq, Bool.or_eq_true, Bool.or_eq_true, decide_eq_true_eq, decide_eq_true_eq] at z
  refine ⟨z.1.1.1, fun h => ?_, fun h => ?_, fun g hg => beq_iff_eq.mp (List.all_eq_true.mp z.2 g (List.mem_range.mpr hg))⟩
  · rcases z.1.1.2 with q | q
    · rw [decide_eq_true h] at q
      cases q
    · exact q
  · rcases z.1.2 with q | q
    · rw [decide_eq_true h] at q
      cases q
    · exact q
theorem sub_lt64 {x y : Nat} (s : Sub x y) (h : y < 64) : x < 64 := Nat.lt_of_le_of_lt (sub_le s) h
theorem pop_mono {x y : Nat} (s : Sub x y) (h : y < 64) : pop x ≤ pop y := (split_at (sub_lt64 s h) h).2.2.1 s
theorem sub_full {n m : Nat} (n6 : n ≤ 6) (hm : m < 2 ^ n) : Sub m (2 ^ n - 1) := sub_bits.mpr fun g hg => by
  have z := (cm_at n6 (Nat.pow_pos (by decide) : 0 < 2 ^ n)).2.2 g
  rw [show cm n 0 = 2 ^ n - 1 from rfl, bit_0, decide_eq_true (bit_lt hm hg)] at z
  exact z

end K32
namespace K32
open PySem PySem.Spec PyProof.Rows L2 Own OwnSeq OwnSet OwnComb OwnSort OwnHot OwnExN OwnProj
local macro_rules | `(tactic| walk_at "rd") => `(tactic| simp only [tSeq, tAsg, tOp, tUn, tVar, gName, gSub, rIxL, rIxT, rSetL, tC, rI0, rI, rU, rEq, rNe, tCons, tNil, tCB, tLst, tTup, tIfS, tAnd, tOr, tNot, tAndV, tOrV, tNotV, tTest, tB, tIf, tRet, tDrop, tNext, tBreak, tCont, tCall, tCallS, L2.WE, tMakeS, rIsS, rIsB, tChain, gSeq, gRest, gCons, gNil, tFor_seq, tFor_enumS, tLc_seq, tLc_enumS, rAny, rAll, L2.tMeth, StX.tStar, rIn, tLstRg, tRg1, tRg2, rSetI, rSortedSet, rInDT, rInD, rNotInD, rEqD, rNeD, iComb, tFld, tMake, tMkO, sFld, tOst, tNever, tBits, clv, isB,
  Rd.tFor_rng1, Rd.tFor_rng2, Rd.tFor_list, Rd.tFor_tup, Rd.tLc_list, Rd.tLc_tup, Rd.tLc_rng1, Rd.LcTurn, tYes, wipe, Rd.rLenL, Rd.rLenT, Rd.rIntI, Rd.rIxH, rIxHT,  HO.tup.injEq, Rd.at0, Rd.at1, Rd.at2, Rd.at3, Rd.ixN40, Rd.ixN41, Rd.ixN42, Rd.ixN43, Rd.scal_ii, cxOf,
  List.length_cons, List.length_nil, List.length_map, List.map_cons, List.map_nil, upd_same, decide_eq_true_eq, decide_true, decide_false, if_true, if_false, Bool.false_eq_true, Bool.not_true, Bool.not_false, HO.lst.injEq, HO.ins.injEq, List.set_cons_zero, List.set_cons_succ, List.getElem?_cons_zero, List.getElem?_cons_succ, List.append_nil, List.nil_append, List.cons_append, Option.some.injEq, V.ref.injEq, V.int.injEq, V.bl.injEq, List.cons.injEq, exists_eq_left', exists_and_left, exists_eq_left, true_and, and_true, and_self, and_assoc, implies_true, reduceCtorEq, Nat.reduceAdd])

/-! ### what two rank functions have in common -/
structure Rk (f : Nat → Nat) : Prop where
  zero : f 0 = 0
  mono : ∀ x y, Sub x y → y < 64 → f x ≤ f y
  one : ∀ g, g < 6 → f (2 ^ g) ≤ 1
  sub : ∀ x y, x < 64 → y < 64 → f (x ||| y) + f (x &&& y) ≤ f x + f y
/-- x without y -/
def dif (x y : Nat) : Nat := x &&& (63 - y)
theorem bit_dif {x y g : Nat} (hx : x < 64) (hy : y < 64) : bit (dif x y) g = (bit x g && !bit y g) := by
  unfold dif
  rw [bit_andm]
  by_cases g6 : g < 6
  · rw [(split_at hy hy).2.2.2 g g6]
  · rw [bit_big hx (by omega)]
    rfl
theorem dif_lt {x y : Nat} (hx : x < 64) : dif x y < 64 := Nat.lt_of_le_of_lt Nat.and_le_left hx
theorem or_lt {x y : Nat} (hx : x < 64) (hy : y < 64) : x ||| y < 64 := Nat.or_lt_two_pow (n := 6) hx hy
theorem and_lt {x y : Nat} (hx : x < 64) : x &&& y < 64 := Nat.lt_of_le_of_lt Nat.and_le_left hx
theorem pw_lt {g : Nat} (h : g < 6) : 2 ^ g < 64 := (Nat.pow_lt_pow_right (by decide : 1 < 2) h : 2 ^ g < 2 ^ 6)
theorem some_bit {m : Nat} (hm : m < 64) (h : m ≠ 0) : ∃ g, g < 6 ∧ bit m g = true := by
  apply Classical.byContradiction
  intro no
  refine h (mask_ext fun g => ?_)
  rw [bit_0]
  cases e : bit m g with
  | false => rfl
  | true => exact absurd ⟨g, bit_lt (n := 6) hm e, e⟩ no
/-- what is left when a thing is taken -/
def con (f : Nat → Nat) (g : Nat) : Nat → Nat := fun x => f (x ||| 2 ^ g) - f (2 ^ g)
theorem Rk.con {f : Nat → Nat} (r : Rk f) {g : Nat} (hg : g < 6) : Rk (con f g) where
  zero := by
    unfold K32.con
    rw [Nat.zero_or, Nat.sub_self]
  mono := fun x y s hy => by
    unfold K32.con
    have := r.mono (x ||| 2 ^ g) (y ||| 2 ^ g) (sub_bits.mpr fun j hj => by
      rw [bit_orm, Bool.or_eq_true] at hj ⊢
      exact hj.imp (sub_bits.mp s j) id) (or_lt hy (pw_lt hg))
    omega
  one := fun j hj => by
    unfold K32.con
    have a := r.sub (2 ^ j) (2 ^ g) (pw_lt hj) (pw_lt hg)
    have := r.one j hj
    omega
  sub := fun x y hx hy => by
    unfold K32.con
    have gl := pw_lt hg
    have a := r.sub (x ||| 2 ^ g) (y ||| 2 ^ g) (or_lt hx gl) (or_lt hy gl)
    rw [show (x ||| 2 ^ g) ||| (y ||| 2 ^ g) = (x ||| y) ||| 2 ^ g from mask_ext fun j => by
        simp only [bit_orm]
        cases bit x j <;> cases bit y j <;> cases bit (2 ^ g) j <;> rfl,
      show (x ||| 2 ^ g) &&& (y ||| 2 ^ g) = (x &&& y) ||| 2 ^ g from mask_ext fun j => by
        simp only [bit_orm, bit_andm]
        cases bit x j <;> cases bit y j <;> cases bit (2 ^ g) j <;> rfl] at a
    have low : ∀ z, z < 64 → f (2 ^ g) ≤ f (z ||| 2 ^ g) := fun z hz => r.mono _ _ (sub_bits.mpr fun j hj => by rw [bit_orm, hj, Bool.or_true]) (or_lt hz gl)
    have l1 := low _ hx
    have l2 := low _ hy
    have l3 := low _ (or_lt hx hy)
    have l4 := low _ (and_lt (y := y) hx)
    omega
theorem meet : ∀ (n k E : Nat) (f1 f2 : Nat → Nat), pop E ≤ n → E < 64 → Rk f1 → Rk f2 → (∀ A, Sub A E → k ≤ f1 A + f2 (dif E A)) → ∃ I, Sub I E ∧ f1 I = pop I ∧ f2 I = pop I ∧ k ≤ pop I
  | n, k, E, f1, f2, hn, hE, r1, r2, hyp => by
    by_cases e0 : E = 0
    · subst e0
      have z := hyp 0 (sub_zero 0)
      rw [r1.zero, show dif 0 0 = 0 from rfl, r2.zero] at z
      exact ⟨0, sub_zero 0, r1.zero, r2.zero, z⟩
    · obtain ⟨g, g6, bg⟩ := some_bit hE e0
      have gl := pw_lt g6
      obtain ⟨ob, op, ol⟩ := off_at hE bg
      obtain ⟨E', hE'⟩ : ∃ E', E' = E - 2 ^ g := ⟨_, rfl⟩
      rw [← hE'] at ob op
      have lE : E' < 64 := hE' ▸ Nat.lt_of_le_of_lt (Nat.sub_le _ _) hE
      have sE : Sub E' E := sub_bits.mpr fun j hj => by
        rw [ob] at hj
        exact (Bool.and_eq_true_iff.mp hj).1
      cases n with
      | zero => omega
      | succ n =>
        by_cases h : ∀ A, Sub A E' → k ≤ f1 A + f2 (dif E' A)
        · obtain ⟨I, i1, i2, i3, i4⟩ := meet n k E' f1 f2 (by omega) lE r1 r2 h
          exact ⟨I, sub_trans i1 sE, i2, i3, i4⟩
        · obtain ⟨A, sA, lo⟩ : ∃ A, Sub A E' ∧ f1 A + f2 (dif E' A) < k := by
            apply Classical.byContradiction
            intro no
            exact h fun A sA => Nat.le_of_not_lt fun z => no ⟨A, sA, z⟩
          have lA := sub_lt64 sA lE
          have noA : bit A g = false := by
            cases e : bit A g with
            | false => rfl
            | true =>
              have z := sub_bits.mp sA g e
              rw [ob] at z
              simp at z
          have bE : ∀ j, bit E j = (bit E' j || decide (g = j)) := fun j => by
            rw [ob]
            by_cases e : j = g
            · subst e
              rw [bg]
              simp
            · rw [decide_eq_false e, decide_eq_false (Ne.symm e)]
              simp
          have subE : ∀ {x : Nat}, Sub x E' → Sub (x ||| 2 ^ g) E := fun s => sub_bits.mpr fun j hj => by
            rw [bit_orm, bit_pw, Bool.or_eq_true] at hj
            rw [bE, Bool.or_eq_true]
            exact hj.imp (sub_bits.mp s j) id
          -- E without x and g, E without x
          have d1 : ∀ {x : Nat}, x < 64 → dif E (x ||| 2 ^ g) = dif E' x := fun hx => mask_ext fun j => by
            rw [bit_dif hE (or_lt hx gl), bit_dif lE hx, ob, bit_orm, bit_pw]
            by_cases e : j = g
            · subst e
              simp
            · rw [decide_eq_false e, decide_eq_false (Ne.symm e)]
              simp
          have d2 : ∀ {x : Nat}, x < 64 → bit x g = false → dif E x = dif E' x ||| 2 ^ g := fun {x} hx nx => mask_ext fun j => by
            rw [bit_orm, bit_dif hE hx, bit_dif lE hx, bE, bit_pw]
            by_cases e : g = j
            · subst e
              rw [nx]
              simp
            · rw [decide_eq_false e]
              simp
          have u1 : f1 (2 ^ g) = 1 := by
            have a := r1.sub A (2 ^ g) lA gl
            have b := hyp _ (subE sA)
            rw [d1 lA] at b
            have := r1.one g g6
            omega
          have u2 : f2 (2 ^ g) = 1 := by
            have a := r2.sub (dif E' A) (2 ^ g) (dif_lt lE) gl
            have b := hyp A (sub_trans sA sE)
            rw [d2 lA noA] at b
            have := r2.one g g6
            omega
          have ge1 : ∀ x, x < 64 → 1 ≤ f1 (x ||| 2 ^ g) := fun x hx => u1 ▸ r1.mono _ _ (sub_bits.mpr fun j hj => by rw [bit_orm, hj, Bool.or_true]) (or_lt hx gl)
          have ge2 : ∀ x, x < 64 → 1 ≤ f2 (x ||| 2 ^ g) := fun x hx => u2 ▸ r2.mono _ _ (sub_bits.mpr fun j hj => by rw [bit_orm, hj, Bool.or_true]) (or_lt hx gl)
          obtain ⟨I, i1, i2, i3, i4⟩ := meet n (k - 1) E' (con f1 g) (con f2 g) (by omega) lE (r1.con g6) (r2.con g6) fun B sB => by
            have lB := sub_lt64 sB lE
            have noB : bit B g = false := by
              cases e : bit B g with
              | false => rfl
              | true =>
                have z := sub_bits.mp sB g e
                rw [ob] at z
                simp at z
            unfold con
            rw [u1, u2]
            have c1 := ge1 B lB
            have c2 := ge2 (dif E' B) (dif_lt lE)
            have a1 := r1.sub A (B ||| 2 ^ g) lA (or_lt lB gl)
            have a2 := r2.sub (dif E' A) (dif E' B ||| 2 ^ g) (dif_lt lE) (or_lt (dif_lt lE) gl)
            have b1 := hyp _ (subE (x := A ||| B) (sub_bits.mpr fun j hj => by
              rw [bit_orm, Bool.or_eq_true] at hj
              exact hj.elim (sub_bits.mp sA j) (sub_bits.mp sB j)))
            have b2 := hyp (A &&& B) (sub_trans (sub_bits.mpr fun j hj => by
              rw [bit_andm, Bool.and_eq_true] at hj
              exact sub_bits.mp sA j hj.1) sE)
            rw [d1 (or_lt lA lB)] at b1
            rw [d2 (and_lt lA) (by rw [bit_andm, noA]; rfl)] at b2
            rw [show A ||| (B ||| 2 ^ g) = (A ||| B) ||| 2 ^ g from mask_ext fun j => by simp only [bit_orm]; cases bit A j <;> cases bit B j <;> cases bit (2 ^ g) j <;> rfl,
              show A &&& (B ||| 2 ^ g) = A &&& B from mask_ext fun j => by
                simp only [bit_orm, bit_andm, bit_pw]
                by_cases e : g = j
                · subst e
                  rw [noA]
                  simp
                · rw [decide_eq_false e, Bool.or_false]] at a1
            rw [show dif E' A ||| (dif E' B ||| 2 ^ g) = dif E' (A &&& B) ||| 2 ^ g from mask_ext fun j => by
                simp only [bit_orm, bit_dif lE lA, bit_dif lE lB, bit_dif lE (and_lt lA), bit_andm]
                cases bit E' j <;> cases bit A j <;> cases bit B j <;> cases bit (2 ^ g) j <;> rfl,
              show dif E' A &&& (dif E' B ||| 2 ^ g) = dif E' (A ||| B) from mask_ext fun j => by
                simp only [bit_orm, bit_dif lE lA, bit_dif lE lB, bit_dif lE (or_lt lA lB), bit_andm, bit_pw]
                by_cases e : g = j
                · subst e
                  rw [ob]
                  simp
                · rw [decide_eq_false e, Bool.or_false]
                  cases bit E' j <;> cases bit A j <;> cases bit B j <;> rfl] at a2
            omega
          have lI := sub_lt64 i1 lE
          have noI : bit I g = false := by
            cases e : bit I g with
            | false => rfl
            | true =>
              have z := sub_bits.mp i1 g e
              rw [ob] at z
              simp at z
          have pI := pop_or lI g6 noI
          unfold con at i2 i3
          rw [u1] at i2
          rw [u2] at i3
          have c1 := ge1 I lI
          have c2 := ge2 I lI
          exact ⟨I ||| 2 ^ g, subE i1, by omega, by omega, by omega⟩
/-! ### ranks -/
section
variable {n : Nat} {S : List Bool}
theorem rk_Rk (F : Fam n S) (E : Ex S) : Rk (rk S) where
  zero := by
    obtain ⟨x, _, a, b⟩ := rk_at F (M := 0)
    have : x = 0 := Nat.le_zero.mp (sub_le a)
    rw [← b, this]
    rfl
  mono := fun x y s _ => by
    obtain ⟨z, a, b, c⟩ := rk_at F (M := x)
    rw [← c]
    exact rk_ge F a (sub_trans b s)
  one := fun g hg => by
    obtain ⟨z, a, b, c⟩ := rk_at F (M := 2 ^ g)
    have := pop_mono b (pw_lt hg)
    have p1 := pop_or (m := 0) (by decide) hg (bit_0 g)
    rw [Nat.zero_or, show pop 0 = 0 from rfl] at p1
    omega
  sub := fun x y hx hy => by
    obtain ⟨i, i1, i2, i3⟩ := rk_at F (M := x &&& y)
    obtain ⟨j, j1, j2, j3⟩ := rk_at F (M := x ||| y)
    have xy : Sub (x &&& y) (x ||| y) := sub_bits.mpr fun g hg => by
      rw [bit_andm, Bool.and_eq_true] at hg
      rw [bit_orm, hg.1]
      rfl
    have le : pop i ≤ pop j := by
      rw [j3]
      exact rk_ge F i1 (sub_trans i2 xy)
    obtain ⟨z, z1, z2, z3, z4⟩ := aug F E (pop j - pop i) i j i1 j1 (Nat.le_refl _) le
    have zl := F.l64 z1
    have zs : Sub z (x ||| y) := sub_trans z3 (sub_bits.mpr fun g hg => by
      rw [bit_orm, Bool.or_eq_true] at hg
      exact hg.elim (sub_bits.mp (sub_trans i2 xy) g) (sub_bits.mp j2 g))
    have dn : ∀ w, In S (z &&& w) = true := fun w => F.down z _ (sub_bits.mpr fun g hg => by rw [bit_andm] at hg; exact (Bool.and_eq_true_iff.mp hg).1) z1
    have a1 := rk_ge F (M := x) (dn x) (sub_bits.mpr fun g hg => by rw [bit_andm] at hg; exact (Bool.and_eq_true_iff.mp hg).2)
    have a2 := rk_ge F (M := y) (dn y) (sub_bits.mpr fun g hg => by rw [bit_andm] at hg; exact (Bool.and_eq_true_iff.mp hg).2)
    -- pop (z&x) + pop (z&y) = pop z + pop (z&x&y)
    have s1 := (split_at zl hx).1
    have s2 := (split_at (and_lt (y := y) zl) hx).1
    have e1 : (z &&& y) &&& (63 - x) = z &&& (63 - x) := mask_ext fun g => by
      have t := bit_dif (x := z) (y := x) (g := g) zl hx
      unfold dif at t
      rw [bit_andm] at t
      rw [bit_andm, bit_andm, bit_andm]
      cases ez : bit z g with
      | false => rfl
      | true =>
        have q := sub_bits.mp zs g ez
        rw [bit_orm] at q
        rw [ez] at t
        rw [Bool.true_and] at t ⊢
        rw [t]
        cases ex : bit x g with
        | true => simp
        | false =>
          rw [ex] at q
          rw [Bool.false_or] at q
          rw [q]
    rw [e1] at s2
    have iz : Sub i ((z &&& y) &&& x) := sub_bits.mpr fun g hg => by
      have q := sub_bits.mp i2 g hg
      rw [bit_andm, Bool.and_eq_true] at q
      rw [bit_andm, bit_andm, sub_bits.mp z2 g hg, q.1, q.2]
      rfl
    have := pop_mono iz (and_lt (and_lt zl))
    omega
theorem rk_in (F : Fam n S) {x : Nat} (hx : x < 64) : rk S x = pop x ↔ In S x = true := by
  constructor
  · intro e
    obtain ⟨z, a, b, c⟩ := rk_at F (M := x)
    rw [← eq_of_pop hx b (c.trans e)]
    exact a
  · intro h
    exact Nat.le_antisymm (by
      obtain ⟨z, a, b, c⟩ := rk_at F (M := x)
      rw [← c]
      exact pop_mono b hx) (rk_ge F h (Nat.and_self x))
end

end K32
namespace K32
open PySem PySem.Spec PyProof.Rows L2 Own OwnSeq OwnSet OwnComb OwnSort OwnHot OwnExN OwnProj
local macro_rules | `(tactic| walk_at "rd") => `(tactic| simp only [tSeq, tAsg, tOp, tUn, tVar, gName, gSub, rIxL, rIxT, rSetL, tC, rI0, rI, rU, rEq, rNe, tCons, tNil, tCB, tLst, tTup, tIfS, tAnd, tOr, tNot, tAndV, tOrV, tNotV, tTest, tB, tIf, tRet, tDrop, tNext, tBreak, tCont, tCall, tCallS, L2.WE, tMakeS, rIsS, rIsB, tChain, gSeq, gRest, gCons, gNil, tFor_seq, tFor_enumS, tLc_seq, tLc_enumS, rAny, rAll, L2.tMeth, StX.tStar, rIn, tLstRg, tRg1, tRg2, rSetI, rSortedSet, rInDT, rInD, rNotInD, rEqD, rNeD, iComb, tFld, tMake, tMkO, sFld, tOst, tNever, tBits, clv, isB,
  Rd.tFor_rng1, Rd.tFor_rng2, Rd.tFor_list, Rd.tFor_tup, Rd.tLc_list, Rd.tLc_tup, Rd.tLc_rng1, Rd.LcTurn, tYes, wipe, Rd.rLenL, Rd.rLenT, Rd.rIntI, Rd.rIxH, rIxHT,  HO.tup.injEq, Rd.at0, Rd.at1, Rd.at2, Rd.at3, Rd.ixN40, Rd.ixN41, Rd.ixN42, Rd.ixN43, Rd.scal_ii, cxOf,
  List.length_cons, List.length_nil, List.length_map, List.map_cons, List.map_nil, upd_same, decide_eq_true_eq, decide_true, decide_false, if_true, if_false, Bool.false_eq_true, Bool.not_true, Bool.not_false, HO.lst.injEq, HO.ins.injEq, List.set_cons_zero, List.set_cons_succ, List.getElem?_cons_zero, List.getElem?_cons_succ, List.append_nil, List.nil_append, List.cons_append, Option.some.injEq, V.ref.injEq, V.int.injEq, V.bl.injEq, List.cons.injEq, exists_eq_left', exists_and_left, exists_eq_left, true_and, and_true, and_self, and_assoc, implies_true, reduceCtorEq, Nat.reduceAdd])

/-! ### what two families make together -/
def unL (n : Nat) (S S' : List Bool) : List Bool := (List.range (2 ^ n)).map fun m => (List.range (2 ^ n)).any fun x => In S x && (List.range (2 ^ n)).any fun y => In S' y && decide (x ||| y = m)
theorem in_un {n : Nat} {S S' : List Bool} {m : Nat} (F : Fam n S) (G : Fam n S') : In (unL n S S') m = true ↔ ∃ x y, In S x = true ∧ In S' y = true ∧ x ||| y = m := by
  unfold unL
  rw [in_range, Bool.and_eq_true, decide_eq_true_eq, List.any_eq_true]
  constructor
  · rintro ⟨_, x, _, h⟩
    obtain ⟨h1, h2⟩ := Bool.and_eq_true_iff.mp h
    obtain ⟨y, _, h3⟩ := List.any_eq_true.mp h2
    obtain ⟨h4, h5⟩ := Bool.and_eq_true_iff.mp h3
    exact ⟨x, y, h1, h4, of_decide_eq_true h5⟩
  · rintro ⟨x, y, h1, h2, rfl⟩
    refine ⟨Nat.or_lt_two_pow (F.lt h1) (G.lt h2), x, List.mem_range.mpr (F.lt h1), ?_⟩
    rw [h1, Bool.true_and]
    exact List.any_eq_true.mpr ⟨y, List.mem_range.mpr (G.lt h2), by rw [h2, decide_eq_true rfl]; rfl⟩
theorem sub_or_l (x y : Nat) : Sub x (x ||| y) := sub_bits.mpr fun g h => by rw [bit_orm, h]; rfl
theorem sub_or_r (x y : Nat) : Sub y (x ||| y) := sub_bits.mpr fun g h => by rw [bit_orm, h, Bool.or_true]
theorem sub_and_l (x y : Nat) : Sub (x &&& y) x := sub_bits.mpr fun g h => by rw [bit_andm] at h; exact (Bool.and_eq_true_iff.mp h).1
theorem sub_and_r (x y : Nat) : Sub (x &&& y) y := sub_bits.mpr fun g h => by rw [bit_andm] at h; exact (Bool.and_eq_true_iff.mp h).2
theorem or_sub {x y z : Nat} (h1 : Sub x z) (h2 : Sub y z) : Sub (x ||| y) z := sub_bits.mpr fun g h => by
  rw [bit_orm, Bool.or_eq_true] at h
  exact h.elim (sub_bits.mp h1 g) (sub_bits.mp h2 g)
theorem and_sub {x y z : Nat} (h1 : Sub z x) (h2 : Sub z y) : Sub z (x &&& y) := sub_bits.mpr fun g h => by
  rw [bit_andm, sub_bits.mp h1 g h, sub_bits.mp h2 g h]
  rfl
theorem fam_un {n : Nat} {S S' : List Bool} (F : Fam n S) (G : Fam n S') : Fam n (unL n S S') where
  n1 := F.n1
  n6 := F.n6
  len := by unfold unL; rw [List.length_map, List.length_range]
  zero := (in_un F G).mpr ⟨0, 0, F.zero, G.zero, rfl⟩
  down := fun m m' s h => by
    obtain ⟨x, y, h1, h2, e⟩ := (in_un F G).mp h
    refine (in_un F G).mpr ⟨x &&& m', y &&& m', F.down _ _ (sub_and_l _ _) h1, G.down _ _ (sub_and_l _ _) h2, mask_ext fun g => ?_⟩
    have z := sub_bits.mp s g
    rw [← e, bit_orm] at z
    rw [bit_orm, bit_andm, bit_andm]
    cases b : bit m' g with
    | false => simp
    | true =>
      rw [Bool.and_true, Bool.and_true]
      exact z b
/-- how many things a part allows -/
def sumU (S S' : List Bool) (M t : Nat) : Nat := pop (M - t) + rk S t + rk S' t
theorem mins : ((List.range 64).all fun m => (List.range 64).all fun t => (!decide (Sub t m) || (decide (m - t = m &&& (63 - t)) && decide (pop (m - t) + pop t = pop m))) && decide (pop (m ||| t) + pop (m &&& t) = pop m + pop t)) = true := by decide +kernel
theorem min_at {m t : Nat} (hm : m < 64) (s : Sub t m) : m - t = dif m t ∧ pop (m - t) + pop t = pop m := by
  have z := List.all_eq_true.mp (List.all_eq_true.mp mins m (List.mem_range.mpr hm)) t (List.mem_range.mpr (sub_lt64 s hm))
  rw [decide_eq_true s, Bool.not_true, Bool.false_or, Bool.and_eq_true, Bool.and_eq_true, decide_eq_true_eq, decide_eq_true_eq] at z
  exact z.1
theorem pop_mod {x y : Nat} (hx : x < 64) (hy : y < 64) : pop (x ||| y) + pop (x &&& y) = pop x + pop y := by
  have z := List.all_eq_true.mp (List.all_eq_true.mp mins x (List.mem_range.mpr hx)) y (List.mem_range.mpr hy)
  exact of_decide_eq_true (Bool.and_eq_true_iff.mp z).2
theorem dif_sub {x y : Nat} : Sub (dif x y) x := sub_and_l _ _
theorem un_le {n : Nat} {S S' : List Bool} {M t : Nat} (F : Fam n S) (G : Fam n S') (hM : M < 64) (s : Sub t M) : rk (unL n S S') M ≤ sumU S S' M t := by
  have U := fam_un F G
  have tl := sub_lt64 s hM
  obtain ⟨z, z1, z2, z3⟩ := rk_at U (M := M)
  obtain ⟨x, y, x1, y1, rfl⟩ := (in_un F G).mp z1
  have xl := F.l64 x1
  have yl := G.l64 y1
  have zl := or_lt xl yl
  have a1 := (split_at zl tl).1
  have a2 := pop_mono (x := dif (x ||| y) t) (y := M - t) (by
    rw [(min_at hM s).1]
    refine sub_bits.mpr fun g h => ?_
    rw [bit_dif zl tl, Bool.and_eq_true] at h
    rw [bit_dif hM tl, sub_bits.mp z2 g h.1, h.2]
    rfl) (by omega)
  have e : (x ||| y) &&& t = (x &&& t) ||| (y &&& t) := mask_ext fun g => by
    simp only [bit_orm, bit_andm]
    cases bit x g <;> cases bit y g <;> cases bit t g <;> rfl
  have a3 := pop_mod (x := x &&& t) (y := y &&& t) (and_lt xl) (and_lt yl)
  have a4 := rk_ge F (M := t) (F.down _ _ (sub_and_l x t) x1) (sub_and_r _ _)
  have a5 := rk_ge G (M := t) (G.down _ _ (sub_and_l y t) y1) (sub_and_r _ _)
  rw [e] at a1
  unfold dif at a2
  unfold sumU
  omega
theorem rk_pop {n : Nat} {S : List Bool} (F : Fam n S) {x y : Nat} (hx : x < 64) (hy : y < 64) : rk S (x ||| y) ≤ rk S x + pop y := by
  obtain ⟨z, z1, z2, z3⟩ := rk_at F (M := x ||| y)
  have zl := F.l64 z1
  have a1 := (split_at zl hx).1
  have a2 := rk_ge F (M := x) (F.down _ _ (sub_and_l z x) z1) (sub_and_r _ _)
  have a3 := pop_mono (x := dif z x) (y := y) (sub_bits.mpr fun g h => by
    rw [bit_dif zl hx, Bool.and_eq_true, Bool.not_eq_true'] at h
    have q := sub_bits.mp z2 g h.1
    rw [bit_orm, h.2, Bool.false_or] at q
    exact q) hy
  unfold dif at a3
  omega
theorem dif_0 {M : Nat} (hM : M < 64) : dif M 0 = M := mask_ext fun g => by
  rw [bit_dif hM (by decide), bit_0]
  cases bit M g <;> rfl
/-- the second family turned over, within M -/
def tu (S' : List Bool) (M : Nat) (x : Nat) : Nat := pop (x &&& M) + rk S' (dif M x) - rk S' M
theorem tu_ge {n : Nat} {S' : List Bool} (G : Fam n S') {M x : Nat} (hM : M < 64) (hx : x < 64) : rk S' M ≤ pop (x &&& M) + rk S' (dif M x) := by
  have a := rk_pop G (x := dif M x) (y := x &&& M) (dif_lt hM) (and_lt hx)
  rw [show dif M x ||| (x &&& M) = M from mask_ext fun g => by
    rw [bit_orm, bit_dif hM hx, bit_andm]
    cases bit M g <;> cases bit x g <;> rfl] at a
  omega
theorem tu_Rk {n : Nat} {S' : List Bool} (G : Fam n S') (E : Ex S') {M : Nat} (hM : M < 64) : Rk (tu S' M) where
  zero := by
    unfold tu
    rw [Nat.zero_and, dif_0 hM, show pop 0 = 0 from rfl, Nat.zero_add, Nat.sub_self]
  mono := fun x y s hy => by
    have hx := sub_lt64 s hy
    have yM : y &&& M < 64 := and_lt hy
    have a1 := (rk_Rk G E).mono (dif M x) (dif M y ||| dif (y &&& M) x) (sub_bits.mpr fun g h => by
      rw [bit_dif hM hx, Bool.and_eq_true] at h
      rw [bit_orm, bit_dif hM hy, bit_dif yM hx, bit_andm, h.1, h.2]
      cases bit y g <;> rfl) (or_lt (dif_lt hM) (dif_lt yM))
    have a2 := rk_pop G (x := dif M y) (y := dif (y &&& M) x) (dif_lt hM) (dif_lt yM)
    have a3 := (split_at yM hx).1
    rw [show (y &&& M) &&& x = x &&& M from mask_ext fun g => by
      rw [bit_andm, bit_andm, bit_andm]
      have := sub_bits.mp s g
      cases e : bit x g with
      | false => simp
      | true => rw [this e]; simp] at a3
    unfold dif at a1 a2
    unfold tu dif
    omega
  one := fun g hg => by
    have gl := pw_lt hg
    have a1 := (rk_Rk G E).mono (dif M (2 ^ g)) M dif_sub hM
    have a2 := pop_mono (sub_and_l (2 ^ g) M) gl
    have a3 : pop (2 ^ g) = 1 := by
      have h : ((List.range 6).all fun g => decide (pop (2 ^ g) = 1)) = true := by decide +kernel
      exact of_decide_eq_true (List.all_eq_true.mp h g (List.mem_range.mpr hg))
    unfold tu
    omega
  sub := fun x y hx hy => by
    have a1 := pop_mod (x := x &&& M) (y := y &&& M) (and_lt hx) (and_lt hy)
    rw [show (x &&& M) ||| (y &&& M) = (x ||| y) &&& M from mask_ext fun g => by
        simp only [bit_orm, bit_andm]
        cases bit x g <;> cases bit y g <;> cases bit M g <;> rfl,
      show (x &&& M) &&& (y &&& M) = (x &&& y) &&& M from mask_ext fun g => by
        simp only [bit_andm]
        cases bit x g <;> cases bit y g <;> cases bit M g <;> rfl] at a1
    have a2 := (rk_Rk G E).sub (dif M x) (dif M y) (dif_lt hM) (dif_lt hM)
    rw [show dif M x ||| dif M y = dif M (x &&& y) from mask_ext fun g => by
        rw [bit_orm, bit_dif hM hx, bit_dif hM hy, bit_dif hM (and_lt hx), bit_andm]
        cases bit x g <;> cases bit y g <;> cases bit M g <;> rfl,
      show dif M x &&& dif M y = dif M (x ||| y) from mask_ext fun g => by
        rw [bit_andm, bit_dif hM hx, bit_dif hM hy, bit_dif hM (or_lt hx hy), bit_orm]
        cases bit x g <;> cases bit y g <;> cases bit M g <;> rfl] at a2
    have g1 := tu_ge G hM hx
    have g2 := tu_ge G hM hy
    have g3 := tu_ge G hM (or_lt hx hy)
    have g4 := tu_ge G hM (and_lt (y := y) hx)
    unfold tu
    omega
theorem un_ge {n : Nat} {S S' : List Bool} {M c : Nat} (F : Fam n S) (G : Fam n S') (E1 : Ex S) (E2 : Ex S') (hM : M < 64) (h : ∀ t, Sub t M → c ≤ sumU S S' M t) : c ≤ rk (unL n S S') M := by
  have pops : pop M ≤ 6 := by
    have h : ((List.range 64).all fun n => decide (pop n ≤ 6)) = true := by decide +kernel
    exact of_decide_eq_true (List.all_eq_true.mp h M (List.mem_range.mpr hM))
  obtain ⟨I, i1, i2, i3, i4⟩ := meet 6 (c - rk S' M) M (rk S) (tu S' M) pops hM (rk_Rk F E1) (tu_Rk G E2 hM) fun A sA => by
    have z := h A sA
    have Al := sub_lt64 sA hM
    unfold sumU at z
    rw [(min_at hM sA).1] at z
    unfold tu
    rw [show dif M A &&& M = dif M A from dif_sub, show dif M (dif M A) = A from mask_ext fun g => by
      rw [bit_dif hM (dif_lt hM), bit_dif hM Al]
      have q := sub_bits.mp sA g
      cases e : bit A g with
      | false => cases bit M g <;> rfl
      | true => rw [q e]; rfl]
    omega
  have Il := sub_lt64 i1 hM
  have inI := (rk_in F Il).mp i2
  have rest : rk S' (dif M I) = rk S' M := by
    have a1 := (rk_Rk G E2).mono (dif M I) M dif_sub hM
    have a2 := tu_ge G hM Il
    unfold tu at i3
    rw [show I &&& M = I from i1] at i3 a2
    by_cases p0 : pop I = 0
    · have : I = 0 := (eq_of_pop Il (sub_zero I) (by rw [p0]; rfl)).symm
      rw [this, dif_0 hM]
    · omega
  obtain ⟨J, j1, j2, j3⟩ := rk_at G (M := dif M I)
  have Jl := G.l64 j1
  have dis : I &&& J = 0 := dis_iff.mpr fun g hg => by
    cases e : bit J g with
    | false => rfl
    | true =>
      have q := sub_bits.mp j2 g e
      rw [bit_dif hM Il, hg] at q
      simp at q
  have pp := (split_at Il Jl).2.1 dis
  have top := rk_ge (fam_un F G) (M := M) (x := I ||| J) ((in_un F G).mpr ⟨I, J, inI, j1, rfl⟩) (or_sub i1 (sub_trans j2 dif_sub))
  omega
/-- the least bound is the rank of what the two make together -/
theorem un_rk {n : Nat} {S S' : List Bool} {M t : Nat} (F : Fam n S) (G : Fam n S') (E1 : Ex S) (E2 : Ex S') (hM : M < 64) (st : Sub t M) (best : ∀ u, Sub u M → sumU S S' M t ≤ sumU S S' M u) : sumU S S' M t = rk (unL n S S') M :=
  Nat.le_antisymm (un_ge F G E1 E2 hM best) (un_le F G hM st)
/-! ### the parts of a set -/
theorem parts_all : ((List.range 64).all fun m => ((partsL (bits m)).all fun t => decide (bits (mk t) = t) && decide (Sub (mk t) m)) && ((List.range 64).all fun t => !decide (Sub t m) || (partsL (bits m)).contains (bits t)) && decide ((partsL (bits m)).length ≤ 64) && decide (0 < (partsL (bits m)).length)) = true := by decide +kernel
theorem parts_at {M : Nat} (hM : M < 64) : (∀ t ∈ partsL (bits M), bits (mk t) = t ∧ Sub (mk t) M) ∧ (∀ x, Sub x M → bits x ∈ partsL (bits M)) ∧ (partsL (bits M)).length ≤ 64 ∧ 0 < (partsL (bits M)).length := by
  have z := List.all_eq_true.mp parts_all M (List.mem_range.mpr hM)
  rw [Bool.and_eq_true, Bool.and_eq_true, Bool.and_eq_true, decide_eq_true_eq, decide_eq_true_eq] at z
  refine ⟨fun t ht => ?_, fun x hx => ?_, z.1.2, z.2⟩
  · have q := List.all_eq_true.mp z.1.1.1 t ht
    rw [Bool.and_eq_true, decide_eq_true_eq, decide_eq_true_eq] at q
    exact q
  · have q := List.all_eq_true.mp z.1.1.2 x (List.mem_range.mpr (sub_lt64 hx hM))
    rw [decide_eq_true hx, Bool.not_true, Bool.false_or] at q
    exact List.contains_iff_mem.mp q
theorem parts_mem {n M : Nat} {t : List Nat} (n6 : n ≤ 6) (hM : M < 2 ^ n) (ht : t ∈ partsL (bits M)) : t ∈ allS n ∧ Sub (mk t) M := by
  have p64 := pow64 n6
  obtain ⟨a, b⟩ := (parts_at (by omega)).1 t ht
  have := sub_le b
  have z := (bits_in n6 (m := mk t) (by omega)).2
  rw [a] at z
  exact ⟨z, b⟩

end K32
namespace K32
open PySem PySem.Spec PyProof.Rows L2 Own OwnSeq OwnSet OwnComb OwnSort OwnHot OwnExN OwnProj
local macro_rules | `(tactic| walk_at "rd") => `(tactic| simp only [tSeq, tAsg, tOp, tUn, tVar, gName, gSub, rIxL, rIxT, rSetL, tC, rI0, rI, rU, rEq, rNe, tCons, tNil, tCB, tLst, tTup, tIfS, tAnd, tOr, tNot, tAndV, tOrV, tNotV, tTest, tB, tIf, tRet, tDrop, tNext, tBreak, tCont, tCall, tCallS, L2.WE, tMakeS, rIsS, rIsB, tChain, gSeq, gRest, gCons, gNil, tFor_seq, tFor_enumS, tLc_seq, tLc_enumS, rAny, rAll, L2.tMeth, StX.tStar, rIn, tLstRg, tRg1, tRg2, rSetI, rSortedSet, rInDT, rInD, rNotInD, rEqD, rNeD, iComb, tFld, tMake, tMkO, sFld, tOst, tNever, tBits, clv, isB,
  Rd.tFor_rng1, Rd.tFor_rng2, Rd.tFor_list, Rd.tFor_tup, Rd.tLc_list, Rd.tLc_tup, Rd.tLc_rng1, Rd.LcTurn, tYes, wipe, Rd.rLenL, Rd.rLenT, Rd.rIntI, Rd.rIxH, rIxHT,  HO.tup.injEq, Rd.at0, Rd.at1, Rd.at2, Rd.at3, Rd.ixN40, Rd.ixN41, Rd.ixN42, Rd.ixN43, Rd.scal_ii, cxOf,
  List.length_cons, List.length_nil, List.length_map, List.map_cons, List.map_nil, upd_same, decide_eq_true_eq, decide_true, decide_false, if_true, if_false, Bool.false_eq_true, Bool.not_true, Bool.not_false, HO.lst.injEq, HO.ins.injEq, List.set_cons_zero, List.set_cons_succ, List.getElem?_cons_zero, List.getElem?_cons_succ, List.append_nil, List.nil_append, List.cons_append, Option.some.injEq, V.ref.injEq, V.int.injEq, V.bl.injEq, List.cons.injEq, exists_eq_left', exists_and_left, exists_eq_left, true_and, and_true, and_self, and_assoc, implies_true, reduceCtorEq, Nat.reduceAdd])

section
variable {P : Program} {w : World} {K : PySem.W.Frag} {mg : Str → Option Value} {base : Heap} {a : Ad}
/-- how the first family's fault leaves -/
def Raises (NC : Addr) (n : Nat) (S : List Bool) (H : Hp) (E : XK) : Prop := ∀ p, firstPair n S = some p → ∀ d p1 p2 H', H d = none → H' d = some (.xd [("larger", .ref p2), ("smaller", .ref p1)]) → H' p1 = some (.tup (iv p.1)) → H' p2 = some (.tup (iv p.2)) → Same H H' → E (.ref NC) (some d) H'
theorem Raises.same {NC n : Addr} {S : List Bool} {H H1 : Hp} {E : XK} (r : Raises NC n S H E) (e : Same H H1) : Raises NC n S H1 E := fun p h d p1 p2 H' hd a b c e' => r p h d p1 p2 H' (e.free hd) a b c (e.trans e')
theorem rests : ((List.range 7).all fun n => (allS n).all fun s => (allS n).contains (restL (List.range n) s) && decide (mk (restL (List.range n) s) = cm n (mk s)) && (allS n).contains (List.range n) && decide (mk (List.range n) = 2 ^ n - 1)) = true := by decide +kernel
theorem rest_at {n : Nat} {s : List Nat} (n6 : n ≤ 6) (hs : s ∈ allS n) : restL (List.range n) s ∈ allS n ∧ mk (restL (List.range n) s) = cm n (mk s) ∧ List.range n ∈ allS n ∧ mk (List.range n) = 2 ^ n - 1 := by
  have z := List.all_eq_true.mp (List.all_eq_true.mp rests n (List.mem_range.mpr (by omega))) s hs
  simp only [Bool.and_eq_true, decide_eq_true_eq] at z
  exact ⟨List.contains_iff_mem.mp z.1.1.1, z.1.1.2, List.contains_iff_mem.mp z.1.2, z.2⟩
theorem tups_last {H : Hp} : ∀ {us : List V} {L : List (List Nat)} {s : List Nat}, Tups H us (L ++ [s]) → ∃ us' q, us = us' ++ [.ref q] ∧ H q = some (.tup (iv s))
  | [_], [], _, ⟨⟨q, e, h⟩, _⟩ => ⟨[], q, by rw [e]; rfl, h⟩
  | v :: us, _ :: L, s, ⟨_, r⟩ => by
    obtain ⟨us', q, e, h⟩ := tups_last (L := L) r
    exact ⟨v :: us', q, by rw [e]; rfl, h⟩
  | _ :: _ :: _, [], _, ⟨_, r⟩ => r.elim
  | [], [], _, h => h.elim
  | [], _ :: _, _, h => h.elim
/-! ### need_both -/
def spBoth (C NC : Addr) : Sp := fun vs H Q E => ∃ (f g n : Nat) (S S' : List Bool), vs = [.ref f, .ref g] ∧ FamV C H f n S ∧ FamV C H g n S' ∧ (firstPair n S = none → firstPair n S' = none → ∀ H', Same H H' → Q .non H') ∧ Raises NC n S H E ∧ (firstPair n S = none → Raises NC n S' H E)
theorem sc_need_both : FnScope ["one", "other"] ["one", "other"] (defScope s_need_both) := ⟨rfl, rfl, rfl, by decide +kernel, rfl, by decide +kernel, by decide +kernel⟩
theorem ok_need_both (T : Txt K mg a) : FnOk P w K mg base (L2N.CX P w) 6 a.a_need_both a.d_need_both ["one", "other"] (spBoth a.C_Family a.C_NoExchange) := by
  refine okN T.fn_need_both sc_need_both (fun vs H Q E h => ?_) (fun cdv A outer s H vs Q E hr h => ?_)
  · obtain ⟨f, g, n, S, S', rfl, _⟩ := h
    rfl
  · obtain ⟨f, g, n, S, S', rfl, F, G, k, r1, r2⟩ := h
    refine ⟨_, (pss_cons (ps_expr (pe_callS (ok_need_exchange T) (hr.mono (by decide)) (by rfl) T.mg_need_exchange T.fn_need_exchange.kp T.b_need_exchange (fun σ => L2N.passAt (L2N.takes_of rfl rfl rfl rfl) σ) (pa_cons (pv 0) pa_nil)))
      (pss_one (ps_expr (pe_callS (ok_need_exchange T) (hr.mono (by decide)) (by rfl) T.mg_need_exchange T.fn_need_exchange.kp T.b_need_exchange (fun σ => L2N.passAt (L2N.takes_of rfl rfl rfl rfl) σ) (pa_cons (pv 1) pa_nil))))), ?_⟩
    show (_ : TS) _ [some (V.ref f), some (V.ref g)] H
    walk_at "rd"
    refine ⟨f, n, S, rfl, F, fun fp H1 e1 => ?_, r1⟩
    refine ⟨g, n, S', rfl, G.same e1, fun fp2 H2 e2 => k fp fp2 _ (e1.trans e2), (r2 fp).same e1⟩
end

end K32
namespace K32
open PySem PySem.Spec PyProof.Rows L2 Own OwnSeq OwnSet OwnComb OwnSort OwnHot OwnExN OwnProj
local macro_rules | `(tactic| walk_at "rd") => `(tactic| simp only [tSeq, tAsg, tOp, tUn, tVar, gName, gSub, rIxL, rIxT, rSetL, tC, rI0, rI, rU, rEq, rNe, tCons, tNil, tCB, tLst, tTup, tIfS, tAnd, tOr, tNot, tAndV, tOrV, tNotV, tTest, tB, tIf, tRet, tDrop, tNext, tBreak, tCont, tCall, tCallS, L2.WE, tMakeS, rIsS, rIsB, tChain, gSeq, gRest, gCons, gNil, tFor_seq, tFor_enumS, tLc_seq, tLc_enumS, rAny, rAll, L2.tMeth, StX.tStar, rIn, tLstRg, tRg1, tRg2, rSetI, rSortedSet, rInDT, rInD, rNotInD, rEqD, rNeD, iComb, tFld, tMake, tMkO, sFld, tOst, tNever, tBits, clv, isB,
  Rd.tFor_rng1, Rd.tFor_rng2, Rd.tFor_list, Rd.tFor_tup, Rd.tLc_list, Rd.tLc_tup, Rd.tLc_rng1, Rd.LcTurn, tYes, wipe, Rd.rLenL, Rd.rLenT, Rd.rIntI, Rd.rIxH, rIxHT,  HO.tup.injEq, Rd.at0, Rd.at1, Rd.at2, Rd.at3, Rd.ixN40, Rd.ixN41, Rd.ixN42, Rd.ixN43, Rd.scal_ii, cxOf,
  List.length_cons, List.length_nil, List.length_map, List.map_cons, List.map_nil, upd_same, decide_eq_true_eq, decide_true, decide_false, if_true, if_false, Bool.false_eq_true, Bool.not_true, Bool.not_false, HO.lst.injEq, HO.ins.injEq, List.set_cons_zero, List.set_cons_succ, List.getElem?_cons_zero, List.getElem?_cons_succ, List.append_nil, List.nil_append, List.cons_append, Option.some.injEq, V.ref.injEq, V.int.injEq, V.bl.injEq, List.cons.injEq, exists_eq_left', exists_and_left, exists_eq_left, true_and, and_true, and_self, and_assoc, implies_true, reduceCtorEq, Nat.reduceAdd])

theorem Tups.seqs {H : Hp} : ∀ {xs : List V} {ss : List (List Nat)}, Tups H xs ss → Seqs H xs ss
  | [], [], _ => trivial
  | _ :: _, _ :: _, ⟨⟨q, e, h⟩, r⟩ => ⟨⟨q, false, e, h⟩, Tups.seqs r⟩
  | [], _ :: _, h => h.elim
  | _ :: _, [], h => h.elim
/-- a family made of a list of sets -/
theorem make_fam {C l : Addr} {H1 : Hp} {n : Nat} {S : List Bool} {xs : List V} {ss : List (List Nat)} {Q : VK} (hl : H1 l = some (.lst xs)) (tu : Tups H1 xs ss) (F : Fam n S) (l64 : ss.length ≤ 64) (mem : ∀ s, s ∈ ss ↔ s ∈ famL n S)
    (k : ∀ g H', H1 g = none → Same H1 H' → FamV C H' g n S → Q (.ref g) H') (x dx : Addr) (hx : H1 x = none) (hdx : H1 dx = none) (ne : dx ≠ x) :
    spFam C [.ref x, .int n, .ref l] (upd (upd H1 dx (.own x)) x (.ins C dx [])) (fun v H2 => v = .non ∧ Q (.ref x) H2) E0 := by
  have s1 : Same H1 (upd H1 dx (.own x)) := same_upd hdx
  have s2 : Same (upd H1 dx (.own x)) (upd (upd H1 dx (.own x)) x (.ins C dx [])) := same_upd ((upd_ne ne.symm).trans hx)
  have s12 := s1.trans s2
  refine ⟨x, dx, l, n, S, xs, ss, rfl, upd_same, s12 _ _ hl, tu.seqs.same s12, F, l64, mem, fun t ys H3 H4 e3 ht tt e4 => ⟨rfl, ?_⟩⟩
  subst e4
  have x3 := e3 _ _ upd_same
  exact k x _ hx (fun b o hb => (upd_ne (ne_of_none hb hx)).trans (e3 _ _ (s12 _ _ hb))) ⟨F, dx, t, ys, upd_same, (upd_ne fun z => by rw [z, x3] at ht; cases ht).trans ht, Tups.keep (fun z l h => (upd_ne fun e => by rw [e, x3] at h; cases h).trans h) tt⟩
theorem pi_told {X : Cx} {e tg : Expr} {te : TE} (K : PySem.W.Frag) (he : PE X e te) (hK : X.K = K := by rfl) : PI X tg e (iSeq K te) := hK ▸ pi_seq he
open OwnTups (Tp)
/-- two sets together -/
theorem joined_at {n : Nat} {s t u : List Nat} (n6 : n ≤ 6) (hs : s ∈ allS n) (ht : t ∈ allS n) (hu : u.Pairwise (· < ·)) (mem : ∀ x, x ∈ u ↔ x ∈ s ∨ x ∈ t) : u = bits (mk s ||| mk t) := by
  refine asc_ext hu (List.Pairwise.filter _ List.pairwise_lt_range) fun x => ?_
  rw [mem, mem_bit hs n6, mem_bit ht n6]
  unfold bits
  rw [List.mem_filter, List.mem_range, bit_orm, Bool.or_eq_true]
  exact ⟨fun h => h.elim (fun h => ⟨h.1, .inl h.2⟩) fun h => ⟨h.1, .inr h.2⟩, fun h => h.2.elim (fun z => .inl ⟨h.1, z⟩) fun z => .inr ⟨h.1, z⟩⟩
/-- the joined sets, one by one -/
def jn (s t : List Nat) : List Nat := bits (mk s ||| mk t)
def allJ (n : Nat) (S S' : List Bool) : List (List Nat) := (famL n S).flatMap fun s => (famL n S').map (jn s)
theorem mem_allJ {n : Nat} {S S' : List Bool} {s : List Nat} (F : Fam n S) (G : Fam n S') : s ∈ allJ n S S' ↔ s ∈ famL n (unL n S S') := by
  have n6 := F.n6
  unfold allJ
  rw [List.mem_flatMap, famL_mem]
  constructor
  · rintro ⟨x, hx, h⟩
    obtain ⟨y, hy, rfl⟩ := List.mem_map.mp h
    obtain ⟨x1, x2⟩ := famL_mem.mp hx
    obtain ⟨y1, y2⟩ := famL_mem.mp hy
    obtain ⟨b1, b2⟩ := bits_in n6 (m := mk x ||| mk y) (Nat.or_lt_two_pow (F.lt x2) (G.lt y2))
    exact ⟨b2, (in_un F G).mpr ⟨mk x, mk y, x2, y2, b1.symm⟩⟩
  · rintro ⟨h1, h2⟩
    obtain ⟨x, y, x2, y2, e⟩ := (in_un F G).mp h2
    obtain ⟨a1, a2⟩ := bits_in n6 (F.lt x2)
    obtain ⟨b1, b2⟩ := bits_in n6 (G.lt y2)
    refine ⟨bits x, famL_mem.mpr ⟨a2, by rw [a1]; exact x2⟩, List.mem_map.mpr ⟨bits y, famL_mem.mpr ⟨b2, by rw [b1]; exact y2⟩, ?_⟩⟩
    unfold jn
    rw [a1, b1, e]
    exact (allS_at h1 n6).1
theorem flat_le {α β : Type} {f : α → List β} {k : Nat} (h : ∀ x, (f x).length ≤ k) : ∀ l : List α, (l.flatMap f).length ≤ l.length * k
  | [] => Nat.zero_le _
  | x :: l => by
    rw [List.flatMap_cons, List.length_append, List.length_cons, Nat.succ_mul]
    have := flat_le h l
    have := h x
    omega
theorem Tups.keys {H : Hp} : ∀ {ys : List V} {gs : List (List Nat)}, Tups H ys gs → ∃ ks : List Tp, ys = ks.map (fun q => V.ref q.1) ∧ (∀ q ∈ ks, H q.1 = some (.tup (q.2.map V.int))) ∧ ks.map (·.2) = gs.map fun g => g.map fun x : Nat => (x : Int)
  | [], [], _ => ⟨[], rfl, fun q hq => (by cases hq), rfl⟩
  | v :: ys, g :: gs, ⟨⟨q, e, h⟩, r⟩ => by
    obtain ⟨ks, h1, h2, h3⟩ := Tups.keys r
    refine ⟨(q, g.map fun x : Nat => (x : Int)) :: ks, by rw [e, h1]; rfl, fun p hp => ?_, by rw [List.map_cons, List.map_cons, h3]⟩
    rcases List.mem_cons.mp hp with rfl | hp
    · rw [h]
      show some (HO.tup (iv g)) = some (HO.tup ((g.map fun x : Nat => (x : Int)).map V.int))
      rw [List.map_map]
      rfl
    · exact h2 p hp
  | [], _ :: _, h => h.elim
  | _ :: _, [], h => h.elim
theorem back (g : List Nat) : (g.map fun x : Nat => (x : Int)).map Int.toNat = g := by
  rw [List.map_map]
  exact (List.map_congr_left fun x _ => Int.toNat_natCast x).trans (List.map_id g)
/-- tuples of a list, in whatever order -/
theorem keys_tups {H : Hp} : ∀ (N : List Tp), (∀ q ∈ N, H q.1 = some (.tup (q.2.map V.int)) ∧ ∃ g : List Nat, q.2 = g.map fun x : Nat => (x : Int)) → Tups H (N.map fun q => V.ref q.1) (N.map fun q => q.2.map Int.toNat)
  | [], _ => trivial
  | q :: N, h => by
    obtain ⟨h1, g, h2⟩ := h q (.head _)
    refine ⟨⟨q.1, rfl, ?_⟩, keys_tups N fun p hp => h p (.tail _ hp)⟩
    rw [h1]
    show some (HO.tup (q.2.map V.int)) = some (HO.tup (iv (q.2.map Int.toNat)))
    rw [h2, back, List.map_map]
    rfl
theorem fst_snd {L : List Tp} {gs : List (List Nat)} (h : ∀ q ∈ L, ∃ g ∈ gs, q.2 = g.map fun x : Nat => (x : Int)) (c : ∀ g ∈ gs, (g.map fun x : Nat => (x : Int)) ∈ L.map (·.2)) {N : List Tp} (pm : N.Perm L) (s : List Nat) : s ∈ (N.map fun q => q.2.map Int.toNat) ↔ s ∈ gs := by
  rw [List.mem_map]
  constructor
  · rintro ⟨q, hq, rfl⟩
    obtain ⟨g, hg, e⟩ := h q (pm.mem_iff.mp hq)
    rw [e, back]
    exact hg
  · intro hs
    obtain ⟨q, hq, e⟩ := List.mem_map.mp (c s hs)
    exact ⟨q, pm.mem_iff.mpr hq, by rw [e, back]⟩
section
variable {P : Program} {w : World} {K : PySem.W.Frag} {mg : Str → Option Value} {base : Heap} {a : Ad}
/-! ### union -/
def spUn (C NC : Addr) : Sp := fun vs H Q E => ∃ (f g n : Nat) (S S' : List Bool), vs = [.ref f, .ref g] ∧ FamV C H f n S ∧ FamV C H g n S' ∧ (firstPair n S = none → firstPair n S' = none → ∀ u H', H u = none → Same H H' → FamV C H' u n (unL n S S') → Q (.ref u) H') ∧
  Raises NC n S H E ∧ (firstPair n S = none → Raises NC n S' H E)
theorem sc_union : FnScope ["one", "other", "held", "added"] ["one", "other"] (defScope s_union) := ⟨rfl, rfl, rfl, by decide +kernel, rfl, by decide +kernel, by decide +kernel⟩
theorem ok_union (T : Txt K mg a) : FnOk P w K mg base (L2N.CX P w) 9 a.a_union a.d_union ["one", "other"] (spUn a.C_Family a.C_NoExchange) := by
  refine okN T.fn_union sc_union (fun vs H Q E h => ?_) (fun cdv A outer s H vs Q E hr h => ?_)
  · obtain ⟨f, g, n, S, S', rfl, _⟩ := h
    rfl
  · obtain ⟨f, g, n, S, S', rfl, F, G, k, r1, r2⟩ := h
    refine ⟨_, (pss_cons (ps_expr (pe_callS (ok_need_both T) (hr.mono (by decide)) (by rfl) T.mg_need_both T.fn_need_both.kp T.b_need_both (fun σ => L2N.passAt (L2N.takes_of rfl rfl rfl rfl) σ) (pa_cons (pv 0) (pa_cons (pv 1) pa_nil))))
      (pss_one (ps_ret (pe_make T.mk_Family (ok_Family_init T) (hr.mono (by decide)) (by rfl) T.mg_Family T.b_Family_init .nil pass0 (pa_cons (pe_fldK K (pv 0)) (pa_cons (pe_callB (OwnTups.cr_sortB rfl hr.units) (by rfl) T.no_sorted (by decide +kernel) (pa_cons (pe_callTy (OwnTups.cr_setB rfl hr.units) (by rfl) T.no_set (by decide +kernel) (pa_cons (pe_lc2 (own := [("held", 2), ("added", 3)]) (vs1 := [3]) (by rfl) sc_union.nd (pi_seq (pe_fldK K (pv 0))) (blkOk_by (own := [("held", 2), ("added", 3)]) (N := ["one", "other", "held", "added"]) (sc := defScope s_union) (by decide +kernel)) (by decide) (fun _ _ _ _ _ => pg_name (i := 2) sc_union.nd rfl (Or.inl rfl)) (fun _ _ _ _ _ => pts_nil) (fun _ _ _ _ _ => (pi_told K (pe_fldK K (pv 1)))) (fun _ _ _ _ _ => pg_name (i := 3) sc_union.nd rfl (Or.inl rfl)) (fun _ _ _ _ _ => pts_nil) (fun _ _ _ _ _ => (pe_call (ok_joined T) (hr.mono (by decide)) (by rfl) T.mg_joined T.fn_joined.kp T.b_joined .nil pass0 (pa_cons (pv 2) (pa_cons (pv 3) pa_nil))))) pa_nil)) pa_nil)) pa_nil)))))), ?_⟩
    show (_ : TS) _ [some (V.ref f), some (V.ref g), none, none] H
    have n6 := F.fam.n6
    have p64 := pow64 n6
    walk_at "rd"
    refine ⟨f, g, n, S, S', rfl, F, G, fun fp1 fp2 H1 e1 => ?_, r1, r2⟩
    unfold tLc2 iSeq
    simp only [OwnTups.rSetB, OwnTups.rSortB]
    walk_at "rd"
    obtain ⟨dx, t, ys, hf, ht, tv⟩ := (F.same e1).ob
    obtain ⟨dy, t2, zs, hg, ht2, tv2⟩ := (G.same e1).ob
    refine ⟨_, dx, ff t n, hf, T.cl_Family, T.na_Family_size, _, ff_size t n, _, dx, ff t n, hf, T.cl_Family, T.na_Family_sets, _, ff_sets t n, t, rfl, false, ys, ht, fun D hD => ?_⟩
    have fl := famL_len (S := S) n6
    have fl2 := famL_len (S := S') n6
    have len := tv.len
    have len2 := tv2.len
    refine ⟨fun i m H' => m = (famL n S).length - i ∧ i ≤ (famL n S).length ∧ ∃ us, Same H1 H' ∧ H' D = some (.lst us) ∧ Tups H' us (((famL n S).take i).flatMap fun s => (famL n S').map (jn s)), ⟨_, rfl, Nat.zero_le _, [], same_upd hD, upd_same, trivial⟩, fun i m H2 ⟨em, hi, us, e2, a2, tu⟩ => ?_⟩
    have il := flat_le (f := fun s => (famL n S').map (jn s)) (k := 64) (fun x => by rw [List.length_map]; omega) ((famL n S).take i)
    rw [List.length_take] at il
    rcases Nat.lt_or_eq_of_le hi with lt | eq
    · refine .inr ⟨goes_seq.go i H2 (by rw [len]; exact lt) (e2 _ _ ht), fun H' => ∃ us, Same H1 H' ∧ H' D = some (.lst us) ∧ Tups H' us (((famL n S).take (i + 1)).flatMap fun s => (famL n S').map (jn s)), fun H' z => ⟨(famL n S).length - (i + 1), by omega, rfl, lt, z⟩, fun x H' yl => ?_⟩
      obtain ⟨rfl, hx⟩ := goes_seq.yld i H2 x H' (e2 _ _ ht) yl
      obtain ⟨s', hs, p1, rfl, hp1⟩ := (tv.same e2).at hx
      rw [List.take_add_one, hs, show (some s').toList = [s'] from rfl, List.flatMap_append, List.flatMap_cons, List.flatMap_nil, List.append_nil]
      generalize ((famL n S).take i).flatMap (fun s => (famL n S').map (jn s)) = FL at tu il ⊢
      refine ⟨_, dy, ff t2 n, e2 _ _ hg, T.cl_Family, T.na_Family_sets, _, ff_sets t2 n, t2, rfl, false, zs, e2 _ _ ht2, ?_⟩
      have sm := (famL_mem.mp (List.mem_of_getElem? hs)).1
      refine ⟨fun j k H' => k = (famL n S').length - j ∧ j ≤ (famL n S').length ∧ ∃ us, Same H1 H' ∧ H' D = some (.lst us) ∧ Tups H' us (FL ++ ((famL n S').take j).map (jn s')), ⟨_, rfl, Nat.zero_le _, us, e2, a2, by rw [List.take_zero, List.map_nil, List.append_nil]; exact tu⟩, fun j k H3 ⟨ek, hj, us3, e3, a3, tu3⟩ => ?_⟩
      rcases Nat.lt_or_eq_of_le hj with lt2 | eq2
      · refine .inr ⟨goes_seq.go j H3 (by rw [len2]; exact lt2) (e3 _ _ ht2), fun H' => ∃ us, Same H1 H' ∧ H' D = some (.lst us) ∧ Tups H' us (FL ++ ((famL n S').take (j + 1)).map (jn s')), fun H' z => ⟨_, by omega, rfl, lt2, z⟩, fun y H4 yl => ?_⟩
        obtain ⟨rfl, hy⟩ := goes_seq.yld j H3 y H4 (e3 _ _ ht2) yl
        obtain ⟨t', ht', p2, rfl, hp2⟩ := (tv2.same e3).at hy
        have tm := (famL_mem.mp (List.mem_of_getElem? ht')).1
        have s6 := (allS_at sm n6).2.2.2.1
        have t6 := (allS_at tm n6).2.2.2.1
        have hp1' : H4 p1 = some (.tup (iv s')) := by
          obtain ⟨s2, hs2, q2, eq, hq2⟩ := (tv.same e3).at hx
          cases eq
          rw [hs] at hs2
          cases hs2
          exact hq2
        refine ⟨p1, p2, false, false, s', t', rfl, hp1', hp2, by omega, by omega, fun r u H5 _ e5 pw mem ar => ⟨us3, e5 _ _ a3, ?_, us3 ++ [.ref r], fun b o hb => (upd_ne (ne_of_none hb hD)).trans (e5 _ _ (e3 _ _ hb)), upd_same, ?_⟩⟩
        · have l3 := tu3.len
          rw [List.length_append, List.length_map, List.length_take] at l3
          rw [l3, sizeLine_eq]
          omega
        · have ue := joined_at n6 sm tm pw mem
          rw [List.take_add_one, ht', show (some t').toList = [t'] from rfl, List.map_append, ← List.append_assoc]
          refine Tups.upd (e5 _ _ a3) (Tups.app (tu3.same e5) ⟨⟨r, rfl, ?_⟩, trivial⟩)
          rw [ar, ue]
          rfl
      · subst eq2
        rw [List.take_length] at tu3
        exact .inl ⟨by have z := (goes_seq (K := K) (a := t2) (l := false) (xs := zs)).stop H3 (e3 _ _ ht2); rw [len2] at z; exact z, us3, e3, a3, tu3⟩
    · subst eq
      rw [List.take_length] at tu il
      have tu : Tups H2 us (allJ n S S') := tu
      obtain ⟨ks, k1, k2, k3⟩ := tu.keys
      have kg : ∀ q ∈ ks, ∃ g ∈ allJ n S S', q.2 = g.map fun x : Nat => (x : Int) := fun q hq => by
        have m : q.2 ∈ ks.map (·.2) := List.mem_map.mpr ⟨q, hq, rfl⟩
        rw [k3] at m
        obtain ⟨g, hg, e⟩ := List.mem_map.mp m
        exact ⟨g, hg, e.symm⟩
      have al : ∀ g ∈ allJ n S S', g ∈ allS n := fun g hg => (famL_mem.mp ((mem_allJ F.fam G.fam).mp hg)).1
      refine .inl ⟨by have z := (goes_seq (K := K) (a := t) (l := false) (xs := ys)).stop H2 (e2 _ _ ht); rw [len] at z; exact z, ks, SqL.of (by rw [a2, k1]), fun q hq => SqT.of (k2 q hq), (allS n).map fun g => g.map fun x : Nat => (x : Int), by rw [List.length_map, allS_len n6]; exact p64, fun q hq => ?_, fun c L hc sub cov nd => ⟨L, rfl, fun q hq => SqT.of ((upd_ne (fun z => by have := k2 q (sub q hq); rw [z, hc] at this; cases this)).trans (k2 q (sub q hq))), fun N p pm few hp x dx hx hdx ne => ?_⟩⟩
      · obtain ⟨g, hg, e⟩ := kg q hq
        rw [e]
        exact List.mem_map.mpr ⟨g, al g hg, rfl⟩
      · have s1 := same_upd (o := OwnTups.BigO P w c L) hc
        have s2 := same_upd (o := .lst (N.map fun q => V.ref q.1)) hp
        have s12 := s1.trans s2
        have tn := keys_tups (H := upd (upd H2 c (OwnTups.BigO P w c L)) p (.lst (N.map fun q => V.ref q.1))) N fun q hq => by
          have ql := sub q (pm.mem_iff.mp hq)
          obtain ⟨g, _, e⟩ := kg q ql
          exact ⟨s12 _ _ (k2 q ql), g, e⟩
        refine make_fam upd_same tn (fam_un F.fam G.fam) (by rw [List.length_map, pm.length_eq]; exact few) (fun s0 => ?_) (fun u H' u0 e' W => k fp1 fp2 u H' ((((e1.trans e2).trans s12).free) u0) (((e1.trans e2).trans s12).trans e') W) x dx hx hdx ne
        rw [fst_snd (fun q hq => kg q (sub q hq)) (fun g hg => ?_) pm s0]
        · exact mem_allJ F.fam G.fam
        · have m : (g.map fun x : Nat => (x : Int)) ∈ ks.map (·.2) := by
            rw [k3]
            exact List.mem_map.mpr ⟨g, hg, rfl⟩
          obtain ⟨q, hq, e⟩ := List.mem_map.mp m
          rw [← e]
          exact cov q hq
end

end K32
namespace K32
open PySem PySem.Spec PyProof.Rows L2 Own OwnSeq OwnSet OwnComb OwnSort OwnHot OwnExN OwnProj
local macro_rules | `(tactic| walk_at "rd") => `(tactic| simp only [tSeq, tAsg, tOp, tUn, tVar, gName, gSub, rIxL, rIxT, rSetL, tC, rI0, rI, rU, rEq, rNe, tCons, tNil, tCB, tLst, tTup, tIfS, tAnd, tOr, tNot, tAndV, tOrV, tNotV, tTest, tB, tIf, tRet, tDrop, tNext, tBreak, tCont, tCall, tCallS, L2.WE, tMakeS, rIsS, rIsB, tChain, gSeq, gRest, gCons, gNil, tFor_seq, tFor_enumS, tLc_seq, tLc_enumS, rAny, rAll, L2.tMeth, StX.tStar, rIn, tLstRg, tRg1, tRg2, rSetI, rSortedSet, rInDT, rInD, rNotInD, rEqD, rNeD, iComb, tFld, tMake, tMkO, sFld, tOst, tNever, tBits, clv, isB,
  Rd.tFor_rng1, Rd.tFor_rng2, Rd.tFor_list, Rd.tFor_tup, Rd.tLc_list, Rd.tLc_tup, Rd.tLc_rng1, Rd.LcTurn, tYes, wipe, Rd.rLenL, Rd.rLenT, Rd.rIntI, Rd.rIxH, rIxHT,  HO.tup.injEq, Rd.at0, Rd.at1, Rd.at2, Rd.at3, Rd.ixN40, Rd.ixN41, Rd.ixN42, Rd.ixN43, Rd.scal_ii, cxOf,
  List.length_cons, List.length_nil, List.length_map, List.map_cons, List.map_nil, upd_same, decide_eq_true_eq, decide_true, decide_false, if_true, if_false, Bool.false_eq_true, Bool.not_true, Bool.not_false, HO.lst.injEq, HO.ins.injEq, List.set_cons_zero, List.set_cons_succ, List.getElem?_cons_zero, List.getElem?_cons_succ, List.append_nil, List.nil_append, List.cons_append, Option.some.injEq, V.ref.injEq, V.int.injEq, V.bl.injEq, List.cons.injEq, exists_eq_left', exists_and_left, exists_eq_left, true_and, and_true, and_self, and_assoc, implies_true, reduceCtorEq, Nat.reduceAdd])

theorem any_snoc (i : Nat) (f : Nat → Bool) : (List.range (i + 1)).any f = ((List.range i).any f || f i) := by
  rw [List.range_succ, List.any_append]
  simp
theorem un_bits {n : Nat} {S S' U : List Bool} (len : U.length = 2 ^ n) (val : ∀ m, m < 2 ^ n → In U m = (List.range (2 ^ n)).any fun x => In S x && (List.range (2 ^ n)).any fun y => In S' y && decide (x ||| y = m)) : U = unL n S S' := by
  have in_at : ∀ {L : List Bool} {i : Nat} (h : i < L.length), In L i = L[i] := fun {L i} h => by
    unfold In
    rw [List.getD_eq_getElem?_getD, List.getElem?_eq_getElem h]
    rfl
  refine List.ext_getElem (by unfold unL; rw [len, List.length_map, List.length_range]) fun i h1 h2 => ?_
  have z := val i (by omega)
  rw [in_at h1] at z
  rw [z]
  simp only [unL, List.getElem_map, List.getElem_range]
section
variable {P : Program} {w : World} {K : PySem.W.Frag} {mg : Str → Option Value} {base : Heap} {a : Ad}
/-! ### _law_both -/
def spLB : Sp := fun vs H Q _ => ∃ (p q n : Nat) (S S' : List Bool), vs = [.ref p, .ref q] ∧ H p = some (.lst (S.map V.bl)) ∧ H q = some (.lst (S'.map V.bl)) ∧ Fam n S ∧ Fam n S' ∧ ∀ r H', H r = none → Same H H' → H' r = some (.lst ((unL n S S').map V.bl)) → Q (.ref r) H'
theorem sc_law_both : FnScope ["one", "two", "mask", "out", "rest", "other"] ["one", "two"] (defScope s_law_both) := ⟨rfl, rfl, rfl, by decide +kernel, rfl, by decide +kernel, by decide +kernel⟩
theorem ok_law_both (T : Txt K mg a) : FnOk P w K mg base CX0 1 a.a_law_both a.d_law_both ["one", "two"] spLB := by
  refine T.fn_law_both.ok sc_law_both (fun vs H Q E h => ?_) (fun cdv A outer s H vs Q E hr h => ?_)
  · obtain ⟨p, q, n, S, S', rfl, _⟩ := h
    rfl
  · obtain ⟨p, q, n, S, S', rfl, hp, hq, F, G, k⟩ := h
    refine ⟨_, (pss_cons (ps_setLc (i := 3) (own := [("mask", 2)]) (by rfl) sc_law_both.nd rfl rfl (sw_true rfl rfl rfl (by decide +kernel)) (pi_seq (pv 0)) (blkOk_by (own := [("mask", 2)]) (N := ["one", "two", "mask", "out", "rest", "other"]) (sc := defScope s_law_both) (by decide +kernel)) (fun _ _ _ _ _ => pg_name (i := 2) sc_law_both.nd rfl (Or.inl rfl)) (fun _ _ _ _ _ => pts_nil) (fun _ _ _ _ _ => pe_bl))
      (pss_cons (ps_setLc (i := 4) (own := [("mask", 2)]) (by rfl) sc_law_both.nd rfl rfl (sw_true rfl rfl rfl (by decide +kernel)) (pi_range1 (by rfl) T.no_range (pa_cons (pe_callB (lenK K) (by rfl) T.no_len PySem.boot_len (pa_cons (pv 1) pa_nil)) pa_nil)) (blkOk_by (own := [("mask", 2)]) (N := ["one", "two", "mask", "out", "rest", "other"]) (sc := defScope s_law_both) (by decide +kernel)) (fun _ _ _ _ _ => pg_name (i := 2) sc_law_both.nd rfl (Or.inl rfl)) (fun _ _ _ _ _ => pts_one (pt_val (pe_ix Rd.ixH (pv 1) (pv 2) (fun _ _ => rfl)))) (fun _ _ _ _ _ => (pv 2)))
      (pss_cons (ps_for PassesOwn.never rfl (pi_range1 (by rfl) T.no_range (pa_cons (pe_callB (lenK K) (by rfl) T.no_len PySem.boot_len (pa_cons (pv 0) pa_nil)) pa_nil)) (pg_name (i := 2) sc_law_both.nd rfl (Or.inl rfl))
        (pss_one (ps_if (pt_val (pe_ix Rd.ixH (pv 0) (pv 2) (fun _ _ => rfl))) (pss_one (ps_for PassesOwn.never rfl (pi_list (pv 4)) (pg_name (i := 5) sc_law_both.nd rfl (Or.inl rfl))
            (pss_one (ps_asg pe_bl (pg_sub (pv 3) (pe_op op_or (pv 2) (pv 5)) set_list))))) pss_nil)))
      (pss_one (ps_ret (pv 3)))))), ?_⟩
    show (_ : TS) _ [some (V.ref p), some (V.ref q), none, none, none, none] H
    have n6 := F.n6
    have p64 := pow64 n6
    have pz : 0 < 2 ^ n := Nat.pow_pos (by decide)
    walk_at "rd"
    refine ⟨true, _, hp, lcl_goes goes_seq (fun D i H5 => H D = none ∧ Same H H5 ∧ H5 D = some (.lst (((List.range i).map fun _ => false).map V.bl))) (fun D hD => ⟨hD, same_upd hD, upd_same⟩)
      (fun D i H5 _ h => h.2.1 _ _ hp) (fun D i x H5 H5' hi ⟨n5, e5, a5⟩ ⟨eq5, hx⟩ => ?_) (fun D H5 _ ⟨n5, e5, a5⟩ => ?_)⟩
    · subst eq5
      rw [List.length_map, F.len] at hi
      walk_at "rd"
      refine ⟨_, a5, small (by rw [List.length_map, List.length_map, List.length_range]; omega), n5, fun b o hb => (upd_ne (ne_of_none hb n5)).trans (e5 _ _ hb), ?_⟩
      rw [List.range_succ, List.map_append, List.map_append]
      rfl
    rw [List.length_map, F.len] at a5
    have hq5 := e5 _ _ hq
    have hp5 := e5 _ _ hp
    refine ⟨_, .inl (SqL.of hq5), ?_⟩
    rw [List.length_map, G.len, Int.toNat_natCast]
    refine ⟨by omega, by omega, Rd.lcl_rng (fun R i H6 => H5 R = none ∧ Same H5 H6 ∧ H6 R = some (.lst (iv ((List.range i).filter (In S'))))) (fun R hR => ⟨hR, same_upd hR, upd_same⟩) (fun R i H6 hi ⟨n6', e6, a6⟩ => ?_) (fun R H6 nR ⟨n6', e6, a6⟩ => ?_)⟩
    · walk_at "rd"
      rw [Int.zero_add]
      have ll := List.length_filter_le (In S') (List.range i)
      rw [List.length_range] at ll
      refine ⟨_, e6 _ _ hq5, _, in_bool (by rw [G.len]; exact hi), _, rfl, ite2 (fun h => ⟨_, a6, small (by rw [iv_len]; omega), n6', fun b o hb => (upd_ne (ne_of_none hb n6')).trans (e6 _ _ hb), ?_⟩) (fun h => ⟨n6', e6, ?_⟩)⟩
      · rw [List.range_succ, List.filter_append, List.filter_cons_of_pos (p := In S') h]
        unfold iv
        rw [List.map_append]
        rfl
      · rw [List.range_succ, List.filter_append, List.filter_cons_of_neg (p := In S') h, List.filter_nil, List.append_nil]
        exact a6
    obtain ⟨Rs, hRs⟩ : ∃ Rs, Rs = (List.range (2 ^ n)).filter (In S') := ⟨_, rfl⟩
    rw [← hRs] at a6
    have RD : D ≠ R := fun z => by rw [← z, a5] at n6'; cases n6'
    have a5' := e6 _ _ a5
    refine ⟨_, .inl (SqL.of (e6 _ _ hp5)), ?_⟩
    rw [List.length_map, F.len, Int.toNat_natCast]
    have e56 := e5.trans e6
    refine ⟨by omega, by omega, Rd.loop_rngC (fun σ H7 => ∃ o2 o5, σ = [some (V.ref p), some (V.ref q), o2, some (V.ref D), some (V.ref R), o5] ∧ Same H H7 ∧ H7 D = some (.lst ((unL n S S').map V.bl)))
      (fun i σ H7 => ∃ o2 o5 U, σ = [some (V.ref p), some (V.ref q), o2, some (V.ref D), some (V.ref R), o5] ∧ Same H H7 ∧ H7 R = some (.lst (iv Rs)) ∧ H7 D = some (.lst (U.map V.bl)) ∧ U.length = 2 ^ n ∧ ∀ m, m < 2 ^ n → In U m = (List.range i).any fun x => In S x && (List.range (2 ^ n)).any fun y => In S' y && decide (x ||| y = m))
      ⟨none, none, _, rfl, e56, a6, a5', by rw [List.length_map, List.length_range], fun m hm => by
        rw [in_range, Bool.and_false]
        rfl⟩ ?_ ?_ ?_⟩
    · rintro bk hbk i σ H7 hi ⟨o2, o5, U, rfl, e7, r7, d7, ul, val⟩
      walk_at "rd"
      rw [Int.zero_add]
      refine ⟨_, e7 _ _ hp, _, in_bool (by rw [F.len]; exact hi), _, rfl, ite2 (fun hs => ?_) (fun hs => ⟨e7, r7, U, d7, ul, fun m hm => ?_⟩)⟩
      · refine ⟨⟨_, SqL.of r7⟩, Rd.loop_listC (xs := iv Rs) (fun σ H8 => ∃ o5 U', σ = [some (V.ref p), some (V.ref q), some (V.int i), some (V.ref D), some (V.ref R), o5] ∧ Same H H8 ∧ H8 R = some (.lst (iv Rs)) ∧ H8 D = some (.lst (U'.map V.bl)) ∧ U'.length = 2 ^ n ∧ ∀ m, m < 2 ^ n → In U' m = (In U m || Rs.any fun y => decide (i ||| y = m)))
          (fun j σ H8 => ∃ o5 U', σ = [some (V.ref p), some (V.ref q), some (V.int i), some (V.ref D), some (V.ref R), o5] ∧ Same H H8 ∧ H8 R = some (.lst (iv Rs)) ∧ H8 D = some (.lst (U'.map V.bl)) ∧ U'.length = 2 ^ n ∧ ∀ m, m < 2 ^ n → In U' m = (In U m || (Rs.take j).any fun y => decide (i ||| y = m)))
          ⟨o5, U, rfl, e7, r7, d7, ul, fun m _ => by simp⟩ (fun j σ H8 _ ⟨_, _, _, _, r8, _⟩ => SqL.of r8) ?_ (fun σ H8 ⟨o5, U', q1, q2, q3, q4, q5, q6⟩ => ⟨o5, U', q1, q2, q3, q4, q5, by rw [iv_len, List.take_length] at q6; exact q6⟩) ?_⟩
        · rintro bk2 hbk2 j x σ H8 hx ⟨o5, U', rfl, e8, r8, d8, ul', val'⟩
          obtain ⟨y, hy, rfl⟩ := at_iv hx
          have ym := List.mem_of_getElem? hy
          rw [hRs] at ym
          obtain ⟨y1, y2⟩ := List.mem_filter.mp ym
          have yl := List.mem_range.mp y1
          have ol : i ||| y < 2 ^ n := Nat.or_lt_two_pow hi yl
          walk_at "rd"
          refine ⟨_, d8, i ||| y, ?_, fun b o hb => (upd_ne (ne_of_none hb n5)).trans (e8 _ _ hb), (upd_ne RD.symm).trans r8, U'.set (i ||| y) true, by rw [List.map_set], by rw [List.length_set]; exact ul', fun m hm => ?_⟩
          · rw [or_nat]
            exact ixN_of (by rw [List.length_map]; omega)
          · rw [in_set (by omega), List.take_add_one, hy, List.any_append]
            have v := val' m hm
            by_cases em : m = i ||| y
            · rw [if_pos em, show ((some y).toList.any fun y => decide (i ||| y = m)) = true by simp [em]]
              simp
            · rw [if_neg em, v, show ((some y).toList.any fun y => decide (i ||| y = m)) = false by simp; exact fun z => em z.symm]
              simp
        · rintro σ H8 ⟨o5, U', rfl, e8, r8, d8, ul', val'⟩
          refine ⟨_, _, rfl, e8, r8, U', d8, ul', fun m hm => ?_⟩
          rw [val' m hm, val m hm, any_snoc, hs, Bool.true_and, hRs, List.any_filter]
      · rw [val m hm, any_snoc, Bool.eq_false_iff.mpr hs, Bool.false_and, Bool.or_false]
    · rintro σ H7 ⟨o2, o5, U, rfl, e7, r7, d7, ul, val⟩
      exact ⟨o2, o5, rfl, e7, by rw [← un_bits ul val]; exact d7⟩
    · rintro σ H7 ⟨o2, o5, rfl, e7, d7⟩
      walk_at "rd"
      exact k D H7 n5 e7 d7
end

end K32
namespace K32
open PySem PySem.Spec PyProof.Rows L2 Own OwnSeq OwnSet OwnComb OwnSort OwnHot OwnExN OwnProj
local macro_rules | `(tactic| walk_at "rd") => `(tactic| simp only [tSeq, tAsg, tOp, tUn, tVar, gName, gSub, rIxL, rIxT, rSetL, tC, rI0, rI, rU, rEq, rNe, tCons, tNil, tCB, tLst, tTup, tIfS, tAnd, tOr, tNot, tAndV, tOrV, tNotV, tTest, tB, tIf, tRet, tDrop, tNext, tBreak, tCont, tCall, tCallS, L2.WE, tMakeS, rIsS, rIsB, tChain, gSeq, gRest, gCons, gNil, tFor_seq, tFor_enumS, tLc_seq, tLc_enumS, rAny, rAll, L2.tMeth, StX.tStar, rIn, tLstRg, tRg1, tRg2, rSetI, rSortedSet, rInDT, rInD, rNotInD, rEqD, rNeD, iComb, tFld, tMake, tMkO, sFld, tOst, tNever, tBits, clv, isB,
  Rd.tFor_rng1, Rd.tFor_rng2, Rd.tFor_list, Rd.tFor_tup, Rd.tLc_list, Rd.tLc_tup, Rd.tLc_rng1, Rd.LcTurn, tYes, wipe, Rd.rLenL, Rd.rLenT, Rd.rIntI, Rd.rIxH, rIxHT,  HO.tup.injEq, Rd.at0, Rd.at1, Rd.at2, Rd.at3, Rd.ixN40, Rd.ixN41, Rd.ixN42, Rd.ixN43, Rd.scal_ii, cxOf,
  List.length_cons, List.length_nil, List.length_map, List.map_cons, List.map_nil, upd_same, decide_eq_true_eq, decide_true, decide_false, if_true, if_false, Bool.false_eq_true, Bool.not_true, Bool.not_false, HO.lst.injEq, HO.ins.injEq, List.set_cons_zero, List.set_cons_succ, List.getElem?_cons_zero, List.getElem?_cons_succ, List.append_nil, List.nil_append, List.cons_append, Option.some.injEq, V.ref.injEq, V.int.injEq, V.bl.injEq, List.cons.injEq, exists_eq_left', exists_and_left, exists_eq_left, true_and, and_true, and_self, and_assoc, implies_true, reduceCtorEq, Nat.reduceAdd])

theorem rest_parts : ((List.range 64).all fun m => (partsL (bits m)).all fun t => decide (restL (bits m) t = bits (m - mk t))) = true := by decide +kernel
theorem rest_part {M : Nat} (hM : M < 64) {t : List Nat} (ht : t ∈ partsL (bits M)) : restL (bits M) t = bits (M - mk t) := of_decide_eq_true (List.all_eq_true.mp (List.all_eq_true.mp rest_parts M (List.mem_range.mpr hM)) t ht)
section
variable {P : Program} {w : World} {K : PySem.W.Frag} {mg : Str → Option Value} {base : Heap} {a : Ad}
/-! ### split -/
/-- x and the rest of M are a set of each -/
def Two (S S' : List Bool) (M x : Nat) : Prop := Sub x M ∧ In S x = true ∧ In S' (M - x) = true
def spSp (C NC : Addr) : Sp := fun vs H Q E => ∃ (f g p n M : Nat) (l : Bool) (S S' : List Bool), vs = [.ref f, .ref g, .ref p] ∧ FamV C H f n S ∧ FamV C H g n S' ∧ H p = some (sq l (iv (bits M))) ∧ M < 2 ^ n ∧
  (firstPair n S = none → firstPair n S' = none → (∀ x r p1 p2 H', Two S S' M x → Same H H' → H' r = some (.tup [.ref p1, .ref p2]) → H' p1 = some (.tup (iv (bits x))) → H' p2 = some (.tup (iv (bits (M - x)))) → Q (.ref r) H') ∧
    ((∀ x, ¬ Two S S' M x) → ∀ H', Same H H' → Q .non H')) ∧ Raises NC n S H E ∧ (firstPair n S = none → Raises NC n S' H E)
theorem sc_split : FnScope ["one", "other", "things", "part", "rest"] ["one", "other", "things"] (defScope s_split) := ⟨rfl, rfl, rfl, by decide +kernel, rfl, by decide +kernel, by decide +kernel⟩
theorem ok_split (T : Txt K mg a) : FnOk P w K mg base (L2N.CX P w) 9 a.a_split a.d_split ["one", "other", "things"] (spSp a.C_Family a.C_NoExchange) := by
  refine okN T.fn_split sc_split (fun vs H Q E h => ?_) (fun cdv A outer s H vs Q E hr h => ?_)
  · obtain ⟨f, g, p, n, M, l, S, S', rfl, _⟩ := h
    rfl
  · obtain ⟨f, g, p, n, M, l, S, S', rfl, F, G, hp, hM, k, r1, r2⟩ := h
    refine ⟨_, (pss_cons (ps_expr (pe_callS (ok_need_both T) (hr.mono (by decide)) (by rfl) T.mg_need_both T.fn_need_both.kp T.b_need_both (fun σ => L2N.passAt (L2N.takes_of rfl rfl rfl rfl) σ) (pa_cons (pv 0) (pa_cons (pv 1) pa_nil))))
      (pss_cons (ps_for (passes_of rfl) rfl (pi_list (pe_call (ok_parts_of T) (hr.mono (by decide)) (by rfl) T.mg_parts_of T.fn_parts_of.kp T.b_parts_of .nil pass0 (pa_cons (pv 2) pa_nil))) (pg_name (i := 3) sc_split.nd rfl (Or.inl rfl))
        (pss_cons (ps_set (i := 4) sc_split.nd rfl (Or.inl rfl) (pe_call (ok_rest_of T) (hr.mono (by decide)) (by rfl) T.mg_rest_of T.fn_rest_of.kp T.b_rest_of .nil pass0 (pa_cons (pv 2) (pa_cons (pv 3) pa_nil))))
        (pss_one (ps_if (PW.pt (pw_and (pt_cmpR (inDT_at K (u65 hr)) (pv 3) (pe_fldK K (pv 0)) (by with_unfolding_all rfl)) (pw_and1 (pt_cmpR (inDT_at K (u65 hr)) (pv 4) (pe_fldK K (pv 1)) (by with_unfolding_all rfl))))) (pss_one (ps_ret (pe_tup (pa_cons (pv 3) (pa_cons (pv 4) pa_nil))))) pss_nil))))
      (pss_one (ps_ret pe_non)))), ?_⟩
    show (_ : TS) _ [some (V.ref f), some (V.ref g), some (V.ref p), none, none] H
    have n6 := F.fam.n6
    have p64 := pow64 n6
    walk_at "rd"
    refine ⟨f, g, n, S, S', rfl, F, G, fun fp1 fp2 H1 e1 => ?_, r1, r2⟩
    obtain ⟨k1, k2⟩ := k fp1 fp2
    have M64 : M < 64 := by omega
    have bl6 : (bits M).length ≤ 6 := by
      have := List.length_filter_le (bit M) (List.range 6)
      rwa [List.length_range] at this
    have F1 := F.same e1
    have G1 := G.same e1
    obtain ⟨dx, t1, ys, hf, ht1, tv1⟩ := F1.ob
    obtain ⟨dy, t2, zs, hg, ht2, tv2⟩ := G1.ob
    have con1 : ∀ {n : Nat} {S : List Bool} {s : List Nat}, s ∈ allS n → (famL n S).contains s = In S (mk s) := fun {n S s} hs => by
      rw [Bool.eq_iff_iff, List.contains_iff_mem, famL_mem]
      exact ⟨fun h => h.2, fun h => ⟨hs, h⟩⟩
    refine ⟨p, l, bits M, rfl, e1 _ _ hp, bl6, fun q us H2 _ e2 a2 tp => ⟨q, rfl, ⟨_, SqL.of a2⟩, Rd.loop_listC (xs := us) (fun σ H' => ∃ o3 o4, σ = [some (V.ref f), some (V.ref g), some (V.ref p), o3, o4] ∧ Same H2 H' ∧ ∀ t ∈ partsL (bits M), ¬ Two S S' M (mk t))
      (fun j σ H' => ∃ o3 o4, σ = [some (V.ref f), some (V.ref g), some (V.ref p), o3, o4] ∧ Same H2 H' ∧ ∀ t ∈ (partsL (bits M)).take j, ¬ Two S S' M (mk t)) ⟨none, none, rfl, fun _ _ h => h, fun t h => by cases h⟩ (fun j σ H' _ ⟨_, _, _, e, _⟩ => SqL.of (e _ _ a2)) ?_ (fun σ H' ⟨o3, o4, q1, q2, q3⟩ => ⟨o3, o4, q1, q2, by rw [tp.len, List.take_length] at q3; exact q3⟩) ?_⟩⟩
    · rintro bk hbk j x σ H3 hx ⟨o3, o4, rfl, e3, no⟩
      obtain ⟨t, ht, pt, rfl, hpt⟩ := (tp.same e3).at hx
      have tm := List.mem_of_getElem? ht
      obtain ⟨ta, ts⟩ := parts_mem n6 hM tm
      have e13 := e2.trans e3
      have rp := rest_part M64 tm
      have ml : M - mk t < 2 ^ n := by omega
      obtain ⟨b1, b2⟩ := bits_in n6 ml
      walk_at "rd"
      refine ⟨p, pt, l, false, bits M, t, rfl, e13 _ _ (e1 _ _ hp), hpt, bl6, fun r H4 _ e4 a4 => ?_⟩
      rw [rp] at a4
      have e14 := e13.trans e4
      have more : ¬ Two S S' M (mk t) → ∀ t' ∈ (partsL (bits M)).take (j + 1), ¬ Two S S' M (mk t') := fun h t' ht' => by
        rw [List.take_add_one, ht] at ht'
        rcases List.mem_append.mp ht' with z | z
        · exact no t' z
        · rw [List.mem_singleton.mp z]
          exact h
      have done : Same H2 H4 := e3.trans e4
      refine ⟨_, dx, ff t1 n, e14 _ _ hf, T.cl_Family, T.na_Family_sets, _, ff_sets t1 n, _, dp_set (e4 _ _ hpt), _, .tup (SqT.of (e14 _ _ ht1)) (dp_sets (tv1.same e14)), sh_set _, sh_tup _, ?_⟩
      rw [any_sets, con1 ta]
      refine ite2 (fun h1 => ?_) (fun h1 => ⟨done, more fun z => h1 z.2.1⟩)
      refine ⟨_, dy, ff t2 n, e14 _ _ hg, T.cl_Family, T.na_Family_sets, _, ff_sets t2 n, _, dp_set a4, _, .tup (SqT.of (e14 _ _ ht2)) (dp_sets (tv2.same e14)), sh_set _, sh_tup _, ?_⟩
      rw [any_sets, con1 b2, b1]
      refine ite2 (fun h2 => ⟨by rw [sizeLine_eq]; omega, fun z hz => ?_⟩) (fun h2 => ⟨done, more fun z => h2 z.2.2⟩)
      have ez := same_upd (o := .tup [V.ref pt, V.ref r]) hz
      have tb : t = bits (mk t) := (allS_at ta n6).1.symm
      exact k1 (mk t) z pt r _ ⟨ts, h1, h2⟩ ((e1.trans e14).trans ez) upd_same (ez _ _ (by rw [← tb]; exact e4 _ _ hpt)) (ez _ _ a4)
    · rintro σ H3 ⟨o3, o4, rfl, e3, no⟩
      walk_at "rd"
      refine k2 (fun x tx => ?_) _ ((e1.trans e2).trans e3)
      have z := no (bits x) ((parts_at M64).2.1 x tx.1)
      rw [(bits_in n6 (m := x) (by have := sub_le tx.1; omega)).1] at z
      exact z tx
end

end K32
namespace K32
open PySem PySem.Spec PyProof.Rows L2 Own OwnSeq OwnSet OwnComb OwnSort OwnHot OwnExN OwnProj
local macro_rules | `(tactic| walk_at "rd") => `(tactic| simp only [tSeq, tAsg, tOp, tUn, tVar, gName, gSub, rIxL, rIxT, rSetL, tC, rI0, rI, rU, rEq, rNe, tCons, tNil, tCB, tLst, tTup, tIfS, tAnd, tOr, tNot, tAndV, tOrV, tNotV, tTest, tB, tIf, tRet, tDrop, tNext, tBreak, tCont, tCall, tCallS, L2.WE, tMakeS, rIsS, rIsB, tChain, gSeq, gRest, gCons, gNil, tFor_seq, tFor_enumS, tLc_seq, tLc_enumS, rAny, rAll, L2.tMeth, StX.tStar, rIn, tLstRg, tRg1, tRg2, rSetI, rSortedSet, rInDT, rInD, rNotInD, rEqD, rNeD, iComb, tFld, tMake, tMkO, sFld, tOst, tNever, tBits, clv, isB,
  Rd.tFor_rng1, Rd.tFor_rng2, Rd.tFor_list, Rd.tFor_tup, Rd.tLc_list, Rd.tLc_tup, Rd.tLc_rng1, Rd.LcTurn, tYes, wipe, Rd.rLenL, Rd.rLenT, Rd.rIntI, Rd.rIxH, rIxHT,  HO.tup.injEq, Rd.at0, Rd.at1, Rd.at2, Rd.at3, Rd.ixN40, Rd.ixN41, Rd.ixN42, Rd.ixN43, Rd.scal_ii, cxOf,
  List.length_cons, List.length_nil, List.length_map, List.map_cons, List.map_nil, upd_same, decide_eq_true_eq, decide_true, decide_false, if_true, if_false, Bool.false_eq_true, Bool.not_true, Bool.not_false, HO.lst.injEq, HO.ins.injEq, List.set_cons_zero, List.set_cons_succ, List.getElem?_cons_zero, List.getElem?_cons_succ, List.append_nil, List.nil_append, List.cons_append, Option.some.injEq, V.ref.injEq, V.int.injEq, V.bl.injEq, List.cons.injEq, exists_eq_left', exists_and_left, exists_eq_left, true_and, and_true, and_self, and_assoc, implies_true, reduceCtorEq, Nat.reduceAdd])

/-! ### the union has the exchange property -/
theorem un_at {n : Nat} {S S' : List Bool} {M : Nat} (F : Fam n S) (G : Fam n S') (E1 : Ex S) (E2 : Ex S') (hM : M < 64) : ∃ t, Sub t M ∧ sumU S S' M t = rk (unL n S S') M := by
  refine Classical.byContradiction fun no => ?_
  have z := un_ge (c := rk (unL n S S') M + 1) F G E1 E2 hM fun t ht => by
    have a := un_le F G hM ht
    have b : sumU S S' M t ≠ rk (unL n S S') M := fun e => no ⟨t, ht, e⟩
    omega
  omega
theorem un_sub {n : Nat} {S S' : List Bool} {x y : Nat} (F : Fam n S) (G : Fam n S') (E1 : Ex S) (E2 : Ex S') (hx : x < 64) (hy : y < 64) :
    rk (unL n S S') (x ||| y) + rk (unL n S S') (x &&& y) ≤ rk (unL n S S') x + rk (unL n S S') y := by
  obtain ⟨t, t1, t2⟩ := un_at F G E1 E2 hx
  obtain ⟨u, u1, u2⟩ := un_at F G E1 E2 hy
  have tl := sub_lt64 t1 hx
  have ul := sub_lt64 u1 hy
  have s1 : Sub (t ||| u) (x ||| y) := or_sub (sub_trans t1 (sub_or_l x y)) (sub_trans u1 (sub_or_r x y))
  have s2 : Sub (t &&& u) (x &&& y) := and_sub (sub_trans (sub_and_l t u) t1) (sub_trans (sub_and_r t u) u1)
  have a1 := un_le F G (or_lt hx hy) s1
  have a2 := un_le F G (and_lt (y := y) hx) s2
  have r1 := (rk_Rk F E1).sub t u tl ul
  have r2 := (rk_Rk G E2).sub t u tl ul
  have p1 := pop_mod hx hy
  have p2 := pop_mod tl ul
  have m1 := (min_at (or_lt hx hy) s1).2
  have m2 := (min_at (and_lt (y := y) hx) s2).2
  have m3 := (min_at hx t1).2
  have m4 := (min_at hy u1).2
  unfold sumU at a1 a2 t2 u2
  omega
theorem bit_mod {y k g : Nat} : bit (y % 2 ^ k) g = (decide (g < k) && bit y g) := by
  rw [bit_tb, bit_tb, Nat.testBit_mod_two_pow]
theorem un_ex {n : Nat} {S S' : List Bool} (F : Fam n S) (G : Fam n S') (E1 : Ex S) (E2 : Ex S') : Ex (unL n S S') := fun x y hx hy lt => by
  have U := fam_un F G
  have xl := U.l64 hx
  have yl := U.l64 hy
  have mono : ∀ {v w : Nat}, Sub v w → rk (unL n S S') v ≤ rk (unL n S S') w := fun {v w} s => by
    obtain ⟨z, z1, z2, z3⟩ := rk_at U (M := v)
    rw [← z3]
    exact rk_ge U z1 (sub_trans z2 s)
  refine Classical.byContradiction fun no => ?_
  have rx : rk (unL n S S') x = pop x := (rk_in U xl).mpr hx
  have one : ∀ g, g < 6 → bit y g = true → rk (unL n S S') (x ||| 2 ^ g) ≤ pop x := fun g g6 hg => by
    by_cases bx : bit x g = true
    · have e : x ||| 2 ^ g = x := mask_ext fun j => by
        rw [bit_orm, bit_pw]
        by_cases ej : g = j
        · subst ej
          rw [bx]
          rfl
        · rw [decide_eq_false ej, Bool.or_false]
      rw [e, rx]
      exact Nat.le_refl _
    · have bx := Bool.eq_false_iff.mpr bx
      have hl := or_lt xl (pw_lt g6)
      obtain ⟨z, z1, z2, z3⟩ := rk_at U (M := x ||| 2 ^ g)
      have p := pop_or xl g6 bx
      have pz := pop_mono z2 hl
      by_cases full : pop z = pop (x ||| 2 ^ g)
      · have := eq_of_pop hl z2 full
        rw [this] at z1
        exact absurd ⟨g, g6, hg, bx, z1⟩ no
      · omega
  have grow : ∀ k, k ≤ 6 → rk (unL n S S') (x ||| y % 2 ^ k) ≤ pop x := fun k => by
    induction k with
    | zero =>
      intro _
      rw [Nat.pow_zero, Nat.mod_one, Nat.or_zero, rx]
      exact Nat.le_refl _
    | succ k ih =>
      intro hk
      have i := ih (by omega)
      have ml : y % 2 ^ k < 64 := Nat.lt_of_le_of_lt (Nat.mod_le _ _) yl
      by_cases by' : bit y k = true
      · have e : x ||| y % 2 ^ (k + 1) = (x ||| y % 2 ^ k) ||| (x ||| 2 ^ k) := mask_ext fun g => by
          rw [bit_orm, bit_orm, bit_orm, bit_orm, bit_mod, bit_mod, bit_pw]
          by_cases h1 : g < k
          · rw [decide_eq_true h1, decide_eq_true (show g < k + 1 by omega), decide_eq_false (show ¬ k = g by omega)]
            cases bit x g <;> cases bit y g <;> rfl
          · by_cases h2 : g = k
            · subst h2
              rw [decide_eq_true (show g < g + 1 by omega), by', decide_eq_true rfl]
              cases bit x g <;> simp
            · rw [decide_eq_false h1, decide_eq_false (show ¬ g < k + 1 by omega), decide_eq_false (show ¬ k = g by omega)]
              cases bit x g <;> rfl
        have s := un_sub F G E1 E2 (or_lt xl ml) (or_lt xl (pw_lt (show k < 6 by omega)))
        have low := mono (and_sub (sub_or_l x (y % 2 ^ k)) (sub_or_l x (2 ^ k)))
        have o := one k (by omega) by'
        rw [e]
        omega
      · have e : y % 2 ^ (k + 1) = y % 2 ^ k := mask_ext fun g => by
          rw [bit_mod, bit_mod]
          by_cases h1 : g < k
          · rw [decide_eq_true h1, decide_eq_true (show g < k + 1 by omega)]
          · by_cases h2 : g = k
            · subst h2
              rw [Bool.eq_false_iff.mpr by', Bool.and_false, Bool.and_false]
            · rw [decide_eq_false h1, decide_eq_false (show ¬ g < k + 1 by omega)]
        rw [e]
        exact i
  have top := grow 6 (Nat.le_refl _)
  rw [Nat.mod_eq_of_lt (show y < 2 ^ 6 from yl)] at top
  have ry : rk (unL n S S') y = pop y := (rk_in U yl).mpr hy
  have := mono (sub_or_r x y)
  omega
/-- a family with the exchange property has no first pair -/
theorem fp_none {n : Nat} {S : List Bool} (F : Fam n S) (E : Ex S) : firstPair n S = none := by
  have n6 := F.n6
  unfold firstPair
  refine List.findSome?_eq_none_iff.mpr fun s hs => ?_
  refine Option.map_eq_none_iff.mpr (List.find?_eq_none.mpr fun t ht => ?_)
  obtain ⟨s1, s2⟩ := famL_mem.mp hs
  obtain ⟨t1, t2⟩ := famL_mem.mp ht
  intro h
  obtain ⟨h1, h2⟩ := Bool.and_eq_true_iff.mp h
  have lt := of_decide_eq_true h1
  rw [← pop_len n6 s1, ← pop_len n6 t1] at lt
  obtain ⟨g, g6, by', bx, hg⟩ := E _ _ s2 t2 lt
  have gn : g < n := bit_lt (F.lt t2) by'
  rw [Bool.not_eq_true'] at h2
  have met : metL (addL n S s) t = true := by
    unfold metL
    refine List.any_eq_true.mpr ⟨g, ?_, List.contains_iff_mem.mpr ((mem_bit t1 n6).mpr ⟨g6, by'⟩)⟩
    unfold addL
    refine List.mem_filter.mpr ⟨rest_mem.mpr ⟨List.mem_range.mpr gn, fun z => ?_⟩, ?_⟩
    · have := ((mem_bit s1 n6).mp z).2
      rw [bx] at this
      cases this
    · rw [← or_add (F.l64 s2) g6 bx]
      exact hg
  rw [met] at h2
  cases h2

end K32
namespace K32
open PySem PySem.Spec PyProof.Rows L2 Own OwnSeq OwnSet OwnComb OwnSort OwnHot OwnExN OwnProj
local macro_rules | `(tactic| walk_at "rd") => `(tactic| simp only [tSeq, tAsg, tOp, tUn, tVar, gName, gSub, rIxL, rIxT, rSetL, tC, rI0, rI, rU, rEq, rNe, tCons, tNil, tCB, tLst, tTup, tIfS, tAnd, tOr, tNot, tAndV, tOrV, tNotV, tTest, tB, tIf, tRet, tDrop, tNext, tBreak, tCont, tCall, tCallS, L2.WE, tMakeS, rIsS, rIsB, tChain, gSeq, gRest, gCons, gNil, tFor_seq, tFor_enumS, tLc_seq, tLc_enumS, rAny, rAll, L2.tMeth, StX.tStar, rIn, tLstRg, tRg1, tRg2, rSetI, rSortedSet, rInDT, rInD, rNotInD, rEqD, rNeD, iComb, tFld, tMake, tMkO, sFld, tOst, tNever, tBits, clv, isB,
  Rd.tFor_rng1, Rd.tFor_rng2, Rd.tFor_list, Rd.tFor_tup, Rd.tLc_list, Rd.tLc_tup, Rd.tLc_rng1, Rd.LcTurn, tYes, wipe, Rd.rLenL, Rd.rLenT, Rd.rIntI, Rd.rIxH, rIxHT,  HO.tup.injEq, Rd.at0, Rd.at1, Rd.at2, Rd.at3, Rd.ixN40, Rd.ixN41, Rd.ixN42, Rd.ixN43, Rd.scal_ii, cxOf,
  List.length_cons, List.length_nil, List.length_map, List.map_cons, List.map_nil, upd_same, decide_eq_true_eq, decide_true, decide_false, if_true, if_false, Bool.false_eq_true, Bool.not_true, Bool.not_false, HO.lst.injEq, HO.ins.injEq, List.set_cons_zero, List.set_cons_succ, List.getElem?_cons_zero, List.getElem?_cons_succ, List.append_nil, List.nil_append, List.cons_append, Option.some.injEq, V.ref.injEq, V.int.injEq, V.bl.injEq, List.cons.injEq, exists_eq_left', exists_and_left, exists_eq_left, true_and, and_true, and_self, and_assoc, implies_true, reduceCtorEq, Nat.reduceAdd])

theorem bl_flat (L : List Bool) : (L.map V.bl).all flatV = true := List.all_eq_true.mpr fun x hx => by
  obtain ⟨g, _, rfl⟩ := List.mem_map.mp hx
  rfl
theorem inV_false (L : List Bool) : inV (V.bl false) (L.map V.bl) = !(L.all id) := by
  unfold inV
  rw [List.any_map]
  induction L with
  | nil => rfl
  | cons x L ih =>
    rw [List.any_cons, ih, List.all_cons]
    cases x with
    | true =>
      show (eqV (V.bl true) (V.bl false) || _) = _
      rw [show eqV (V.bl true) (V.bl false) = false from rfl]
      rfl
    | false =>
      show (eqV (V.bl false) (V.bl false) || _) = _
      rw [show eqV (V.bl false) (V.bl false) = true from rfl]
      rfl
def rIsO (K : PySem.W.Frag) : List V → Hp → VK → Prop := fun xs H Q => ∃ f C : Addr, xs = [.ref f, .ref C] ∧ TyOf K H (.ref f) (.ref C) ∧ Q (.bl true) H
theorem selfKit {K : PySem.W.Frag} {C : Addr} : PySem.W.kitOne K (.ref C) (.ref C) = some true := by
  unfold PySem.W.kitOne
  exact if_pos (beq_self_eq_true _)
theorem call_isO {X : Cx} (K : PySem.W.Frag) (hK : X.K = K := by rfl) : CallR X (.builtin "isinstance") (rIsO K) := by
  subst hK
  exact Rd.CallR.imp call_isi fun xs H Q ⟨f, C, e, h, q⟩ => ⟨.ref f, .ref C, .ref C, .ref C, true, e, .own _, .base h, selfKit, q⟩
section
variable {P : Program} {w : World} {K : PySem.W.Frag} {mg : Str → Option Value} {base : Heap} {a : Ad}
/-! ### _law_is -/
def spLIs (C : Addr) : Sp := fun vs H Q _ => ∃ (f r n : Nat) (S : List Bool), vs = [.ref f, .int n, .ref r] ∧ FamV C H f n S ∧ H r = some (.lst (S.map V.bl)) ∧ ∀ H', Same H H' → Q (.bl true) H'
theorem sc_law_is : FnScope ["family", "size", "inside", "sets", "k"] ["family", "size", "inside"] (defScope s_law_is) := ⟨rfl, rfl, rfl, by decide +kernel, rfl, by decide +kernel, by decide +kernel⟩
theorem ok_law_is (T : Txt K mg a) : FnOk P w K mg base CX0 4 a.a_law_is a.d_law_is ["family", "size", "inside"] (spLIs a.C_Family) := by
  refine T.fn_law_is.ok sc_law_is (fun vs H Q E h => ?_) (fun cdv A outer s H vs Q E hr h => ?_)
  · obtain ⟨f, r, n, S, rfl, _⟩ := h
    rfl
  · obtain ⟨f, r, n, S, rfl, F, hr1, k⟩ := h
    refine ⟨_, (pss_cons (ps_set (i := 3) sc_law_is.nd rfl (Or.inr rfl) (pe_call (ok_law_ordered T) (hr.mono (by decide)) (by rfl) T.mg_law_ordered T.fn_law_ordered.kp T.b_law_ordered .nil pass0 (pa_cons (pv 2) pa_nil)))
      (pss_cons (ps_if (PW.pt (pw_or (pt_not (pt_val (pe_callB (call_isO K) (by rfl) T.no_isinstance (by decide +kernel) (pa_cons (pv 0) (pa_cons (pe_glob (v := .ref a.C_Family) rfl T.mg_Family rfl) pa_nil))))) (pw_or (pt_not (pt_val (pe_callB (call_isB .int) (by rfl) T.no_isinstance (by decide +kernel) (pa_cons (pe_fldK K (pv 0)) (pa_cons (pe_bltn (v := .ty "int") (u := .type "int") (by rfl) T.no_int (by decide +kernel) rfl) pa_nil))))) (pw_or1 (pt_val (pe_callB (call_isB .bl) (by rfl) T.no_isinstance (by decide +kernel) (pa_cons (pe_fldK K (pv 0)) (pa_cons (pe_bltn (v := .ty "bool") (u := .type "bool") (by rfl) T.no_bool (by decide +kernel) rfl) pa_nil)))))))) (pss_one (ps_ret pe_bl)) pss_nil)
      (pss_cons (ps_if (PW.pt (pw_or (pt_cmpR op_ne (pe_fldK K (pv 0)) (pv 1) (nomark _)) (pw_or (pt_not (pt_val (pe_callB (call_isB .tup) (by rfl) T.no_isinstance (by decide +kernel) (pa_cons (pe_fldK K (pv 0)) (pa_cons (pe_bltn (v := .ty "tuple") (u := .type "tuple") (by rfl) T.no_tuple (by decide +kernel) rfl) pa_nil))))) (pw_or1 (pt_cmpR op_ne (pe_callB (lenK K) (by rfl) T.no_len PySem.boot_len (pa_cons (pe_fldK K (pv 0)) pa_nil)) (pe_callB (lenK K) (by rfl) T.no_len PySem.boot_len (pa_cons (pv 3) pa_nil)) (nomark _)))))) (pss_one (ps_ret pe_bl)) pss_nil)
      (pss_one (ps_ret (pe_cmpR (op_notInK K) pe_bl (pe_lc (own := [("k", 4)]) (by rfl) sc_law_is.nd (pi_range1 (by rfl) T.no_range (pa_cons (pe_callB (lenK K) (by rfl) T.no_len PySem.boot_len (pa_cons (pv 3) pa_nil)) pa_nil)) (blkOk_by (own := [("k", 4)]) (N := ["family", "size", "inside", "sets", "k"]) (sc := defScope s_law_is) (by decide +kernel)) (fun _ _ _ _ _ => pg_name (i := 4) sc_law_is.nd rfl (Or.inl rfl)) (fun _ _ _ _ _ => pts_nil) (fun _ _ _ _ _ => (pe_call (ok_law_is_set T) (hr.mono (by decide)) (by rfl) T.mg_law_is_set T.fn_law_is_set.kp T.b_law_is_set .nil pass0 (pa_cons (pe_ix ixHT (pe_fldK K (pv 0)) (pv 4) (fun _ _ => rfl)) (pa_cons (pe_ix Rd.ixH (pv 3) (pv 4) (fun _ _ => rfl)) pa_nil))))) (by with_unfolding_all rfl))))))), ?_⟩
    show (_ : TS) _ [some (V.ref f), some (V.int n), some (V.ref r), none, none] H
    have n6 := F.fam.n6
    have p64 := pow64 n6
    have fl := famL_len (S := S) n6
    walk_at "rd"
    refine ⟨r, n, S, rfl, hr1, n6, F.fam.len, fun o us H1 _ e1 a1 tu => ?_⟩
    obtain ⟨dx, t, ys, hf, ht, tv⟩ := (F.same e1).ob
    have len := tv.len
    have ul := tu.len
    refine ⟨f, a.C_Family, rfl, .ins hf T.cl_Family T.cg_Family T.cget T.ctk T.mr_Family, ?_⟩
    refine ⟨_, rfl, ?_⟩
    rw [if_neg (by decide)]
    refine ⟨_, dx, ff t n, hf, T.cl_Family, T.na_Family_size, _, ff_size t n, .int, .int _, ?_⟩
    rw [if_neg (by decide)]
    refine ⟨_, dx, ff t n, hf, T.cl_Family, T.na_Family_size, _, ff_size t n, .int, .int _, ?_⟩
    rw [if_neg (by decide)]
    refine ⟨_, dx, ff t n, hf, T.cl_Family, T.na_Family_size, _, ff_size t n, rfl, ?_⟩
    rw [if_neg (by simp)]
    refine ⟨_, dx, ff t n, hf, T.cl_Family, T.na_Family_sets, _, ff_sets t n, .tup, .tup ht, ?_⟩
    rw [if_neg (by decide)]
    refine ⟨_, dx, ff t n, hf, T.cl_Family, T.na_Family_sets, _, ff_sets t n, t, rfl, _, .inr (SqT.of ht), o, rfl, _, .inl (SqL.of a1), ?_⟩
    rw [if_neg (by simp; omega)]
    refine ⟨o, rfl, _, .inl (SqL.of a1), by omega, by omega, ?_⟩
    rw [Int.toNat_natCast]
    refine Rd.lcl_rng (fun D i H5 => H1 D = none ∧ Same H1 H5 ∧ H5 D = some (.lst (((List.range i).map fun _ => true).map V.bl))) (fun D hD => ⟨hD, same_upd hD, upd_same⟩) (fun D i H5 hi ⟨n5, e5, a5⟩ => ?_) (fun D H5 _ ⟨n5, e5, a5⟩ => ?_)
    · obtain ⟨s', hs⟩ : ∃ s', (famL n S)[i]? = some s' := ⟨_, List.getElem?_eq_getElem (by omega)⟩
      have sm := (famL_mem.mp (List.mem_of_getElem? hs)).1
      have sa := allS_at sm n6
      obtain ⟨p1, up1, hp1⟩ := tu.get hs
      obtain ⟨p2, up2, hp2⟩ := tv.get hs
      walk_at "rd"
      rw [Int.zero_add]
      refine ⟨_, dx, ff t n, e5 _ _ hf, T.cl_Family, T.na_Family_sets, _, ff_sets t n, t, rfl, _, e5 _ _ ht, _, atI_nat up2, _, e5 _ _ a1, _, atI_nat up1, p2, p1, s', rfl, e5 _ _ hp2, e5 _ _ hp1, sa.2.2.2.2, fun g hg => Nat.lt_of_lt_of_le (sa.2.2.1 g hg) n6, Nat.le_trans sa.2.2.2.1 n6, fun H6 e6 => ⟨_, e6 _ _ a5, small (by rw [List.length_map, List.length_map, List.length_range]; omega), n5, fun b o hb => (upd_ne (ne_of_none hb n5)).trans (e6 _ _ (e5 _ _ hb)), ?_⟩⟩
      rw [List.range_succ, List.map_append, List.map_append]
      rfl
    · refine ⟨D, rfl, _, .inl (SqL.of a5), rfl, bl_flat _, ?_⟩
      rw [inV_false, show ((List.range us.length).map fun _ => true).all id = true by simp]
      exact k _ (e1.trans e5)
end

end K32
namespace K32
open PySem PySem.Spec PyProof.Rows L2 Own OwnSeq OwnSet OwnComb OwnSort OwnHot OwnExN OwnProj
local macro_rules | `(tactic| walk_at "rd") => `(tactic| simp only [tSeq, tAsg, tOp, tUn, tVar, gName, gSub, rIxL, rIxT, rSetL, tC, rI0, rI, rU, rEq, rNe, tCons, tNil, tCB, tLst, tTup, tIfS, tAnd, tOr, tNot, tAndV, tOrV, tNotV, tTest, tB, tIf, tRet, tDrop, tNext, tBreak, tCont, tCall, tCallS, L2.WE, tMakeS, rIsS, rIsB, tChain, gSeq, gRest, gCons, gNil, tFor_seq, tFor_enumS, tLc_seq, tLc_enumS, rAny, rAll, L2.tMeth, StX.tStar, rIn, tLstRg, tRg1, tRg2, rSetI, rSortedSet, rInDT, rInD, rNotInD, rEqD, rNeD, iComb, tFld, tMake, tMkO, sFld, tOst, tNever, tBits, clv, isB,
  Rd.tFor_rng1, Rd.tFor_rng2, Rd.tFor_list, Rd.tFor_tup, Rd.tLc_list, Rd.tLc_tup, Rd.tLc_rng1, Rd.LcTurn, tYes, wipe, Rd.rLenL, Rd.rLenT, Rd.rIntI, Rd.rIxH, rIxHT,  HO.tup.injEq, Rd.at0, Rd.at1, Rd.at2, Rd.at3, Rd.ixN40, Rd.ixN41, Rd.ixN42, Rd.ixN43, Rd.scal_ii, cxOf,
  List.length_cons, List.length_nil, List.length_map, List.map_cons, List.map_nil, upd_same, decide_eq_true_eq, decide_true, decide_false, if_true, if_false, Bool.false_eq_true, Bool.not_true, Bool.not_false, HO.lst.injEq, HO.ins.injEq, List.set_cons_zero, List.set_cons_succ, List.getElem?_cons_zero, List.getElem?_cons_succ, List.append_nil, List.nil_append, List.cons_append, Option.some.injEq, V.ref.injEq, V.int.injEq, V.bl.injEq, List.cons.injEq, exists_eq_left', exists_and_left, exists_eq_left, true_and, and_true, and_self, and_assoc, implies_true, reduceCtorEq, Nat.reduceAdd])

/-- f(k = v): a def whose parameters are all called by their names -/
def swp {α : Type} : List α → List α
  | [x, y] => [y, x]
  | [x, y, z] => [z, y, x]
  | l => l
theorem swp_vals : ∀ {zs : List V} {ws : List Value}, Vals zs ws → Vals (swp zs) (swp ws)
  | _, _, .nil => .nil
  | _, _, .cons r .nil => .cons r .nil
  | _, _, .cons r (.cons q .nil) => .cons q (.cons r .nil)
  | _, _, .cons r (.cons q (.cons p .nil)) => .cons p (.cons q (.cons r .nil))
  | _, _, .cons r (.cons q (.cons p (.cons o t))) => .cons r (.cons q (.cons p (.cons o t)))
def tCallN0 (n : Nat) (sp : Sp) (E : XK) (tk : TA) : TE := fun σ H Q => tk σ H fun zs H2 => zs.length = n ∧ sp (swp zs) H2 Q E
theorem pe_callN0 {X : Cx} {CX : CXT} {k : Nat} {f : Addr} {fd : FuncData} {ps ks : List Str} {sp : Sp} {E : XK} {x : Str} {p pos : Pos} {kws : List Keyword} {tk : TA}
    (F : FnOk X.prog X.w X.K X.mg X.base CX k f fd ps sp) (hr : Room k X.A) (hg : Gl X x) (hm : X.mg x = some (.ref f)) (hk : PySem.W.keepIn X.K (.ref f) = true) (hb : KBn X.K fd ps 0 ks (fun _ ws => swp ws) (fun _ zs => swp zs)) (hx : Passes CX X E) (hkw : PK X kws tk)
    (hall : (backToKw pos (keywordEach kws X.env)).all (·.1.isSome) = true := by rfl) (hks : (backToKw pos (keywordEach kws X.env)).filterMap (·.1) = ks := by rfl) (hdb : (x == ("__debug__" : Str)) = false := by decide)
    (hpl : ((backTo pos (starEach [] X.env)).any (·.1) || (backToKw pos (keywordEach kws X.env)).any (·.1.isNone)) = false := by rfl) :
    PE X (.Call (.Name x p) [] kws pos) (tCallN0 ks.length sp E tk) := by
  refine ⟨fun pins s σ H Q I h => wpAny_Call_Name_kw (ld_glob I hg hm (PySem.W.callWith_KW0 (h₀ := X.base) I.ok.mod.kin hk hall (thn (hkw.run pos pins s σ H _ I h) fun ws s2 ⟨zs, H2, I2, rz, l2, q2⟩ => ⟨I2.kIn, ?_⟩) hpl) hdb)⟩
  rw [hks]
  exact run_fnN (us := []) (vs := []) F hr hb hx I2 .nil rz rfl l2 q2
/-- the same, what it raises told of the slots -/
def tCallN0S (n : Nat) (sp : Sp) (E : L2.St → XK) (tk : TA) : TE := fun σ H Q => tk σ H fun zs H2 => zs.length = n ∧ sp (swp zs) H2 Q (E σ)
theorem pe_callN0S {X : Cx} {CX : CXT} {k : Nat} {f : Addr} {fd : FuncData} {ps ks : List Str} {sp : Sp} {E : L2.St → XK} {x : Str} {p pos : Pos} {kws : List Keyword} {tk : TA}
    (F : FnOk X.prog X.w X.K X.mg X.base CX k f fd ps sp) (hr : Room k X.A) (hg : Gl X x) (hm : X.mg x = some (.ref f)) (hk : PySem.W.keepIn X.K (.ref f) = true) (hb : KBn X.K fd ps 0 ks (fun _ ws => swp ws) (fun _ zs => swp zs)) (hx : ∀ σ, PassesAt CX X σ (E σ)) (hkw : PK X kws tk)
    (hall : (backToKw pos (keywordEach kws X.env)).all (·.1.isSome) = true := by rfl) (hks : (backToKw pos (keywordEach kws X.env)).filterMap (·.1) = ks := by rfl) (hdb : (x == ("__debug__" : Str)) = false := by decide)
    (hpl : ((backTo pos (starEach [] X.env)).any (·.1) || (backToKw pos (keywordEach kws X.env)).any (·.1.isNone)) = false := by rfl) :
    PE X (.Call (.Name x p) [] kws pos) (tCallN0S ks.length sp E tk) := by
  refine ⟨fun pins s σ H Q I h => wpAny_Call_Name_kw (ld_glob I hg hm (PySem.W.callWith_KW0 (h₀ := X.base) I.ok.mod.kin hk hall (thn (hkw.run pos pins s σ H _ I h) fun ws s2 ⟨zs, H2, I2, rz, l2, q2⟩ => ⟨I2.kIn, ?_⟩) hpl) hdb)⟩
  rw [hks]
  have r2 := hb.rel .nil rz
  refine wpAny_call (codeAny_mono (F.run X.A X.stack s2 H2 ⟨[], ks.zip ws⟩ _ _ Q (E σ) hr I2.env0 (hb.to s2 [] ws I2.kIn rfl (rz.length.symm.trans l2)) r2 q2) fun r s' hq => ?_)
  cases r with
  | error e => exact hx σ pins H2 s2 e s' I2 hq
  | ok fl =>
    cases fl with
    | ret u => exact I2.after hq
    | next => exact False.elim hq
    | brk => exact False.elim hq
    | cont => exact False.elim hq
/-- a def called by names behind its first parameters -/
theorem kbs_of {K : PySem.W.Frag} {x qual : Str} {st : Stmt} {f : Addr} {fd : FuncData} {ps : List Str} (ks : List Str) (F : Fun K x qual st f fd)
    (h : ∀ (kV doc pm : Value) (an : Option Addr) (cdv ct : Value) (us ws : List Value), us.length = 0 → ws.length = ks.length → bindArgs (PySem.W.fnOf x qual (defArgs st) (defBody st) (defScope st) .none kV doc pm an cdv ct) ⟨us, ks.zip ws⟩ = pure (ps.zip (swp ws))) :
    KBn K fd ps 0 ks (fun _ ws => swp ws) (fun _ zs => swp zs) :=
  match F.ex with
  | ⟨_, _, kV, doc, pm, an, cdv, ct, _, e, _, _⟩ => ⟨fun s us ws _ l1 l2 => .of_eq (by rw [e]; exact h kV doc pm an cdv ct us ws l1 l2), fun _ r2 => swp_vals r2⟩
/-- all that is no list stands -/
def Kp (H H' : Hp) : Prop := ∀ q o, H q = some o → (∀ l, o ≠ .lst l) → H' q = some o
theorem Kp.trans {H H1 H2 : Hp} (x : Kp H H1) (y : Kp H1 H2) : Kp H H2 := fun q o h n => y q o (x q o h n) n
theorem Kp.same {H H' : Hp} (e : Same H H') : Kp H H' := fun q o h _ => e q o h
theorem Kp.but {b : Addr} {H H' : Hp} {l : List V} (e : But b H H') (h : H b = some (.lst l)) : Kp H H' := fun q o hq n => e q o (fun z => by rw [z, h] at hq; exact n l (Option.some.inj hq).symm) hq
theorem Kp.upd {p : Addr} {H : Hp} {l : List V} {o : HO} (h : H p = some (.lst l)) : Kp H (L2.upd H p o) := fun q o hq n => (upd_ne fun z => by rw [z, h] at hq; exact n l (Option.some.inj hq).symm).trans hq
theorem FamV.kp {C : Addr} {H H' : Hp} {f n : Nat} {S : List Bool} (e : Kp H H') (F : FamV C H f n S) : FamV C H' f n S :=
  let ⟨dx, t, ys, a, b, c⟩ := F.ob
  ⟨F.fam, dx, t, ys, e _ _ a (fun _ z => by cases z), e _ _ b (fun _ z => by cases z), Tups.keep (fun q l h => e q _ h (fun _ z => by cases z)) c⟩
theorem PairV.kp {H H' : Hp} {v : V} (e : Kp H H') : ∀ {o : Option (List Nat × List Nat)}, PairV H v o → PairV H' v o
  | none, h => h
  | some _, ⟨q, p1, p2, a, b, c, d⟩ => ⟨q, p1, p2, a, e _ _ b (fun _ z => by cases z), e _ _ c (fun _ z => by cases z), e _ _ d (fun _ z => by cases z)⟩
theorem fp_len {n : Nat} {S : List Bool} {p : List Nat × List Nat} (n6 : n ≤ 6) (h : firstPair n S = some p) : p.1.length ≤ 6 ∧ p.2.length ≤ 6 := by
  unfold firstPair at h
  obtain ⟨s, hs, h2⟩ := List.exists_of_findSome?_eq_some h
  obtain ⟨t, ht, rfl⟩ := Option.map_eq_some_iff.mp h2
  have tm := List.mem_of_find?_eq_some ht
  have a := (allS_at (famL_mem.mp hs).1 n6).2.2.2.1
  have b := (allS_at (famL_mem.mp tm).1 n6).2.2.2.1
  exact ⟨Nat.le_trans a n6, Nat.le_trans b n6⟩
/-- the first family's pair, or the second's -/
def due (n : Nat) (S S' : List Bool) : Option (List Nat × List Nat) := match firstPair n S with
  | none => firstPair n S'
  | some p => some p
theorem fp_asc {n : Nat} {S : List Bool} {p : List Nat × List Nat} (n6 : n ≤ 6) (h : firstPair n S = some p) : (asc p.1 = true ∧ ∀ g ∈ p.1, g < 6) ∧ asc p.2 = true ∧ ∀ g ∈ p.2, g < 6 := by
  unfold firstPair at h
  obtain ⟨s, hs, h2⟩ := List.exists_of_findSome?_eq_some h
  obtain ⟨t, ht, rfl⟩ := Option.map_eq_some_iff.mp h2
  have tm := List.mem_of_find?_eq_some ht
  have a := allS_at (famL_mem.mp hs).1 n6
  have b := allS_at (famL_mem.mp tm).1 n6
  exact ⟨⟨a.2.2.2.2, fun g hg => Nat.lt_of_lt_of_le (a.2.2.1 g hg) n6⟩, b.2.2.2.2, fun g hg => Nat.lt_of_lt_of_le (b.2.2.1 g hg) n6⟩
section
variable {P : Program} {w : World} {K : PySem.W.Frag} {mg : Str → Option Value} {base : Heap} {a : Ad}
theorem kb_union (T : Txt K mg a) : KBn K a.d_union ["one", "other"] 0 ["other", "one"] (fun _ ws => swp ws) (fun _ zs => swp zs) :=
  kbs_of ["other", "one"] T.fn_union fun kV doc pm an cdv ct us ws hu hw => match us, ws, hu, hw with | [], [_, _], _, _ => by first | rfl | with_unfolding_all rfl | kernel_rfl
theorem kb_split (T : Txt K mg a) : KBn K a.d_split ["one", "other", "things"] 0 ["things", "other", "one"] (fun _ ws => swp ws) (fun _ zs => swp zs) :=
  kbs_of ["things", "other", "one"] T.fn_split fun kV doc pm an cdv ct us ws hu hw => match us, ws, hu, hw with | [], [_, _, _], _, _ => by first | rfl | with_unfolding_all rfl | kernel_rfl
theorem due_none {n : Nat} {S S' : List Bool} {H : Hp} {fv : V} (p : PairV H fv (due n S S')) (fp1 : firstPair n S = none) (fp2 : firstPair n S' = none) : fv = .non := by
  unfold due at p
  rw [fp1, fp2] at p
  exact p
/-! ### _law_joined -/
def spJn (C : Addr) : Sp := fun vs H Q _ => ∃ (f g n p q : Nat) (S S' : List Bool) (fv : V), vs = [.ref f, .ref g, .int n, .ref p, .ref q, fv] ∧ FamV C H f n S ∧ FamV C H g n S' ∧ H p = some (.lst (S.map V.bl)) ∧ H q = some (.lst (S'.map V.bl)) ∧ PairV H fv (due n S S') ∧ ∀ H', Same H H' → Q (.bl true) H'
theorem sc_law_joined : FnScope ["family", "other", "size", "one", "two", "fault", "made", "e", "both"] ["family", "other", "size", "one", "two", "fault"] (defScope s_law_joined) := ⟨rfl, rfl, rfl, by decide +kernel, rfl, by decide +kernel, by decide +kernel⟩
theorem ok_law_joined (T : Txt K mg a) : FnOk P w K mg base CX0 11 a.a_law_joined a.d_law_joined ["family", "other", "size", "one", "two", "fault"] (spJn a.C_Family) := by
  refine T.fn_law_joined.ok sc_law_joined (fun vs H Q E h => ?_) (fun cdv A outer s H vs Q E hr h => ?_)
  · obtain ⟨f, g, n, p, q, S, S', fv, rfl, _⟩ := h
    rfl
  · obtain ⟨f, g, n, p, q, S, S', fv, rfl, F, G, hp, hq, pvv, k⟩ := h
    refine ⟨_, (pss_cons (L2N.ps_try_as (i := 7) rfl rfl sc_law_joined.nd rfl rfl ⟨rfl, by decide, .inl T.mg_NoExchange⟩ takesN0
        (fun W pn xe tk _ => (pss_one (ps_if (pt_cmpR op_eq (pe_op op_mod (pe_callTy Rd.call_intI (by rfl) T.no_int (by decide +kernel) (pa_cons (pv 2) pa_nil)) pe_int) pe_int (nomark _)) (pss_one (ps_set (i := 6) sc_law_joined.nd rfl (Or.inl rfl) (pe_callN0S (ok_union T) (hr.mono (by decide)) (by rfl) T.mg_union T.fn_union.kp (kb_union T) (fun σ => L2N.passAt tk σ) (pk_cons (pv 1) (pk_cons (pv 0) pk_nil))))) (pss_one (ps_set (i := 6) sc_law_joined.nd rfl (Or.inl rfl) (pe_callS (ok_union T) (hr.mono (by decide)) (by rfl) T.mg_union T.fn_union.kp T.b_union (fun σ => L2N.passAt tk σ) (pa_cons (pv 0) (pa_cons (pv 1) pa_nil))))))))
        (fun ea oe cls d pn hz hf => (pss_one (ps_ret (pe_and (pe_cmpR op_notN (pv 5) pe_non (nomark _)) (pe_and (L2H.pe_callH (okH_law_is_set T) ((roomM hr).mono (by decide)) ⟨(ea, oe), hotN hz hf, List.mem_cons_self⟩ (by rfl) T.mg_law_is_set T.fn_law_is_set.kp T.b_law_is_set (fun _ => passAt0) (pa_cons (pe_xf T.xf_NoExchange T.na_NoExchange_smaller hz.zc hf (pv 7)) (pa_cons (pe_ix ixHT (pv 5) pe_int (fun _ _ => rfl)) pa_nil))) (pe_one (L2H.pe_callH (okH_law_is_set T) ((roomM hr).mono (by decide)) ⟨(ea, oe), hotN hz hf, List.mem_cons_self⟩ (by rfl) T.mg_law_is_set T.fn_law_is_set.kp T.b_law_is_set (fun _ => passAt0) (pa_cons (pe_xf T.xf_NoExchange T.na_NoExchange_larger hz.zc hf (pv 7)) (pa_cons (pe_ix ixHT (pv 5) pe_int (fun _ _ => rfl)) pa_nil))))))))))
      (pss_cons (ps_set (i := 8) sc_law_joined.nd rfl (Or.inl rfl) (pe_call (ok_law_both T) (hr.mono (by decide)) (by rfl) T.mg_law_both T.fn_law_both.kp T.b_law_both .nil pass0 (pa_cons (pv 3) (pa_cons (pv 4) pa_nil))))
      (pss_one (ps_ret (pe_and (pe_cmpR op_isN (pv 5) pe_non (nomark _)) (pe_and (pe_call (ok_law_is T) (hr.mono (by decide)) (by rfl) T.mg_law_is T.fn_law_is.kp T.b_law_is .nil pass0 (pa_cons (pv 6) (pa_cons (pv 2) (pa_cons (pv 8) pa_nil)))) (pe_one (pe_cmpR op_isN (pe_call (ok_law_fault T) (hr.mono (by decide)) (by rfl) T.mg_law_fault T.fn_law_fault.kp T.b_law_fault .nil pass0 (pa_cons (pv 8) (pa_cons (pv 2) pa_nil))) pe_non (nomark _))))))))), ?_⟩
    show (_ : TS) _ [some (V.ref f), some (V.ref g), some (V.int n), some (V.ref p), some (V.ref q), some fv, none, none, none] H
    have n6 := F.fam.n6
    have p64 := pow64 n6
    have core : ∀ (Qn : VK) (En : XK), (firstPair n S = none → firstPair n S' = none → ∀ u H', H u = none → Same H H' → FamV a.C_Family H' u n (unL n S S') → Qn (.ref u) H') →
        (∀ o, due n S S' = some o → ∀ d p1 p2 H', H d = none → H' d = some (.xd [("larger", .ref p2), ("smaller", .ref p1)]) → H' p1 = some (.tup (iv o.1)) → H' p2 = some (.tup (iv o.2)) → Same H H' → En (.ref a.C_NoExchange) (some d) H') →
        spUn a.C_Family a.C_NoExchange [.ref f, .ref g] H Qn En := fun Qn En h1 h2 =>
      ⟨f, g, n, S, S', rfl, F, G, h1, fun o fo => h2 o (by unfold due; rw [fo]), fun fn o fo => h2 o (by unfold due; rw [fn]; exact fo)⟩
    refine cut (fun σ H2 => ∃ u, firstPair n S = none ∧ firstPair n S' = none ∧ σ = [some (V.ref f), some (V.ref g), some (V.int n), some (V.ref p), some (V.ref q), some fv, some (V.ref u), none, none] ∧ Same H H2 ∧ FamV a.C_Family H2 u n (unL n S S')) (fun R hR => ?_) (fun σ H2 h => ?_)
    · have ok1 : firstPair n S = none → firstPair n S' = none → ∀ u H', H u = none → Same H H' → FamV a.C_Family H' u n (unL n S S') → R [some (V.ref f), some (V.ref g), some (V.int n), some (V.ref p), some (V.ref q), some fv, some (V.ref u), none, none] H' :=
        fun fp1 fp2 u H' _ e2 W => hR _ _ ⟨u, fp1, fp2, rfl, e2, W⟩
      walk_at "rd"
      refine ⟨by decide, ite2 (fun _ => ?_) (fun _ => ?_)⟩
      · simp only [tCallN0S]
        walk_at "rd"
        refine core _ _ ok1 (fun o fo d q1 q2 H2 hd a1 a2 a3 e2 => ?_)
        rw [fo] at pvv
        obtain ⟨qq, w1, w2, rfl, g1, g2, g3⟩ := pvv
        obtain ⟨⟨c1, c2⟩, c3, c4⟩ : (asc o.1 = true ∧ ∀ g ∈ o.1, g < 6) ∧ asc o.2 = true ∧ ∀ g ∈ o.2, g < 6 := by
          unfold due at fo
          cases fx : firstPair n S with
          | none => rw [fx] at fo; exact fp_asc n6 fo
          | some y => rw [fx] at fo; cases fo; exact fp_asc n6 fx
        obtain ⟨l1, l2⟩ : o.1.length ≤ 6 ∧ o.2.length ≤ 6 := by
          unfold due at fo
          cases fx : firstPair n S with
          | none => rw [fx] at fo; exact fp_len n6 fo
          | some y => rw [fx] at fo; cases fo; exact fp_len n6 fx
        refine ⟨true, T.xm_NoExchange, fun _ ea hea => ?_, fun z => absurd z.symm Bool.false_ne_true⟩
        walk_at "rd"
        have xl : List.lookup ("larger" : Str) [(("larger" : Str), V.ref q2), (("smaller" : Str), V.ref q1)] = some (V.ref q2) := by rw [lookup_put, if_pos rfl]
        have xs : List.lookup ("smaller" : Str) [(("larger" : Str), V.ref q2), (("smaller" : Str), V.ref q1)] = some (V.ref q1) := by rw [lookup_put, if_neg (by decide +kernel), lookup_put, if_pos rfl]
        simp only [tXf]
        walk_at "rd"
        refine ⟨_, a1, _, xs, _, e2 _ _ g1, _, rfl, q1, w1, o.1, rfl, a2, e2 _ _ g2, c1, c2, l1, fun H3 e3 => ⟨_, rfl, ?_⟩⟩
        rw [if_pos rfl]
        exact ⟨_, e3 _ _ a1, _, xl, _, e3 _ _ (e2 _ _ g1), _, rfl, q2, w2, o.2, rfl, e3 _ _ a3, e3 _ _ (e2 _ _ g3), c3, c4, l2, fun H4 e4 => k _ ((e2.trans e3).trans e4)⟩
      · refine core _ _ ok1 (fun o fo d q1 q2 H2 hd a1 a2 a3 e2 => ?_)
        rw [fo] at pvv
        obtain ⟨qq, w1, w2, rfl, g1, g2, g3⟩ := pvv
        obtain ⟨⟨c1, c2⟩, c3, c4⟩ : (asc o.1 = true ∧ ∀ g ∈ o.1, g < 6) ∧ asc o.2 = true ∧ ∀ g ∈ o.2, g < 6 := by
          unfold due at fo
          cases fx : firstPair n S with
          | none => rw [fx] at fo; exact fp_asc n6 fo
          | some y => rw [fx] at fo; cases fo; exact fp_asc n6 fx
        obtain ⟨l1, l2⟩ : o.1.length ≤ 6 ∧ o.2.length ≤ 6 := by
          unfold due at fo
          cases fx : firstPair n S with
          | none => rw [fx] at fo; exact fp_len n6 fo
          | some y => rw [fx] at fo; cases fo; exact fp_len n6 fx
        refine ⟨true, T.xm_NoExchange, fun _ ea hea => ?_, fun z => absurd z.symm Bool.false_ne_true⟩
        walk_at "rd"
        have xl : List.lookup ("larger" : Str) [(("larger" : Str), V.ref q2), (("smaller" : Str), V.ref q1)] = some (V.ref q2) := by rw [lookup_put, if_pos rfl]
        have xs : List.lookup ("smaller" : Str) [(("larger" : Str), V.ref q2), (("smaller" : Str), V.ref q1)] = some (V.ref q1) := by rw [lookup_put, if_neg (by decide +kernel), lookup_put, if_pos rfl]
        simp only [tXf]
        walk_at "rd"
        refine ⟨_, a1, _, xs, _, e2 _ _ g1, _, rfl, q1, w1, o.1, rfl, a2, e2 _ _ g2, c1, c2, l1, fun H3 e3 => ⟨_, rfl, ?_⟩⟩
        rw [if_pos rfl]
        exact ⟨_, e3 _ _ a1, _, xl, _, e3 _ _ (e2 _ _ g1), _, rfl, q2, w2, o.2, rfl, e3 _ _ a3, e3 _ _ (e2 _ _ g3), c3, c4, l2, fun H4 e4 => k _ ((e2.trans e3).trans e4)⟩
    obtain ⟨u, fp1, fp2, rfl, e2, W⟩ := h
    obtain rfl := due_none pvv fp1 fp2
    have U := fam_un F.fam G.fam
    have none2 := fp_none U (un_ex F.fam G.fam (ex_of F.fam fp1) (ex_of G.fam fp2))
    walk_at "rd"
    refine ⟨p, q, n, S, S', rfl, e2 _ _ hp, e2 _ _ hq, F.fam, G.fam, fun b H3 _ e3 a3 => ⟨u, b, n, _, rfl, W.same e3, a3, fun H4 e4 => ⟨_, rfl, ?_⟩⟩⟩
    rw [if_pos rfl]
    refine ⟨b, n, _, rfl, e4 _ _ a3, U, fun v H5 e5 pv => ?_⟩
    rw [none2] at pv
    obtain rfl : v = .non := pv
    rw [decide_eq_true rfl]
    exact k _ (((e2.trans e3).trans e4).trans e5)
end

end K32
namespace K32
open PySem PySem.Spec PyProof.Rows L2 Own OwnSeq OwnSet OwnComb OwnSort OwnHot OwnExN OwnProj
local macro_rules | `(tactic| walk_at "rd") => `(tactic| simp only [tSeq, tAsg, tOp, tUn, tVar, gName, gSub, rIxL, rIxT, rSetL, tC, rI0, rI, rU, rEq, rNe, tCons, tNil, tCB, tLst, tTup, tIfS, tAnd, tOr, tNot, tAndV, tOrV, tNotV, tTest, tB, tIf, tRet, tDrop, tNext, tBreak, tCont, tCall, tCallS, L2.WE, tMakeS, rIsS, rIsB, tChain, gSeq, gRest, gCons, gNil, tFor_seq, tFor_enumS, tLc_seq, tLc_enumS, rAny, rAll, L2.tMeth, StX.tStar, rIn, tLstRg, tRg1, tRg2, rSetI, rSortedSet, rInDT, rInD, rNotInD, rEqD, rNeD, iComb, tFld, tMake, tMkO, sFld, tOst, tNever, tBits, clv, isB,
  Rd.tFor_rng1, Rd.tFor_rng2, Rd.tFor_list, Rd.tFor_tup, Rd.tLc_list, Rd.tLc_tup, Rd.tLc_rng1, Rd.LcTurn, tYes, wipe, Rd.rLenL, Rd.rLenT, Rd.rIntI, Rd.rIxH, rIxHT,  HO.tup.injEq, Rd.at0, Rd.at1, Rd.at2, Rd.at3, Rd.ixN40, Rd.ixN41, Rd.ixN42, Rd.ixN43, Rd.scal_ii, cxOf,
  List.length_cons, List.length_nil, List.length_map, List.map_cons, List.map_nil, upd_same, decide_eq_true_eq, decide_true, decide_false, if_true, if_false, Bool.false_eq_true, Bool.not_true, Bool.not_false, HO.lst.injEq, HO.ins.injEq, List.set_cons_zero, List.set_cons_succ, List.getElem?_cons_zero, List.getElem?_cons_succ, List.append_nil, List.nil_append, List.cons_append, Option.some.injEq, V.ref.injEq, V.int.injEq, V.bl.injEq, List.cons.injEq, exists_eq_left', exists_and_left, exists_eq_left, true_and, and_true, and_self, and_assoc, implies_true, reduceCtorEq, Nat.reduceAdd])

section
variable {P : Program} {w : World} {K : PySem.W.Frag} {mg : Str → Option Value} {base : Heap} {a : Ad}
theorem neD_at {X : Cx} (K : PySem.W.Frag) (hu : X.A.units + 64 < cLine) (hK : X.K = K := by rfl) : OpR X (compareOp .NotEq) (rNeD K) := by
  subst hK
  exact op_neD hu
theorem listK0 {X : Cx} (K : PySem.W.Frag) (hK : X.K = K := by rfl) : CallR X (.type "list") (fun xs H Q => ∃ p ys, xs = [V.ref p] ∧ (SqL K H p ys ∨ SqT K H p ys) ∧ ∀ l, H l = none → Q (.ref l) (upd H l (.lst ys))) := by
  subst hK
  exact call_list_of
theorem tupK {X : Cx} (K : PySem.W.Frag) (hK : X.K = K := by rfl) : CallR X (.type "tuple") fun xs H Q => ∃ p ys, xs = [.ref p] ∧ ((SqL K H p ys ∧ ∀ l, H l = none → Q (.ref l) (upd H l (.tup ys))) ∨ (SqT K H p ys ∧ Q (.ref p) H)) := by
  subst hK
  exact call_tuple_of
theorem box_neB {K : PySem.W.Frag} {H : Hp} {b c q : Addr} {ns : List Int} (B : BoxAt K H b c ns) {S : List Bool} (h : H q = some (.lst (S.map V.bl))) : q ≠ b := by
  rintro rfl
  obtain ⟨n1, n2, n3, hb, _⟩ := B.ob
  rw [hb] at h
  injection h with h
  injection h with h
  cases S with
  | nil => cases h
  | cons x S => injection h with z; cases z
theorem FamV.but {C b : Addr} {H H' : Hp} {f n : Nat} {S : List Bool} {l : List V} (e : But b H H') (hb : H b = some (.lst l)) (F : FamV C H f n S) : FamV C H' f n S := F.kp (Kp.but e hb)
theorem inV_true (L : List Bool) : inV (V.bl true) (L.map V.bl) = L.any id := by
  unfold inV
  rw [List.any_map]
  induction L with
  | nil => rfl
  | cons x L ih =>
    rw [List.any_cons, ih, List.any_cons]
    cases x with
    | true =>
      show (eqV (V.bl true) (V.bl true) || _) = _
      rw [show eqV (V.bl true) (V.bl true) = true from rfl]
      rfl
    | false =>
      show (eqV (V.bl false) (V.bl true) || _) = _
      rw [show eqV (V.bl false) (V.bl true) = false from rfl]
      rfl
/-- x and the rest of M, as a yes or no -/
def twoB (S S' : List Bool) (M x : Nat) : Bool := decide (Sub x M) && (In S x && In S' (M - x))
theorem two_iff {S S' : List Bool} {M x : Nat} : twoB S S' M x = true ↔ Two S S' M x := by
  unfold twoB Two
  rw [Bool.and_eq_true, Bool.and_eq_true, decide_eq_true_eq]
/-! ### _law_parted -/
def spPt (K : PySem.W.Frag) (C : Addr) : Sp := fun vs H Q _ => ∃ (b c f g n p q M : Nat) (ns : List Int) (S S' : List Bool) (fv : V), vs = [.ref b, .ref f, .ref g, .int n, .ref p, .ref q, fv, .int M] ∧ BoxAt K H b c ns ∧ FamV C H f n S ∧ FamV C H g n S' ∧ H p = some (.lst (S.map V.bl)) ∧ H q = some (.lst (S'.map V.bl)) ∧ M < 2 ^ n ∧ PairV H fv (due n S S') ∧
  ∀ H', BoxAt K H' b c ns → But b H H' → Q (.bl true) H'
theorem sc_law_parted : FnScope ["box", "family", "other", "size", "one", "two", "fault", "mask", "passed", "actual", "e", "left", "right", "part"] ["box", "family", "other", "size", "one", "two", "fault", "mask"] (defScope s_law_parted) := ⟨rfl, rfl, rfl, by decide +kernel, rfl, by decide +kernel, by decide +kernel⟩
theorem ok_law_parted (T : Txt K mg a) : FnOk P w K mg base CX0 11 a.a_law_parted a.d_law_parted ["box", "family", "other", "size", "one", "two", "fault", "mask"] (spPt K a.C_Family) := by
  refine T.fn_law_parted.ok sc_law_parted (fun vs H Q E h => ?_) (fun cdv A outer s H vs Q E hr h => ?_)
  · obtain ⟨b, c, f, g, n, p, q, M, ns, S, S', fv, rfl, _⟩ := h
    rfl
  · obtain ⟨b, c, f, g, n, p, q, M, ns, S, S', fv, rfl, B, F, G, hp, hq, hM, pvv, k⟩ := h
    refine ⟨_, (pss_cons (ps_set (i := 8) sc_law_parted.nd rfl (Or.inl rfl) (pe_call (ok_law_things T) (hr.mono (by decide)) (by rfl) T.mg_law_things T.fn_law_things.kp T.b_law_things .nil pass0 (pa_cons (pv 7) pa_nil)))
      (pss_cons (ps_if (pt_cmpR op_eq (pe_call (ok_law_draw T) (hr.mono (by decide)) (by rfl) T.mg_law_draw T.fn_law_draw.kp T.b_law_draw .nil pass0 (pa_cons (pv 0) (pa_cons pe_int pa_nil))) pe_int (nomark _)) (pss_one (ps_set (i := 8) sc_law_parted.nd rfl (Or.inl rfl) (pe_callTy call_list_of (by rfl) T.no_list (by decide +kernel) (pa_cons (pv 8) pa_nil)))) pss_nil)
      (pss_cons (L2N.ps_try_as (i := 10) rfl rfl sc_law_parted.nd rfl rfl ⟨rfl, by decide, .inl T.mg_NoExchange⟩ takesN0
        (fun W pn xe tk _ => (pss_one (ps_if (pt_cmpR op_eq (pe_op op_mod (pe_callTy Rd.call_intI (by rfl) T.no_int (by decide +kernel) (pa_cons (pe_op op_add (pv 3) (pv 7)) pa_nil)) pe_int) pe_int (nomark _)) (pss_one (ps_set (i := 9) sc_law_parted.nd rfl (Or.inl rfl) (pe_callN0S (ok_split T) (hr.mono (by decide)) (by rfl) T.mg_split T.fn_split.kp (kb_split T) (fun σ => L2N.passAt tk σ) (pk_cons (pv 8) (pk_cons (pv 2) (pk_cons (pv 1) pk_nil)))))) (pss_one (ps_set (i := 9) sc_law_parted.nd rfl (Or.inl rfl) (pe_callS (ok_split T) (hr.mono (by decide)) (by rfl) T.mg_split T.fn_split.kp T.b_split (fun σ => L2N.passAt tk σ) (pa_cons (pv 1) (pa_cons (pv 2) (pa_cons (pv 8) pa_nil)))))))))
        (fun ea oe cls d pn hz hf => (pss_one (ps_ret (pe_and (pe_cmpR op_notN (pv 6) pe_non (nomark _)) (pe_and (L2H.pe_callH (okH_law_is_set T) ((roomM hr).mono (by decide)) ⟨(ea, oe), hotN hz hf, List.mem_cons_self⟩ (by rfl) T.mg_law_is_set T.fn_law_is_set.kp T.b_law_is_set (fun _ => passAt0) (pa_cons (pe_xf T.xf_NoExchange T.na_NoExchange_smaller hz.zc hf (pv 10)) (pa_cons (pe_ix ixHT (pv 6) pe_int (fun _ _ => rfl)) pa_nil))) (pe_one (L2H.pe_callH (okH_law_is_set T) ((roomM hr).mono (by decide)) ⟨(ea, oe), hotN hz hf, List.mem_cons_self⟩ (by rfl) T.mg_law_is_set T.fn_law_is_set.kp T.b_law_is_set (fun _ => passAt0) (pa_cons (pe_xf T.xf_NoExchange T.na_NoExchange_larger hz.zc hf (pv 10)) (pa_cons (pe_ix ixHT (pv 6) pe_int (fun _ _ => rfl)) pa_nil))))))))))
      (pss_cons (ps_if (PW.pt (pw_or (pt_cmpR op_notN (pv 6) pe_non (nomark _)) (pw_or1 (pt_cmpR (neD_at K hr.units) (pe_callTy (tupK K) (by rfl) T.no_tuple (by decide +kernel) (pa_cons (pv 8) pa_nil)) (pe_call (ok_law_things T) (hr.mono (by decide)) (by rfl) T.mg_law_things T.fn_law_things.kp T.b_law_things .nil pass0 (pa_cons (pv 7) pa_nil)) (nomark _))))) (pss_one (ps_ret pe_bl)) pss_nil)
      (pss_cons (ps_if (pt_cmpR (op_notInK K) pe_bl (pe_lc (own := [("part", 13)]) (by rfl) sc_law_parted.nd (pi_range1 (by rfl) T.no_range (pa_cons (pe_op op_add (pv 7) pe_int) pa_nil)) (blkOk_by (own := [("part", 13)]) (N := ["box", "family", "other", "size", "one", "two", "fault", "mask", "passed", "actual", "e", "left", "right", "part"]) (sc := defScope s_law_parted) (by decide +kernel)) (fun _ _ _ _ _ => pg_name (i := 13) sc_law_parted.nd rfl (Or.inl rfl)) (fun _ _ _ _ _ => pts_nil) (fun _ _ _ _ _ => (pe_and (pe_cmpR op_eq (pe_op op_and (pv 13) (pv 7)) (pv 13) (nomark _)) (pe_and (pe_ix Rd.ixH (pv 4) (pv 13) (fun _ _ => rfl)) (pe_one (pe_ix Rd.ixH (pv 5) (pe_op op_sub (pv 7) (pv 13)) (fun _ _ => rfl))))))) (by with_unfolding_all rfl)) (pss_one (ps_ret (pe_cmpR op_isN (pv 9) pe_non (nomark _)))) pss_nil)
      (pss_cons (ps_if (PW.pt (pw_or (pt_not (pt_val (pe_callB (call_isB .tup) (by rfl) T.no_isinstance (by decide +kernel) (pa_cons (pv 9) (pa_cons (pe_bltn (v := .ty "tuple") (u := .type "tuple") (by rfl) T.no_tuple (by decide +kernel) rfl) pa_nil))))) (pw_or1 (pt_cmpR op_ne (pe_callB (lenK K) (by rfl) T.no_len PySem.boot_len (pa_cons (pv 9) pa_nil)) pe_int (nomark _))))) (pss_one (ps_ret pe_bl)) pss_nil)
      (pss_cons (ps_set (i := 11) sc_law_parted.nd rfl (Or.inl rfl) (pe_call (ok_law_told T) (hr.mono (by decide)) (by rfl) T.mg_law_told T.fn_law_told.kp T.b_law_told .nil pass0 (pa_cons (pe_ix ixHT (pv 9) pe_int (fun _ _ => rfl)) (pa_cons (pv 3) pa_nil))))
      (pss_cons (ps_set (i := 12) sc_law_parted.nd rfl (Or.inl rfl) (pe_call (ok_law_told T) (hr.mono (by decide)) (by rfl) T.mg_law_told T.fn_law_told.kp T.b_law_told .nil pass0 (pa_cons (pe_ix ixHT (pv 9) pe_int (fun _ _ => rfl)) (pa_cons (pv 3) pa_nil))))
      (pss_cons (ps_if (PW.pt (pw_or (pt_cmpR op_isN (pv 11) pe_non (nomark _)) (pw_or (pt_cmpR op_isN (pv 12) pe_non (nomark _)) (pw_or (pt_cmpR op_ne (pe_op op_and (pv 11) (pv 12)) pe_int (nomark _)) (pw_or1 (pt_cmpR op_ne (pe_op op_or (pv 11) (pv 12)) (pv 7) (nomark _))))))) (pss_one (ps_ret pe_bl)) pss_nil)
      (pss_one (ps_ret (pe_and (pe_ix Rd.ixH (pv 4) (pv 11) (fun _ _ => rfl)) (pe_one (pe_ix Rd.ixH (pv 5) (pv 12) (fun _ _ => rfl))))))))))))))), ?_⟩
    show (_ : TS) _ [some (V.ref b), some (V.ref f), some (V.ref g), some (V.int n), some (V.ref p), some (V.ref q), some fv, some (V.int M), none, none, none, none, none, none] H
    have n6 := F.fam.n6
    have p64 := pow64 n6
    refine cut (fun σ H' => ∃ pp, σ = [some (V.ref b), some (V.ref f), some (V.ref g), some (V.int n), some (V.ref p), some (V.ref q), some fv, some (V.int M), some (V.ref pp), none, none, none, none, none] ∧ pp ≠ b ∧ H' pp = some (.tup (iv (bits M))) ∧ BoxAt K H' b c ns ∧ But b H H') (fun R hR => ?_) (fun σ H' h => ?_)
    · walk_at "rd"
      exact ⟨M, rfl, fun q H1 q0 e1 a1 => hR _ _ ⟨q, rfl, B.ne_new q0, a1, B.same e1, Same.but e1⟩⟩
    obtain ⟨pp, rfl, np, hpp, B1, e1⟩ := h
    refine cut (fun σ H' => ∃ pp l, σ = [some (V.ref b), some (V.ref f), some (V.ref g), some (V.int n), some (V.ref p), some (V.ref q), some fv, some (V.int M), some (V.ref pp), none, none, none, none, none] ∧ pp ≠ b ∧ H' pp = some (sq l (iv (bits M))) ∧ BoxAt K H' b c ns ∧ But b H H') (fun R hR => ?_) (fun σ H' h => ?_)
    · walk_at "rd"
      refine drw B1 (by decide) (by decide) fun x H2 x1 B2 e2 => ⟨rfl, ite2 (fun _ => ⟨_, .inr (SqT.of (e2 _ _ np hpp)), fun z hz => hR _ _ ⟨z, true, rfl, B2.ne_new hz, upd_same, B2.same (same_upd hz), (e1.trans e2).trans (Same.but (same_upd hz))⟩⟩) (fun _ => hR _ _ ⟨pp, false, rfl, np, e2 _ _ np hpp, B2, e1.trans e2⟩)⟩
    obtain ⟨pp, l, rfl, np, hpp, B1, e1⟩ := h
    have hb0 : ∃ bl, H b = some (.lst bl) := let ⟨_, _, _, hb, _⟩ := B.ob; ⟨_, hb⟩
    obtain ⟨bl, hb0⟩ := hb0
    have F1 := F.but e1 hb0
    have G1 := G.but e1 hb0
    have hp1 := e1 _ _ (box_neB B hp) hp
    have hq1 := e1 _ _ (box_neB B hq) hq
    have core : ∀ (Qn : VK) (En : XK), (firstPair n S = none → firstPair n S' = none → (∀ x r p1 p2 H'', Two S S' M x → Same H' H'' → H'' r = some (.tup [.ref p1, .ref p2]) → H'' p1 = some (.tup (iv (bits x))) → H'' p2 = some (.tup (iv (bits (M - x)))) → Qn (.ref r) H'') ∧
        ((∀ x, ¬ Two S S' M x) → ∀ H'', Same H' H'' → Qn .non H'')) →
        (∀ o, due n S S' = some o → ∀ d p1 p2 H'', H' d = none → H'' d = some (.xd [("larger", .ref p2), ("smaller", .ref p1)]) → H'' p1 = some (.tup (iv o.1)) → H'' p2 = some (.tup (iv o.2)) → Same H' H'' → En (.ref a.C_NoExchange) (some d) H'') →
        spSp a.C_Family a.C_NoExchange [.ref f, .ref g, .ref pp] H' Qn En := fun Qn En h1 h2 =>
      ⟨f, g, pp, n, M, l, S, S', rfl, F1, G1, hpp, hM, h1, fun o fo => h2 o (by unfold due; rw [fo]), fun fn o fo => h2 o (by unfold due; rw [fn]; exact fo)⟩
    refine cut (fun σ H2 => ∃ va, firstPair n S = none ∧ firstPair n S' = none ∧ σ = [some (V.ref b), some (V.ref f), some (V.ref g), some (V.int n), some (V.ref p), some (V.ref q), some fv, some (V.int M), some (V.ref pp), some va, none, none, none, none] ∧ Same H' H2 ∧ ((va = .non ∧ ∀ x, ¬ Two S S' M x) ∨ ∃ x r p1 p2, va = .ref r ∧ Two S S' M x ∧ H2 r = some (.tup [.ref p1, .ref p2]) ∧ H2 p1 = some (.tup (iv (bits x))) ∧ H2 p2 = some (.tup (iv (bits (M - x)))))) (fun R hR => ?_) (fun σ H2 h => ?_)
    · have ok1 : firstPair n S = none → firstPair n S' = none → (∀ x r p1 p2 H'', Two S S' M x → Same H' H'' → H'' r = some (.tup [.ref p1, .ref p2]) → H'' p1 = some (.tup (iv (bits x))) → H'' p2 = some (.tup (iv (bits (M - x)))) → R [some (V.ref b), some (V.ref f), some (V.ref g), some (V.int n), some (V.ref p), some (V.ref q), some fv, some (V.int M), some (V.ref pp), some (V.ref r), none, none, none, none] H'') ∧
          ((∀ x, ¬ Two S S' M x) → ∀ H'', Same H' H'' → R [some (V.ref b), some (V.ref f), some (V.ref g), some (V.int n), some (V.ref p), some (V.ref q), some fv, some (V.int M), some (V.ref pp), some V.non, none, none, none, none] H'') :=
        fun fp1 fp2 => ⟨fun x r p1 p2 H'' tx e2 h1 h2 h3 => hR _ _ ⟨_, fp1, fp2, rfl, e2, .inr ⟨x, r, p1, p2, rfl, tx, h1, h2, h3⟩⟩, fun no H'' e2 => hR _ _ ⟨_, fp1, fp2, rfl, e2, .inl ⟨rfl, no⟩⟩⟩
      have pvv := PairV.kp (Kp.but e1 hb0) pvv
      walk_at "rd"
      refine ⟨by decide, ite2 (fun _ => ?_) (fun _ => ?_)⟩
      · simp only [tCallN0S]
        walk_at "rd"
        refine core _ _ ok1 (fun o fo d q1 q2 H2 hd a1 a2 a3 e2 => ?_)
        rw [fo] at pvv
        obtain ⟨qq, w1, w2, rfl, g1, g2, g3⟩ := pvv
        obtain ⟨⟨c1, c2⟩, c3, c4⟩ : (asc o.1 = true ∧ ∀ g ∈ o.1, g < 6) ∧ asc o.2 = true ∧ ∀ g ∈ o.2, g < 6 := by
          unfold due at fo
          cases fx : firstPair n S with
          | none => rw [fx] at fo; exact fp_asc n6 fo
          | some y => rw [fx] at fo; cases fo; exact fp_asc n6 fx
        obtain ⟨l1, l2⟩ : o.1.length ≤ 6 ∧ o.2.length ≤ 6 := by
          unfold due at fo
          cases fx : firstPair n S with
          | none => rw [fx] at fo; exact fp_len n6 fo
          | some y => rw [fx] at fo; cases fo; exact fp_len n6 fx
        refine ⟨true, T.xm_NoExchange, fun _ ea hea => ?_, fun z => absurd z.symm Bool.false_ne_true⟩
        walk_at "rd"
        have xl : List.lookup ("larger" : Str) [(("larger" : Str), V.ref q2), (("smaller" : Str), V.ref q1)] = some (V.ref q2) := by rw [lookup_put, if_pos rfl]
        have xs : List.lookup ("smaller" : Str) [(("larger" : Str), V.ref q2), (("smaller" : Str), V.ref q1)] = some (V.ref q1) := by rw [lookup_put, if_neg (by decide +kernel), lookup_put, if_pos rfl]
        simp only [tXf]
        walk_at "rd"
        refine ⟨_, a1, _, xs, _, e2 _ _ g1, _, rfl, q1, w1, o.1, rfl, a2, e2 _ _ g2, c1, c2, l1, fun H3 e3 => ⟨_, rfl, ?_⟩⟩
        rw [if_pos rfl]
        exact ⟨_, e3 _ _ a1, _, xl, _, e3 _ _ (e2 _ _ g1), _, rfl, q2, w2, o.2, rfl, e3 _ _ a3, e3 _ _ (e2 _ _ g3), c3, c4, l2, fun H4 e4 => k _ (B1.same ((e2.trans e3).trans e4)) (e1.trans (Same.but ((e2.trans e3).trans e4)))⟩
      · refine core _ _ ok1 (fun o fo d q1 q2 H2 hd a1 a2 a3 e2 => ?_)
        rw [fo] at pvv
        obtain ⟨qq, w1, w2, rfl, g1, g2, g3⟩ := pvv
        obtain ⟨⟨c1, c2⟩, c3, c4⟩ : (asc o.1 = true ∧ ∀ g ∈ o.1, g < 6) ∧ asc o.2 = true ∧ ∀ g ∈ o.2, g < 6 := by
          unfold due at fo
          cases fx : firstPair n S with
          | none => rw [fx] at fo; exact fp_asc n6 fo
          | some y => rw [fx] at fo; cases fo; exact fp_asc n6 fx
        obtain ⟨l1, l2⟩ : o.1.length ≤ 6 ∧ o.2.length ≤ 6 := by
          unfold due at fo
          cases fx : firstPair n S with
          | none => rw [fx] at fo; exact fp_len n6 fo
          | some y => rw [fx] at fo; cases fo; exact fp_len n6 fx
        refine ⟨true, T.xm_NoExchange, fun _ ea hea => ?_, fun z => absurd z.symm Bool.false_ne_true⟩
        walk_at "rd"
        have xl : List.lookup ("larger" : Str) [(("larger" : Str), V.ref q2), (("smaller" : Str), V.ref q1)] = some (V.ref q2) := by rw [lookup_put, if_pos rfl]
        have xs : List.lookup ("smaller" : Str) [(("larger" : Str), V.ref q2), (("smaller" : Str), V.ref q1)] = some (V.ref q1) := by rw [lookup_put, if_neg (by decide +kernel), lookup_put, if_pos rfl]
        simp only [tXf]
        walk_at "rd"
        refine ⟨_, a1, _, xs, _, e2 _ _ g1, _, rfl, q1, w1, o.1, rfl, a2, e2 _ _ g2, c1, c2, l1, fun H3 e3 => ⟨_, rfl, ?_⟩⟩
        rw [if_pos rfl]
        exact ⟨_, e3 _ _ a1, _, xl, _, e3 _ _ (e2 _ _ g1), _, rfl, q2, w2, o.2, rfl, e3 _ _ a3, e3 _ _ (e2 _ _ g3), c3, c4, l2, fun H4 e4 => k _ (B1.same ((e2.trans e3).trans e4)) (e1.trans (Same.but ((e2.trans e3).trans e4)))⟩
    obtain ⟨va, fp1, fp2, rfl, e2, res⟩ := h
    obtain rfl := due_none pvv fp1 fp2
    refine cut (fun σ H3 => σ = [some (V.ref b), some (V.ref f), some (V.ref g), some (V.int n), some (V.ref p), some (V.ref q), some V.non, some (V.int M), some (V.ref pp), some va, none, none, none, none] ∧ Same H2 H3) (fun R hR => ?_) (fun σ H3 h => ?_)
    · walk_at "rd"
      have hp2 := e2 _ _ hpp
      cases l with
      | true =>
        refine ⟨_, .inl ⟨SqL.of hp2, fun z hz => ⟨M, rfl, fun y H5 _ e5 a5 => ⟨_, dp_set (e5 _ _ upd_same), _, dp_set a5, sh_set _, sh_set _, ?_⟩⟩⟩⟩
        rw [eqv_set, decide_eq_true rfl, if_neg (by decide)]
        exact hR _ _ ⟨rfl, (same_upd hz).trans e5⟩
      | false =>
        refine ⟨_, .inr ⟨SqT.of hp2, M, rfl, fun y H5 _ e5 a5 => ⟨_, dp_set (e5 _ _ hp2), _, dp_set a5, sh_set _, sh_set _, ?_⟩⟩⟩
        rw [eqv_set, decide_eq_true rfl, if_neg (by decide)]
        exact hR _ _ ⟨rfl, e5⟩
    obtain ⟨rfl, e3⟩ := h
    refine cut (fun σ H4 => σ = [some (V.ref b), some (V.ref f), some (V.ref g), some (V.int n), some (V.ref p), some (V.ref q), some V.non, some (V.int M), some (V.ref pp), some va, none, none, none, none] ∧ Same H2 H4 ∧ ∃ x r p1 p2, va = .ref r ∧ Two S S' M x ∧ H4 r = some (.tup [.ref p1, .ref p2]) ∧ H4 p1 = some (.tup (iv (bits x))) ∧ H4 p2 = some (.tup (iv (bits (M - x))))) (fun R hR => ?_) (fun σ H4 h => ?_)
    · walk_at "rd"
      have e23 := e2.trans e3
      have hp3 := e23 _ _ hp1
      have hq3 := e23 _ _ hq1
      rw [show ((M : Int) + 1).toNat = M + 1 by omega]
      refine ⟨by omega, by omega, Rd.lcl_rng (fun D i H6 => H3 D = none ∧ Same H3 H6 ∧ H6 D = some (.lst (((List.range i).map (twoB S S' M)).map V.bl))) (fun D hD => ⟨hD, same_upd hD, upd_same⟩) (fun D i H6 hi ⟨n7, e6, a6⟩ => ?_) (fun D H6 _ ⟨n7, e6, a6⟩ => ?_)⟩
      · have fin : ∀ y : Bool, y = twoB S S' M i → ∃ acc, H6 D = some (.lst acc) ∧ acc.length < sizeLine ∧ H3 D = none ∧ Same H3 (upd H6 D (.lst (acc ++ [V.bl y]))) ∧ acc ++ [V.bl y] = ((List.range (i + 1)).map (twoB S S' M)).map V.bl := fun y hy => by
          refine ⟨_, a6, small (by rw [List.length_map, List.length_map, List.length_range]; omega), n7, fun b o hb => (upd_ne (ne_of_none hb n7)).trans (e6 _ _ hb), ?_⟩
          rw [List.range_succ, List.map_append, List.map_append, hy]
          rfl
        walk_at "rd"
        rw [Int.zero_add]
        by_cases hs : Sub i M
        · rw [if_pos (sub_iff.mpr hs)]
          refine ⟨_, e6 _ _ hp3, _, in_bool (by rw [F.fam.len]; omega), _, rfl, ite2 (fun h1 => ⟨_, e6 _ _ hq3, V.bl (In S' (M - i)), ?_, fin (In S' (M - i)) ?_⟩) (fun h1 => fin _ ?_)⟩
          · rw [← Int.natCast_sub (sub_le hs)]
            exact in_bool (by rw [G.fam.len]; omega)
          · unfold twoB
            rw [decide_eq_true hs, h1]
            rfl
          · unfold twoB
            rw [Bool.eq_false_iff.mpr h1, Bool.false_and, Bool.and_false]
        · rw [if_neg (fun z => hs (sub_iff.mp z))]
          refine fin _ ?_
          unfold twoB
          rw [decide_eq_false hs, Bool.false_and]
      · refine ⟨D, rfl, _, .inl (SqL.of a6), rfl, bl_flat _, ?_⟩
        rw [inV_true, List.any_map]
        rcases res with ⟨rfl, no⟩ | ⟨x, r, p1, p2, rfl, tx, h1, h2, h3⟩
        · rw [if_pos (by
            rw [Bool.not_eq_true', List.any_eq_false]
            intro y _ hy
            exact no y (two_iff.mp hy)), decide_eq_true rfl]
          exact k _ (B1.same (e23.trans e6)) (e1.trans (Same.but (e23.trans e6)))
        · rw [if_neg (by
            rw [Bool.not_eq_true', Bool.not_eq_false]
            exact List.any_eq_true.mpr ⟨x, List.mem_range.mpr (by have := sub_le tx.1; omega), two_iff.mpr tx⟩)]
          have e36 := e3.trans e6
          exact hR _ _ ⟨rfl, e36, x, r, p1, p2, rfl, tx, e36 _ _ h1, e36 _ _ h2, e36 _ _ h3⟩
    obtain ⟨rfl, e4, x, r, p1, p2, rfl, tx, h1, h2, h3⟩ := h
    have xl : x < 2 ^ n := by have := sub_le tx.1; omega
    have yl : M - x < 2 ^ n := by omega
    have ax := allS_at (bits_in n6 xl).2 n6
    have ay := allS_at (bits_in n6 yl).2 n6
    have M64 : M < 64 := by omega
    have mt := (min_at M64 tx.1).1
    have dis : x &&& (M - x) = 0 := dis_iff.mpr fun j hj => by
      rw [mt, bit_dif M64 (by omega), hj]
      simp
    have all : x ||| (M - x) = M := mask_ext fun j => by
      rw [bit_orm, mt, bit_dif M64 (by omega)]
      have := sub_bits.mp tx.1 j
      cases e : bit x j with
      | true => rw [this e]; rfl
      | false => simp
    walk_at "rd"
    refine ⟨.tup, .tup h1, ?_⟩
    rw [if_neg (by decide)]
    refine ⟨_, .inr (SqT.of h1), ?_⟩
    rw [if_neg (by simp)]
    refine ⟨_, h1, _, rfl, p1, n, bits x, rfl, h2, n6, ax.2.2.2.2, ax.2.2.1, Nat.le_trans ax.2.2.2.1 n6, fun H5 e5 => ⟨_, e5 _ _ h1, _, rfl, p2, n, bits (M - x), rfl, e5 _ _ h3, n6, ay.2.2.2.2, ay.2.2.1, Nat.le_trans ay.2.2.2.1 n6, fun H6 e6 => ?_⟩⟩
    rw [(bits_in n6 xl).1, (bits_in n6 yl).1]
    show (if V.int (x : Nat) = V.non then _ else _)
    rw [if_neg (by simp)]
    show (if V.int ((M - x : Nat) : Int) = V.non then _ else _)
    rw [if_neg (by simp)]
    refine ⟨_, rfl, _, rfl, ?_⟩
    rw [and_nat, dis, if_neg (by simp)]
    refine ⟨_, rfl, _, rfl, ?_⟩
    rw [or_nat, all, if_neg (by simp)]
    have e26 := ((e2.trans e4).trans e5).trans e6
    refine ⟨_, _, rfl, e26 _ _ hp1, _, in_bool (by rw [F.fam.len]; exact xl), ?_⟩
    refine ⟨_, rfl, ?_⟩
    rw [if_pos tx.2.1]
    refine ⟨_, _, rfl, e26 _ _ hq1, _, in_bool (by rw [G.fam.len]; exact yl), ?_⟩
    rw [tx.2.2]
    exact k _ (B1.same e26) (e1.trans (Same.but e26))
end

end K32
namespace K32
open PySem PySem.Spec PyProof.Rows L2 Own OwnSeq OwnSet OwnComb OwnSort OwnHot OwnExN OwnProj
local macro_rules | `(tactic| walk_at "rd") => `(tactic| simp only [tSeq, tAsg, tOp, tUn, tVar, gName, gSub, rIxL, rIxT, rSetL, tC, rI0, rI, rU, rEq, rNe, tCons, tNil, tCB, tLst, tTup, tIfS, tAnd, tOr, tNot, tAndV, tOrV, tNotV, tTest, tB, tIf, tRet, tDrop, tNext, tBreak, tCont, tCall, tCallS, L2.WE, tMakeS, rIsS, rIsB, tChain, gSeq, gRest, gCons, gNil, tFor_seq, tFor_enumS, tLc_seq, tLc_enumS, rAny, rAll, L2.tMeth, StX.tStar, rIn, tLstRg, tRg1, tRg2, rSetI, rSortedSet, rInDT, rInD, rNotInD, rEqD, rNeD, iComb, tFld, tMake, tMkO, sFld, tOst, tNever, tBits, clv, isB,
  Rd.tFor_rng1, Rd.tFor_rng2, Rd.tFor_list, Rd.tFor_tup, Rd.tLc_list, Rd.tLc_tup, Rd.tLc_rng1, Rd.LcTurn, tYes, wipe, Rd.rLenL, Rd.rLenT, Rd.rIntI, Rd.rIxH, rIxHT,  HO.tup.injEq, Rd.at0, Rd.at1, Rd.at2, Rd.at3, Rd.ixN40, Rd.ixN41, Rd.ixN42, Rd.ixN43, Rd.scal_ii, cxOf,
  List.length_cons, List.length_nil, List.length_map, List.map_cons, List.map_nil, upd_same, decide_eq_true_eq, decide_true, decide_false, if_true, if_false, Bool.false_eq_true, Bool.not_true, Bool.not_false, HO.lst.injEq, HO.ins.injEq, List.set_cons_zero, List.set_cons_succ, List.getElem?_cons_zero, List.getElem?_cons_succ, List.append_nil, List.nil_append, List.cons_append, Option.some.injEq, V.ref.injEq, V.int.injEq, V.bl.injEq, List.cons.injEq, exists_eq_left', exists_and_left, exists_eq_left, true_and, and_true, and_self, and_assoc, implies_true, reduceCtorEq, Nat.reduceAdd])

section
variable {P : Program} {w : World} {K : PySem.W.Frag} {mg : Str → Option Value} {base : Heap} {a : Ad}
theorem PairV.same {H H' : Hp} {v : V} (e : Same H H') {o : Option (List Nat × List Nat)} (h : PairV H v o) : PairV H' v o := PairV.kp (Kp.same e) h
theorem pair_non {H : Hp} {v : V} {o : Option (List Nat × List Nat)} (h : PairV H v o) : v = .non ↔ o = none := by
  cases o with
  | none => exact ⟨fun _ => rfl, fun _ => h⟩
  | some p =>
    obtain ⟨q, _, _, a, _⟩ := h
    exact ⟨fun z => (by rw [a] at z; cases z), fun z => (by cases z)⟩
theorem due_l {H : Hp} {v u : V} {n : Nat} {S S' : List Bool} (h : PairV H v (firstPair n S)) (h' : PairV H u (firstPair n S')) (e : v = V.non) : PairV H u (due n S S') := by
  unfold due
  rw [(pair_non h).mp e]
  exact h'
theorem due_r {H : Hp} {v : V} {n : Nat} {S S' : List Bool} (h : PairV H v (firstPair n S)) (e : ¬ v = V.non) : PairV H v (due n S S') := by
  unfold due
  cases z : firstPair n S with
  | none => exact absurd ((pair_non h).mpr z) e
  | some q => rw [z] at h; exact h
theorem due_s {H : Hp} {v : V} {n : Nat} {S : List Bool} (h : PairV H v (firstPair n S)) : PairV H v (due n S S) := by
  unfold due
  cases z : firstPair n S with
  | none => rw [z] at h; exact h
  | some q => rw [z] at h; exact h
theorem PairV.but {b : Addr} {H H' : Hp} {v : V} {l : List V} (e : But b H H') (hb : H b = some (.lst l)) {o : Option (List Nat × List Nat)} (h : PairV H v o) : PairV H' v o := PairV.kp (Kp.but e hb) h
/-- several statements at once -/
theorem cut3 {t1 t2 t3 u : TS} {D : Ends} {σ : L2.St} {H : Hp} (G : L2.St → Hp → Prop) (h : ∀ R : L2.St → Hp → Prop, (∀ σ H, G σ H → R σ H) → tSeq t1 (tSeq t2 t3) { D with nx := R } σ H) (k : ∀ σ H, G σ H → u D σ H) : tSeq t1 (tSeq t2 (tSeq t3 u)) D σ H := h (u D) k
theorem cut6 {t1 t2 t3 t4 t5 t6 u : TS} {D : Ends} {σ : L2.St} {H : Hp} (G : L2.St → Hp → Prop) (h : ∀ R : L2.St → Hp → Prop, (∀ σ H, G σ H → R σ H) → tSeq t1 (tSeq t2 (tSeq t3 (tSeq t4 (tSeq t5 t6)))) { D with nx := R } σ H) (k : ∀ σ H, G σ H → u D σ H) :
    tSeq t1 (tSeq t2 (tSeq t3 (tSeq t4 (tSeq t5 (tSeq t6 u))))) D σ H := h (u D) k
theorem fl_ok {n m : Nat} {S S' : List Bool} (h : m ∈ (List.range (2 ^ n)).filter fun x => In S x || In S' x) : m < 2 ^ n := List.mem_range.mp (List.mem_filter.mp h).1
/-! ### _law_all -/
def spLawAll (K : PySem.W.Frag) : Sp := fun vs H Q _ => ∃ (s : Addr) (ns : List Int), vs = [.ref s] ∧ SqL K H s (ns.map V.int) ∧ ns.length ≤ 63 ∧ ∀ H', Q (.bl true) H'
theorem sc_law_all : FnScope ["script", "box", "size", "one", "two", "family", "other", "first", "second", "fault", "back", "mask", "full", "masks"] ["script"] (defScope s_law_all) := ⟨rfl, rfl, rfl, by decide +kernel, rfl, by decide +kernel, by decide +kernel⟩
theorem ok_law_all (T : Txt K mg a) : FnOk P w K mg base CX0 12 a.a_law_all a.d_law_all ["script"] (spLawAll K) := by
  refine T.fn_law_all.ok sc_law_all (fun vs H Q E h => ?_) (fun cdv A outer s H vs Q E hr h => ?_)
  · obtain ⟨p, ns, rfl, _⟩ := h
    rfl
  · obtain ⟨p, ns, rfl, hs, hl, k⟩ := h
    refine ⟨_, (pss_cons (ps_set (i := 1) sc_law_all.nd rfl (Or.inl rfl) (pe_call (ok_law_box T) (hr.mono (by decide)) (by rfl) T.mg_law_box T.fn_law_box.kp T.b_law_box .nil pass0 (pa_cons (pv 0) pa_nil)))
      (pss_cons (ps_set (i := 2) sc_law_all.nd rfl (Or.inl rfl) (pe_op op_add pe_int (pe_call (ok_law_draw T) (hr.mono (by decide)) (by rfl) T.mg_law_draw T.fn_law_draw.kp T.b_law_draw .nil pass0 (pa_cons (pv 1) (pa_cons pe_int pa_nil)))))
      (pss_cons (ps_set (i := 3) sc_law_all.nd rfl (Or.inr rfl) (pe_call (ok_law_inside T) (hr.mono (by decide)) (by rfl) T.mg_law_inside T.fn_law_inside.kp T.b_law_inside .nil pass0 (pa_cons (pv 1) (pa_cons (pv 2) pa_nil))))
      (pss_cons (ps_set (i := 4) sc_law_all.nd rfl (Or.inr rfl) (pe_call (ok_law_inside T) (hr.mono (by decide)) (by rfl) T.mg_law_inside T.fn_law_inside.kp T.b_law_inside .nil pass0 (pa_cons (pv 1) (pa_cons (pv 2) pa_nil))))
      (pss_cons (ps_set (i := 5) sc_law_all.nd rfl (Or.inl rfl) (pe_call (ok_law_family T) (hr.mono (by decide)) (by rfl) T.mg_law_family T.fn_law_family.kp T.b_law_family .nil pass0 (pa_cons (pv 1) (pa_cons (pv 2) (pa_cons (pv 3) pa_nil)))))
      (pss_cons (ps_set (i := 6) sc_law_all.nd rfl (Or.inl rfl) (pe_call (ok_law_family T) (hr.mono (by decide)) (by rfl) T.mg_law_family T.fn_law_family.kp T.b_law_family .nil pass0 (pa_cons (pv 1) (pa_cons (pv 2) (pa_cons (pv 4) pa_nil)))))
      (pss_cons (ps_set (i := 7) sc_law_all.nd rfl (Or.inl rfl) (pe_call (ok_law_fault T) (hr.mono (by decide)) (by rfl) T.mg_law_fault T.fn_law_fault.kp T.b_law_fault .nil pass0 (pa_cons (pv 3) (pa_cons (pv 2) pa_nil))))
      (pss_cons (ps_set (i := 8) sc_law_all.nd rfl (Or.inl rfl) (pe_call (ok_law_fault T) (hr.mono (by decide)) (by rfl) T.mg_law_fault T.fn_law_fault.kp T.b_law_fault .nil pass0 (pa_cons (pv 4) (pa_cons (pv 2) pa_nil))))
      (pss_cons (ps_set (i := 9) sc_law_all.nd rfl (Or.inl rfl) (pe_ifExp (pt_cmpR op_isN (pv 7) pe_non (nomark _)) (pv 8) (pv 7)))
      (pss_cons (ps_set (i := 10) sc_law_all.nd rfl (Or.inl rfl) (pe_ifExp (pt_cmpR op_isN (pv 8) pe_non (nomark _)) (pv 7) (pv 8)))
      (pss_cons (ps_if (PW.pt (pw_or (pt_not (pt_val (pe_call (ok_law_joined T) (hr.mono (by decide)) (by rfl) T.mg_law_joined T.fn_law_joined.kp T.b_law_joined .nil pass0 (pa_cons (pv 5) (pa_cons (pv 6) (pa_cons (pv 2) (pa_cons (pv 3) (pa_cons (pv 4) (pa_cons (pv 9) pa_nil))))))))) (pw_or1 (pt_not (pt_val (pe_call (ok_law_joined T) (hr.mono (by decide)) (by rfl) T.mg_law_joined T.fn_law_joined.kp T.b_law_joined .nil pass0 (pa_cons (pv 6) (pa_cons (pv 5) (pa_cons (pv 2) (pa_cons (pv 4) (pa_cons (pv 3) (pa_cons (pv 10) pa_nil)))))))))))) (pss_one (ps_ret pe_bl)) pss_nil)
      (pss_cons (ps_if (pt_not (pt_val (pe_call (ok_law_joined T) (hr.mono (by decide)) (by rfl) T.mg_law_joined T.fn_law_joined.kp T.b_law_joined .nil pass0 (pa_cons (pv 5) (pa_cons (pv 5) (pa_cons (pv 2) (pa_cons (pv 3) (pa_cons (pv 3) (pa_cons (pv 7) pa_nil))))))))) (pss_one (ps_ret pe_bl)) pss_nil)
      (pss_cons (ps_setLc (i := 12) (own := [("mask", 11)]) (by rfl) sc_law_all.nd rfl rfl (sw_true rfl rfl rfl (by decide +kernel)) (pi_range1 (by rfl) T.no_range (pa_cons (pe_op op_shl pe_int (pv 2)) pa_nil)) (blkOk_by (own := [("mask", 11)]) (N := ["script", "box", "size", "one", "two", "family", "other", "first", "second", "fault", "back", "mask", "full", "masks"]) (sc := defScope s_law_all) (by decide +kernel)) (fun _ _ _ _ _ => pg_name (i := 11) sc_law_all.nd rfl (Or.inl rfl)) (fun _ _ _ _ _ => pts_one (PW.pt (pw_or (pt_val (pe_ix Rd.ixH (pv 3) (pv 11) (fun _ _ => rfl))) (pw_or1 (pt_val (pe_ix Rd.ixH (pv 4) (pv 11) (fun _ _ => rfl))))))) (fun _ _ _ _ _ => (pv 11)))
      (pss_cons (ps_set (i := 13) sc_law_all.nd rfl (Or.inl rfl) (pe_lst (pa_cons pe_int (pa_cons (pe_op op_sub (pe_op op_shl pe_int (pv 2)) pe_int) (pa_cons (pe_call (ok_law_draw T) (hr.mono (by decide)) (by rfl) T.mg_law_draw T.fn_law_draw.kp T.b_law_draw .nil pass0 (pa_cons (pv 1) (pa_cons (pe_op op_shl pe_int (pv 2)) pa_nil))) (pa_cons (pe_call (ok_law_draw T) (hr.mono (by decide)) (by rfl) T.mg_law_draw T.fn_law_draw.kp T.b_law_draw .nil pass0 (pa_cons (pv 1) (pa_cons (pe_op op_shl pe_int (pv 2)) pa_nil))) (pa_cons (pe_ix Rd.ixH (pv 12) (pe_un un_neg pe_int) (fun _ _ => rfl)) pa_nil)))))))
      (pss_cons (ps_expr (pe_bm PySem.F.plainAttrs_list PySem.F.slot_list_append PySem.F.type_list_append mt_append (pv 13) (pa_cons (pe_op op_or (pe_ix Rd.ixH (pv 12) (pe_call (ok_law_draw T) (hr.mono (by decide)) (by rfl) T.mg_law_draw T.fn_law_draw.kp T.b_law_draw .nil pass0 (pa_cons (pv 1) (pa_cons (pe_callB (lenK K) (by rfl) T.no_len PySem.boot_len (pa_cons (pv 12) pa_nil)) pa_nil))) (fun _ _ => rfl)) (pe_ix Rd.ixH (pv 12) (pe_call (ok_law_draw T) (hr.mono (by decide)) (by rfl) T.mg_law_draw T.fn_law_draw.kp T.b_law_draw .nil pass0 (pa_cons (pv 1) (pa_cons (pe_callB (lenK K) (by rfl) T.no_len PySem.boot_len (pa_cons (pv 12) pa_nil)) pa_nil))) (fun _ _ => rfl))) pa_nil)))
      (pss_cons (ps_for PassesOwn.never rfl (pi_list (pv 13)) (pg_name (i := 11) sc_law_all.nd rfl (Or.inl rfl))
        (pss_cons (ps_if (pt_not (pt_val (pe_call (ok_law_parted T) (hr.mono (by decide)) (by rfl) T.mg_law_parted T.fn_law_parted.kp T.b_law_parted .nil pass0 (pa_cons (pv 1) (pa_cons (pv 5) (pa_cons (pv 6) (pa_cons (pv 2) (pa_cons (pv 3) (pa_cons (pv 4) (pa_cons (pv 9) (pa_cons (pv 11) pa_nil))))))))))) (pss_one (ps_ret pe_bl)) pss_nil)
        (pss_cons (ps_if (pt_not (pt_val (pe_call (ok_law_parted T) (hr.mono (by decide)) (by rfl) T.mg_law_parted T.fn_law_parted.kp T.b_law_parted .nil pass0 (pa_cons (pv 1) (pa_cons (pv 6) (pa_cons (pv 5) (pa_cons (pv 2) (pa_cons (pv 4) (pa_cons (pv 3) (pa_cons (pv 10) (pa_cons (pv 11) pa_nil))))))))))) (pss_one (ps_ret pe_bl)) pss_nil)
        (pss_one (ps_if (pt_not (pt_val (pe_call (ok_law_parted T) (hr.mono (by decide)) (by rfl) T.mg_law_parted T.fn_law_parted.kp T.b_law_parted .nil pass0 (pa_cons (pv 1) (pa_cons (pv 5) (pa_cons (pv 5) (pa_cons (pv 2) (pa_cons (pv 3) (pa_cons (pv 3) (pa_cons (pv 7) (pa_cons (pv 11) pa_nil))))))))))) (pss_one (ps_ret pe_bl)) pss_nil)))))
      (pss_one (ps_ret (pe_and (pe_call (ok_law_is T) (hr.mono (by decide)) (by rfl) T.mg_law_is T.fn_law_is.kp T.b_law_is .nil pass0 (pa_cons (pv 5) (pa_cons (pv 2) (pa_cons (pv 3) pa_nil)))) (pe_one (pe_call (ok_law_is T) (hr.mono (by decide)) (by rfl) T.mg_law_is T.fn_law_is.kp T.b_law_is .nil pass0 (pa_cons (pv 6) (pa_cons (pv 2) (pa_cons (pv 4) pa_nil)))))))))))))))))))))))), ?_⟩
    show (_ : TS) _ [some (V.ref p), none, none, none, none, none, none, none, none, none, none, none, none, none] H
    refine cut (fun σ H' => ∃ b c, σ = [some (V.ref p), some (V.ref b), none, none, none, none, none, none, none, none, none, none, none, none] ∧ BoxAt K H' b c ns) (fun R hR => ?_) (fun σ H1 h => ?_)
    · walk_at "rd"
      exact ⟨p, ns, rfl, hs, hl, fun b c H1 B1 e1 b0 => hR _ _ ⟨b, c, rfl, B1⟩⟩
    obtain ⟨b, c, rfl, B1⟩ := h
    refine cut (fun σ H' => ∃ n : Nat, σ = [some (V.ref p), some (V.ref b), some (V.int n), none, none, none, none, none, none, none, none, none, none, none] ∧ 1 ≤ n ∧ n ≤ 6 ∧ BoxAt K H' b c ns) (fun R hR => ?_) (fun σ H3 h => ?_)
    · walk_at "rd"
      refine drw B1 (by decide) (by decide) fun x H3 x5 B3 e3 => ⟨_, rfl, hR _ _ ⟨1 + x, ?_, by omega, by omega, B3⟩⟩
      rw [show ((1 + x : Nat) : Int) = 1 + (x : Int) by omega]
    obtain ⟨n, rfl, n1, n6, B3⟩ := h
    have p64 := pow64 n6
    refine cut6 (fun σ H' => ∃ r1 r2 g1 g2 S1 S2 v1 v2, σ = [some (V.ref p), some (V.ref b), some (V.int n), some (V.ref r1), some (V.ref r2), some (V.ref g1), some (V.ref g2), some v1, some v2, none, none, none, none, none] ∧ H' r1 = some (.lst (S1.map V.bl)) ∧ H' r2 = some (.lst (S2.map V.bl)) ∧ FamV a.C_Family H' g1 n S1 ∧ FamV a.C_Family H' g2 n S2 ∧ PairV H' v1 (firstPair n S1) ∧ PairV H' v2 (firstPair n S2) ∧ BoxAt K H' b c ns) (fun R hR => ?_) (fun σ H9 h => ?_)
    · walk_at "rd"
      refine ⟨b, c, ns, n, rfl, B3, n1, n6, fun r1 S1 H4 f4 nr1 a1 F1 B4 e4 => ⟨b, c, ns, n, rfl, B4, n1, n6, fun r2 S2 H5 f5 nr2 a2 F2 B5 e5 => ?_⟩⟩
      refine ⟨b, c, r1, ns, n, S1, rfl, B5, nr1, e5 _ _ nr1 a1, F1, fun g1 H6 _ B6 e6 W1 => ⟨b, c, r2, ns, n, S2, rfl, B6, nr2, e6 _ _ nr2 a2, F2, fun g2 H7 _ B7 e7 W2 => ?_⟩⟩
      obtain ⟨_, _, _, hb6, _⟩ := B6.ob
      have W1 := W1.but e7 hb6
      have a1 := e7 _ _ nr1 (e6 _ _ nr1 (e5 _ _ nr1 a1))
      have a2 := e7 _ _ nr2 (e6 _ _ nr2 a2)
      refine ⟨r1, n, S1, rfl, a1, F1, fun v1 H8 e8 p1 => ⟨r2, n, S2, rfl, e8 _ _ a2, F2, fun v2 H9 e9 p2 => ?_⟩⟩
      have e79 := e8.trans e9
      exact hR _ _ ⟨r1, r2, g1, g2, S1, S2, v1, v2, rfl, e79 _ _ a1, e79 _ _ a2, W1.same e79, W2.same e79, PairV.same e9 p1, p2, B7.same e79⟩
    obtain ⟨r1, r2, g1, g2, S1, S2, v1, v2, rfl, a1, a2, W1, W2, p1, p2, B9⟩ := h
    refine cut (fun σ H' => ∃ fv, PairV H9 fv (due n S1 S2) ∧ H9 = H' ∧ σ = [some (V.ref p), some (V.ref b), some (V.int n), some (V.ref r1), some (V.ref r2), some (V.ref g1), some (V.ref g2), some v1, some v2, some fv, none, none, none, none]) (fun R hR => ?_) (fun σ H' h => ?_)
    · walk_at "rd"
      exact ite2 (fun h => hR _ _ ⟨_, due_l p1 p2 h, rfl, rfl⟩) (fun h => hR _ _ ⟨_, due_r p1 h, rfl, rfl⟩)
    obtain ⟨fv, q1, e0, rfl⟩ := h
    subst e0
    refine cut (fun σ H' => ∃ bv, PairV H9 bv (due n S2 S1) ∧ H9 = H' ∧ σ = [some (V.ref p), some (V.ref b), some (V.int n), some (V.ref r1), some (V.ref r2), some (V.ref g1), some (V.ref g2), some v1, some v2, some fv, some bv, none, none, none]) (fun R hR => ?_) (fun σ H' h => ?_)
    · walk_at "rd"
      exact ite2 (fun h => hR _ _ ⟨_, due_l p2 p1 h, rfl, rfl⟩) (fun h => hR _ _ ⟨_, due_r p2 h, rfl, rfl⟩)
    obtain ⟨bv, q2, e0, rfl⟩ := h
    subst e0
    have nb1 := box_neB B9 a1
    have nb2 := box_neB B9 a2
    obtain ⟨_, _, _, hb9, _⟩ := B9.ob
    refine cut (fun σ H' => σ = [some (V.ref p), some (V.ref b), some (V.int n), some (V.ref r1), some (V.ref r2), some (V.ref g1), some (V.ref g2), some v1, some v2, some fv, some bv, none, none, none] ∧ Same H9 H') (fun R hR => ?_) (fun σ HA h => ?_)
    · walk_at "rd"
      refine ⟨g1, g2, n, r1, r2, S1, S2, fv, rfl, W1, W2, a1, a2, q1, fun HX eX => ⟨_, rfl, ?_⟩⟩
      rw [if_neg (by decide)]
      refine ⟨g2, g1, n, r2, r1, S2, S1, bv, rfl, W2.same eX, W1.same eX, eX _ _ a2, eX _ _ a1, PairV.same eX q2, fun HY eY => ⟨_, rfl, ?_⟩⟩
      rw [if_neg (by decide)]
      exact hR _ _ ⟨rfl, eX.trans eY⟩
    obtain ⟨rfl, eA⟩ := h
    refine cut (fun σ H' => σ = [some (V.ref p), some (V.ref b), some (V.int n), some (V.ref r1), some (V.ref r2), some (V.ref g1), some (V.ref g2), some v1, some v2, some fv, some bv, none, none, none] ∧ Same H9 H') (fun R hR => ?_) (fun σ HB h => ?_)
    · walk_at "rd"
      refine ⟨g1, g1, n, r1, r1, S1, S1, v1, rfl, W1.same eA, W1.same eA, eA _ _ a1, eA _ _ a1, PairV.same eA (due_s p1), fun HX eX => ⟨_, rfl, ?_⟩⟩
      rw [if_neg (by decide)]
      exact hR _ _ ⟨rfl, eA.trans eX⟩
    obtain ⟨rfl, eB⟩ := h
    obtain ⟨fu, hfu⟩ : ∃ fu, fu = (List.range (2 ^ n)).filter fun x => In S1 x || In S2 x := ⟨_, rfl⟩
    have pz : 0 < 2 ^ n := Nat.pow_pos (by decide)
    have flt : ∀ m ∈ fu, m < 2 ^ n := fun m hm => by
      rw [hfu] at hm
      exact fl_ok hm
    have fne : fu ≠ [] := List.ne_nil_of_mem (a := 0) (by
      rw [hfu]
      exact List.mem_filter.mpr ⟨List.mem_range.mpr pz, by rw [W1.fam.zero]; rfl⟩)
    have fln : fu.length ≤ 64 := by
      have := List.length_filter_le (fun x => In S1 x || In S2 x) (List.range (2 ^ n))
      rw [List.length_range] at this
      rw [hfu]
      omega
    have pj : ((1 : Int) * 2 ^ (n : Int).toNat).toNat = 2 ^ n := (pbd n6).2.2.1
    have pc : (1 : Int) * 2 ^ (n : Int).toNat = ((2 ^ n : Nat) : Int) := pow_cast ..
    refine cut3 (fun σ H' => ∃ fp mp ms, σ = [some (V.ref p), some (V.ref b), some (V.int n), some (V.ref r1), some (V.ref r2), some (V.ref g1), some (V.ref g2), some v1, some v2, some fv, some bv, none, some (V.ref fp), some (V.ref mp)] ∧ mp ≠ b ∧ H' mp = some (.lst (iv ms)) ∧ (∀ m ∈ ms, m < 2 ^ n) ∧ ms.length ≤ 6 ∧ BoxAt K H' b c ns ∧ But b H9 H') (fun R hR => ?_) (fun σ HC h => ?_)
    · walk_at "rd"
      refine ⟨cpw (by omega), (pbd n6).1, (pbd n6).2.1, ?_⟩
      rw [pj, pc]
      refine Rd.lcl_rng (fun D i H5 => HB D = none ∧ Same HB H5 ∧ H5 D = some (.lst (iv ((List.range i).filter fun x => In S1 x || In S2 x)))) (fun D hD => ⟨hD, same_upd hD, upd_same⟩) (fun D i H5 hi ⟨n5, e5, a5⟩ => ?_) (fun D H5 _ ⟨n5, e5, a5⟩ => ?_)
      · walk_at "rd"
        have ll := List.length_filter_le (fun x => In S1 x || In S2 x) (List.range i)
        rw [List.length_range] at ll
        have yes : (In S1 i || In S2 i) = true → ∃ acc, H5 D = some (.lst acc) ∧ acc.length < sizeLine ∧ HB D = none ∧ Same HB (upd H5 D (.lst (acc ++ [V.int ((0 : Int) + i)]))) ∧ acc ++ [V.int ((0 : Int) + i)] = iv ((List.range (i + 1)).filter fun x => In S1 x || In S2 x) := fun h => by
          refine ⟨_, a5, small (by rw [iv_len]; omega), n5, fun b o hb => (upd_ne (ne_of_none hb n5)).trans (e5 _ _ hb), ?_⟩
          rw [Int.zero_add, List.range_succ, List.filter_append, List.filter_cons_of_pos (p := fun x => In S1 x || In S2 x) h]
          unfold iv
          rw [List.map_append]
          rfl
        have at1 := in_bool (S := S1) (m := i) (by rw [W1.fam.len]; exact hi)
        have at2 := in_bool (S := S2) (m := i) (by rw [W2.fam.len]; exact hi)
        refine ⟨_, e5 _ _ (eB _ _ a1), _, by rw [Int.zero_add]; exact at1, _, rfl, ite2 (fun h => yes (by rw [h]; rfl)) (fun h => ⟨_, e5 _ _ (eB _ _ a2), _, by rw [Int.zero_add]; exact at2, _, rfl, ite2 (fun h2 => yes (by rw [h2, Bool.or_true])) (fun h2 => ⟨n5, e5, ?_⟩)⟩)⟩
        rw [List.range_succ, List.filter_append, List.filter_cons_of_neg (p := fun x => In S1 x || In S2 x) (by rw [Bool.eq_false_iff.mpr h, Bool.eq_false_iff.mpr h2]; decide), List.filter_nil, List.append_nil]
        exact a5
      · rw [← hfu] at a5
        obtain ⟨L, z, hz⟩ : ∃ L z, fu = L ++ [z] := ⟨_, _, (List.dropLast_concat_getLast fne).symm⟩
        have zl := flt z (by rw [hz]; exact List.mem_append_right _ List.mem_cons_self)
        have B5 := B9.same (eB.trans e5)
        have nD := (B9.same eB).ne_new n5
        have fp0 : 0 < fu.length := List.length_pos_iff.mpr fne
        refine ⟨cpw (by omega), cpw (by omega), drw B5 (by omega) (by omega) fun x1 H6 xl1 B6 e6 => ⟨cpw (by omega), drw B6 (by omega) (by omega) fun x2 H7 xl2 B7 e7 => ?_⟩⟩
        have a7 := e7 _ _ nD (e6 _ _ nD a5)
        refine ⟨D, rfl, _, a7, V.int z, by rw [hz]; unfold iv; rw [List.map_append]; exact atI_last _ _, by rw [sizeLine_eq]; omega, fun mp hmp => ?_⟩
        obtain ⟨ms, hms⟩ : ∃ ms, ms = [0, 2 ^ n - 1, x1, x2, z] := ⟨_, rfl⟩
        have lms : [V.int 0, V.int (((2 ^ n : Nat) : Int) - 1), V.int x1, V.int x2, V.int z] = iv ms := by
          rw [hms, show ((2 ^ n : Nat) : Int) - 1 = ((2 ^ n - 1 : Nat) : Int) by omega]
          rfl
        have mlt : ∀ m ∈ ms, m < 2 ^ n := fun m hm => by
          rw [hms] at hm
          simp only [List.mem_cons, List.not_mem_nil, or_false] at hm
          omega
        have ml5 : ms.length = 5 := by rw [hms]; rfl
        rw [lms]
        have nmp := B7.ne_new hmp
        have e8 := same_upd (o := .lst (iv ms)) hmp
        have a8 := upd_same (H := H7) (a := mp) (o := .lst (iv ms))
        generalize upd H7 mp (.lst (iv ms)) = H8 at e8 a8 ⊢
        have B8 := B7.same e8
        have nDm : D ≠ mp := fun q => by rw [q, hmp] at a7; cases a7
        simp only [tBM, rAppend]
        walk_at "rd"
        have d8 := e8 _ _ a7
        refine ⟨.inl ⟨rfl, _, SqL.of a8⟩, _, .inl (SqL.of d8), ?_⟩
        rw [iv_len]
        refine drw B8 (by omega) (by omega) fun j1 Hj l1 Bj f1 => ⟨_, _, rfl, f1 _ _ nD d8, _, iv_at (List.getElem?_eq_getElem (show j1 < fu.length by omega)), _, .inl (SqL.of (f1 _ _ nD d8)), ?_⟩
        rw [iv_len]
        refine drw Bj (by omega) (by omega) fun j2 Hk l2 Bk f2 => ?_
        have y1 := flt _ (List.getElem_mem (show j1 < fu.length by omega))
        have y2 := flt _ (List.getElem_mem (show j2 < fu.length by omega))
        have ek : But b H7 (upd Hk mp (.lst (iv ms ++ [V.int (Builtin.bitOr ((fu[j1]'(by omega) : Nat) : Int) ((fu[j2]'(by omega) : Nat) : Int))]))) := (((Same.but e8).trans f1).trans f2).updn hmp
        refine ⟨_, _, rfl, f2 _ _ nD (f1 _ _ nD d8), _, iv_at (List.getElem?_eq_getElem (show j2 < fu.length by omega)), _, rfl, _, rfl, _, f2 _ _ nmp (f1 _ _ nmp a8), small (by rw [iv_len]; omega), hR _ _ ⟨D, mp, ms ++ [fu[j1]'(by omega) ||| fu[j2]'(by omega)], rfl, nmp, ?_, fun m hm => ?_, by rw [List.length_append, ml5]; exact Nat.le_refl _, B7.upd Bk nmp ek, (((Same.but (eB.trans e5)).trans e6).trans e7).trans ek⟩⟩
        · rw [upd_same, or_nat]
          unfold iv
          rw [List.map_append]
          rfl
        · rcases List.mem_append.mp hm with h | h
          · exact mlt m h
          · rw [List.mem_singleton.mp h]
            exact Nat.or_lt_two_pow y1 y2
    obtain ⟨fp, mp, ms, rfl, nmp, hmp, mlt, mln, BC, kC⟩ := h
    refine cut (fun σ H' => ∃ o11, σ = [some (V.ref p), some (V.ref b), some (V.int n), some (V.ref r1), some (V.ref r2), some (V.ref g1), some (V.ref g2), some v1, some v2, some fv, some bv, o11, some (V.ref fp), some (V.ref mp)] ∧ BoxAt K H' b c ns ∧ But b H9 H') (fun R hR => ?_) (fun σ HD h => ?_)
    · walk_at "rd"
      refine ⟨⟨_, SqL.of hmp⟩, Rd.loop_listC (xs := iv ms) (fun σ HX => ∃ o11, σ = [some (V.ref p), some (V.ref b), some (V.int n), some (V.ref r1), some (V.ref r2), some (V.ref g1), some (V.ref g2), some v1, some v2, some fv, some bv, o11, some (V.ref fp), some (V.ref mp)] ∧ BoxAt K HX b c ns ∧ But b H9 HX ∧ But b HC HX)
        (fun _ σ HX => ∃ o11, σ = [some (V.ref p), some (V.ref b), some (V.int n), some (V.ref r1), some (V.ref r2), some (V.ref g1), some (V.ref g2), some v1, some v2, some fv, some bv, o11, some (V.ref fp), some (V.ref mp)] ∧ BoxAt K HX b c ns ∧ But b H9 HX ∧ But b HC HX) ⟨none, rfl, BC, kC, fun _ _ _ h => h⟩ (fun j σ HX _ ⟨_, _, _, _, e⟩ => SqL.of (e _ _ nmp hmp)) ?_ (fun _ _ z => z) (fun σ HX ⟨o11, q, B, kx, _⟩ => hR _ _ ⟨o11, q, B, kx⟩)⟩
      rintro bk hbk j x σ HX hx ⟨o11, rfl, BX, kX, kcX⟩
      obtain ⟨m, hm, rfl⟩ := at_iv hx
      have ml := mlt m (List.mem_of_getElem? hm)
      refine cut (fun σ HY => σ = [some (V.ref p), some (V.ref b), some (V.int n), some (V.ref r1), some (V.ref r2), some (V.ref g1), some (V.ref g2), some v1, some v2, some fv, some bv, some (V.int m), some (V.ref fp), some (V.ref mp)] ∧ BoxAt K HY b c ns ∧ But b H9 HY ∧ But b HC HY) (fun R hR => ?_) (fun σ HX h => ?_)
      · walk_at "rd"
        refine ⟨b, c, g1, g2, n, r1, r2, m, ns, S1, S2, fv, rfl, BX, W1.but kX hb9, W2.but kX hb9, kX _ _ nb1 a1, kX _ _ nb2 a2, ml, PairV.but kX hb9 q1, fun HY BY kY => ⟨_, rfl, ?_⟩⟩
        rw [if_neg (by decide)]
        exact hR _ _ ⟨rfl, BY, kX.trans kY, kcX.trans kY⟩
      obtain ⟨rfl, BX, kX, kcX⟩ := h
      refine cut (fun σ HY => σ = [some (V.ref p), some (V.ref b), some (V.int n), some (V.ref r1), some (V.ref r2), some (V.ref g1), some (V.ref g2), some v1, some v2, some fv, some bv, some (V.int m), some (V.ref fp), some (V.ref mp)] ∧ BoxAt K HY b c ns ∧ But b H9 HY ∧ But b HC HY) (fun R hR => ?_) (fun σ HX h => ?_)
      · walk_at "rd"
        refine ⟨b, c, g2, g1, n, r2, r1, m, ns, S2, S1, bv, rfl, BX, W2.but kX hb9, W1.but kX hb9, kX _ _ nb2 a2, kX _ _ nb1 a1, ml, PairV.but kX hb9 q2, fun HY BY kY => ⟨_, rfl, ?_⟩⟩
        rw [if_neg (by decide)]
        exact hR _ _ ⟨rfl, BY, kX.trans kY, kcX.trans kY⟩
      obtain ⟨rfl, BX, kX, kcX⟩ := h
      walk_at "rd"
      refine ⟨b, c, g1, g1, n, r1, r1, m, ns, S1, S1, v1, rfl, BX, W1.but kX hb9, W1.but kX hb9, kX _ _ nb1 a1, kX _ _ nb1 a1, ml, PairV.but kX hb9 (due_s p1), fun HY BY kY => ⟨_, rfl, ?_⟩⟩
      rw [if_neg (by decide)]
      exact ⟨BY, kX.trans kY, kcX.trans kY⟩
    obtain ⟨o11, rfl, BD, kD⟩ := h
    walk_at "rd"
    refine ⟨g1, r1, n, S1, rfl, W1.but kD hb9, kD _ _ nb1 a1, fun HE eE => ⟨_, rfl, ?_⟩⟩
    rw [if_pos rfl]
    exact ⟨g2, r2, n, S2, rfl, (W2.but kD hb9).same eE, eE _ _ (kD _ _ nb2 a2), fun HF eF => k _⟩
end

end K32
namespace K32
open PySem PySem.Spec PyProof.Rows L2 Own OwnSeq OwnSet OwnComb OwnSort OwnHot OwnExN OwnProj
local macro_rules | `(tactic| walk_at "rd") => `(tactic| simp only [tSeq, tAsg, tOp, tUn, tVar, gName, gSub, rIxL, rIxT, rSetL, tC, rI0, rI, rU, rEq, rNe, tCons, tNil, tCB, tLst, tTup, tIfS, tAnd, tOr, tNot, tAndV, tOrV, tNotV, tTest, tB, tIf, tRet, tDrop, tNext, tBreak, tCont, tCall, tCallS, L2.WE, tMakeS, rIsS, rIsB, tChain, gSeq, gRest, gCons, gNil, tFor_seq, tFor_enumS, tLc_seq, tLc_enumS, rAny, rAll, L2.tMeth, StX.tStar, rIn, tLstRg, tRg1, tRg2, rSetI, rSortedSet, rInDT, rInD, rNotInD, rEqD, rNeD, iComb, tFld, tMake, tMkO, sFld, tOst, tNever, tBits, clv, isB,
  Rd.tFor_rng1, Rd.tFor_rng2, Rd.tFor_list, Rd.tFor_tup, Rd.tLc_list, Rd.tLc_tup, Rd.tLc_rng1, Rd.LcTurn, tYes, wipe, Rd.rLenL, Rd.rLenT, Rd.rIntI, Rd.rIxH, rIxHT,  HO.tup.injEq, Rd.at0, Rd.at1, Rd.at2, Rd.at3, Rd.ixN40, Rd.ixN41, Rd.ixN42, Rd.ixN43, Rd.scal_ii, cxOf,
  List.length_cons, List.length_nil, List.length_map, List.map_cons, List.map_nil, upd_same, decide_eq_true_eq, decide_true, decide_false, if_true, if_false, Bool.false_eq_true, Bool.not_true, Bool.not_false, HO.lst.injEq, HO.ins.injEq, List.set_cons_zero, List.set_cons_succ, List.getElem?_cons_zero, List.getElem?_cons_succ, List.append_nil, List.nil_append, List.cons_append, Option.some.injEq, V.ref.injEq, V.int.injEq, V.bl.injEq, List.cons.injEq, exists_eq_left', exists_and_left, exists_eq_left, true_and, and_true, and_self, and_assoc, implies_true, reduceCtorEq, Nat.reduceAdd])

section
variable {P : Program} {w : World} {K : PySem.W.Frag} {mg : Str → Option Value} {base : Heap} {a : Ad}
/-! ### law -/
def spLaw (K : PySem.W.Frag) : Sp := fun vs H Q _ => ∃ (a : Addr) (ns : List Int), vs = [.ref a] ∧ SqL K H a (ns.map V.int) ∧ ns.length ≤ 63 ∧ ∀ H', Q (.bl true) H'
theorem sc_law : FnScope ["script"] ["script"] (defScope s_law) := ⟨rfl, rfl, rfl, by decide +kernel, rfl, by decide +kernel, by decide +kernel⟩
theorem ok_law (T : Txt K mg a) : FnOk P w K mg base CX0 13 a.a_law a.d_law ["script"] (spLaw K) := by
  refine T.fn_law.ok sc_law (fun vs H Q E h => ?_) (fun cdv A outer s H vs Q E hr h => ?_)
  · obtain ⟨p, ns, rfl, _⟩ := h
    rfl
  · obtain ⟨p0, ns, rfl, hs, hl, k⟩ := h
    refine ⟨_, (pss_one (ps_try_thru0 (pss_one (ps_ret (pe_call (ok_law_all T) (hr.mono (by decide)) (by rfl) T.mg_law_all T.fn_law_all.kp T.b_law_all .nil pass0 (pa_cons (pv 0) pa_nil)))))), ?_⟩
    show (_ : TS) _ [some (V.ref p0)] H
    walk_at "rd"
    exact ⟨p0, ns, rfl, hs, hl, k⟩
end

end K32
namespace K32
open PySem PySem.Spec PyProof.Rows L2
theorem kit_self {K : PySem.W.Frag} {C : Addr} : PySem.W.kitOne K (.ref C) (.ref C) = some true := by
  unfold PySem.W.kitOne
  rw [if_pos (beq_self_eq_true _)]
theorem kit_own {K : PySem.W.Frag} {C : Addr} {t : String} {b : Bool} (h1 : PySem.W.isClsIn K C = true) (h2 : PySem.W.typeIn K (.ref C) = some (.type "type")) (h3 : PySem.W.subIn K (.type t) (.ref C) = some b) : PySem.W.kitOne K (.type t) (.ref C) = some b := by
  have e : (PySem.W.clsIn K C).isSome = true := h1
  unfold PySem.W.kitOne PySem.W.kitCls
  rw [if_neg (fun q => by cases beq_iff_eq.mp q)]
  simp only [e, h2, h3]
  rfl
theorem kit_bi {K : PySem.W.Frag} {C : Addr} {t : String} {b : Bool} (h : PySem.W.subIn K (.ref C) (.type t) = some b) (h1 : PySem.W.kitMeta t = true) : PySem.W.kitOne K (.ref C) (.type t) = some b := by
  unfold PySem.W.kitOne PySem.W.kitCls
  rw [if_neg (fun q => by cases beq_iff_eq.mp q)]
  simp only [h1, if_true, h]
theorem exm_of {K : PySem.W.Frag} {E S : Addr} {b : Bool} (h1 : PySem.W.subIn K (.ref S) (.type "BaseException") = some true) (h2 : PySem.W.isClsIn K S = true) (h3 : PySem.W.typeIn K (.ref S) = some (.type "type")) (h4 : PySem.W.subIn K (.ref E) (.ref S) = some b) :
    PySem.W.exmOne K (.ref E) (.ref S) = some b := by
  have e : (PySem.W.clsIn K S).isSome = true := h2
  unfold PySem.W.exmOne PySem.W.kitCls
  simp only [h1, e, h3, h4]
  rfl
theorem exm_self {K : PySem.W.Frag} {S : Addr} (h1 : PySem.W.subIn K (.ref S) (.type "BaseException") = some true) (h2 : PySem.W.isClsIn K S = true) (h3 : PySem.W.typeIn K (.ref S) = some (.type "type")) (h4 : PySem.W.subIn K (.ref S) (.ref S) = some true) :
    PySem.W.exmOne K (.ref S) (.ref S) = some true := by
  have e : (PySem.W.clsIn K S).isSome = true := h2
  unfold PySem.W.exmOne PySem.W.kitCls
  simp only [h1, e, h3, h4]
  rfl
theorem txt_mk {K : PySem.W.Frag} {h : Heap} {mg : Str → Option Value} {C_Family C_NoExchange C_NextError a_NoExchange_init a_parts_of a_all_sets a_is_part a_touches a_joined a_rest_of a_is_whole a_is_within a_is_ascending a_clean_sets a_closed_sets a_Family_init a_Family_addable a_exchange_fault a_need_exchange a_need_both a_union a_split a_law_box a_law_draw a_law_things a_law_mask a_law_vectors a_law_quotas a_law_inside a_law_ordered a_law_family a_law_fault a_law_both a_law_told a_law_is_set a_law_is a_law_joined a_law_parted a_law_all a_law : Addr} (X : K.In h) (G : h.Ns mainGlobals mg)
    {od_NoExchange_init an_NoExchange_init od_parts_of an_parts_of od_all_sets an_all_sets od_is_part an_is_part od_touches an_touches od_joined an_joined od_rest_of an_rest_of od_is_whole an_is_whole od_is_within an_is_within od_is_ascending an_is_ascending od_clean_sets an_clean_sets od_closed_sets an_closed_sets od_Family_init an_Family_init od_Family_addable an_Family_addable od_exchange_fault an_exchange_fault od_need_exchange an_need_exchange od_need_both an_need_both od_union an_union od_split an_split od_law_box an_law_box od_law_draw an_law_draw od_law_things an_law_things od_law_mask an_law_mask od_law_vectors an_law_vectors od_law_quotas an_law_quotas od_law_inside an_law_inside od_law_ordered an_law_ordered od_law_family an_law_family od_law_fault an_law_fault od_law_both an_law_both od_law_told an_law_told od_law_is_set an_law_is_set od_law_is an_law_is od_law_joined an_law_joined od_law_parted an_law_parted od_law_all an_law_all od_law an_law : Option Addr} {sl_NoExchange_init sl_parts_of sl_all_sets sl_is_part sl_touches sl_joined sl_rest_of sl_is_whole sl_is_within sl_is_ascending sl_clean_sets sl_closed_sets sl_Family_init sl_Family_addable sl_exchange_fault sl_need_exchange sl_need_both sl_union sl_split sl_law_box sl_law_draw sl_law_things sl_law_mask sl_law_vectors sl_law_quotas sl_law_inside sl_law_ordered sl_law_family sl_law_fault sl_law_both sl_law_told sl_law_is_set sl_law_is sl_law_joined sl_law_parted sl_law_all sl_law : Array (Option Value)} {oc_NoExchange_init kV_NoExchange_init dc_NoExchange_init pm_NoExchange_init cd_NoExchange_init ct_NoExchange_init oc_parts_of kV_parts_of dc_parts_of pm_parts_of cd_parts_of ct_parts_of oc_all_sets kV_all_sets dc_all_sets pm_all_sets cd_all_sets ct_all_sets oc_is_part kV_is_part dc_is_part pm_is_part cd_is_part ct_is_part oc_touches kV_touches dc_touches pm_touches cd_touches ct_touches oc_joined kV_joined dc_joined pm_joined cd_joined ct_joined oc_rest_of kV_rest_of dc_rest_of pm_rest_of cd_rest_of ct_rest_of oc_is_whole kV_is_whole dc_is_whole pm_is_whole cd_is_whole ct_is_whole oc_is_within kV_is_within dc_is_within pm_is_within cd_is_within ct_is_within oc_is_ascending kV_is_ascending dc_is_ascending pm_is_ascending cd_is_ascending ct_is_ascending oc_clean_sets kV_clean_sets dc_clean_sets pm_clean_sets cd_clean_sets ct_clean_sets oc_closed_sets kV_closed_sets dc_closed_sets pm_closed_sets cd_closed_sets ct_closed_sets oc_Family_init kV_Family_init dc_Family_init pm_Family_init cd_Family_init ct_Family_init oc_Family_addable kV_Family_addable dc_Family_addable pm_Family_addable cd_Family_addable ct_Family_addable oc_exchange_fault kV_exchange_fault dc_exchange_fault pm_exchange_fault cd_exchange_fault ct_exchange_fault oc_need_exchange kV_need_exchange dc_need_exchange pm_need_exchange cd_need_exchange ct_need_exchange oc_need_both kV_need_both dc_need_both pm_need_both cd_need_both ct_need_both oc_union kV_union dc_union pm_union cd_union ct_union oc_split kV_split dc_split pm_split cd_split ct_split oc_law_box kV_law_box dc_law_box pm_law_box cd_law_box ct_law_box oc_law_draw kV_law_draw dc_law_draw pm_law_draw cd_law_draw ct_law_draw oc_law_things kV_law_things dc_law_things pm_law_things cd_law_things ct_law_things oc_law_mask kV_law_mask dc_law_mask pm_law_mask cd_law_mask ct_law_mask oc_law_vectors kV_law_vectors dc_law_vectors pm_law_vectors cd_law_vectors ct_law_vectors oc_law_quotas kV_law_quotas dc_law_quotas pm_law_quotas cd_law_quotas ct_law_quotas oc_law_inside kV_law_inside dc_law_inside pm_law_inside cd_law_inside ct_law_inside oc_law_ordered kV_law_ordered dc_law_ordered pm_law_ordered cd_law_ordered ct_law_ordered oc_law_family kV_law_family dc_law_family pm_law_family cd_law_family ct_law_family oc_law_fault kV_law_fault dc_law_fault pm_law_fault cd_law_fault ct_law_fault oc_law_both kV_law_both dc_law_both pm_law_both cd_law_both ct_law_both oc_law_told kV_law_told dc_law_told pm_law_told cd_law_told ct_law_told oc_law_is_set kV_law_is_set dc_law_is_set pm_law_is_set cd_law_is_set ct_law_is_set oc_law_is kV_law_is dc_law_is pm_law_is cd_law_is ct_law_is oc_law_joined kV_law_joined dc_law_joined pm_law_joined cd_law_joined ct_law_joined oc_law_parted kV_law_parted dc_law_parted pm_law_parted cd_law_parted ct_law_parted oc_law_all kV_law_all dc_law_all pm_law_all cd_law_all ct_law_all oc_law kV_law dc_law pm_law cd_law ct_law : Value}
    {nm_NoExchange qq_NoExchange : Str} {N_NoExchange : Addr} {bs_NoExchange : List Value} {sn_NoExchange : List Str} {sub_NoExchange : List Value} {ab_NoExchange : Bool} {col_NoExchange : Option Bool} {dd_NoExchange : Option Addr} {m0_NoExchange m1_NoExchange m2_NoExchange m3_NoExchange m5_NoExchange : Option Value}
    {t_MOST_THINGS : Tok}
    (hC_Family : PySem.W.nsIn K mainGlobals "Family" = some (some (.ref C_Family)))
    (hC_NoExchange : PySem.W.nsIn K mainGlobals "NoExchange" = some (some (.ref C_NoExchange)))
    (hC_NextError : PySem.W.nsIn K mainGlobals "NextError" = some (some (.ref C_NextError)))
    (pg_Family : PySem.W.plainGet K C_Family Str.empty = true)
    (hd_Family : PySem.W.hasDictIn K C_Family = true)
    (po_Family : PySem.W.plainOver K C_Family = true)
    (sa_Family : PySem.W.findIn K (.ref C_Family) "__setattr__" = some (some (.builtin "object.__setattr__")))
    (mk_Family : PySem.W.makesIn K C_Family = true)
    (kc_Family : PySem.W.keepIn K (.ref C_Family) = true)
    (na_Family_sets : PySem.W.findIn K (.ref C_Family) "sets" = some none)
    (na_Family_size : PySem.W.findIn K (.ref C_Family) "size" = some none)
    (cg_Family : PySem.W.findIn K (.ref C_Family) "__class__" = some (some (.builtin "object.__class__")))
    (mr_Family : PySem.W.mroIn K C_Family (.type "object") = some true)
    (cget : PySem.W.specialIn K (.builtin "object.__class__") "__get__" = some (some (.builtin "getset_descriptor.__get__")))
    (ctk : PySem.W.takesIn K (.builtin "object.__class__") = some true)
    (f_NoExchange_init : PySem.W.findIn K (.ref C_NoExchange) "__init__" = some (some (.ref a_NoExchange_init)))
    (l_NoExchange_init : K.lookup a_NoExchange_init = some ⟨oc_NoExchange_init, od_NoExchange_init, .func (PySem.W.fnOf "__init__" "NoExchange.__init__" (defArgs s_NoExchange_init) (defBody s_NoExchange_init) (defScope s_NoExchange_init) .none kV_NoExchange_init dc_NoExchange_init pm_NoExchange_init an_NoExchange_init cd_NoExchange_init ct_NoExchange_init), sl_NoExchange_init⟩)
    (c_NoExchange_init : PySem.W.codeIn K cd_NoExchange_init "NoExchange.__init__" = true)
    (k_NoExchange_init : PySem.W.keepIn K (.ref a_NoExchange_init) = true)
    (n_parts_of : PySem.W.nsIn K mainGlobals "parts_of" = some (some (.ref a_parts_of)))
    (l_parts_of : K.lookup a_parts_of = some ⟨oc_parts_of, od_parts_of, .func (PySem.W.fnOf "parts_of" "parts_of" (defArgs s_parts_of) (defBody s_parts_of) (defScope s_parts_of) .none kV_parts_of dc_parts_of pm_parts_of an_parts_of cd_parts_of ct_parts_of), sl_parts_of⟩)
    (c_parts_of : PySem.W.codeIn K cd_parts_of "parts_of" = true)
    (k_parts_of : PySem.W.keepIn K (.ref a_parts_of) = true)
    (n_all_sets : PySem.W.nsIn K mainGlobals "all_sets" = some (some (.ref a_all_sets)))
    (l_all_sets : K.lookup a_all_sets = some ⟨oc_all_sets, od_all_sets, .func (PySem.W.fnOf "all_sets" "all_sets" (defArgs s_all_sets) (defBody s_all_sets) (defScope s_all_sets) .none kV_all_sets dc_all_sets pm_all_sets an_all_sets cd_all_sets ct_all_sets), sl_all_sets⟩)
    (c_all_sets : PySem.W.codeIn K cd_all_sets "all_sets" = true)
    (k_all_sets : PySem.W.keepIn K (.ref a_all_sets) = true)
    (n_is_part : PySem.W.nsIn K mainGlobals "is_part" = some (some (.ref a_is_part)))
    (l_is_part : K.lookup a_is_part = some ⟨oc_is_part, od_is_part, .func (PySem.W.fnOf "is_part" "is_part" (defArgs s_is_part) (defBody s_is_part) (defScope s_is_part) .none kV_is_part dc_is_part pm_is_part an_is_part cd_is_part ct_is_part), sl_is_part⟩)
    (c_is_part : PySem.W.codeIn K cd_is_part "is_part" = true)
    (k_is_part : PySem.W.keepIn K (.ref a_is_part) = true)
    (n_touches : PySem.W.nsIn K mainGlobals "touches" = some (some (.ref a_touches)))
    (l_touches : K.lookup a_touches = some ⟨oc_touches, od_touches, .func (PySem.W.fnOf "touches" "touches" (defArgs s_touches) (defBody s_touches) (defScope s_touches) .none kV_touches dc_touches pm_touches an_touches cd_touches ct_touches), sl_touches⟩)
    (c_touches : PySem.W.codeIn K cd_touches "touches" = true)
    (k_touches : PySem.W.keepIn K (.ref a_touches) = true)
    (n_joined : PySem.W.nsIn K mainGlobals "joined" = some (some (.ref a_joined)))
    (l_joined : K.lookup a_joined = some ⟨oc_joined, od_joined, .func (PySem.W.fnOf "joined" "joined" (defArgs s_joined) (defBody s_joined) (defScope s_joined) .none kV_joined dc_joined pm_joined an_joined cd_joined ct_joined), sl_joined⟩)
    (c_joined : PySem.W.codeIn K cd_joined "joined" = true)
    (k_joined : PySem.W.keepIn K (.ref a_joined) = true)
    (n_rest_of : PySem.W.nsIn K mainGlobals "rest_of" = some (some (.ref a_rest_of)))
    (l_rest_of : K.lookup a_rest_of = some ⟨oc_rest_of, od_rest_of, .func (PySem.W.fnOf "rest_of" "rest_of" (defArgs s_rest_of) (defBody s_rest_of) (defScope s_rest_of) .none kV_rest_of dc_rest_of pm_rest_of an_rest_of cd_rest_of ct_rest_of), sl_rest_of⟩)
    (c_rest_of : PySem.W.codeIn K cd_rest_of "rest_of" = true)
    (k_rest_of : PySem.W.keepIn K (.ref a_rest_of) = true)
    (n_is_whole : PySem.W.nsIn K mainGlobals "is_whole" = some (some (.ref a_is_whole)))
    (l_is_whole : K.lookup a_is_whole = some ⟨oc_is_whole, od_is_whole, .func (PySem.W.fnOf "is_whole" "is_whole" (defArgs s_is_whole) (defBody s_is_whole) (defScope s_is_whole) .none kV_is_whole dc_is_whole pm_is_whole an_is_whole cd_is_whole ct_is_whole), sl_is_whole⟩)
    (c_is_whole : PySem.W.codeIn K cd_is_whole "is_whole" = true)
    (k_is_whole : PySem.W.keepIn K (.ref a_is_whole) = true)
    (n_is_within : PySem.W.nsIn K mainGlobals "is_within" = some (some (.ref a_is_within)))
    (l_is_within : K.lookup a_is_within = some ⟨oc_is_within, od_is_within, .func (PySem.W.fnOf "is_within" "is_within" (defArgs s_is_within) (defBody s_is_within) (defScope s_is_within) .none kV_is_within dc_is_within pm_is_within an_is_within cd_is_within ct_is_within), sl_is_within⟩)
    (c_is_within : PySem.W.codeIn K cd_is_within "is_within" = true)
    (k_is_within : PySem.W.keepIn K (.ref a_is_within) = true)
    (n_is_ascending : PySem.W.nsIn K mainGlobals "is_ascending" = some (some (.ref a_is_ascending)))
    (l_is_ascending : K.lookup a_is_ascending = some ⟨oc_is_ascending, od_is_ascending, .func (PySem.W.fnOf "is_ascending" "is_ascending" (defArgs s_is_ascending) (defBody s_is_ascending) (defScope s_is_ascending) .none kV_is_ascending dc_is_ascending pm_is_ascending an_is_ascending cd_is_ascending ct_is_ascending), sl_is_ascending⟩)
    (c_is_ascending : PySem.W.codeIn K cd_is_ascending "is_ascending" = true)
    (k_is_ascending : PySem.W.keepIn K (.ref a_is_ascending) = true)
    (n_clean_sets : PySem.W.nsIn K mainGlobals "clean_sets" = some (some (.ref a_clean_sets)))
    (l_clean_sets : K.lookup a_clean_sets = some ⟨oc_clean_sets, od_clean_sets, .func (PySem.W.fnOf "clean_sets" "clean_sets" (defArgs s_clean_sets) (defBody s_clean_sets) (defScope s_clean_sets) .none kV_clean_sets dc_clean_sets pm_clean_sets an_clean_sets cd_clean_sets ct_clean_sets), sl_clean_sets⟩)
    (c_clean_sets : PySem.W.codeIn K cd_clean_sets "clean_sets" = true)
    (k_clean_sets : PySem.W.keepIn K (.ref a_clean_sets) = true)
    (n_closed_sets : PySem.W.nsIn K mainGlobals "closed_sets" = some (some (.ref a_closed_sets)))
    (l_closed_sets : K.lookup a_closed_sets = some ⟨oc_closed_sets, od_closed_sets, .func (PySem.W.fnOf "closed_sets" "closed_sets" (defArgs s_closed_sets) (defBody s_closed_sets) (defScope s_closed_sets) .none kV_closed_sets dc_closed_sets pm_closed_sets an_closed_sets cd_closed_sets ct_closed_sets), sl_closed_sets⟩)
    (c_closed_sets : PySem.W.codeIn K cd_closed_sets "closed_sets" = true)
    (k_closed_sets : PySem.W.keepIn K (.ref a_closed_sets) = true)
    (f_Family_init : PySem.W.findIn K (.ref C_Family) "__init__" = some (some (.ref a_Family_init)))
    (i_Family_init : PySem.W.isFn K (.ref a_Family_init) = true)
    (l_Family_init : K.lookup a_Family_init = some ⟨oc_Family_init, od_Family_init, .func (PySem.W.fnOf "__init__" "Family.__init__" (defArgs s_Family_init) (defBody s_Family_init) (defScope s_Family_init) .none kV_Family_init dc_Family_init pm_Family_init an_Family_init cd_Family_init ct_Family_init), sl_Family_init⟩)
    (c_Family_init : PySem.W.codeIn K cd_Family_init "Family.__init__" = true)
    (k_Family_init : PySem.W.keepIn K (.ref a_Family_init) = true)
    (f_Family_addable : PySem.W.findIn K (.ref C_Family) "addable" = some (some (.ref a_Family_addable)))
    (i_Family_addable : PySem.W.isFn K (.ref a_Family_addable) = true)
    (l_Family_addable : K.lookup a_Family_addable = some ⟨oc_Family_addable, od_Family_addable, .func (PySem.W.fnOf "addable" "Family.addable" (defArgs s_Family_addable) (defBody s_Family_addable) (defScope s_Family_addable) .none kV_Family_addable dc_Family_addable pm_Family_addable an_Family_addable cd_Family_addable ct_Family_addable), sl_Family_addable⟩)
    (c_Family_addable : PySem.W.codeIn K cd_Family_addable "Family.addable" = true)
    (k_Family_addable : PySem.W.keepIn K (.ref a_Family_addable) = true)
    (n_exchange_fault : PySem.W.nsIn K mainGlobals "exchange_fault" = some (some (.ref a_exchange_fault)))
    (l_exchange_fault : K.lookup a_exchange_fault = some ⟨oc_exchange_fault, od_exchange_fault, .func (PySem.W.fnOf "exchange_fault" "exchange_fault" (defArgs s_exchange_fault) (defBody s_exchange_fault) (defScope s_exchange_fault) .none kV_exchange_fault dc_exchange_fault pm_exchange_fault an_exchange_fault cd_exchange_fault ct_exchange_fault), sl_exchange_fault⟩)
    (c_exchange_fault : PySem.W.codeIn K cd_exchange_fault "exchange_fault" = true)
    (k_exchange_fault : PySem.W.keepIn K (.ref a_exchange_fault) = true)
    (n_need_exchange : PySem.W.nsIn K mainGlobals "need_exchange" = some (some (.ref a_need_exchange)))
    (l_need_exchange : K.lookup a_need_exchange = some ⟨oc_need_exchange, od_need_exchange, .func (PySem.W.fnOf "need_exchange" "need_exchange" (defArgs s_need_exchange) (defBody s_need_exchange) (defScope s_need_exchange) .none kV_need_exchange dc_need_exchange pm_need_exchange an_need_exchange cd_need_exchange ct_need_exchange), sl_need_exchange⟩)
    (c_need_exchange : PySem.W.codeIn K cd_need_exchange "need_exchange" = true)
    (k_need_exchange : PySem.W.keepIn K (.ref a_need_exchange) = true)
    (n_need_both : PySem.W.nsIn K mainGlobals "need_both" = some (some (.ref a_need_both)))
    (l_need_both : K.lookup a_need_both = some ⟨oc_need_both, od_need_both, .func (PySem.W.fnOf "need_both" "need_both" (defArgs s_need_both) (defBody s_need_both) (defScope s_need_both) .none kV_need_both dc_need_both pm_need_both an_need_both cd_need_both ct_need_both), sl_need_both⟩)
    (c_need_both : PySem.W.codeIn K cd_need_both "need_both" = true)
    (k_need_both : PySem.W.keepIn K (.ref a_need_both) = true)
    (n_union : PySem.W.nsIn K mainGlobals "union" = some (some (.ref a_union)))
    (l_union : K.lookup a_union = some ⟨oc_union, od_union, .func (PySem.W.fnOf "union" "union" (defArgs s_union) (defBody s_union) (defScope s_union) .none kV_union dc_union pm_union an_union cd_union ct_union), sl_union⟩)
    (c_union : PySem.W.codeIn K cd_union "union" = true)
    (k_union : PySem.W.keepIn K (.ref a_union) = true)
    (n_split : PySem.W.nsIn K mainGlobals "split" = some (some (.ref a_split)))
    (l_split : K.lookup a_split = some ⟨oc_split, od_split, .func (PySem.W.fnOf "split" "split" (defArgs s_split) (defBody s_split) (defScope s_split) .none kV_split dc_split pm_split an_split cd_split ct_split), sl_split⟩)
    (c_split : PySem.W.codeIn K cd_split "split" = true)
    (k_split : PySem.W.keepIn K (.ref a_split) = true)
    (n_law_box : PySem.W.nsIn K mainGlobals "_law_box" = some (some (.ref a_law_box)))
    (l_law_box : K.lookup a_law_box = some ⟨oc_law_box, od_law_box, .func (PySem.W.fnOf "_law_box" "_law_box" (defArgs s_law_box) (defBody s_law_box) (defScope s_law_box) .none kV_law_box dc_law_box pm_law_box an_law_box cd_law_box ct_law_box), sl_law_box⟩)
    (c_law_box : PySem.W.codeIn K cd_law_box "_law_box" = true)
    (k_law_box : PySem.W.keepIn K (.ref a_law_box) = true)
    (n_law_draw : PySem.W.nsIn K mainGlobals "_law_draw" = some (some (.ref a_law_draw)))
    (l_law_draw : K.lookup a_law_draw = some ⟨oc_law_draw, od_law_draw, .func (PySem.W.fnOf "_law_draw" "_law_draw" (defArgs s_law_draw) (defBody s_law_draw) (defScope s_law_draw) .none kV_law_draw dc_law_draw pm_law_draw an_law_draw cd_law_draw ct_law_draw), sl_law_draw⟩)
    (c_law_draw : PySem.W.codeIn K cd_law_draw "_law_draw" = true)
    (k_law_draw : PySem.W.keepIn K (.ref a_law_draw) = true)
    (n_law_things : PySem.W.nsIn K mainGlobals "_law_things" = some (some (.ref a_law_things)))
    (l_law_things : K.lookup a_law_things = some ⟨oc_law_things, od_law_things, .func (PySem.W.fnOf "_law_things" "_law_things" (defArgs s_law_things) (defBody s_law_things) (defScope s_law_things) .none kV_law_things dc_law_things pm_law_things an_law_things cd_law_things ct_law_things), sl_law_things⟩)
    (c_law_things : PySem.W.codeIn K cd_law_things "_law_things" = true)
    (k_law_things : PySem.W.keepIn K (.ref a_law_things) = true)
    (n_law_mask : PySem.W.nsIn K mainGlobals "_law_mask" = some (some (.ref a_law_mask)))
    (l_law_mask : K.lookup a_law_mask = some ⟨oc_law_mask, od_law_mask, .func (PySem.W.fnOf "_law_mask" "_law_mask" (defArgs s_law_mask) (defBody s_law_mask) (defScope s_law_mask) .none kV_law_mask dc_law_mask pm_law_mask an_law_mask cd_law_mask ct_law_mask), sl_law_mask⟩)
    (c_law_mask : PySem.W.codeIn K cd_law_mask "_law_mask" = true)
    (k_law_mask : PySem.W.keepIn K (.ref a_law_mask) = true)
    (n_law_vectors : PySem.W.nsIn K mainGlobals "_law_vectors" = some (some (.ref a_law_vectors)))
    (l_law_vectors : K.lookup a_law_vectors = some ⟨oc_law_vectors, od_law_vectors, .func (PySem.W.fnOf "_law_vectors" "_law_vectors" (defArgs s_law_vectors) (defBody s_law_vectors) (defScope s_law_vectors) .none kV_law_vectors dc_law_vectors pm_law_vectors an_law_vectors cd_law_vectors ct_law_vectors), sl_law_vectors⟩)
    (c_law_vectors : PySem.W.codeIn K cd_law_vectors "_law_vectors" = true)
    (k_law_vectors : PySem.W.keepIn K (.ref a_law_vectors) = true)
    (n_law_quotas : PySem.W.nsIn K mainGlobals "_law_quotas" = some (some (.ref a_law_quotas)))
    (l_law_quotas : K.lookup a_law_quotas = some ⟨oc_law_quotas, od_law_quotas, .func (PySem.W.fnOf "_law_quotas" "_law_quotas" (defArgs s_law_quotas) (defBody s_law_quotas) (defScope s_law_quotas) .none kV_law_quotas dc_law_quotas pm_law_quotas an_law_quotas cd_law_quotas ct_law_quotas), sl_law_quotas⟩)
    (c_law_quotas : PySem.W.codeIn K cd_law_quotas "_law_quotas" = true)
    (k_law_quotas : PySem.W.keepIn K (.ref a_law_quotas) = true)
    (n_law_inside : PySem.W.nsIn K mainGlobals "_law_inside" = some (some (.ref a_law_inside)))
    (l_law_inside : K.lookup a_law_inside = some ⟨oc_law_inside, od_law_inside, .func (PySem.W.fnOf "_law_inside" "_law_inside" (defArgs s_law_inside) (defBody s_law_inside) (defScope s_law_inside) .none kV_law_inside dc_law_inside pm_law_inside an_law_inside cd_law_inside ct_law_inside), sl_law_inside⟩)
    (c_law_inside : PySem.W.codeIn K cd_law_inside "_law_inside" = true)
    (k_law_inside : PySem.W.keepIn K (.ref a_law_inside) = true)
    (n_law_ordered : PySem.W.nsIn K mainGlobals "_law_ordered" = some (some (.ref a_law_ordered)))
    (l_law_ordered : K.lookup a_law_ordered = some ⟨oc_law_ordered, od_law_ordered, .func (PySem.W.fnOf "_law_ordered" "_law_ordered" (defArgs s_law_ordered) (defBody s_law_ordered) (defScope s_law_ordered) .none kV_law_ordered dc_law_ordered pm_law_ordered an_law_ordered cd_law_ordered ct_law_ordered), sl_law_ordered⟩)
    (c_law_ordered : PySem.W.codeIn K cd_law_ordered "_law_ordered" = true)
    (k_law_ordered : PySem.W.keepIn K (.ref a_law_ordered) = true)
    (n_law_family : PySem.W.nsIn K mainGlobals "_law_family" = some (some (.ref a_law_family)))
    (l_law_family : K.lookup a_law_family = some ⟨oc_law_family, od_law_family, .func (PySem.W.fnOf "_law_family" "_law_family" (defArgs s_law_family) (defBody s_law_family) (defScope s_law_family) .none kV_law_family dc_law_family pm_law_family an_law_family cd_law_family ct_law_family), sl_law_family⟩)
    (c_law_family : PySem.W.codeIn K cd_law_family "_law_family" = true)
    (k_law_family : PySem.W.keepIn K (.ref a_law_family) = true)
    (n_law_fault : PySem.W.nsIn K mainGlobals "_law_fault" = some (some (.ref a_law_fault)))
    (l_law_fault : K.lookup a_law_fault = some ⟨oc_law_fault, od_law_fault, .func (PySem.W.fnOf "_law_fault" "_law_fault" (defArgs s_law_fault) (defBody s_law_fault) (defScope s_law_fault) .none kV_law_fault dc_law_fault pm_law_fault an_law_fault cd_law_fault ct_law_fault), sl_law_fault⟩)
    (c_law_fault : PySem.W.codeIn K cd_law_fault "_law_fault" = true)
    (k_law_fault : PySem.W.keepIn K (.ref a_law_fault) = true)
    (n_law_both : PySem.W.nsIn K mainGlobals "_law_both" = some (some (.ref a_law_both)))
    (l_law_both : K.lookup a_law_both = some ⟨oc_law_both, od_law_both, .func (PySem.W.fnOf "_law_both" "_law_both" (defArgs s_law_both) (defBody s_law_both) (defScope s_law_both) .none kV_law_both dc_law_both pm_law_both an_law_both cd_law_both ct_law_both), sl_law_both⟩)
    (c_law_both : PySem.W.codeIn K cd_law_both "_law_both" = true)
    (k_law_both : PySem.W.keepIn K (.ref a_law_both) = true)
    (n_law_told : PySem.W.nsIn K mainGlobals "_law_told" = some (some (.ref a_law_told)))
    (l_law_told : K.lookup a_law_told = some ⟨oc_law_told, od_law_told, .func (PySem.W.fnOf "_law_told" "_law_told" (defArgs s_law_told) (defBody s_law_told) (defScope s_law_told) .none kV_law_told dc_law_told pm_law_told an_law_told cd_law_told ct_law_told), sl_law_told⟩)
    (c_law_told : PySem.W.codeIn K cd_law_told "_law_told" = true)
    (k_law_told : PySem.W.keepIn K (.ref a_law_told) = true)
    (n_law_is_set : PySem.W.nsIn K mainGlobals "_law_is_set" = some (some (.ref a_law_is_set)))
    (l_law_is_set : K.lookup a_law_is_set = some ⟨oc_law_is_set, od_law_is_set, .func (PySem.W.fnOf "_law_is_set" "_law_is_set" (defArgs s_law_is_set) (defBody s_law_is_set) (defScope s_law_is_set) .none kV_law_is_set dc_law_is_set pm_law_is_set an_law_is_set cd_law_is_set ct_law_is_set), sl_law_is_set⟩)
    (c_law_is_set : PySem.W.codeIn K cd_law_is_set "_law_is_set" = true)
    (k_law_is_set : PySem.W.keepIn K (.ref a_law_is_set) = true)
    (n_law_is : PySem.W.nsIn K mainGlobals "_law_is" = some (some (.ref a_law_is)))
    (l_law_is : K.lookup a_law_is = some ⟨oc_law_is, od_law_is, .func (PySem.W.fnOf "_law_is" "_law_is" (defArgs s_law_is) (defBody s_law_is) (defScope s_law_is) .none kV_law_is dc_law_is pm_law_is an_law_is cd_law_is ct_law_is), sl_law_is⟩)
    (c_law_is : PySem.W.codeIn K cd_law_is "_law_is" = true)
    (k_law_is : PySem.W.keepIn K (.ref a_law_is) = true)
    (n_law_joined : PySem.W.nsIn K mainGlobals "_law_joined" = some (some (.ref a_law_joined)))
    (l_law_joined : K.lookup a_law_joined = some ⟨oc_law_joined, od_law_joined, .func (PySem.W.fnOf "_law_joined" "_law_joined" (defArgs s_law_joined) (defBody s_law_joined) (defScope s_law_joined) .none kV_law_joined dc_law_joined pm_law_joined an_law_joined cd_law_joined ct_law_joined), sl_law_joined⟩)
    (c_law_joined : PySem.W.codeIn K cd_law_joined "_law_joined" = true)
    (k_law_joined : PySem.W.keepIn K (.ref a_law_joined) = true)
    (n_law_parted : PySem.W.nsIn K mainGlobals "_law_parted" = some (some (.ref a_law_parted)))
    (l_law_parted : K.lookup a_law_parted = some ⟨oc_law_parted, od_law_parted, .func (PySem.W.fnOf "_law_parted" "_law_parted" (defArgs s_law_parted) (defBody s_law_parted) (defScope s_law_parted) .none kV_law_parted dc_law_parted pm_law_parted an_law_parted cd_law_parted ct_law_parted), sl_law_parted⟩)
    (c_law_parted : PySem.W.codeIn K cd_law_parted "_law_parted" = true)
    (k_law_parted : PySem.W.keepIn K (.ref a_law_parted) = true)
    (n_law_all : PySem.W.nsIn K mainGlobals "_law_all" = some (some (.ref a_law_all)))
    (l_law_all : K.lookup a_law_all = some ⟨oc_law_all, od_law_all, .func (PySem.W.fnOf "_law_all" "_law_all" (defArgs s_law_all) (defBody s_law_all) (defScope s_law_all) .none kV_law_all dc_law_all pm_law_all an_law_all cd_law_all ct_law_all), sl_law_all⟩)
    (c_law_all : PySem.W.codeIn K cd_law_all "_law_all" = true)
    (k_law_all : PySem.W.keepIn K (.ref a_law_all) = true)
    (n_law : PySem.W.nsIn K mainGlobals "law" = some (some (.ref a_law)))
    (l_law : K.lookup a_law = some ⟨oc_law, od_law, .func (PySem.W.fnOf "law" "law" (defArgs s_law) (defBody s_law) (defScope s_law) .none kV_law dc_law pm_law an_law cd_law ct_law), sl_law⟩)
    (c_law : PySem.W.codeIn K cd_law "law" = true)
    (k_law : PySem.W.keepIn K (.ref a_law) = true)
    (x_NoExchange : K.lookup C_NoExchange = some (excClassObj nm_NoExchange qq_NoExchange C_NoExchange N_NoExchange bs_NoExchange (.ref C_NextError :: [.type "ValueError", .type "Exception", .type "BaseException", .type "object"]) true sn_NoExchange sub_NoExchange ab_NoExchange col_NoExchange dd_NoExchange m0_NoExchange m1_NoExchange m2_NoExchange m3_NoExchange m5_NoExchange "ValueError.__new__"))
    (sa_NoExchange : PySem.W.findIn K (.ref C_NoExchange) "__setattr__" = some (some (.builtin "object.__setattr__")))
    (ex_NoExchange : PySem.W.subIn K (.ref C_NoExchange) (.type "BaseException") = some true)
    (ty_NoExchange : PySem.W.typeIn K (.ref C_NoExchange) = some (.type "type"))
    (kc_NoExchange : PySem.W.keepIn K (.ref C_NoExchange) = true)
    (ga_NoExchange : PySem.W.findIn K (.ref C_NoExchange) "__getattribute__" = some (some (.builtin "BaseException.__getattribute__")))
    (gg_NoExchange : PySem.W.findIn K (.ref C_NoExchange) "__getattr__" = some none)
    (hd_NoExchange : PySem.W.hasDictIn K C_NoExchange = true)
    (is_NoExchange : PySem.W.isClsIn K C_NoExchange = true)
    (ss_NoExchange : PySem.W.subIn K (.ref C_NoExchange) (.ref C_NoExchange) = some true)
    (na_NoExchange_smaller : PySem.W.findIn K (.ref C_NoExchange) "smaller" = some none)
    (na_NoExchange_larger : PySem.W.findIn K (.ref C_NoExchange) "larger" = some none)
    (ti_NoExchange : PySem.W.typeIn K (.ref a_NoExchange_init) = some (.type "function"))
    (z_isinstance : PySem.W.nsIn K mainGlobals "isinstance" = some none)
    (z_int : PySem.W.nsIn K mainGlobals "int" = some none)
    (z_bool : PySem.W.nsIn K mainGlobals "bool" = some none)
    (z_range : PySem.W.nsIn K mainGlobals "range" = some none)
    (z_len : PySem.W.nsIn K mainGlobals "len" = some none)
    (z_abs : PySem.W.nsIn K mainGlobals "abs" = some none)
    (z_list : PySem.W.nsIn K mainGlobals "list" = some none)
    (z_tuple : PySem.W.nsIn K mainGlobals "tuple" = some none)
    (z_enumerate : PySem.W.nsIn K mainGlobals "enumerate" = some none)
    (z_any : PySem.W.nsIn K mainGlobals "any" = some none)
    (z_all : PySem.W.nsIn K mainGlobals "all" = some none)
    (z_sum : PySem.W.nsIn K mainGlobals "sum" = some none)
    (z_sorted : PySem.W.nsIn K mainGlobals "sorted" = some none)
    (z_set : PySem.W.nsIn K mainGlobals "set" = some none)
    (v_MOST_THINGS : PySem.W.nsIn K mainGlobals "MOST_THINGS" = some (some (.int 6 t_MOST_THINGS)))
    (v_combinations : PySem.W.nsIn K mainGlobals "combinations" = some (some (.type "itertools.combinations")))
    (nf_Fam : PySem.W.notFirst K C_Family (.ref C_Family) = true)
    : Txt K mg ⟨C_Family, C_NoExchange, C_NextError, a_NoExchange_init, a_parts_of, a_all_sets, a_is_part, a_touches, a_joined, a_rest_of, a_is_whole, a_is_within, a_is_ascending, a_clean_sets, a_closed_sets, a_Family_init, a_Family_addable, a_exchange_fault, a_need_exchange, a_need_both, a_union, a_split, a_law_box, a_law_draw, a_law_things, a_law_mask, a_law_vectors, a_law_quotas, a_law_inside, a_law_ordered, a_law_family, a_law_fault, a_law_both, a_law_told, a_law_is_set, a_law_is, a_law_joined, a_law_parted, a_law_all, a_law, PySem.W.fnOf "__init__" "NoExchange.__init__" (defArgs s_NoExchange_init) (defBody s_NoExchange_init) (defScope s_NoExchange_init) .none kV_NoExchange_init dc_NoExchange_init pm_NoExchange_init an_NoExchange_init cd_NoExchange_init ct_NoExchange_init, PySem.W.fnOf "parts_of" "parts_of" (defArgs s_parts_of) (defBody s_parts_of) (defScope s_parts_of) .none kV_parts_of dc_parts_of pm_parts_of an_parts_of cd_parts_of ct_parts_of, PySem.W.fnOf "all_sets" "all_sets" (defArgs s_all_sets) (defBody s_all_sets) (defScope s_all_sets) .none kV_all_sets dc_all_sets pm_all_sets an_all_sets cd_all_sets ct_all_sets, PySem.W.fnOf "is_part" "is_part" (defArgs s_is_part) (defBody s_is_part) (defScope s_is_part) .none kV_is_part dc_is_part pm_is_part an_is_part cd_is_part ct_is_part, PySem.W.fnOf "touches" "touches" (defArgs s_touches) (defBody s_touches) (defScope s_touches) .none kV_touches dc_touches pm_touches an_touches cd_touches ct_touches, PySem.W.fnOf "joined" "joined" (defArgs s_joined) (defBody s_joined) (defScope s_joined) .none kV_joined dc_joined pm_joined an_joined cd_joined ct_joined, PySem.W.fnOf "rest_of" "rest_of" (defArgs s_rest_of) (defBody s_rest_of) (defScope s_rest_of) .none kV_rest_of dc_rest_of pm_rest_of an_rest_of cd_rest_of ct_rest_of, PySem.W.fnOf "is_whole" "is_whole" (defArgs s_is_whole) (defBody s_is_whole) (defScope s_is_whole) .none kV_is_whole dc_is_whole pm_is_whole an_is_whole cd_is_whole ct_is_whole, PySem.W.fnOf "is_within" "is_within" (defArgs s_is_within) (defBody s_is_within) (defScope s_is_within) .none kV_is_within dc_is_within pm_is_within an_is_within cd_is_within ct_is_within, PySem.W.fnOf "is_ascending" "is_ascending" (defArgs s_is_ascending) (defBody s_is_ascending) (defScope s_is_ascending) .none kV_is_ascending dc_is_ascending pm_is_ascending an_is_ascending cd_is_ascending ct_is_ascending, PySem.W.fnOf "clean_sets" "clean_sets" (defArgs s_clean_sets) (defBody s_clean_sets) (defScope s_clean_sets) .none kV_clean_sets dc_clean_sets pm_clean_sets an_clean_sets cd_clean_sets ct_clean_sets, PySem.W.fnOf "closed_sets" "closed_sets" (defArgs s_closed_sets) (defBody s_closed_sets) (defScope s_closed_sets) .none kV_closed_sets dc_closed_sets pm_closed_sets an_closed_sets cd_closed_sets ct_closed_sets, PySem.W.fnOf "__init__" "Family.__init__" (defArgs s_Family_init) (defBody s_Family_init) (defScope s_Family_init) .none kV_Family_init dc_Family_init pm_Family_init an_Family_init cd_Family_init ct_Family_init, PySem.W.fnOf "addable" "Family.addable" (defArgs s_Family_addable) (defBody s_Family_addable) (defScope s_Family_addable) .none kV_Family_addable dc_Family_addable pm_Family_addable an_Family_addable cd_Family_addable ct_Family_addable, PySem.W.fnOf "exchange_fault" "exchange_fault" (defArgs s_exchange_fault) (defBody s_exchange_fault) (defScope s_exchange_fault) .none kV_exchange_fault dc_exchange_fault pm_exchange_fault an_exchange_fault cd_exchange_fault ct_exchange_fault, PySem.W.fnOf "need_exchange" "need_exchange" (defArgs s_need_exchange) (defBody s_need_exchange) (defScope s_need_exchange) .none kV_need_exchange dc_need_exchange pm_need_exchange an_need_exchange cd_need_exchange ct_need_exchange, PySem.W.fnOf "need_both" "need_both" (defArgs s_need_both) (defBody s_need_both) (defScope s_need_both) .none kV_need_both dc_need_both pm_need_both an_need_both cd_need_both ct_need_both, PySem.W.fnOf "union" "union" (defArgs s_union) (defBody s_union) (defScope s_union) .none kV_union dc_union pm_union an_union cd_union ct_union, PySem.W.fnOf "split" "split" (defArgs s_split) (defBody s_split) (defScope s_split) .none kV_split dc_split pm_split an_split cd_split ct_split, PySem.W.fnOf "_law_box" "_law_box" (defArgs s_law_box) (defBody s_law_box) (defScope s_law_box) .none kV_law_box dc_law_box pm_law_box an_law_box cd_law_box ct_law_box, PySem.W.fnOf "_law_draw" "_law_draw" (defArgs s_law_draw) (defBody s_law_draw) (defScope s_law_draw) .none kV_law_draw dc_law_draw pm_law_draw an_law_draw cd_law_draw ct_law_draw, PySem.W.fnOf "_law_things" "_law_things" (defArgs s_law_things) (defBody s_law_things) (defScope s_law_things) .none kV_law_things dc_law_things pm_law_things an_law_things cd_law_things ct_law_things, PySem.W.fnOf "_law_mask" "_law_mask" (defArgs s_law_mask) (defBody s_law_mask) (defScope s_law_mask) .none kV_law_mask dc_law_mask pm_law_mask an_law_mask cd_law_mask ct_law_mask, PySem.W.fnOf "_law_vectors" "_law_vectors" (defArgs s_law_vectors) (defBody s_law_vectors) (defScope s_law_vectors) .none kV_law_vectors dc_law_vectors pm_law_vectors an_law_vectors cd_law_vectors ct_law_vectors, PySem.W.fnOf "_law_quotas" "_law_quotas" (defArgs s_law_quotas) (defBody s_law_quotas) (defScope s_law_quotas) .none kV_law_quotas dc_law_quotas pm_law_quotas an_law_quotas cd_law_quotas ct_law_quotas, PySem.W.fnOf "_law_inside" "_law_inside" (defArgs s_law_inside) (defBody s_law_inside) (defScope s_law_inside) .none kV_law_inside dc_law_inside pm_law_inside an_law_inside cd_law_inside ct_law_inside, PySem.W.fnOf "_law_ordered" "_law_ordered" (defArgs s_law_ordered) (defBody s_law_ordered) (defScope s_law_ordered) .none kV_law_ordered dc_law_ordered pm_law_ordered an_law_ordered cd_law_ordered ct_law_ordered, PySem.W.fnOf "_law_family" "_law_family" (defArgs s_law_family) (defBody s_law_family) (defScope s_law_family) .none kV_law_family dc_law_family pm_law_family an_law_family cd_law_family ct_law_family, PySem.W.fnOf "_law_fault" "_law_fault" (defArgs s_law_fault) (defBody s_law_fault) (defScope s_law_fault) .none kV_law_fault dc_law_fault pm_law_fault an_law_fault cd_law_fault ct_law_fault, PySem.W.fnOf "_law_both" "_law_both" (defArgs s_law_both) (defBody s_law_both) (defScope s_law_both) .none kV_law_both dc_law_both pm_law_both an_law_both cd_law_both ct_law_both, PySem.W.fnOf "_law_told" "_law_told" (defArgs s_law_told) (defBody s_law_told) (defScope s_law_told) .none kV_law_told dc_law_told pm_law_told an_law_told cd_law_told ct_law_told, PySem.W.fnOf "_law_is_set" "_law_is_set" (defArgs s_law_is_set) (defBody s_law_is_set) (defScope s_law_is_set) .none kV_law_is_set dc_law_is_set pm_law_is_set an_law_is_set cd_law_is_set ct_law_is_set, PySem.W.fnOf "_law_is" "_law_is" (defArgs s_law_is) (defBody s_law_is) (defScope s_law_is) .none kV_law_is dc_law_is pm_law_is an_law_is cd_law_is ct_law_is, PySem.W.fnOf "_law_joined" "_law_joined" (defArgs s_law_joined) (defBody s_law_joined) (defScope s_law_joined) .none kV_law_joined dc_law_joined pm_law_joined an_law_joined cd_law_joined ct_law_joined, PySem.W.fnOf "_law_parted" "_law_parted" (defArgs s_law_parted) (defBody s_law_parted) (defScope s_law_parted) .none kV_law_parted dc_law_parted pm_law_parted an_law_parted cd_law_parted ct_law_parted, PySem.W.fnOf "_law_all" "_law_all" (defArgs s_law_all) (defBody s_law_all) (defScope s_law_all) .none kV_law_all dc_law_all pm_law_all an_law_all cd_law_all ct_law_all, PySem.W.fnOf "law" "law" (defArgs s_law) (defBody s_law) (defScope s_law) .none kV_law dc_law pm_law an_law cd_law ct_law⟩ :=
  { mg_Family := PySem.W.mg_of X G hC_Family
    mg_NoExchange := PySem.W.mg_of X G hC_NoExchange
    mg_NextError := PySem.W.mg_of X G hC_NextError
    cl_Family := ⟨pg_Family, hd_Family, po_Family, sa_Family⟩
    na_Family_sets := na_Family_sets
    na_Family_size := na_Family_size
    cg_Family := cg_Family
    mr_Family := mr_Family
    cget := cget
    ctk := ctk
    fn_NoExchange_init := fun_mk (st := s_NoExchange_init) l_NoExchange_init c_NoExchange_init k_NoExchange_init
    b_NoExchange_init := (fun_mk (st := s_NoExchange_init) l_NoExchange_init c_NoExchange_init k_NoExchange_init).binds (ps := ["self", "smaller", "larger"]) fun _ _ _ _ _ _ us hl => match us, hl with | [_, _, _], _ => rfl
    mg_parts_of := PySem.W.mg_of X G n_parts_of
    fn_parts_of := fun_mk (st := s_parts_of) l_parts_of c_parts_of k_parts_of
    b_parts_of := (fun_mk (st := s_parts_of) l_parts_of c_parts_of k_parts_of).binds (ps := ["things"]) fun _ _ _ _ _ _ us hl => match us, hl with | [_], _ => rfl
    mg_all_sets := PySem.W.mg_of X G n_all_sets
    fn_all_sets := fun_mk (st := s_all_sets) l_all_sets c_all_sets k_all_sets
    b_all_sets := (fun_mk (st := s_all_sets) l_all_sets c_all_sets k_all_sets).binds (ps := ["size"]) fun _ _ _ _ _ _ us hl => match us, hl with | [_], _ => rfl
    mg_is_part := PySem.W.mg_of X G n_is_part
    fn_is_part := fun_mk (st := s_is_part) l_is_part c_is_part k_is_part
    b_is_part := (fun_mk (st := s_is_part) l_is_part c_is_part k_is_part).binds (ps := ["part", "things"]) fun _ _ _ _ _ _ us hl => match us, hl with | [_, _], _ => rfl
    mg_touches := PySem.W.mg_of X G n_touches
    fn_touches := fun_mk (st := s_touches) l_touches c_touches k_touches
    b_touches := (fun_mk (st := s_touches) l_touches c_touches k_touches).binds (ps := ["one", "other"]) fun _ _ _ _ _ _ us hl => match us, hl with | [_, _], _ => rfl
    mg_joined := PySem.W.mg_of X G n_joined
    fn_joined := fun_mk (st := s_joined) l_joined c_joined k_joined
    b_joined := (fun_mk (st := s_joined) l_joined c_joined k_joined).binds (ps := ["one", "other"]) fun _ _ _ _ _ _ us hl => match us, hl with | [_, _], _ => rfl
    mg_rest_of := PySem.W.mg_of X G n_rest_of
    fn_rest_of := fun_mk (st := s_rest_of) l_rest_of c_rest_of k_rest_of
    b_rest_of := (fun_mk (st := s_rest_of) l_rest_of c_rest_of k_rest_of).binds (ps := ["things", "out"]) fun _ _ _ _ _ _ us hl => match us, hl with | [_, _], _ => rfl
    mg_is_whole := PySem.W.mg_of X G n_is_whole
    fn_is_whole := fun_mk (st := s_is_whole) l_is_whole c_is_whole k_is_whole
    b_is_whole := (fun_mk (st := s_is_whole) l_is_whole c_is_whole k_is_whole).binds (ps := ["value"]) fun _ _ _ _ _ _ us hl => match us, hl with | [_], _ => rfl
    mg_is_within := PySem.W.mg_of X G n_is_within
    fn_is_within := fun_mk (st := s_is_within) l_is_within c_is_within k_is_within
    b_is_within := (fun_mk (st := s_is_within) l_is_within c_is_within k_is_within).binds (ps := ["value", "least", "most"]) fun _ _ _ _ _ _ us hl => match us, hl with | [_, _, _], _ => rfl
    mg_is_ascending := PySem.W.mg_of X G n_is_ascending
    fn_is_ascending := fun_mk (st := s_is_ascending) l_is_ascending c_is_ascending k_is_ascending
    b_is_ascending := (fun_mk (st := s_is_ascending) l_is_ascending c_is_ascending k_is_ascending).binds (ps := ["value", "size"]) fun _ _ _ _ _ _ us hl => match us, hl with | [_, _], _ => rfl
    mg_clean_sets := PySem.W.mg_of X G n_clean_sets
    fn_clean_sets := fun_mk (st := s_clean_sets) l_clean_sets c_clean_sets k_clean_sets
    b_clean_sets := (fun_mk (st := s_clean_sets) l_clean_sets c_clean_sets k_clean_sets).binds (ps := ["size", "sets"]) fun _ _ _ _ _ _ us hl => match us, hl with | [_, _], _ => rfl
    mg_closed_sets := PySem.W.mg_of X G n_closed_sets
    fn_closed_sets := fun_mk (st := s_closed_sets) l_closed_sets c_closed_sets k_closed_sets
    b_closed_sets := (fun_mk (st := s_closed_sets) l_closed_sets c_closed_sets k_closed_sets).binds (ps := ["size", "sets"]) fun _ _ _ _ _ _ us hl => match us, hl with | [_, _], _ => rfl
    fn_Family_init := fun_mk (st := s_Family_init) l_Family_init c_Family_init k_Family_init
    b_Family_init := (fun_mk (st := s_Family_init) l_Family_init c_Family_init k_Family_init).binds (ps := ["self", "size", "sets"]) fun _ _ _ _ _ _ us hl => match us, hl with | [_, _, _], _ => rfl
    mt_Family_init := ⟨f_Family_init, i_Family_init, k_Family_init⟩
    fn_Family_addable := fun_mk (st := s_Family_addable) l_Family_addable c_Family_addable k_Family_addable
    b_Family_addable := (fun_mk (st := s_Family_addable) l_Family_addable c_Family_addable k_Family_addable).binds (ps := ["self", "taken"]) fun _ _ _ _ _ _ us hl => match us, hl with | [_, _], _ => rfl
    mt_Family_addable := ⟨f_Family_addable, i_Family_addable, k_Family_addable⟩
    mg_exchange_fault := PySem.W.mg_of X G n_exchange_fault
    fn_exchange_fault := fun_mk (st := s_exchange_fault) l_exchange_fault c_exchange_fault k_exchange_fault
    b_exchange_fault := (fun_mk (st := s_exchange_fault) l_exchange_fault c_exchange_fault k_exchange_fault).binds (ps := ["family"]) fun _ _ _ _ _ _ us hl => match us, hl with | [_], _ => rfl
    mg_need_exchange := PySem.W.mg_of X G n_need_exchange
    fn_need_exchange := fun_mk (st := s_need_exchange) l_need_exchange c_need_exchange k_need_exchange
    b_need_exchange := (fun_mk (st := s_need_exchange) l_need_exchange c_need_exchange k_need_exchange).binds (ps := ["family"]) fun _ _ _ _ _ _ us hl => match us, hl with | [_], _ => rfl
    mg_need_both := PySem.W.mg_of X G n_need_both
    fn_need_both := fun_mk (st := s_need_both) l_need_both c_need_both k_need_both
    b_need_both := (fun_mk (st := s_need_both) l_need_both c_need_both k_need_both).binds (ps := ["one", "other"]) fun _ _ _ _ _ _ us hl => match us, hl with | [_, _], _ => rfl
    mg_union := PySem.W.mg_of X G n_union
    fn_union := fun_mk (st := s_union) l_union c_union k_union
    b_union := (fun_mk (st := s_union) l_union c_union k_union).binds (ps := ["one", "other"]) fun _ _ _ _ _ _ us hl => match us, hl with | [_, _], _ => rfl
    mg_split := PySem.W.mg_of X G n_split
    fn_split := fun_mk (st := s_split) l_split c_split k_split
    b_split := (fun_mk (st := s_split) l_split c_split k_split).binds (ps := ["one", "other", "things"]) fun _ _ _ _ _ _ us hl => match us, hl with | [_, _, _], _ => rfl
    mg_law_box := PySem.W.mg_of X G n_law_box
    fn_law_box := fun_mk (st := s_law_box) l_law_box c_law_box k_law_box
    b_law_box := (fun_mk (st := s_law_box) l_law_box c_law_box k_law_box).binds (ps := ["script"]) fun _ _ _ _ _ _ us hl => match us, hl with | [_], _ => rfl
    mg_law_draw := PySem.W.mg_of X G n_law_draw
    fn_law_draw := fun_mk (st := s_law_draw) l_law_draw c_law_draw k_law_draw
    b_law_draw := (fun_mk (st := s_law_draw) l_law_draw c_law_draw k_law_draw).binds (ps := ["box", "limit"]) fun _ _ _ _ _ _ us hl => match us, hl with | [_, _], _ => rfl
    mg_law_things := PySem.W.mg_of X G n_law_things
    fn_law_things := fun_mk (st := s_law_things) l_law_things c_law_things k_law_things
    b_law_things := (fun_mk (st := s_law_things) l_law_things c_law_things k_law_things).binds (ps := ["mask"]) fun _ _ _ _ _ _ us hl => match us, hl with | [_], _ => rfl
    mg_law_mask := PySem.W.mg_of X G n_law_mask
    fn_law_mask := fun_mk (st := s_law_mask) l_law_mask c_law_mask k_law_mask
    b_law_mask := (fun_mk (st := s_law_mask) l_law_mask c_law_mask k_law_mask).binds (ps := ["things"]) fun _ _ _ _ _ _ us hl => match us, hl with | [_], _ => rfl
    mg_law_vectors := PySem.W.mg_of X G n_law_vectors
    fn_law_vectors := fun_mk (st := s_law_vectors) l_law_vectors c_law_vectors k_law_vectors
    b_law_vectors := (fun_mk (st := s_law_vectors) l_law_vectors c_law_vectors k_law_vectors).binds (ps := ["box", "size"]) fun _ _ _ _ _ _ us hl => match us, hl with | [_, _], _ => rfl
    mg_law_quotas := PySem.W.mg_of X G n_law_quotas
    fn_law_quotas := fun_mk (st := s_law_quotas) l_law_quotas c_law_quotas k_law_quotas
    b_law_quotas := (fun_mk (st := s_law_quotas) l_law_quotas c_law_quotas k_law_quotas).binds (ps := ["box", "size"]) fun _ _ _ _ _ _ us hl => match us, hl with | [_, _], _ => rfl
    mg_law_inside := PySem.W.mg_of X G n_law_inside
    fn_law_inside := fun_mk (st := s_law_inside) l_law_inside c_law_inside k_law_inside
    b_law_inside := (fun_mk (st := s_law_inside) l_law_inside c_law_inside k_law_inside).binds (ps := ["box", "size"]) fun _ _ _ _ _ _ us hl => match us, hl with | [_, _], _ => rfl
    mg_law_ordered := PySem.W.mg_of X G n_law_ordered
    fn_law_ordered := fun_mk (st := s_law_ordered) l_law_ordered c_law_ordered k_law_ordered
    b_law_ordered := (fun_mk (st := s_law_ordered) l_law_ordered c_law_ordered k_law_ordered).binds (ps := ["inside"]) fun _ _ _ _ _ _ us hl => match us, hl with | [_], _ => rfl
    mg_law_family := PySem.W.mg_of X G n_law_family
    fn_law_family := fun_mk (st := s_law_family) l_law_family c_law_family k_law_family
    b_law_family := (fun_mk (st := s_law_family) l_law_family c_law_family k_law_family).binds (ps := ["box", "size", "inside"]) fun _ _ _ _ _ _ us hl => match us, hl with | [_, _, _], _ => rfl
    mg_law_fault := PySem.W.mg_of X G n_law_fault
    fn_law_fault := fun_mk (st := s_law_fault) l_law_fault c_law_fault k_law_fault
    b_law_fault := (fun_mk (st := s_law_fault) l_law_fault c_law_fault k_law_fault).binds (ps := ["inside", "size"]) fun _ _ _ _ _ _ us hl => match us, hl with | [_, _], _ => rfl
    mg_law_both := PySem.W.mg_of X G n_law_both
    fn_law_both := fun_mk (st := s_law_both) l_law_both c_law_both k_law_both
    b_law_both := (fun_mk (st := s_law_both) l_law_both c_law_both k_law_both).binds (ps := ["one", "two"]) fun _ _ _ _ _ _ us hl => match us, hl with | [_, _], _ => rfl
    mg_law_told := PySem.W.mg_of X G n_law_told
    fn_law_told := fun_mk (st := s_law_told) l_law_told c_law_told k_law_told
    b_law_told := (fun_mk (st := s_law_told) l_law_told c_law_told k_law_told).binds (ps := ["actual", "size"]) fun _ _ _ _ _ _ us hl => match us, hl with | [_, _], _ => rfl
    mg_law_is_set := PySem.W.mg_of X G n_law_is_set
    fn_law_is_set := fun_mk (st := s_law_is_set) l_law_is_set c_law_is_set k_law_is_set
    b_law_is_set := (fun_mk (st := s_law_is_set) l_law_is_set c_law_is_set k_law_is_set).binds (ps := ["actual", "due"]) fun _ _ _ _ _ _ us hl => match us, hl with | [_, _], _ => rfl
    mg_law_is := PySem.W.mg_of X G n_law_is
    fn_law_is := fun_mk (st := s_law_is) l_law_is c_law_is k_law_is
    b_law_is := (fun_mk (st := s_law_is) l_law_is c_law_is k_law_is).binds (ps := ["family", "size", "inside"]) fun _ _ _ _ _ _ us hl => match us, hl with | [_, _, _], _ => rfl
    mg_law_joined := PySem.W.mg_of X G n_law_joined
    fn_law_joined := fun_mk (st := s_law_joined) l_law_joined c_law_joined k_law_joined
    b_law_joined := (fun_mk (st := s_law_joined) l_law_joined c_law_joined k_law_joined).binds (ps := ["family", "other", "size", "one", "two", "fault"]) fun _ _ _ _ _ _ us hl => match us, hl with | [_, _, _, _, _, _], _ => rfl
    mg_law_parted := PySem.W.mg_of X G n_law_parted
    fn_law_parted := fun_mk (st := s_law_parted) l_law_parted c_law_parted k_law_parted
    b_law_parted := (fun_mk (st := s_law_parted) l_law_parted c_law_parted k_law_parted).binds (ps := ["box", "family", "other", "size", "one", "two", "fault", "mask"]) fun _ _ _ _ _ _ us hl => match us, hl with | [_, _, _, _, _, _, _, _], _ => rfl
    mg_law_all := PySem.W.mg_of X G n_law_all
    fn_law_all := fun_mk (st := s_law_all) l_law_all c_law_all k_law_all
    b_law_all := (fun_mk (st := s_law_all) l_law_all c_law_all k_law_all).binds (ps := ["script"]) fun _ _ _ _ _ _ us hl => match us, hl with | [_], _ => rfl
    mg_law := PySem.W.mg_of X G n_law
    fn_law := fun_mk (st := s_law) l_law c_law k_law
    b_law := (fun_mk (st := s_law) l_law c_law k_law).binds (ps := ["script"]) fun _ _ _ _ _ _ us hl => match us, hl with | [_], _ => rfl
    mk_Family := ⟨mk_Family, f_Family_init, i_Family_init, kc_Family⟩
    ex_NoExchange := ⟨⟨_, _, _, _, _, _, _, _, _, _, _, _, _, _, _, x_NoExchange, rfl⟩, sa_NoExchange, ex_NoExchange, ty_NoExchange, kc_NoExchange⟩
    xf_NoExchange := ⟨ga_NoExchange, gg_NoExchange, ex_NoExchange, hd_NoExchange⟩
    xm_NoExchange := exm_self ex_NoExchange is_NoExchange ty_NoExchange ss_NoExchange
    na_NoExchange_smaller := na_NoExchange_smaller
    na_NoExchange_larger := na_NoExchange_larger
    xi_NoExchange := f_NoExchange_init
    ti_NoExchange := ti_NoExchange
    no_isinstance := PySem.W.mg_none_of X G z_isinstance
    no_int := PySem.W.mg_none_of X G z_int
    no_bool := PySem.W.mg_none_of X G z_bool
    no_range := PySem.W.mg_none_of X G z_range
    no_len := PySem.W.mg_none_of X G z_len
    no_abs := PySem.W.mg_none_of X G z_abs
    no_list := PySem.W.mg_none_of X G z_list
    no_tuple := PySem.W.mg_none_of X G z_tuple
    no_enumerate := PySem.W.mg_none_of X G z_enumerate
    no_any := PySem.W.mg_none_of X G z_any
    no_all := PySem.W.mg_none_of X G z_all
    no_sum := PySem.W.mg_none_of X G z_sum
    no_sorted := PySem.W.mg_none_of X G z_sorted
    no_set := PySem.W.mg_none_of X G z_set
    mg_MOST_THINGS := ⟨_, PySem.W.mg_of X G v_MOST_THINGS⟩
    mg_combinations := PySem.W.mg_of X G v_combinations
    nf_Fam := nf_Fam }
end K32
namespace K32
open PySem PySem.Spec PyProof.Rows L2
theorem all_mk {l : PySem.W.OpenLaw} {w : World} {K : PySem.W.Frag} {mg : Str → Option Value} {fa : Addr} {a : Ad} (T : Txt K mg a) (hfa : mg "law" = some (.ref fa)) (hd : ∀ (s : Shared) (v : Value), BindsTo s a.d_law ⟨[v], []⟩ [("script", v)]) :
    ∃ fd : FuncData, (∀ (s : Shared) (v : Value), BindsTo s fd ⟨[v], []⟩ [("script", v)]) ∧ ∀ base : Heap, K.In base → base.Ns mainGlobals mg → FnOk l.prog w K mg base CX0 13 fa fd ["script"] (spLaw K) := by
  have e := hfa.symm.trans T.mg_law
  cases e
  exact ⟨a.d_law, hd, fun base _ _ => ok_law T⟩
theorem walk {l : PySem.W.OpenLaw} {q : Program} {loose : List Str} {XP : (Str → Option Value) → Heap → Prop} {YP : World → Heap → Prop} {d : DefRec} {K : Params → PySem.W.Frag} (hn : l.most = some 63) (hdf : d.params.defaults = [])
    (hY : ∀ (w : World) (h : Heap), YP w h → (K w.params).In h)
    (F : ∀ (w : World) (mg : Str → Option Value) (fa : Addr) (h : Heap), (K w.params).In h → h.Ns mainGlobals mg → mg d.name = some (.ref fa) →
      ∃ fd : FuncData, (∀ (s : Shared) (u : Value), BindsTo s fd ⟨[u], []⟩ [("script", u)]) ∧ ∀ base : Heap, (K w.params).In base → base.Ns mainGlobals mg → FnOk l.prog w (K w.params) mg base CX0 13 fa fd ["script"] (spLaw (K w.params))) :
    PySem.W.WalkO q loose XP YP l.row.toRowW d [] (fun f vs => PySem.call f vs) :=
  L2.walk_of (n := 63) (k := 13) (x := "script") (CX := fun _ => CX0) (sp := fun w => spLaw (K w.params)) hn (by decide) hdf ⟨rfl, by decide, by decide⟩ hY F (fun _ _ a ns hl _ hS => ⟨a, ns, rfl, hS, hl, fun _ => rfl⟩) fun _ _ _ _ _ z => z
end K32
open PySem PySem.W PyProof.Rows
set_option maxRecDepth 100000 in
set_option maxHeartbeats 0 in
theorem PySem.Challenge.cw_greatestnext_k32_unions_and_splits_holds : PySem.Challenge.rw_greatestnext_k32_unions_and_splits.Holds := by
  w_on; o_law; k_head; (case hw => w_witness2)
  k_fill
  refine K32.walk (l := PySem.Challenge.rw_greatestnext_k32_unions_and_splits) rfl rfl (fun w h Y => PySem.W.kIn_of Y) ?F
  case F =>
    intro w mg fa h KX G hmg
    refine' K32.all_mk (K32.txt_mk KX G ?hC_Family ?hC_NoExchange ?hC_NextError ?pg_Family ?hd_Family ?po_Family ?sa_Family ?mk_Family ?kc_Family ?na_Family_sets ?na_Family_size ?cg_Family ?mr_Family ?cget ?ctk ?f_NoExchange_init ?l_NoExchange_init ?c_NoExchange_init ?k_NoExchange_init ?n_parts_of ?l_parts_of ?c_parts_of ?k_parts_of ?n_all_sets ?l_all_sets ?c_all_sets ?k_all_sets ?n_is_part ?l_is_part ?c_is_part ?k_is_part ?n_touches ?l_touches ?c_touches ?k_touches ?n_joined ?l_joined ?c_joined ?k_joined ?n_rest_of ?l_rest_of ?c_rest_of ?k_rest_of ?n_is_whole ?l_is_whole ?c_is_whole ?k_is_whole ?n_is_within ?l_is_within ?c_is_within ?k_is_within ?n_is_ascending ?l_is_ascending ?c_is_ascending ?k_is_ascending ?n_clean_sets ?l_clean_sets ?c_clean_sets ?k_clean_sets ?n_closed_sets ?l_closed_sets ?c_closed_sets ?k_closed_sets ?f_Family_init ?i_Family_init ?l_Family_init ?c_Family_init ?k_Family_init ?f_Family_addable ?i_Family_addable ?l_Family_addable ?c_Family_addable ?k_Family_addable ?n_exchange_fault ?l_exchange_fault ?c_exchange_fault ?k_exchange_fault ?n_need_exchange ?l_need_exchange ?c_need_exchange ?k_need_exchange ?n_need_both ?l_need_both ?c_need_both ?k_need_both ?n_union ?l_union ?c_union ?k_union ?n_split ?l_split ?c_split ?k_split ?n_law_box ?l_law_box ?c_law_box ?k_law_box ?n_law_draw ?l_law_draw ?c_law_draw ?k_law_draw ?n_law_things ?l_law_things ?c_law_things ?k_law_things ?n_law_mask ?l_law_mask ?c_law_mask ?k_law_mask ?n_law_vectors ?l_law_vectors ?c_law_vectors ?k_law_vectors ?n_law_quotas ?l_law_quotas ?c_law_quotas ?k_law_quotas ?n_law_inside ?l_law_inside ?c_law_inside ?k_law_inside ?n_law_ordered ?l_law_ordered ?c_law_ordered ?k_law_ordered ?n_law_family ?l_law_family ?c_law_family ?k_law_family ?n_law_fault ?l_law_fault ?c_law_fault ?k_law_fault ?n_law_both ?l_law_both ?c_law_both ?k_law_both ?n_law_told ?l_law_told ?c_law_told ?k_law_told ?n_law_is_set ?l_law_is_set ?c_law_is_set ?k_law_is_set ?n_law_is ?l_law_is ?c_law_is ?k_law_is ?n_law_joined ?l_law_joined ?c_law_joined ?k_law_joined ?n_law_parted ?l_law_parted ?c_law_parted ?k_law_parted ?n_law_all ?l_law_all ?c_law_all ?k_law_all ?n_law ?l_law ?c_law ?k_law ?x_NoExchange ?sa_NoExchange ?ex_NoExchange ?ty_NoExchange ?kc_NoExchange ?ga_NoExchange ?gg_NoExchange ?hd_NoExchange ?is_NoExchange ?ss_NoExchange ?na_NoExchange_smaller ?na_NoExchange_larger ?ti_NoExchange ?z_isinstance ?z_int ?z_bool ?z_range ?z_len ?z_abs ?z_list ?z_tuple ?z_enumerate ?z_any ?z_all ?z_sum ?z_sorted ?z_set ?v_MOST_THINGS ?v_combinations ?nf_Fam) hmg (fun s v => .of_eq rfl)
    (case hC_Family => k_is)
    (case hC_NoExchange => k_is)
    (case hC_NextError => k_is)
    (case pg_Family => k_is)
    (case hd_Family => k_is)
    (case po_Family => k_is)
    (case sa_Family => k_is)
    (case mk_Family => k_is)
    (case kc_Family => k_is)
    (case na_Family_sets => k_is)
    (case na_Family_size => k_is)
    (case cg_Family => k_is)
    (case mr_Family => k_is)
    (case cget => k_is)
    (case ctk => k_is)
    (case f_NoExchange_init => k_is)
    (case l_NoExchange_init => k_is)
    (case c_NoExchange_init => k_is)
    (case k_NoExchange_init => k_is)
    (case n_parts_of => k_is)
    (case l_parts_of => k_is)
    (case c_parts_of => k_is)
    (case k_parts_of => k_is)
    (case n_all_sets => k_is)
    (case l_all_sets => k_is)
    (case c_all_sets => k_is)
    (case k_all_sets => k_is)
    (case n_is_part => k_is)
    (case l_is_part => k_is)
    (case c_is_part => k_is)
    (case k_is_part => k_is)
    (case n_touches => k_is)
    (case l_touches => k_is)
    (case c_touches => k_is)
    (case k_touches => k_is)
    (case n_joined => k_is)
    (case l_joined => k_is)
    (case c_joined => k_is)
    (case k_joined => k_is)
    (case n_rest_of => k_is)
    (case l_rest_of => k_is)
    (case c_rest_of => k_is)
    (case k_rest_of => k_is)
    (case n_is_whole => k_is)
    (case l_is_whole => k_is)
    (case c_is_whole => k_is)
    (case k_is_whole => k_is)
    (case n_is_within => k_is)
    (case l_is_within => k_is)
    (case c_is_within => k_is)
    (case k_is_within => k_is)
    (case n_is_ascending => k_is)
    (case l_is_ascending => k_is)
    (case c_is_ascending => k_is)
    (case k_is_ascending => k_is)
    (case n_clean_sets => k_is)
    (case l_clean_sets => k_is)
    (case c_clean_sets => k_is)
    (case k_clean_sets => k_is)
    (case n_closed_sets => k_is)
    (case l_closed_sets => k_is)
    (case c_closed_sets => k_is)
    (case k_closed_sets => k_is)
    (case f_Family_init => k_is)
    (case i_Family_init => k_is)
    (case l_Family_init => k_is)
    (case c_Family_init => k_is)
    (case k_Family_init => k_is)
    (case f_Family_addable => k_is)
    (case i_Family_addable => k_is)
    (case l_Family_addable => k_is)
    (case c_Family_addable => k_is)
    (case k_Family_addable => k_is)
    (case n_exchange_fault => k_is)
    (case l_exchange_fault => k_is)
    (case c_exchange_fault => k_is)
    (case k_exchange_fault => k_is)
    (case n_need_exchange => k_is)
    (case l_need_exchange => k_is)
    (case c_need_exchange => k_is)
    (case k_need_exchange => k_is)
    (case n_need_both => k_is)
    (case l_need_both => k_is)
    (case c_need_both => k_is)
    (case k_need_both => k_is)
    (case n_union => k_is)
    (case l_union => k_is)
    (case c_union => k_is)
    (case k_union => k_is)
    (case n_split => k_is)
    (case l_split => k_is)
    (case c_split => k_is)
    (case k_split => k_is)
    (case n_law_box => k_is)
    (case l_law_box => k_is)
    (case c_law_box => k_is)
    (case k_law_box => k_is)
    (case n_law_draw => k_is)
    (case l_law_draw => k_is)
    (case c_law_draw => k_is)
    (case k_law_draw => k_is)
    (case n_law_things => k_is)
    (case l_law_things => k_is)
    (case c_law_things => k_is)
    (case k_law_things => k_is)
    (case n_law_mask => k_is)
    (case l_law_mask => k_is)
    (case c_law_mask => k_is)
    (case k_law_mask => k_is)
    (case n_law_vectors => k_is)
    (case l_law_vectors => k_is)
    (case c_law_vectors => k_is)
    (case k_law_vectors => k_is)
    (case n_law_quotas => k_is)
    (case l_law_quotas => k_is)
    (case c_law_quotas => k_is)
    (case k_law_quotas => k_is)
    (case n_law_inside => k_is)
    (case l_law_inside => k_is)
    (case c_law_inside => k_is)
    (case k_law_inside => k_is)
    (case n_law_ordered => k_is)
    (case l_law_ordered => k_is)
    (case c_law_ordered => k_is)
    (case k_law_ordered => k_is)
    (case n_law_family => k_is)
    (case l_law_family => k_is)
    (case c_law_family => k_is)
    (case k_law_family => k_is)
    (case n_law_fault => k_is)
    (case l_law_fault => k_is)
    (case c_law_fault => k_is)
    (case k_law_fault => k_is)
    (case n_law_both => k_is)
    (case l_law_both => k_is)
    (case c_law_both => k_is)
    (case k_law_both => k_is)
    (case n_law_told => k_is)
    (case l_law_told => k_is)
    (case c_law_told => k_is)
    (case k_law_told => k_is)
    (case n_law_is_set => k_is)
    (case l_law_is_set => k_is)
    (case c_law_is_set => k_is)
    (case k_law_is_set => k_is)
    (case n_law_is => k_is)
    (case l_law_is => k_is)
    (case c_law_is => k_is)
    (case k_law_is => k_is)
    (case n_law_joined => k_is)
    (case l_law_joined => k_is)
    (case c_law_joined => k_is)
    (case k_law_joined => k_is)
    (case n_law_parted => k_is)
    (case l_law_parted => k_is)
    (case c_law_parted => k_is)
    (case k_law_parted => k_is)
    (case n_law_all => k_is)
    (case l_law_all => k_is)
    (case c_law_all => k_is)
    (case k_law_all => k_is)
    (case n_law => k_is)
    (case l_law => k_is)
    (case c_law => k_is)
    (case k_law => k_is)
    (case x_NoExchange => k_is)
    (case sa_NoExchange => k_is)
    (case ex_NoExchange => k_is)
    (case ty_NoExchange => k_is)
    (case kc_NoExchange => k_is)
    (case ga_NoExchange => k_is)
    (case gg_NoExchange => k_is)
    (case hd_NoExchange => k_is)
    (case is_NoExchange => k_is)
    (case ss_NoExchange => first | rfl | k_is)
    (case na_NoExchange_smaller => k_is)
    (case na_NoExchange_larger => k_is)
    (case ti_NoExchange => k_is)
    (case z_isinstance => k_is)
    (case z_int => k_is)
    (case z_bool => k_is)
    (case z_range => k_is)
    (case z_len => k_is)
    (case z_abs => k_is)
    (case z_list => k_is)
    (case z_tuple => k_is)
    (case z_enumerate => k_is)
    (case z_any => k_is)
    (case z_all => k_is)
    (case z_sum => k_is)
    (case z_sorted => k_is)
    (case z_set => k_is)
    (case v_MOST_THINGS => k_is)
    (case v_combinations => k_is)
    (case nf_Fam => k_is)
