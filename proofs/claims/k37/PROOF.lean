import PyProof.Rows.All
import Wide.All
import OpenK.AllK
import Wide.FinOn
import HandS.ForMost
import HandS.IsInst
import HandS.SortRule
import KE.SortData
import HandS.RepeatKit
import HandS.Iter
import PyProof.Rows.SortShell
import HandS.SetFor
import HandS.Strs
import HandS.Exc
import HandS.TryOnly
import HandS.ExcOwn
import HandS.WordsExc
import HandS.CallSlots
import HandS.Defaults
import HandS.MakeKw
import HandS.MakeKwOnly
import HandS.Wide
import HandS.WideBits
import HandS.Gcd
import HandS.HotCalls
import HandS.ExcInit
import HandS.ExcField
import HandS.OwnEq
import HandS.TupAny
import HandS.Style
import HandS.NoneIn
import PyProof.EnumMake
import KE.GoesMore
import KE.KUnpackStar
import HandS.Hot
import HandS.ExcCtx
import HandS.Base
import HandS.Call
import HandS.List
import HandS.Comp
import HandS.Dict
import HandS.DictComp
import PyProof.DictFindH
import HandS.AnyAll
import HandS.Deep
import HandS.Star
import HandS.Conv
import HandS.More
import PySem.Challenge.RW_greatestnext_k37_whole_greedy_at_least_s
set_option Elab.async false
set_option linter.all false
set_option maxRecDepth 100000
set_option maxHeartbeats 4000000
set_option exponentiation.threshold 5000
/-! Readings brought to a plain form: loops folded, calls by kinds. -/
namespace Rd
open PySem PySem.Spec PyProof.Rows L2
/-- a loop whose iterator has come -/
def Loop (J : It) (g : TG) (tb : TS) (D : Ends) (σ : L2.St) (H : Hp) : Prop := tFor (fun _ H1 R => R J H1) g tb D σ H
theorem tFor_rng1 {ta : TA} {g : TG} {tb : TS} {D : Ends} {σ : L2.St} {H : Hp} : tFor (iRng1 ta) g tb D σ H = ta σ H (fun vs H1 => ∃ j : Int, vs = [.int j] ∧ -(2 ^ 62) ≤ j ∧ j < 2 ^ 62 ∧ Loop (Itr 0 j.toNat) g tb D σ H1) := rfl
theorem tFor_rng2 {ta : TA} {g : TG} {tb : TS} {D : Ends} {σ : L2.St} {H : Hp} : tFor (iRng2 ta) g tb D σ H = ta σ H (fun vs H1 => ∃ i j : Int, vs = [.int i, .int j] ∧ (-(2 ^ 62) ≤ i ∧ i < 2 ^ 62 ∧ -(2 ^ 62) ≤ j ∧ j < 2 ^ 62) ∧ Loop (Itr i (j - i).toNat) g tb D σ H1) := rfl
theorem tFor_list {K : PySem.W.Frag} {tl : TE} {g : TG} {tb : TS} {D : Ends} {σ : L2.St} {H : Hp} : tFor (iList K tl) g tb D σ H = tl σ H (fun x H1 => ∃ a, x = .ref a ∧ (∃ xs, SqL K H1 a xs) ∧ Loop (Itl K a) g tb D σ H1) := rfl
theorem tFor_tup {K : PySem.W.Frag} {tl : TE} {g : TG} {tb : TS} {D : Ends} {σ : L2.St} {H : Hp} : tFor (iTup K tl) g tb D σ H = tl σ H (fun x H1 => ∃ a, x = .ref a ∧ (∃ xs, SqT K H1 a xs) ∧ Loop (Itt K a) g tb D σ H1) := rfl
theorem loop_rng {lo : Int} {n : Nat} {g : TG} {tb : TS} {D : Ends} {σ : L2.St} {H : Hp} (Pv : Nat → L2.St → Hp → Prop) (h0 : Pv 0 σ H)
    (hs : ∀ i σ H, i < n → Pv i σ H → g (.int (lo + i)) σ H fun σ2 H2 => tb { D with nx := Pv (i + 1), ct := Pv (i + 1), bk := D.nx } σ2 H2) (hd : ∀ σ H, Pv n σ H → D.nx σ H) : Loop (Itr lo n) g tb D σ H := for_range Pv h0 hs hd
theorem loop_list {K : PySem.W.Frag} {a : Addr} {xs : List V} {g : TG} {tb : TS} {D : Ends} {σ : L2.St} {H : Hp} (Pv : Nat → L2.St → Hp → Prop) (h0 : Pv 0 σ H) (hl : ∀ i σ H, i ≤ xs.length → Pv i σ H → SqL K H a xs)
    (hs : ∀ i x σ H, xs[i]? = some x → Pv i σ H → g x σ H fun σ2 H2 => tb { D with nx := Pv (i + 1), ct := Pv (i + 1), bk := D.nx } σ2 H2) (hd : ∀ σ H, Pv xs.length σ H → D.nx σ H) : Loop (Itl K a) g tb D σ H := for_list Pv h0 hl hs hd
/-- a comprehension whose iterator has come -/
def LcL (J : It) (g : TG) (tt : TT) (te : TE) (vs : List Nat) (σ : L2.St) (H : Hp) (Q : VK) : Prop := tLc (fun _ H1 R => R J H1) g tt te vs σ H Q
theorem tLc_list {K : PySem.W.Frag} {tl : TE} {g : TG} {tt : TT} {te : TE} {vs : List Nat} {σ : L2.St} {H : Hp} {Q : VK} : tLc (iList K tl) g tt te vs σ H Q = tl σ H (fun x H1 => ∃ a, x = .ref a ∧ (∃ xs, SqL K H1 a xs) ∧ LcL (Itl K a) g tt te vs σ H1 Q) := rfl
theorem tLc_tup {K : PySem.W.Frag} {tl : TE} {g : TG} {tt : TT} {te : TE} {vs : List Nat} {σ : L2.St} {H : Hp} {Q : VK} : tLc (iTup K tl) g tt te vs σ H Q = tl σ H (fun x H1 => ∃ a, x = .ref a ∧ (∃ xs, SqT K H1 a xs) ∧ LcL (Itt K a) g tt te vs σ H1 Q) := rfl
theorem tLc_rng1 {ta : TA} {g : TG} {tt : TT} {te : TE} {vs : List Nat} {σ : L2.St} {H : Hp} {Q : VK} : tLc (iRng1 ta) g tt te vs σ H Q = ta σ H (fun ws H1 => ∃ j : Int, ws = [.int j] ∧ -(2 ^ 62) ≤ j ∧ j < 2 ^ 62 ∧ LcL (Itr 0 j.toNat) g tt te vs σ H1 Q) := rfl
/-- a turn of a comprehension: the element's value is appended at D -/
def LcTurn (te : TE) (tt : TT) (D : Addr) (σw σ2 : L2.St) (vs : List Nat) (H2 : Hp) (R : Hp → Prop) : Prop := wipe σ2 vs = σw ∧ tt σ2 H2 fun b H3 =>
  if b = true then te σ2 H3 fun y H4 => ∃ acc, H4 D = some (.lst acc) ∧ acc.length < sizeLine ∧ R (upd H4 D (.lst (acc ++ [y]))) else R H3
theorem lcl_list {K : PySem.W.Frag} {a : Addr} {xs : List V} {g : TG} {tt : TT} {te : TE} {vs : List Nat} {σ : L2.St} {H : Hp} {Q : VK} (Pv : Addr → Nat → Hp → Prop) (h0 : ∀ D, H D = none → Pv D 0 (upd H D (.lst []))) (hl : ∀ D i H1, i ≤ xs.length → Pv D i H1 → SqL K H1 a xs)
    (hs : ∀ D i x H1, xs[i]? = some x → Pv D i H1 → g x (wipe σ vs) H1 fun σ2 H2 => LcTurn te tt D (wipe σ vs) σ2 vs H2 (Pv D (i + 1))) (hd : ∀ D H1, H D = none → Pv D xs.length H1 → Q (.ref D) H1) : LcL (Itl K a) g tt te vs σ H Q :=
  fun D hD => lc_list (Pv D) (h0 D hD) (hl D) (hs D) fun H1 p => hd D H1 hD p
theorem lcl_rng {lo : Int} {n : Nat} {g : TG} {tt : TT} {te : TE} {vs : List Nat} {σ : L2.St} {H : Hp} {Q : VK} (Pv : Addr → Nat → Hp → Prop) (h0 : ∀ D, H D = none → Pv D 0 (upd H D (.lst [])))
    (hs : ∀ D i H1, i < n → Pv D i H1 → g (.int (lo + i)) (wipe σ vs) H1 fun σ2 H2 => LcTurn te tt D (wipe σ vs) σ2 vs H2 (Pv D (i + 1))) (hd : ∀ D H1, H D = none → Pv D n H1 → Q (.ref D) H1) : LcL (Itr lo n) g tt te vs σ H Q :=
  fun D hD => lc_range (Pv D) (h0 D hD) (hs D) fun H1 p => hd D H1 hD p
section
variable {X : Cx}
theorem CallR.imp {f : Value} {r r' : List V → Hp → VK → Prop} (h : CallR X f r) (i : ∀ xs H Q, r' xs H Q → r xs H Q) : CallR X f r' := fun pins s σ H xs us Q I v q => h pins s σ H xs us Q I v (i _ _ _ q)
def rLenL (K : PySem.W.Frag) : List V → Hp → VK → Prop := fun xs H Q => ∃ p ys, xs = [.ref p] ∧ SqL K H p ys ∧ Q (.int ys.length) H
def rLenT (K : PySem.W.Frag) : List V → Hp → VK → Prop := fun xs H Q => ∃ p ys, xs = [.ref p] ∧ SqT K H p ys ∧ Q (.int ys.length) H
def rIntI : List V → Hp → VK → Prop := fun xs H Q => ∃ i, xs = [.int i] ∧ Q (.int i) H
theorem call_lenL : CallR X (.builtin "len") (rLenL X.K) := CallR.imp call_len_seq fun xs H Q ⟨p, ys, e, h, q⟩ => ⟨p, ys, e, .inl h, q⟩
theorem call_lenT : CallR X (.builtin "len") (rLenT X.K) := CallR.imp call_len_seq fun xs H Q ⟨p, ys, e, h, q⟩ => ⟨p, ys, e, .inr h, q⟩
theorem call_intI : CallR X (.type "int") rIntI := CallR.imp call_int1 fun xs H Q ⟨i, e, q⟩ => .inl ⟨i, e, q⟩
end
/-- an item of a list that stands in H by itself -/
def rIxH : R2 := fun x y H Q => ∃ p xs i v, x = .ref p ∧ y = .int i ∧ H p = some (.lst xs) ∧ atI xs i = some v ∧ Q v H
theorem ixH {X : Cx} : IxR X rIxH := fun value slice pins s σ H x y v u Q I rx ry ⟨p, xs, i, z, e1, e2, h, e3, q⟩ hs => ix_list value slice pins s σ H x y v u Q I rx ry ⟨p, xs, i, z, e1, e2, SqL.of h, e3, q⟩ hs
theorem at0 {α : Type} {x : α} {xs : List α} : atI (x :: xs) 0 = some x := atI_nat (j := 0) rfl
theorem at1 {α : Type} {x y : α} {xs : List α} : atI (x :: y :: xs) 1 = some y := atI_nat (j := 1) rfl
theorem at2 {α : Type} {x y z : α} {xs : List α} : atI (x :: y :: z :: xs) 2 = some z := atI_nat (j := 2) rfl
theorem at3 {α : Type} {x y z u : α} {xs : List α} : atI (x :: y :: z :: u :: xs) 3 = some u := atI_nat (j := 3) rfl
theorem ixN40 : ixN 4 0 = some 0 := rfl
theorem ixN41 : ixN 4 1 = some 1 := rfl
theorem ixN42 : ixN 4 2 = some 2 := rfl
theorem ixN43 : ixN 4 3 = some 3 := rfl
theorem scal_ii (a b : Int) : scal (V.int a) (V.int b) = true := rfl
/-- a loop over a range whose break and end meet in Pe -/
theorem loop_rngC {lo : Int} {n : Nat} {g : TG} {tb : TS} {D : Ends} {σ : L2.St} {H : Hp} (Pe : L2.St → Hp → Prop) (Pv : Nat → L2.St → Hp → Prop) (h0 : Pv 0 σ H)
    (hs : ∀ (bk : L2.St → Hp → Prop), (∀ σ H, Pe σ H → bk σ H) → ∀ i σ H, i < n → Pv i σ H → g (.int (lo + i)) σ H fun σ2 H2 => tb { D with nx := Pv (i + 1), ct := Pv (i + 1), bk := bk } σ2 H2)
    (hd : ∀ σ H, Pv n σ H → Pe σ H) (he : ∀ σ H, Pe σ H → D.nx σ H) : Loop (Itr lo n) g tb D σ H := loop_rng Pv h0 (hs D.nx he) fun σ H p => he σ H (hd σ H p)
theorem loop_listC {K : PySem.W.Frag} {a : Addr} {xs : List V} {g : TG} {tb : TS} {D : Ends} {σ : L2.St} {H : Hp} (Pe : L2.St → Hp → Prop) (Pv : Nat → L2.St → Hp → Prop) (h0 : Pv 0 σ H) (hl : ∀ i σ H, i ≤ xs.length → Pv i σ H → SqL K H a xs)
    (hs : ∀ (bk : L2.St → Hp → Prop), (∀ σ H, Pe σ H → bk σ H) → ∀ i x σ H, xs[i]? = some x → Pv i σ H → g x σ H fun σ2 H2 => tb { D with nx := Pv (i + 1), ct := Pv (i + 1), bk := bk } σ2 H2)
    (hd : ∀ σ H, Pv xs.length σ H → Pe σ H) (he : ∀ σ H, Pe σ H → D.nx σ H) : Loop (Itl K a) g tb D σ H := loop_list Pv h0 hl (hs D.nx he) fun σ H p => he σ H (hd σ H p)
theorem ite_true_of {c : Bool} {A B : Prop} (hc : c = true) (h : A) : if c = true then A else B := by
  rw [if_pos hc]; exact h
theorem ite_false_of {c : Bool} {A B : Prop} (hc : c = false) (h : B) : if c = true then A else B := by
  rw [hc, if_neg Bool.false_ne_true]; exact h
end Rd
/-! A rule of our own: sorted(xs) of a list of tuples that read as alike data, of any length. -/
namespace OwnSort
open PySem PySem.Spec PyProof.Rows L2
abbrev Rw := Addr × PyData
def rSortedD (K : PySem.W.Frag) : List V → Hp → VK → Prop := fun vs H Q => ∃ (a : Addr) (bs : List Rw), vs = [.ref a] ∧ SqL K H a (bs.map fun b => V.ref b.1) ∧ (∀ b ∈ bs, Dp K H (.ref b.1) b.2) ∧ PySem.W.AllAlike (bs.map (·.2)) ∧ PySem.W.Sortable (bs.map (·.2)) ∧ (∀ b ∈ bs, b.2.depth ≤ 60) ∧ bs.length ≤ sizeLine ∧
  ∀ p, H p = none → Q (.ref p) (upd H p (.lst ((bs.mergeSort (PySem.W.dataLe false (·.2))).map fun b => V.ref b.1)))
theorem each_of {bs : List Rw} {us : List Value} (h : Vals (bs.map fun b => V.ref b.1) us) : PySem.W.EachIs (fun v (b : Rw) => v = Value.ref b.1) us bs := by
  induction bs generalizing us with
  | nil => cases h; exact .nil
  | cons b bs ih =>
    cases h with
    | cons r rs => exact .cons r (ih rs)
theorem vals_of {bs : List Rw} {us : List Value} (h : PySem.W.EachIs (fun v (b : Rw) => v = Value.ref b.1) us bs) : Vals (bs.map fun b => V.ref b.1) us := by
  induction h with
  | nil => exact .nil
  | cons r _ ih => exact .cons r ih
theorem each_reads {X : Cx} {pins : List (Addr × Obj)} {σ : L2.St} {H : Hp} {s : Shared} (I : Inv X pins σ H s) : ∀ {bs : List Rw} {us : List Value}, PySem.W.EachIs (fun v (b : Rw) => v = Value.ref b.1) us bs → (∀ b ∈ bs, Dp X.K H (.ref b.1) b.2) → PySem.W.EachIs (fun v (b : Rw) => ∃ as, Reads s.heap v b.2 as) us bs
  | _, _, .nil, _ => .nil
  | _, _, .cons (b := b) r rs, h => .cons (Dp.reads I b.2 (.ref b.1) _ (h b List.mem_cons_self) r) (each_reads I rs fun b hb => h b (List.mem_cons_of_mem _ hb))
theorem cr_sortedD {X : Cx} (hu : X.A.units + 64 < cLine) : CallR X (.builtin "sorted") (rSortedD X.K) := by
  intro pins s σ H vs us Q I r h
  obtain ⟨a, bs, rfl, hs, hd, hal, hk, hdep, hlen, q⟩ := h
  obtain ⟨its, rv, hl, hz⟩ := I.list hs
  obtain ⟨u, rfl, ru⟩ := vals1 r
  obtain rfl : u = Value.ref a := ru
  have e := each_of rv
  refine PySem.W.sorted_data (enc := fun b : Rw => b.2) hl.isList e (each_reads I e hd) hal hk hlen (fun b hb => ?_) fun out ho eo => ?_
  · have := hdep b hb
    omega
  · obtain ⟨c, hc⟩ := sortedAll_at s.heap its out.toArray
    refine ⟨.ref (s.heap.objs.size + 1), upd H (s.heap.objs.size + 1) (.lst ((bs.mergeSort (PySem.W.dataLe false (·.2))).map fun b => V.ref b.1)), I.laid (t' := s.toks) (fun _ _ => sortedAll_old) (Nat.le_succ _) ⟨?_, out, c, vals_of eo, hc⟩, rfl, q _ (I.hok.fresh (Nat.le_succ _))⟩
    rw [List.length_map, List.length_mergeSort]
    exact hlen
end OwnSort
/-! Rules of our own: itertools.combinations of a list. -/
namespace OwnComb
open PySem PySem.Spec PyProof.Rows L2
open Sem (wp)
abbrev T : String := "itertools.combinations"
theorem c_mro : mroOf (.type T) = pure [.type T, .type "object"] := by rw [mroOf_type]; kernel_rfl
theorem c_new : typeLookup (.type T) "__new__" = pure (some (.builtin "itertools.combinations.__new__")) := by rw [typeLookup_type, builtinLookup_eq_fast]; kernel_rfl
theorem c_init : Slot T "__init__" "object.__init__" :=
  .of (owner := "object") (n := "__init__") (by rw [typeLookup_type, builtinLookup_eq_fast]; kernel_rfl) (by decide +kernel) (by decide +kernel) (by decide +kernel)
    (by first | exact .inl (by decide +kernel) | exact .inr (by decide +kernel)) (by rw [isSubtype_type]; kernel_rfl)
theorem c_sub : isSubtype (.type T) (.type T) = pure true := by rw [isSubtype_type]; kernel_rfl
theorem c_called : TypeCalled T "itertools.combinations.__new__" "object.__init__" :=
  ⟨by decide +kernel, by decide +kernel, ⟨_, _, c_mro⟩, madeBy_type c_mro c_new (by decide +kernel), by decide +kernel, c_sub, c_init⟩
theorem c_tcall (a b : Value) : checkTypeCall T ⟨[a, b], []⟩ = pure () := by kernel_rfl
theorem c_ncall (a b : Value) : checkBuiltinCall "itertools.combinations.__new__" ⟨[.type T, a, b], []⟩ = pure () := by kernel_rfl
theorem c_enew : entryFor table "itertools.combinations.__new__" = some Builtin.«itertools.combinations.__new__» := entryFor_of_tree (by kernel_rfl)
theorem c_siter : Slot T "__iter__" "itertools.combinations.__iter__" :=
  .of (owner := T) (n := "__iter__") (by rw [typeLookup_type, builtinLookup_eq_fast]; kernel_rfl) (by decide +kernel) (by decide +kernel) (by decide +kernel)
    (by first | exact .inl (by decide +kernel) | exact .inr (by decide +kernel)) c_sub
theorem c_snext : Slot T "__next__" "itertools.combinations.__next__" :=
  .of (owner := T) (n := "__next__") (by rw [typeLookup_type, builtinLookup_eq_fast]; kernel_rfl) (by decide +kernel) (by decide +kernel) (by decide +kernel)
    (by first | exact .inl (by decide +kernel) | exact .inr (by decide +kernel)) c_sub
theorem c_eiter : entryFor table "itertools.combinations.__iter__" = some Builtin.«dict_keyiterator.__iter__» :=
  entryFor_alias (id' := "dict_keyiterator.__iter__") (by kernel_rfl) (by first | rfl | decide +kernel | (unfold String.splitOn; simp +decide [String.splitOnAux])) (by decide +kernel) (by kernel_rfl)
theorem c_enext : entryFor table "itertools.combinations.__next__" = some Builtin.«itertools.combinations.__next__» := entryFor_of_tree (by kernel_rfl)
theorem c_owner : Manifest.owners.lookup (String.ofList ['s', 'n', 'o', 'i', 't', 'a', 'n', 'i', 'b', 'm', 'o', 'c', '.', 's', 'l', 'o', 'o', 't', 'r', 'e', 't', 'i'].reverse) = some Manifest.sig_itertools_combinations := by kernel_rfl
theorem c_noDict : typeHasDict (.type T) = false := by decide +kernel
theorem c_aiter (a : Value) : argsOk "itertools.combinations.__iter__" ⟨[a], []⟩ := by
  unfold argsOk; rw [signature?_of (id := "itertools.combinations.__iter__") (n := ['_', '_', 'r', 'e', 't', 'i', '_', '_']) (o := ['s', 'n', 'o', 'i', 't', 'a', 'n', 'i', 'b', 'm', 'o', 'c', '.', 's', 'l', 'o', 'o', 't', 'r', 'e', 't', 'i']) (by kernel_rfl) c_owner]; kernel_rfl
theorem c_anext (a : Value) : argsOk "itertools.combinations.__next__" ⟨[a], []⟩ := by
  unfold argsOk; rw [signature?_of (id := "itertools.combinations.__next__") (n := ['_', '_', 't', 'x', 'e', 'n', '_', '_']) (o := ['s', 'n', 'o', 'i', 't', 'a', 'n', 'i', 'b', 'm', 'o', 'c', '.', 's', 'l', 'o', 'o', 't', 'r', 'e', 't', 'i']) (by kernel_rfl) c_owner]; kernel_rfl
end OwnComb
/-! Rules of our own: itertools.combinations of a list. -/
namespace OwnComb
open PySem PySem.Spec PyProof.Rows L2
open Sem (wp)
/-- a combinations object: its pool, how far it is, what it gave last, its places -/
def IsComb (h : Heap) (it pool : Addr) (st : Int) (last : Value) (idx : List Nat) : Prop := h.get? it = some { cls := .type T, dict := none, data := .fields ([.ref pool, rawInt st, last] ++ idx.map fun (i : Nat) => rawInt i).toArray, slots := #[] }
section
variable {prog : Program} {w : World} {A : Around} {E : Value → Shared → Prop} {s : Shared}
theorem k_class {a b : Value} {Q : Value × List Value → Shared → Prop} (h : Q (.type T, [a, b]) s) : wpAny (model prog w) A (Builtin.Itertools.itClassAndRest "combinations" ⟨[.type T, a, b], []⟩) Q E s := by
  have hsub := c_sub
  have e : ("itertools." ++ "combinations" : String) = T := by decide +kernel
  unfold Builtin.Itertools.itClassAndRest
  rw [e]
  repeat (first | wp_step | exact h)
theorem k_named {a b : Value} {Q : List (Option Value) → Shared → Prop} (h : Q [some a, some b] s) : wpAny (model prog w) A (Builtin.Itertools.itBindNamed "combinations" ["iterable", "r"] 2 2 [a, b] []) Q E s := by
  unfold Builtin.Itertools.itBindNamed
  repeat (first | wp_step | exact h | simp only [List.head?_cons, Option.some_or, List.getElem?_cons_succ, List.getElem?_cons_zero, List.length_cons, List.length_nil, List.forIn_nil])
theorem k_ssize {r : Nat} {t : Tok} {Q : Int → Shared → Prop} (hr : r < 1000) (h : Q r s) : wpAny (model prog w) A (Builtin.Itertools.itSsizeArg (.int r t)) Q E s := by
  have hn : ¬ ((!(decide (-(2 ^ 63 : Int) ≤ (r : Int)) && decide ((r : Int) < (2 ^ 63 : Int)))) = true) := by
    have a : decide (-(2 ^ 63 : Int) ≤ (r : Int)) = true := decide_eq_true (by omega)
    have b : decide ((r : Int) < (2 ^ 63 : Int)) = true := decide_eq_true (by omega)
    rw [a, b]
    decide
  have a1 : (decide ((r : Int) < -2 ^ 63) || decide ((r : Int) ≥ 2 ^ 63)) = false := by
    rw [decide_eq_false (by omega), decide_eq_false (by omega)]
    rfl
  unfold Builtin.Itertools.itSsizeArg
  refine wpAny_bind ?_
  repeat wp_step
  rw [a1]
  exact wpAny_ite_false (by decide) (wpAny_pure h)
end
theorem comb_new (l : Addr) (vs : List Value) (r : Nat) (t : Tok) (hr : r < 1000) (hv : vs.length < 1000) :
    Meets (Builtin.«itertools.combinations.__new__» ⟨[.type T, .ref l, .int r t], []⟩)
      (fun _ R s => s.heap.IsList l vs.toArray ∧ ∀ h' it pool, (∀ b o, s.heap.get? b = some o → h'.get? b = some o) → s.heap.objs.size ≤ it → s.heap.objs.size ≤ pool → pool ≠ it → h'.IsTuple pool vs.toArray → IsComb h' it pool (if r > vs.length then 2 else 0) .none (List.range r) → R (.ok (.ret (.ref it))) { s with heap := h' }) :=
  .of_wp fun prog w A R s ⟨hL, h⟩ => by
    obtain ⟨hp, g, dd, tk, os⟩ := s
    have hsub := c_sub
    have hd := c_noDict
    unfold Builtin.«itertools.combinations.__new__»
    refine wpAny_bind ?_
    show wpAny _ _ (_ >>= _) _ _ _
    refine wpAny_bind (k_class ?_)
    show wpAny _ _ (_ >>= _) _ _ _
    refine wpAny_bind (k_named ?_)
    show wpAny _ _ (_ >>= _) _ _ _
    refine wpAny_bind (k_ssize hr ?_)
    refine wpAny_bind (collect_list (s := ⟨hp, g, dd, tk, os⟩) hL ?_ (Nat.le_trans (Nat.le_of_lt hv) (by decide)))
    dsimp only
    refine wpAny_ite_false (by simp) ?_
    refine wpAny_ite_false ?_ ?_
    · unfold Builtin.Itertools.itTooMany
      simp
      omega
    refine wpAny_bind (wpAny_newTuple ?_ (Nat.le_trans (Nat.le_of_lt hv) (by decide)))
    refine wpAny_pure ?_
    have sz : ((hp.push (seqObj "list" #[] 0)).update hp.objs.size (Obj.mapSeq fun x => x ++ vs.toArray)).objs.size = hp.objs.size + 1 := by
      rw [Heap.size_update, size_push']
    have k0 : ∀ b o, hp.get? b = some o → ((hp.push (seqObj "list" #[] 0)).update hp.objs.size (Obj.mapSeq fun x => x ++ vs.toArray)).get? b = some o := fun b o e => by
      rw [Heap.get?_update_ne _ _ _ _ (Nat.ne_of_lt (Heap.lt_size e))]
      exact Heap.get?_push_of_some _ e
    dsimp only
    generalize (hp.push (seqObj "list" #[] 0)).update hp.objs.size (Obj.mapSeq fun x => x ++ vs.toArray) = h1 at sz k0
    refine wpAny_bind ?_
    unfold Builtin.Itertools.itNewRecord
    rw [hd]
    refine wpAny_ite_true rfl ?_
    refine wpAny_newObj_type ?_ ?_
    · refine wpAny_pure ⟨_, rfl, ?_⟩
      have e1 : ((r : Nat) : Int).toNat = r := Int.toNat_natCast r
      rw [e1]
      have szt : (h1.push { cls := Value.type "tuple", data := Data.seq vs.toArray }).objs.size = hp.objs.size + 2 := by
        rw [Heap.size_push, sz]
      have pt : (h1.push { cls := Value.type "tuple", data := Data.seq vs.toArray }).get? h1.objs.size = some { cls := Value.type "tuple", data := Data.seq vs.toArray } := Heap.get?_push_size _ rfl
      refine h _ _ h1.objs.size (fun b o e => Heap.get?_push_of_some _ (Heap.get?_push_of_some _ (k0 b o e))) ?_ ?_ ?_ ?_ ?_
      · show hp.objs.size ≤ (h1.push _).objs.size
        rw [szt]
        exact Nat.le_add_right _ _
      · show hp.objs.size ≤ h1.objs.size
        rw [sz]
        exact Nat.le_succ _
      · show h1.objs.size ≠ (h1.push _).objs.size
        rw [szt, sz]
        exact Nat.ne_of_lt (Nat.lt_succ_self _)
      · exact ⟨_, Heap.get?_push_of_some _ pt, rfl, _, rfl⟩
      · exact Heap.get?_push_size _ rfl
    · show _ ≤ _
      rw [List.size_toArray, List.length_append, List.length_map, List.length_range, Int.toNat_natCast]
      exact Nat.le_trans (show 3 + r ≤ 1003 by omega) (by decide)
section
variable {prog : Program} {w : World} {A : Around} {E : Value → Shared → Prop} {s : Shared}
theorem call_comb {l : Addr} {vs : List Value} {r : Nat} {t : Tok} {Q : Value → Shared → Prop} (hL : s.heap.IsList l vs.toArray) (hr : r < 1000) (hv : vs.length < 1000)
    (h : ∀ h' it pool, (∀ b o, s.heap.get? b = some o → h'.get? b = some o) → s.heap.objs.size ≤ it → s.heap.objs.size ≤ pool → pool ≠ it → h'.IsTuple pool vs.toArray → IsComb h' it pool (if r > vs.length then 2 else 0) .none (List.range r) → Q (.ref it) { s with heap := h' }) :
    wpAny (model prog w) A (call (.type T) [.ref l, .int r t]) Q E s := by
  refine callType_new c_called (by decide +kernel) (c_tcall _ _) (c_ncall _ _) (fun obj => F.args_object_init_3 obj _ _) c_enew (comb_new l vs r t hr hv) ?_
  refine ⟨hL, fun h' it pool k a b c d e => ?_⟩
  show _ ∧ _
  exact ⟨⟨_, e, rfl⟩, h h' it pool k a b c d e⟩
theorem iter_comb {it pool : Addr} {st : Int} {last : Value} {idx : List Nat} {Q : Value → Shared → Prop} (hit : IsComb s.heap it pool st last idx) (h : Q (.ref it) s) : wpAny (model prog w) A (pyIter (.ref it)) Q E s := by
  have hT : s.TypeIs (.ref it) T := ⟨_, hit, rfl⟩
  refine wpAny_pyIter_slot hT c_siter (wpAny_call_entry c_siter hT c_eiter ?_ (c_aiter _))
  show wpAny _ _ (ret (.ref it)) _ _ s
  exact wpAny_pure ⟨_, rfl, T, _, hT, c_snext.lookup, h⟩
/-- the next places -/
def nxt (n : Nat) (js : List Nat) : Option (List Nat) :=
  match (List.range js.length).reverse.find? fun k => js.getD k 0 != k + n - js.length with
  | none => none
  | some k => some (js.take k ++ (List.range (js.length - k)).map (js.getD k 0 + 1 + ·))
theorem size3 (a b c : Value) (idx : List Nat) : ([a, b, c] ++ idx.map fun (i : Nat) => rawInt i).toArray.size = 3 + idx.length := by
  rw [List.size_toArray, List.length_append, List.length_map]
  rfl
theorem IsComb.set1 {h : Heap} {it pool : Addr} {st x : Int} {last : Value} {idx : List Nat} (hit : IsComb h it pool st last idx) : IsComb (h.update it (Obj.mapFields fun v => v.setIfInBounds 1 (rawInt x))) it pool x last idx := by
  refine (Heap.get?_update_self _ hit rfl).trans ?_
  simp [Obj.mapFields]
theorem IsComb.set2 {h : Heap} {it pool : Addr} {st : Int} {last x : Value} {idx : List Nat} (hit : IsComb h it pool st last idx) : IsComb (h.update it (Obj.mapFields fun v => v.setIfInBounds 2 x)) it pool st x idx := by
  refine (Heap.get?_update_self _ hit rfl).trans ?_
  simp [Obj.mapFields]
theorem IsComb.setN {h : Heap} {it pool : Addr} {st : Int} {last : Value} {idx js : List Nat} (hit : IsComb h it pool st last idx) : IsComb (h.update it (Obj.mapFields fun v => v.extract 0 3 ++ (js.map fun (n : Nat) => rawInt n).toArray)) it pool st last js := by
  refine (Heap.get?_update_self _ hit rfl).trans ?_
  simp [Obj.mapFields]
theorem k_nums {it pool : Addr} {st : Int} {last : Value} {idx : List Nat} {Q : List Nat → Shared → Prop} (hit : IsComb s.heap it pool st last idx) (h : Q idx s) : wpAny (model prog w) A (Builtin.Itertools.itNumbersFrom (.ref it) 3) Q E s := by
  unfold Builtin.Itertools.itNumbersFrom
  refine wpAny_bind (wpAny_load hit ?_)
  refine wpAny_pure ?_
  have e : ∀ l : List Nat, (l.map fun (i : Nat) => rawInt i).map (fun v => match v with | .int n _ => n.toNat | _ => 0) = l := fun l => by
    rw [List.map_map]
    exact (List.map_congr_left (g := id) fun x _ => Int.toNat_natCast x).trans (List.map_id l)
  have e2 := e idx
  show Q (((([Value.ref pool, rawInt st, last] ++ idx.map fun (i : Nat) => rawInt i).toArray.toList.drop 3).map _)) s
  rw [show (([Value.ref pool, rawInt st, last] ++ idx.map fun (i : Nat) => rawInt i).toArray.toList.drop 3) = idx.map fun (i : Nat) => rawInt i from rfl]
  exact e2.symm ▸ h
theorem k_int {it pool : Addr} {st : Int} {last : Value} {idx : List Nat} {Q : Int → Shared → Prop} (hit : IsComb s.heap it pool st last idx) (h : Q st s) : wpAny (model prog w) A (Builtin.Itertools.itIntField (.ref it) 1) Q E s := by
  unfold Builtin.Itertools.itIntField
  exact wpAny_bind (wpAny_field hit rfl (x := rawInt st) rfl (wpAny_pure h))
theorem k_pool {pool : Addr} {items : Array Value} {Q : Array Value → Shared → Prop} (hp : s.heap.IsTuple pool items) (h : Q items s) : wpAny (model prog w) A (Builtin.Itertools.itPoolItems (.ref pool)) Q E s := by
  obtain ⟨op, hop, _, np, hdp⟩ := hp
  unfold Builtin.Itertools.itPoolItems
  exact wpAny_bind (wpAny_seqItems hop hdp (wpAny_pure h))
theorem k_out {it pool : Addr} {st : Int} {last : Value} {idx : List Nat} {items : List Value} {Q : PySem.Fin → Shared → Prop} (hit : IsComb s.heap it pool st last idx) (hl : items.length < 1000)
    (hQ : ∀ h', IsComb h' it pool st (.ref s.heap.objs.size) idx → (∀ b o, b ≠ it → s.heap.get? b = some o → h'.get? b = some o) → h'.IsTuple s.heap.objs.size items.toArray → Q (.done (.ret (.ref s.heap.objs.size))) { s with heap := h' }) :
    wpAny (model prog w) A (newTuple items) (fun x s' => wpAny (model prog w) A (do
      let b ← field (.ref it) 2
      setField (.ref it) 2 x
      letGo [b] [x]
      ret x) Q E s') E s := by
  refine wpAny_newTuple ?_ (Nat.le_trans (Nat.le_of_lt hl) (by decide))
  have hit1 : IsComb (s.heap.push { cls := .type "tuple", data := .seq items.toArray }) it pool st last idx := Heap.get?_push_of_some _ hit
  have ne : s.heap.objs.size ≠ it := Ne.symm (Nat.ne_of_lt (Heap.lt_size hit))
  have pt : (s.heap.push { cls := .type "tuple", data := .seq items.toArray }).get? s.heap.objs.size = some { cls := .type "tuple", data := .seq items.toArray } := Heap.get?_push_size _ rfl
  have k1 : ∀ b o, s.heap.get? b = some o → (s.heap.push { cls := .type "tuple", data := .seq items.toArray }).get? b = some o := fun b o e => Heap.get?_push_of_some _ e
  generalize s.heap.push { cls := .type "tuple", data := .seq items.toArray } = h1 at hit1 pt k1
  refine wpAny_bind (wpAny_field hit1 rfl (x := last) rfl ?_)
  refine wpAny_bind (wpAny_setField hit1 rfl (by rw [size3]; omega) ?_)
  refine wpAny_bind (wpAny_letGo ?_)
  exact wpAny_pure (hQ _ hit1.set2 (fun b o hb e => (Heap.get?_update_ne _ _ _ _ hb).trans (k1 b o e)) ⟨_, (Heap.get?_update_ne _ _ _ _ ne).trans pt, rfl, _, rfl⟩)
theorem comb_first {it pool : Addr} {vs : List Value} {last : Value} {idx : List Nat} {Q : Option Value → Shared → Prop} (hit : IsComb s.heap it pool 0 last idx) (hp : s.heap.IsTuple pool vs.toArray) (hne : pool ≠ it) (hl : idx.length < 1000)
    (hQ : ∀ h', IsComb h' it pool 1 (.ref s.heap.objs.size) idx → (∀ b o, b ≠ it → s.heap.get? b = some o → h'.get? b = some o) → h'.IsTuple s.heap.objs.size (idx.map fun i => vs.toArray.getD i .none).toArray → Q (some (.ref s.heap.objs.size)) { s with heap := h' }) :
    wpAny (model prog w) A (pyNext (.ref it)) Q E s := by
  have hT : s.TypeIs (.ref it) T := ⟨_, hit, rfl⟩
  unfold pyNext
  refine wpAny_bind (wpAny_attempt (wpAny_callSpecial?_slot (name := Str.ofString "__next__") hT c_snext (wpAny_call_entry c_snext hT c_enext ?_ (c_anext _))))
  show wpAny _ _ (field (.ref it) 0 >>= _) _ _ s
  refine wpAny_bind (wpAny_field hit rfl (x := .ref pool) rfl ?_)
  show wpAny _ _ (Builtin.Itertools.itNumbersFrom (.ref it) 3 >>= _) _ _ s
  refine wpAny_bind (k_nums hit ?_)
  show wpAny _ _ (Builtin.Itertools.itIntField (.ref it) 1 >>= _) _ _ s
  refine wpAny_bind (k_int hit ?_)
  show wpAny _ _ (setField (.ref it) 1 (rawInt 1) >>= _) _ _ s
  refine wpAny_bind (wpAny_setField hit rfl (by rw [size3]; omega) ?_)
  have hit1 := hit.set1 (x := 1)
  have k1 : ∀ b o, b ≠ it → s.heap.get? b = some o → (s.heap.update it (Obj.mapFields fun v => v.setIfInBounds 1 (rawInt 1))).get? b = some o := fun b o hb e => (Heap.get?_update_ne _ _ _ _ hb).trans e
  have sz1 : (s.heap.update it (Obj.mapFields fun v => v.setIfInBounds 1 (rawInt 1))).objs.size = s.heap.objs.size := Heap.size_update ..
  generalize s.heap.update it (Obj.mapFields fun v => v.setIfInBounds 1 (rawInt 1)) = h1 at hit1 k1 sz1
  show wpAny _ _ (_ >>= _) _ _ _
  refine wpAny_bind ?_
  show wpAny _ _ (Builtin.Itertools.itPoolItems (.ref pool) >>= _) _ _ _
  refine wpAny_bind (k_pool (items := vs.toArray) ?_ ?_)
  · obtain ⟨op, hop, c, d⟩ := hp
    exact ⟨op, k1 _ _ hne hop, c, d⟩
  refine k_out (s := { s with heap := h1 }) hit1 (by rw [List.length_map]; exact hl) fun h' a b c => ⟨_, rfl, wpAny_pure ?_⟩
  have e : ({ s with heap := h1 } : Shared).heap.objs.size = s.heap.objs.size := sz1
  rw [e] at a c ⊢
  exact hQ h' a (fun b' o hb e => b b' o hb (k1 b' o hb e)) c
theorem comb_more {it pool : Addr} {vs : List Value} {last : Value} {idx js : List Nat} {Q : Option Value → Shared → Prop} (hit : IsComb s.heap it pool 1 last idx) (hp : s.heap.IsTuple pool vs.toArray) (hne : pool ≠ it) (hn : nxt vs.length idx = some js) (hl : js.length < 1000)
    (hQ : ∀ h', IsComb h' it pool 1 (.ref s.heap.objs.size) js → (∀ b o, b ≠ it → s.heap.get? b = some o → h'.get? b = some o) → h'.IsTuple s.heap.objs.size (js.map fun i => vs.toArray.getD i .none).toArray → Q (some (.ref s.heap.objs.size)) { s with heap := h' }) :
    wpAny (model prog w) A (pyNext (.ref it)) Q E s := by
  have hT : s.TypeIs (.ref it) T := ⟨_, hit, rfl⟩
  unfold pyNext
  refine wpAny_bind (wpAny_attempt (wpAny_callSpecial?_slot (name := Str.ofString "__next__") hT c_snext (wpAny_call_entry c_snext hT c_enext ?_ (c_anext _))))
  show wpAny _ _ (field (.ref it) 0 >>= _) _ _ s
  refine wpAny_bind (wpAny_field hit rfl (x := .ref pool) rfl ?_)
  show wpAny _ _ (Builtin.Itertools.itNumbersFrom (.ref it) 3 >>= _) _ _ s
  refine wpAny_bind (k_nums hit ?_)
  show wpAny _ _ (Builtin.Itertools.itIntField (.ref it) 1 >>= _) _ _ s
  refine wpAny_bind (k_int hit ?_)
  show wpAny _ _ (Builtin.Itertools.itPoolItems (.ref pool) >>= _) _ _ s
  refine wpAny_bind (k_pool hp ?_)
  have hn' : nxt vs.toArray.size idx = some js := by rw [List.size_toArray]; exact hn
  split
  case h_2 heq =>
    have z : nxt vs.toArray.size idx = none := heq
    rw [hn'] at z
    cases z
  rename_i next heq
  have z : nxt vs.toArray.size idx = some next := heq
  rw [hn'] at z
  cases z
  show wpAny _ _ (Builtin.Itertools.itSetNumbersFrom (.ref it) 3 js >>= _) _ _ s
  refine wpAny_bind ?_
  unfold Builtin.Itertools.itSetNumbersFrom
  refine wpAny_updateFields hit rfl ?_ ?_
  · have hit1 := hit.setN (js := js)
    have k1 : ∀ b o, b ≠ it → s.heap.get? b = some o → (s.heap.update it (Obj.mapFields fun v => v.extract 0 3 ++ (js.map fun (n : Nat) => rawInt n).toArray)).get? b = some o := fun b o hb e => (Heap.get?_update_ne _ _ _ _ hb).trans e
    have sz1 : (s.heap.update it (Obj.mapFields fun v => v.extract 0 3 ++ (js.map fun (n : Nat) => rawInt n).toArray)).objs.size = s.heap.objs.size := Heap.size_update ..
    generalize s.heap.update it (Obj.mapFields fun v => v.extract 0 3 ++ (js.map fun (n : Nat) => rawInt n).toArray) = h1 at hit1 k1 sz1
    show wpAny _ _ (_ >>= _) _ _ _
    refine wpAny_bind ?_
    show wpAny _ _ (Builtin.Itertools.itPoolItems (.ref pool) >>= _) _ _ _
    refine wpAny_bind (k_pool (items := vs.toArray) ?_ ?_)
    · obtain ⟨op, hop, c, d⟩ := hp
      exact ⟨op, k1 _ _ hne hop, c, d⟩
    refine k_out (s := { s with heap := h1 }) hit1 (by rw [List.length_map]; exact hl) fun h' a b c => ⟨_, rfl, wpAny_pure ?_⟩
    have e : ({ s with heap := h1 } : Shared).heap.objs.size = s.heap.objs.size := sz1
    rw [e] at a c ⊢
    exact hQ h' a (fun b' o hb e => b b' o hb (k1 b' o hb e)) c
  · have e1 : (js.map fun (n : Nat) => rawInt n).toArray.size = js.length := by rw [List.size_toArray, List.length_map]
    have e2 : (([Value.ref pool, rawInt 1, last] ++ idx.map fun (i : Nat) => rawInt i).toArray.extract 0 3).size ≤ 3 := by rw [Array.size_extract]; omega
    rw [Array.size_append, e1]
    exact Nat.le_trans (show _ + js.length ≤ 1003 by omega) (by decide)
/-- the end's exception within pyNext -/
theorem k_stop {it : Addr} {F : PySem.Fin → Shared → Prop} {G : Value → Shared → Prop} (hh : A.handled = none)
    (hQ : ∀ e h', CpRep.StopE e h' → Heap.ExtBut it s.heap h' → G e { s with heap := h' }) : wpAny (model prog w) A (Builtin.Itertools.itStop : Sem PySem.Fin) F G s := by
  unfold Builtin.Itertools.itStop
  refine wpAny_bind ?_
  simp only [newExc, newTuple]
  refine wpAny_bind (wpAny_newObj_type ?_ (by size_fits))
  refine wpAny_bind (m := firstArgMember _ _) (wpAny_of_eq (a := Value.none) (by first | rfl | (simp only [firstArgMember]; rfl)) ?_)
  refine wpAny_newObj_type ?_ (by size_fits)
  simp only [raiseNew]
  refine wpAny_bind (wpAny_handled ?_)
  rw [hh]
  refine wpAny_bind (wpAny_pure (wpAny_throw ?_))
  exact hQ _ _ ⟨_, _, _, rfl, Heap.get?_push_size _ rfl, rfl, rfl, rfl⟩ (((Heap.ExtBut.refl it s.heap).push _).push _)
theorem stop_is {e : Value} (h : CpRep.StopE e s.heap) {Q : Option Value → Shared → Prop} (hQ : Q none s) : wpAny (model prog w) A (do if ← isInstance e (.type "StopIteration") then pure none else throw e : Sem (Option Value)) Q E s := by
  obtain ⟨a, o, vs, rfl, ho, hc, _⟩ := h
  refine wpAny_bind (wpAny_isInstance (T := "StopIteration") (b := true) ⟨_, ho, hc⟩ isSubtype_stop ?_)
  exact wpAny_pure hQ
theorem comb_done {it pool : Addr} {vs : List Value} {last : Value} {idx : List Nat} {Q : Option Value → Shared → Prop} (hh : A.handled = none) (hit : IsComb s.heap it pool 1 last idx) (hp : s.heap.IsTuple pool vs.toArray) (hn : nxt vs.length idx = none)
    (hQ : ∀ h', Heap.ExtBut it s.heap h' → Q none { s with heap := h' }) : wpAny (model prog w) A (pyNext (.ref it)) Q E s := by
  have hT : s.TypeIs (.ref it) T := ⟨_, hit, rfl⟩
  unfold pyNext
  refine wpAny_bind (wpAny_attempt (wpAny_callSpecial?_slot (name := Str.ofString "__next__") hT c_snext (wpAny_call_entry c_snext hT c_enext ?_ (c_anext _))))
  show wpAny _ _ (field (.ref it) 0 >>= _) _ _ s
  refine wpAny_bind (wpAny_field hit rfl (x := .ref pool) rfl ?_)
  show wpAny _ _ (Builtin.Itertools.itNumbersFrom (.ref it) 3 >>= _) _ _ s
  refine wpAny_bind (k_nums hit ?_)
  show wpAny _ _ (Builtin.Itertools.itIntField (.ref it) 1 >>= _) _ _ s
  refine wpAny_bind (k_int hit ?_)
  show wpAny _ _ (Builtin.Itertools.itPoolItems (.ref pool) >>= _) _ _ s
  refine wpAny_bind (k_pool hp ?_)
  have hn' : nxt vs.toArray.size idx = none := by rw [List.size_toArray]; exact hn
  split
  case h_1 heq =>
    have z : nxt vs.toArray.size idx = some _ := heq
    rw [hn'] at z
    cases z
  show wpAny _ _ (setField (.ref it) 1 (rawInt 2) >>= _) _ _ s
  refine wpAny_bind (wpAny_setField hit rfl (by rw [size3]; omega) ?_)
  refine k_stop (it := it) hh fun e h' st eb => ?_
  exact stop_is (s := { s with heap := h' }) st (hQ h' ((Heap.SameBut.extBut (Heap.SameBut.update ..)).trans eb))
theorem comb_none {it pool : Addr} {last : Value} {idx : List Nat} {Q : Option Value → Shared → Prop} (hh : A.handled = none) (hit : IsComb s.heap it pool 2 last idx)
    (hQ : ∀ h', Heap.ExtBut it s.heap h' → Q none { s with heap := h' }) : wpAny (model prog w) A (pyNext (.ref it)) Q E s := by
  have hT : s.TypeIs (.ref it) T := ⟨_, hit, rfl⟩
  unfold pyNext
  refine wpAny_bind (wpAny_attempt (wpAny_callSpecial?_slot (name := Str.ofString "__next__") hT c_snext (wpAny_call_entry c_snext hT c_enext ?_ (c_anext _))))
  show wpAny _ _ (field (.ref it) 0 >>= _) _ _ s
  refine wpAny_bind (wpAny_field hit rfl (x := .ref pool) rfl ?_)
  show wpAny _ _ (Builtin.Itertools.itNumbersFrom (.ref it) 3 >>= _) _ _ s
  refine wpAny_bind (k_nums hit ?_)
  show wpAny _ _ (Builtin.Itertools.itIntField (.ref it) 1 >>= _) _ _ s
  refine wpAny_bind (k_int hit ?_)
  refine wpAny_bind (wpAny_rule ?_)
  refine k_stop (it := it) hh fun e h' st eb => ?_
  exact stop_is (s := { s with heap := h' }) st (hQ h' eb)
end
end OwnComb
namespace OwnComb
open PySem PySem.Spec PyProof.Rows L2
/-- the places in their order: begin, go on, end -/
structure Chain (n r : Nat) (L : List (List Nat)) : Prop where
  some : ¬ r > n → L[0]? = some (List.range r)
  none : r > n → L = []
  step : ∀ i js, L[i]? = Option.some js → nxt n js = L[i + 1]?
  small : ∀ js ∈ L, js.length < 1000
  inn : ∀ js ∈ L, ∀ j ∈ js, j < n
/-- the parts of what stood in the pool, each a new tuple -/
def IteC (xs : List V) (L : List (List Nat)) : It :=
  ⟨fun i _ => i < L.length, fun i H v H' => ∃ T js, L[i]? = some js ∧ v = .ref T ∧ H T = none ∧ H' = upd H T (.tup (js.map fun j => xs.getD j .non)), fun i _ => i = L.length⟩
theorem vals_getD {xs : List V} {us : List Value} (h : Vals xs us) {j : Nat} (hj : j < xs.length) : RelV (xs.getD j .non) (us.toArray.getD j .none) := by
  have e := h.length
  obtain ⟨u, hu, ru⟩ := h.get (List.getElem?_eq_getElem hj)
  rw [List.getD_eq_getElem?_getD, List.getElem?_eq_getElem hj]
  have z : us.toArray.getD j .none = u := by
    rw [Array.getD_eq_getD_getElem?, List.getElem?_toArray, hu]
    rfl
  rw [z]
  exact ru
theorem vals_pick {xs : List V} {us : List Value} (h : Vals xs us) : ∀ {js : List Nat}, (∀ j ∈ js, j < xs.length) → Vals (js.map fun j => xs.getD j .non) (js.map fun j => us.toArray.getD j .none)
  | [], _ => .nil
  | j :: js, hj => .cons (vals_getD h (hj j List.mem_cons_self)) (vals_pick h fun k hk => hj k (List.mem_cons_of_mem _ hk))
def CSt (it pool : Addr) (us : List Value) (L : List (List Nat)) (i : Nat) (h : Heap) : Prop :=
  h.IsTuple pool us.toArray ∧ pool ≠ it ∧ ∃ st last idx, IsComb h it pool st last idx ∧ ((i = 0 ∧ ((st = 0 ∧ L[0]? = some idx) ∨ (st = 2 ∧ L = []))) ∨ (0 < i ∧ st = 1 ∧ L[i - 1]? = some idx))
theorem turn_comb {P : Program} {w : World} {K : PySem.W.Frag} {tg : Expr} {r : Nat} {xs : List V} {us : List Value} {L : List (List Nat)} (it pool : Addr) (hv : Vals xs us) (C : Chain xs.length r L) : Turn P w K tg (IteC xs L) [it, pool] it (CSt it pool us L) where
  mem := List.mem_cons_self
  obj := fun i h ⟨⟨o, ho, hc, n, hd⟩, _, st, last, idx, hi, _⟩ b hb => by
    rcases List.mem_cons.mp hb with rfl | hb
    · exact ⟨_, hi, fun v q => nomatch q⟩
    · rw [List.mem_singleton.mp hb]
      exact ⟨o, ho, fun v q => by rw [hd] at q; cases q⟩
  keep := fun i h h' ⟨⟨o, ho, hc⟩, ne, st, last, idx, hi, z⟩ k => ⟨⟨o, k pool (by simp) _ ho, hc⟩, ne, st, last, idx, k it (by simp) _ hi, z⟩
  item := by
    intro X hP hw hK hc i pins s σ H E I hf st hg
    subst hP hw hK
    obtain ⟨hp, hne, st, last, idx, hit, hcase⟩ := st
    have hl : i < L.length := hg
    have lens : xs.length = us.length := hv.length
    have old1 : it < s.heap.objs.size := Heap.lt_size hit
    have old2 : pool < s.heap.objs.size := let ⟨_, q, _⟩ := hp; Heap.lt_size q
    -- what a turn leaves
    have fin : ∀ (js : List Nat) (h' : Heap) (lst : Value), L[i]? = some js → IsComb h' it pool 1 lst js → (∀ b o, b ≠ it → s.heap.get? b = some o → h'.get? b = some o) → h'.IsTuple s.heap.objs.size (js.map fun i => us.toArray.getD i .none).toArray →
        ∃ u, some (Value.ref s.heap.objs.size) = some u ∧ wpAny (model X.prog X.w) X.A (letOwnedTupleGo tg (.ref it) u) (fun _ s2 => ∃ x H', Inv X pins σ H' s2 ∧ RelV x u ∧ (IteC xs L).yld i H x H' ∧ CSt it pool us L (i + 1) s2.heap ∧ ∀ b ∈ [it, pool], H' b = none) E { s with heap := h' } := fun js h' lst hj hi' kk ht => by
      have mem := List.mem_of_getElem? hj
      obtain ⟨ot, hot, hct, nt, hdt⟩ := ht
      have new : ObjOk X.prog X.w (upd H s.heap.objs.size (.tup (js.map fun j => xs.getD j .non))) h' s.heap.objs.size (.tup (js.map fun j => xs.getD j .non)) :=
        ⟨by rw [List.length_map]; exact Nat.le_trans (Nat.le_of_lt (C.small js mem)) (by decide), _, vals_pick hv (C.inn js mem), ⟨ot, hot, hct, nt, hdt⟩⟩
      have I1 : Inv X pins σ (upd H s.heap.objs.size (.tup (js.map fun j => xs.getD j .non))) { s with heap := h' } :=
        I.turnedNew (t' := s.toks) (ch := [it, pool]) (fun b ob hb q => kk b ob (fun z => hb (by simp [z])) q) hf (Nat.le_refl _) new
      obtain ⟨op, hop, cp⟩ := hp
      refine ⟨_, rfl, go_of (s := { s with heap := h' }) hi' rfl rfl (by decide) ⟨.ref s.heap.objs.size, _, I1, rfl, ⟨_, js, hj, rfl, I.hok.fresh (Nat.le_refl _), rfl⟩, ⟨⟨op, kk _ _ hne hop, cp⟩, hne, 1, lst, js, hi', .inr ⟨Nat.succ_pos _, rfl, hj⟩⟩, fun b hb => ?_⟩⟩
      have hb' : b < s.heap.objs.size := by
        rcases List.mem_cons.mp hb with rfl | hb
        · exact old1
        · rw [List.mem_singleton.mp hb]; exact old2
      rw [upd_ne (Nat.ne_of_lt hb')]
      exact (hf b hb).1
    rcases hcase with ⟨rfl, ⟨rfl, h0⟩ | ⟨rfl, h0⟩⟩ | ⟨i0, rfl, h0⟩
    · exact comb_first hit hp hne (C.small _ (List.mem_of_getElem? h0)) fun h' a b c => fin idx h' _ h0 a b c
    · rw [h0] at hl; cases hl
    · have e := C.step _ _ h0
      rw [show i - 1 + 1 = i by omega, List.getElem?_eq_getElem hl] at e
      exact comb_more hit hp hne (by rw [← lens]; exact e) (C.small _ (List.getElem_mem hl)) fun h' a b c => fin _ h' _ (List.getElem?_eq_getElem hl) a b c
  done := by
    intro X hP hw hK hc i pins s σ H E I hf st hg
    subst hP hw hK
    obtain ⟨hp, hne, st, last, idx, hit, hcase⟩ := st
    have hl : i = L.length := hg
    have lens : xs.length = us.length := hv.length
    obtain ⟨f0, f1, f2, f3, f4, f5⟩ := hf it (by simp)
    rcases hcase with ⟨rfl, ⟨rfl, h0⟩ | ⟨rfl, h0⟩⟩ | ⟨i0, rfl, h0⟩
    · have := (List.getElem?_eq_some_iff.mp h0).1
      omega
    · exact comb_none (I.ok.hd hc) hit fun h' eb => ⟨rfl, I.turned (t' := s.toks) (fun b o hb e => eb b o hb e) f0 f1 f3 f4 f5⟩
    · have e := C.step _ _ h0
      rw [show i - 1 + 1 = i by omega, hl, List.getElem?_eq_none (Nat.le_refl _)] at e
      exact comb_done (I.ok.hd hc) hit hp (by rw [← lens]; exact e) fun h' eb => ⟨rfl, I.turned (t' := s.toks) (fun b o hb e => eb b o hb e) f0 f1 f3 f4 f5⟩
  self := fun A i s Q E ⟨_, _, st, last, idx, hit, _⟩ h => iter_comb hit h
def iComb (K : PySem.W.Frag) (ta : TA) : TI := fun σ H R => ta σ H fun vs H1 => ∃ (a : Addr) (r : Nat) (xs : List V) (L : List (List Nat)), vs = [.ref a, .int r] ∧ SqL K H1 a xs ∧ r < 1000 ∧ xs.length < 1000 ∧ Chain xs.length r L ∧ R (IteC xs L) H1
theorem pi_comb {X : Cx} {tg e e2 : Expr} {ta : TA} {x : Str} {p pos : Pos} (hg : Gl X x) (hm : X.mg x = some (.type T)) (ha : PA X [e, e2] ta) (hdb : (x == ("__debug__" : Str)) = false := by decide)
    (hs : starEach [e, e2] X.env = (false, eval e X.env) :: starEach [e2] X.env := by rfl) (hpl : (backTo pos (starEach [e2] X.env)).any (·.1) = false := by rfl) :
    PI X tg (.Call (.Name x p) [e, e2] [] pos) (iComb X.K ta) := by
  refine ⟨fun pins s σ H R I h => ?_⟩
  refine Call_ (ld_glob I hg hm (PyProof.Rows.callWith_type1 (thn (ha.run pos pins s σ H _ I h) fun us s1 ⟨vs, H1, I1, r1, q1⟩ => ?_) hs hpl) hdb)
  obtain ⟨a, r, xs, L, ex, hq, hr, hx, C, q⟩ := q1
  subst ex
  cases r1 with
  | cons ra rr =>
    cases rr with
    | cons rb rr =>
      cases rr
      cases ra
      obtain ⟨t, rfl⟩ := rb
      obtain ⟨its, rv, p1, _⟩ := I1.list hq
      have lens : xs.length = its.length := rv.length
      refine call_comb p1.isList hr (by rw [← lens]; exact hx) fun h' it pool k o1 o2 ne tp hi => iter_comb hi ?_
      refine ⟨it, [it, pool], _, _, H1, rfl, I1.kept (t' := s1.toks) k, turn_comb it pool rv C, ⟨tp, ne, _, _, _, hi, .inl ⟨rfl, ?_⟩⟩, fun b hb => ?_, q⟩
      · rw [← lens]
        by_cases z : r > xs.length
        · rw [if_pos z]
          exact .inr ⟨rfl, C.none z⟩
        · rw [if_neg z]
          exact .inl ⟨rfl, C.some z⟩
      · have le : s1.heap.objs.size ≤ b := by
          rcases List.mem_cons.mp hb with rfl | hb
          · exact o1
          · rw [List.mem_singleton.mp hb]; exact o2
        exact I1.fpOk le (I1.hok.fresh le)
/-! ### the chains, by reckoning -/
def runC (n : Nat) : Nat → List Nat → List (List Nat)
  | 0, js => [js]
  | f + 1, js => js :: match nxt n js with
    | none => []
    | some ks => runC n f ks
def combs (n r : Nat) : List (List Nat) := if r > n then [] else runC n 64 (List.range r)
def okC (n r : Nat) : Bool := (decide (r > n) && decide (combs n r = [])) || (!decide (r > n) && decide ((combs n r)[0]? = some (List.range r)) &&
  (List.range (combs n r).length).all fun i => decide (nxt n ((combs n r).getD i []) = (combs n r)[i + 1]?) && decide (((combs n r).getD i []).length < 1000) && ((combs n r).getD i []).all fun j => decide (j < n))
theorem chain_of {n r : Nat} (h : okC n r = true) : Chain n r (combs n r) := by
  unfold okC at h
  rcases Bool.or_eq_true_iff.mp h with h | h
  · obtain ⟨a, b⟩ := Bool.and_eq_true_iff.mp h
    have b : combs n r = [] := of_decide_eq_true b
    have a := of_decide_eq_true a
    rw [b]
    exact ⟨(fun z => absurd a z), (fun _ => rfl), (fun i js e => nomatch e), (fun js m => nomatch m), (fun js m => nomatch m)⟩
  · obtain ⟨ab, c⟩ := Bool.and_eq_true_iff.mp h
    obtain ⟨a, b⟩ := Bool.and_eq_true_iff.mp ab
    have b := of_decide_eq_true b
    have a : ¬ r > n := by simpa using a
    have all : ∀ i js, (combs n r)[i]? = some js → nxt n js = (combs n r)[i + 1]? ∧ js.length < 1000 ∧ ∀ j ∈ js, j < n := fun i js e => by
      have il := (List.getElem?_eq_some_iff.mp e).1
      have z := List.all_eq_true.mp c i (List.mem_range.mpr il)
      rw [List.getD_eq_getElem?_getD, e] at z
      obtain ⟨z1, z2⟩ := Bool.and_eq_true_iff.mp z
      obtain ⟨z0, z1⟩ := Bool.and_eq_true_iff.mp z1
      exact ⟨of_decide_eq_true z0, of_decide_eq_true z1, fun j hj => of_decide_eq_true (List.all_eq_true.mp z2 j hj)⟩
    exact ⟨(fun _ => b), (fun z => absurd z a), (fun i js e => (all i js e).1), (fun js m => let ⟨i, e⟩ := List.mem_iff_getElem?.mp m; (all i js e).2.1), (fun js m => let ⟨i, e⟩ := List.mem_iff_getElem?.mp m; (all i js e).2.2)⟩
theorem ok7 : ((List.range 7).all fun n => (List.range 8).all fun r => okC n r) = true := by decide +kernel
theorem chain6 {n r : Nat} (hn : n ≤ 6) (hr : r ≤ 7) : Chain n r (combs n r) :=
  chain_of (List.all_eq_true.mp (List.all_eq_true.mp ok7 n (List.mem_range.mpr (by omega))) r (List.mem_range.mpr (by omega)))
end OwnComb
/-! A rule of our own: set(xs) of a list of ints, so that it can be walked and sorted. -/
namespace OwnSet
open PySem PySem.Spec PyProof.Rows L2
section
variable {P : Program} {w : World} {A : Around} {E : Value → Shared → Prop} {s : Shared}
/-- a built-in class is called: its making and its beginning, each by itself -/
theorem made_then {T newId initId : String} {args : List Value} {Q Q1 : Value → Shared → Prop} (ft : TypeCalled T newId initId) (hct : checkTypeCall T ⟨args, []⟩ = pure ())
    (hnew : codeAny (model P w) A.in1 (.call (.builtin newId) ⟨.type T :: args, []⟩) (wants Q1 E) s)
    (hinit : ∀ obj s1, Q1 obj s1 → s1.TypeIs obj T ∧ codeAny (model P w) A.in1 (.call (.builtin initId) ⟨obj :: args, []⟩) (wants (fun r s2 => r = .none ∧ Q obj s2) E) s1) :
    wpAny (model P w) A (call (.type T) args) Q E s := by
  obtain ⟨c, tl, mro⟩ := ft.mro
  have u1 := ft.made; have u2 := ft.sub; have u3 := ft.notType; have u4 := ft.canCreate
  refine wpAny_call (codeAny_of_tree (show wpAny _ _ (callAny (.type T) _) _ _ _ from wpAny_pure ⟨Code.quiet_builtin _ (by decide +kernel), codeAny_builtin F.entry_type_call ?_⟩))
  rw [Around.under_plain (weight_type_call_type T args []) rfl]
  repeat any_goals first | assumption | wp_step
  refine codeAny_mono hnew fun r s1 hr => ?_
  match r, hr with
  | .ok (.ret obj), hr =>
    obtain ⟨hT, hi⟩ := hinit _ _ hr
    have v1 := ft.init.lookup; have v2 := ft.init.bind obj
    repeat any_goals first | assumption | wp_step
    refine codeAny_mono hi fun r2 s2 h2 => ?_
    match r2, h2 with
    | .ok (.ret r3), h2 =>
      obtain ⟨rfl, hq⟩ := h2
      repeat any_goals first | assumption | wp_step
    | .error e, h2 => exact h2
  | .error e, hr => exact hr
/-- a fresh set and a list of ints: the set's beginning -/
theorem set_begins {S l : Addr} {items : Array Value} {ns : List Int} {Q : Value → Shared → Prop} (hh : A.handled = none) (hl : s.heap.IsList l items) (hit : IntsAre items.toList ns) (hb : ns.length + 1 < scanBound) (ne : l ≠ S)
    (hS : s.heap.get? S = some { cls := .type "set", dict := none, data := .set #[] 0 (.fresh 0 0 (!w.params.followText "set-order")) })
    (h : ∀ (h' : Heap) (tk c : Nat), SetR w h' S (fun j => decide (j ∈ ns)) c → c ≤ ns.length → (∀ b o, b ≠ S → s.heap.get? b = some o → h'.get? b = some o) → Q .none { s with heap := h', toks := tk }) :
    codeAny (model P w) A (.call (.builtin "set.__init__") ⟨[.ref S, .ref l], []⟩) (wants Q E) s := by
  have hT : s.TypeIs (.ref S) "set" := ⟨_, hS, rfl⟩
  have hsz : items.size = ns.length := (Array.length_toList (xs := items)).symm.trans hit.length
  refine codeAny_call_builtin F.called_set.init.plain F.entry_set_init (check_set_init_1 hT ?_)
  obtain ⟨ol, hol, hcl, nl, hdl⟩ := id hl
  obtain ⟨ocls, odict, odata, oslots⟩ := ol
  obtain rfl : ocls = _ := hcl
  obtain rfl : odata = _ := hdl
  have c1 := F.sub_list_set; have c2 := F.sub_list_frozenset
  have c3 : (Value.type "list" == Value.type "dict") = false := by decide
  unfold Builtin.«set.__init__» noKeywords Builtin.Frozenset.updateFrom
  generalize hPI : pyIter = PI
  wp_walk
  subst hPI
  have lS : S < s.heap.objs.size := Heap.lt_size hS
  have ll : l < s.heap.objs.size := Heap.lt_size hol
  refine wpAny_pyIter_list (s := ⟨s.heap, s.gens, s.drawn, s.toks, s.os⟩) hl (wpAny_bind (wpAny_runValue ?_))
  have h3 : A.in1.in1.handled = none := hh
  have val : ∀ (i : Nat) (v : Value), items[i]? = some v → ∃ k t, ns[i]? = some k ∧ v = .int k t := fun i v hv => by
    have il : i < ns.length := by rw [← hsz]; exact (Array.getElem?_eq_some_iff.mp hv).1
    obtain ⟨t, e⟩ := IntsAre.int_at hit i v (by rw [Array.getElem?_toList]; exact hv)
    exact ⟨ns[i], t, List.getElem?_eq_getElem il, by rw [e, List.getD_eq_getElem?_getD, List.getElem?_eq_getElem il]; rfl⟩
  refine set_update_ints ((Walks.list h3 s.heap.objs.size l (Nat.ne_of_lt ll) items).toS) S ?_ ns hsz hb val (items.size - 0) 0 _ (by omega) (Nat.zero_le _) ⟨⟨_, Heap.get?_push_size _ rfl, rfl, rfl⟩, hl.push _⟩ ⟨0, Nat.le_refl 0, setR_new_at (Heap.get?_push_of_some _ hS)⟩ fun s2 c hm hc hR => ?_
  · intro z
    rcases List.mem_cons.mp z with z | z
    · exact Nat.ne_of_lt lS z
    · exact ne (List.mem_singleton.mp z).symm
  · obtain ⟨h2, g2, d2, t2, o2⟩ := s2
    obtain rfl : g2 = s.gens := hm.gens
    obtain rfl : d2 = s.drawn := hm.drawn
    obtain rfl : o2 = s.os := hm.os
    rw [hsz] at hc
    have fin : Q .none { s with heap := h2, toks := t2 } := h h2 t2 c hR hc fun b o hb e => hm.heap b o (by
      intro z
      rcases List.mem_cons.mp z with z | z
      · exact hb z
      · exact Nat.ne_of_lt (Heap.lt_size e) (List.mem_singleton.mp z)) (Heap.get?_push_of_some _ e)
    exact wpAny_pure (wpAny_pure fin)
theorem call_set_listI {l : Addr} {items : Array Value} {ns : List Int} {Q : Value → Shared → Prop} (hh : A.handled = none) (hl : s.heap.IsList l items) (hit : IntsAre items.toList ns) (hb : ns.length + 1 < scanBound)
    (h : ∀ (h' : Heap) (tk c : Nat), SetR w h' s.heap.objs.size (fun j => decide (j ∈ ns)) c → c ≤ ns.length → (∀ b o, s.heap.get? b = some o → h'.get? b = some o) → Q (.ref s.heap.objs.size) { s with heap := h', toks := tk }) :
    wpAny (model P w) A (call (.type "set") [.ref l]) Q E s := by
  have ll : l < s.heap.objs.size := let ⟨o, e, _⟩ := hl; Heap.lt_size e
  refine made_then (Q1 := fun obj s1 => obj = .ref s.heap.objs.size ∧ s1 = { s with heap := s.heap.push { cls := .type "set", dict := none, data := .set #[] 0 (.fresh 0 0 (!w.params.followText "set-order")) } }) F.called_set (F.typeCall_set_1 (.ref l)) (code_set_led1 (.ref l) ⟨rfl, rfl⟩) ?_
  rintro obj s1 ⟨rfl, rfl⟩
  have hS := Heap.get?_push_size s.heap (o := { cls := .type "set", dict := none, data := .set #[] 0 (.fresh 0 0 (!w.params.followText "set-order")) }) rfl
  refine ⟨⟨_, hS, rfl⟩, set_begins (ns := ns) (Q := fun r s2 => r = .none ∧ Q (.ref s.heap.objs.size) s2) hh (hl.push _) hit hb (Nat.ne_of_lt ll) hS fun h' tk c R hc k => ⟨rfl, h h' tk c R hc fun b o e => k b o (Nat.ne_of_lt (Heap.lt_size e)) (Heap.get?_push_of_some _ e)⟩⟩
end
def rSetI (K : PySem.W.Frag) (w : World) : List V → Hp → VK → Prop := fun vs H Q => ∃ (l : Addr) (ns : List Int), vs = [.ref l] ∧ SqL K H l (ns.map V.int) ∧ ns.length ≤ 1000 ∧ ∀ p n, H p = none → n ≤ ns.length → Q (.ref p) (upd H p (SetO w p (fun j => decide (j ∈ ns)) n))
theorem cr_setI {X : Cx} (hc : X.calm = true) : CallR X (.type "set") (rSetI X.K X.w) := by
  intro pins s σ H vs us Q I r h
  obtain ⟨l, ns, rfl, hl, hn, q⟩ := h
  obtain ⟨u, rfl, ru⟩ := vals1 r
  obtain rfl : u = Value.ref l := ru
  obtain ⟨its, rv, pl, hz⟩ := I.list hl
  refine call_set_listI (I.ok.hd hc) pl.isList (ns := ns) (by simpa using rv.ints) (by unfold scanBound; omega) fun h' tk c R hc k => ?_
  exact ⟨.ref s.heap.objs.size, upd H s.heap.objs.size (SetO X.w s.heap.objs.size (fun j => decide (j ∈ ns)) c), I.laid (t' := tk) k (Nat.le_refl _) (setO_new R), rfl, q _ c (I.hok.fresh (Nat.le_refl _)) hc⟩
/-! ### x in a tuple, deep -/
def rInDT (K : PySem.W.Frag) : R2 := fun x y H Q => ∃ d ds, Dp K H x d ∧ Dp K H y (.tuple ds) ∧ SeqAt.shaped d = true ∧ SeqAt.shaped (.tuple ds) = true ∧ Q (.bl (ds.any fun z => PyData.eqv z d)) H
theorem op_inDT {X : Cx} (hu : X.A.units + 65 < cLine) : OpR X (compareOp .In) (rInDT X.K) := by
  intro pins s σ H x y v u Q I rx ry h
  obtain ⟨d, ds, hd, he, sd, se, q⟩ := h
  obtain ⟨as, r1⟩ := Dp.reads I d x v hd rx
  obtain ⟨bs, r2⟩ := Dp.reads I (.tuple ds) y u he ry
  exact SeqAt.in_tuple_reads r2 r1 (SeqAt.canLay_of_shaped se) (SeqAt.canLay_of_shaped sd) (room_in_shaped sd hu) ⟨.bl _, H, I, rfl, q⟩
end OwnSet
/-! Rules of our own over the hand layer: an own operator, an own ==, // by any divisor, classes made within a try, a method called by keywords. -/
namespace Own
open PySem PySem.Spec PyProof.Rows L2
abbrev St := L2.St
section
variable {X : Cx} {CX : CXT} {k n : Nat} {f C : Addr} {fd : FuncData} {ps : List Str} {sp : Sp}
/-- // by a divisor of any sign below 2 ^ 9000 in size -/
def CDivM (_ j : Int) : Prop := j ≠ 0 ∧ j.natAbs.log2 < 9000
theorem op_fdivWN : OpR X (binaryOp .FloorDiv) (rI CDivM fun i j => .int (i.fdiv j)) := opI fun i j _ _ _ _ _ hc q =>
  floordiv_int hc.1 q (.inl (PyProof.noPylong_of_log2 hc.2))
/-- x op y by the class's own method: x and y are instances of the class at C -/
def rOwn (C : Addr) (sp : Sp) (E : XK) : R2 := fun x y H Q => ∃ a b dx dy fs gs, x = .ref a ∧ y = .ref b ∧ H a = some (.ins C dx fs) ∧ H b = some (.ins C dy gs) ∧ sp [.ref a, .ref b] H Q E
theorem op_own {op : Operator} {E : XK} (F : FnOk X.prog X.w X.K X.mg X.base CX n f fd ps sp) (hr : Room n X.A) (hsf : PySem.W.selfFirst X.K C = true) (hs : PySem.W.findIn X.K (.ref C) (PySem.dunder op.info.2) = some (some (.ref f)))
    (hf : PySem.W.isFn X.K (.ref f) = true) (hb : Binds X.K fd ps []) (hx : Passes CX X E) : OpR X (binaryOp op) (rOwn C sp E) := by
  intro pins s σ H x y u v Q I rx ry h
  obtain ⟨a, b, dx, dy, fs, gs, rfl, rfl, ha, hb', hq⟩ := h
  cases rx
  cases ry
  obtain ⟨mA, J, _⟩ := ins_get I.hok ha
  obtain ⟨mB, J', _⟩ := ins_get I.hok hb'
  obtain ⟨od, J, _⟩ := J.look
  obtain ⟨od', J', _⟩ := J'.look
  obtain ⟨m, hF⟩ := I.fr
  refine PySem.W.binop_K hF I.ok.mod.kin J J'.type hsf hs hf ?_
  refine wpAny_mono (run_fn (us := [.ref a, .ref b]) (vs := [.ref a, .ref b]) F hr hb .nil hx I (.cons rfl (.cons rfl .nil)) (by rw [List.append_nil]; exact hq)) (fun u s' z => ?_) fun _ _ e => e
  obtain ⟨v', H', I', rv, q⟩ := id z
  cases u <;> first
    | exact z
    | (exfalso; cases v' <;> first | (cases rv; done) | (obtain ⟨_, rv⟩ := rv; cases rv))
/-- x == y by the class's own method: x is an instance of the class at C, y of any type that is not below it -/
def rOwnEq (K : PySem.W.Frag) (C : Addr) (sp : Sp) (E : XK) : R2 := fun x y H Q => ∃ a dx fs t, x = .ref a ∧ H a = some (.ins C dx fs) ∧ TyX K H y t ∧ PySem.W.notFirst K C t = true ∧ sp [.ref a, y] H Q E
theorem op_eqOwn {E : XK} (F : FnOk X.prog X.w X.K X.mg X.base CX n f fd ps sp) (hr : Room n X.A) (hs : PySem.W.findIn X.K (.ref C) "__eq__" = some (some (.ref f)))
    (hf : PySem.W.isFn X.K (.ref f) = true) (hb : Binds X.K fd ps []) (hx : Passes CX X E) : OpR X (compareOp .Eq) (rOwnEq X.K C sp E) := by
  intro pins s σ H x y u v Q I rx ry h
  obtain ⟨a, dx, fs, t, rfl, ha, ty, hn, hq⟩ := h
  cases rx
  obtain ⟨mA, J, _⟩ := ins_get I.hok ha
  obtain ⟨od, J, _⟩ := J.look
  obtain ⟨m, hF⟩ := I.fr
  obtain ⟨P, Z, p, hne⟩ := kit_of I ry ty
  refine PySem.W.cmp_K (op := .Eq) hr.units0 hF I.ok.mod.kin J (Z.ty _ _ I.kIn p) hn hs hf ?_
  refine wpAny_mono (run_fn (us := [.ref a, v]) (vs := [.ref a, y]) F hr hb .nil hx I (.cons rfl (.cons ry .nil)) (by rw [List.append_nil]; exact hq)) (fun u s' z => ?_) fun _ _ e => e
  obtain ⟨v', H', I', rv, q⟩ := id z
  cases u <;> first
    | exact z
    | (exfalso; cases v' <;> first | (cases rv; done) | (obtain ⟨_, rv⟩ := rv; cases rv))
end

/-! ### within a try: what is raised is wished for at the slots -/
/-- a new instance of C, its __init__ a def of one promise (ws: its values behind self, as they are bound) -/
theorem made_at {X : Cx} {CX : CXT} {k : Nat} {f C : Addr} {fd : FuncData} {ps : List Str} {sp : Sp} {E : XK} {pins : List (Addr × Obj)} {σ : St} {H : Hp} {s : Shared} {Q : VK} {us rest : List Value} {kw : List (Str × Value)} {zs : List V} (M : Mk X.K C f) (F : FnOk X.prog X.w X.K X.mg X.base CX k f fd ps sp) (hr : Room (k + 1) X.A)
    (hx : PassesAt CX X σ E) (I : Inv X pins σ H s) (r : Vals zs rest) (bd : ∀ (s' : Shared) (y : Value), X.K.In s'.heap → (y :: rest).length = ps.length → BindsTo s' fd ⟨y :: us, kw⟩ (ps.zip (y :: rest)))
    (h : ∀ x dx, H x = none → H dx = none → dx ≠ x → sp (.ref x :: zs) (upd (upd H dx (.own x)) x (.ins C dx [])) (fun v H2 => v = .non ∧ Q (.ref x) H2) E) :
    wpAny (model X.prog X.w) X.A (call (.ref C) us kw) (EP X pins σ Q) X.xe s := by
  have at1 := I.hok.fresh (Nat.le_succ s.heap.objs.size)
  have q := h (s.heap.objs.size + 1) s.heap.objs.size at1 (I.hok.fresh (Nat.le_refl _)) (Nat.ne_of_lt (Nat.lt_succ_self _))
  have J := Inv.made (C := C) I
  have args : Vals (V.ref (s.heap.objs.size + 1) :: zs) (Value.ref (s.heap.objs.size + 1) :: rest) := .cons rfl r
  have b := bd _ (Value.ref (s.heap.objs.size + 1)) J.kIn (args.length.symm.trans (F.len _ _ _ _ q))
  refine wpAny_call (make_map (f := f) I.kIn M.makes M.init (beq_iff_eq.mp M.fn) (codeAny_mono (F.run _ X.stack _ _ ⟨Value.ref (s.heap.objs.size + 1) :: us, kw⟩ _ _ _ E (hr.make C us kw) (J.env0.make C us kw) b args q) ?_))
  rintro (e | fl) s' z
  · exact hx pins _ _ e s' J z
  · cases fl with
    | ret u =>
      obtain ⟨v, H', I3, rv, ev, q3⟩ := J.after z
      subst ev
      exact ⟨rv, V.ref (s.heap.objs.size + 1), H', I3, rfl, q3⟩
    | next => exact z.elim
    | brk => exact z.elim
    | cont => exact z.elim
section
variable {X : Cx} {CX : CXT} {k : Nat} {f C : Addr} {fd : FuncData} {ps ks : List Str} {sp : Sp} {E : St → XK} {dvs : List V} {ds : List Value} {x m : Str} {p pos apos : Pos} {e o : Expr} {es : List Expr} {kws : List Keyword} {ta : TE} {t tk : TA}
/-- C(e, ..) -/
def tMakeS (C : Addr) (sp : Sp) (dvs : List V) (E : St → XK) (t : TA) : TE := fun σ H Q => t σ H fun vs H1 => ∀ x dx, H1 x = none → H1 dx = none → dx ≠ x →
  sp (.ref x :: (vs ++ dvs)) (upd (upd H1 dx (.own x)) x (.ins C dx [])) (fun v H2 => v = .non ∧ Q (.ref x) H2) (E σ)
theorem pe_makeS (M : Mk X.K C f) (F : FnOk X.prog X.w X.K X.mg X.base CX k f fd ps sp) (hr : Room (k + 1) X.A) (hg : Gl X x) (hm : X.mg x = some (.ref C)) (hb : Binds X.K fd ps ds) (hd : Vals dvs ds) (hx : ∀ σ, PassesAt CX X σ (E σ))
    (ha : PA X (e :: es) t) (hdb : (x == ("__debug__" : Str)) = false := by decide) (he : starEach (e :: es) X.env = (false, eval e X.env) :: starEach es X.env := by rfl) (hpl : (backTo pos (starEach es X.env)).any (·.1) = false := by rfl) :
    PE X (.Call (.Name x p) (e :: es) [] pos) (tMakeS C sp dvs E t) :=
  ⟨fun pins s σ H Q I h => wpAny_Call_Name_kw (ld_glob I hg hm (PySem.W.callWith_K (h₀ := X.base) I.ok.mod.kin M.kp (thn (ha.run pos pins s σ H _ I h) fun us s1 ⟨vs, H1, I1, r, q⟩ =>
    ⟨I1.kIn, made_at M F hr (hx σ) I1 (r.append hd) (fun s' y X' l => hb s' (y :: us) X' l) q⟩) he hpl) hdb)⟩
/-- C(k = v, ..) -/
def tMakeKS (C : Addr) (m : Nat) (sp : Sp) (gV : List V → List V → List V) (E : St → XK) (tk : TA) : TE := fun σ H Q => tk σ H fun zs H2 => zs.length = m ∧ ∀ x dx, H2 x = none → H2 dx = none → dx ≠ x →
  sp (gV [.ref x] zs) (upd (upd H2 dx (.own x)) x (.ins C dx [])) (fun v H3 => v = .non ∧ Q (.ref x) H3) (E σ)
/-- the keywords' order is told by g: self stands first -/
theorem pe_makeKS {g : List Value → List Value → List Value} {gV : List V → List V → List V} {g' : List Value → List Value} {gV' : List V → List V} (M : Mk X.K C f) (F : FnOk X.prog X.w X.K X.mg X.base CX k f fd ps sp) (hr : Room (k + 1) X.A) (hg : Gl X x) (hm : X.mg x = some (.ref C)) (hb : KBn X.K fd ps 1 ks g gV)
    (hg1 : ∀ y ws, g [y] ws = y :: g' ws) (hg2 : ∀ y zs, gV [y] zs = y :: gV' zs) (hx : ∀ σ, PassesAt CX X σ (E σ)) (hkw : PK X kws tk)
    (hall : (backToKw pos (keywordEach kws X.env)).all (·.1.isSome) = true := by rfl) (hks : (backToKw pos (keywordEach kws X.env)).filterMap (·.1) = ks := by rfl) (hdb : (x == ("__debug__" : Str)) = false := by decide)
    (hpl : ((backTo pos (starEach [] X.env)).any (·.1) || (backToKw pos (keywordEach kws X.env)).any (·.1.isNone)) = false := by rfl) :
    PE X (.Call (.Name x p) [] kws pos) (tMakeKS C ks.length sp gV E tk) := by
  refine ⟨fun pins s σ H Q I h => wpAny_Call_Name_kw (ld_glob I hg hm (PySem.W.callWith_KW0 (h₀ := X.base) I.ok.mod.kin M.kp hall (thn (hkw.run pos pins s σ H _ I h) ?_) hpl) hdb)⟩
  rintro ws s2 ⟨zs, H2, I2, rz, lz, q⟩
  rw [hks]
  have rr := hb.rel (vs := [V.non]) (us := [Value.none]) (.cons rfl .nil) rz
  rw [hg1, hg2] at rr
  cases rr with
  | cons _ rest =>
    refine ⟨I2.kIn, made_at (us := []) M F hr (hx σ) I2 rest (fun s' y X' _ => ?_) fun x dx a b c => ?_⟩
    · have z := hb.to s' [y] ws X' rfl (rz.length.symm.trans lz)
      rwa [hg1] at z
    · have z := q x dx a b c
      rwa [hg2] at z
/-- o.m(e, ..) -/
def tMethS (C : Addr) (m : Str) (sp : Sp) (E : St → XK) (ta : TE) (t : TA) : TE := fun σ H Q => ta σ H fun x H1 => ∃ a dx fs, x = .ref a ∧ H1 a = some (.ins C dx fs) ∧ fs.lookup m = none ∧ t σ H1 fun vs H2 => sp (x :: vs) H2 Q (E σ)
theorem pe_methS {pl : Sem Bool} (he : PE X o ta) (c : Cls X.K C) (hm : Meth X.K C m f) (F : FnOk X.prog X.w X.K X.mg X.base CX k f fd ps sp) (hr : Room k X.A) (hb : Binds X.K fd ps []) (hx : ∀ σ, PassesAt CX X σ (E σ)) (ha : PA X (e :: es) t)
    (hst : starEach (e :: es) X.env = (false, eval e X.env) :: starEach es X.env := by rfl) (hpl : (backTo pos (starEach es X.env)).any (·.1) = false := by rfl)
    (ht : eval (.Call (.Attribute o m apos) (e :: es) [] pos) X.env = (do
      let ov ← eval o X.env
      standAt apos.atName
      let (f, first) ← holding [ov] (getMethod ov m pl)
      callWith pos f first (backTo pos (starEach (e :: es) X.env)) (backToKw pos (keywordEach [] X.env))) := by rfl) :
    PE X (.Call (.Attribute o m apos) (e :: es) [] pos) (tMethS C m sp E ta t) := by
  refine ⟨fun pins s σ H Q I h => PySem.W.methodCall_KW (pl := pl) (thn (he.run pins s σ H _ I h) ?_) ht⟩
  rintro u s1 ⟨x, H1, I1, rx, a, dx, fs, rfl, ea, l, q⟩
  obtain rfl : u = Value.ref a := rx
  refine getmeth_ok I1 ea c hm l (PySem.W.callWith_K (first := [.ref a]) (h₀ := X.base) I.ok.mod.kin hm.kp (thn (ha.run pos pins s1 σ H1 _ I1 q) ?_) hst hpl)
  rintro us s2 ⟨vs, H2, I2, r, q2⟩
  exact ⟨I2.kIn, run_fnS (us := .ref a :: us) (vs := .ref a :: vs) F hr hb (hx σ) I2 (.cons rfl r) q2⟩
end
end Own
/-! Rules of our own for what may be a list or a tuple: walked, taken apart, enumerated. -/
namespace OwnSeq
open PySem PySem.Spec PyProof.Rows L2
/-! ### enumerate of a tuple -/
theorem enum_made (t : Addr) (items : Array Value) :
    Meets (Builtin.«enumerate.__new__» ⟨[.type "enumerate", .ref t], []⟩) (fun _ R s => s.heap.IsTuple t items ∧
      R (.ok (.ret (.ref (s.heap.push { cls := .type "tuple_iterator", data := .fields #[.ref t, .int 0 0] }).objs.size)))
        { s with heap := (s.heap.push { cls := .type "tuple_iterator", data := .fields #[.ref t, .int 0 0] }).push { cls := .type "enumerate", data := .fields #[.none, .bool false, .ref s.heap.objs.size, rawInt 0, .none, .none] } }) :=
  .of_wp fun prog w A R s ⟨hL, h⟩ => by
    cases s with | mk hp g d tk os =>
    have below := sub_enumerate
    wp_walk
    refine wpAny_stack_any fun st => wpAny_pure ?_
    split
    · rename_i c _ _ _ _ _
      cases (c == Value.type "enumerate") <;> (wp_walk using wpAny_pyIter_tuple hL; exact ⟨_, rfl, h⟩)
    · wp_walk using wpAny_pyIter_tuple hL
      exact ⟨_, rfl, h⟩
theorem enum_tuple {prog : Program} {w : World} {A : Around} {E : Value → Shared → Prop} {s : Shared} {t : Addr} {items : Array Value} {Q : Value → Shared → Prop} (hL : s.heap.IsTuple t items)
    (h : ∀ h', IsEnum h' (s.heap.objs.size + 1) s.heap.objs.size 0 .none → h'.IsTupleIter s.heap.objs.size t 0 → (∀ b o, s.heap.get? b = some o → h'.get? b = some o) → Q (.ref (s.heap.objs.size + 1)) { s with heap := h' }) :
    wpAny (model prog w) A (call (.type "enumerate") [.ref t]) Q E s := by
  refine callType_new F.called_enumerate (by decide) (F.typeCall_enumerate_1 _) (F.newCall_enumerate_1 _) (fun obj => F.args_object_init_2 obj _) F.entry_enumerate_new (enum_made t items) ⟨hL, ?_⟩
  have grown : (s.heap.push { cls := .type "tuple_iterator", data := .fields #[.ref t, .int 0 0] }).objs.size = s.heap.objs.size + 1 := Heap.size_push ..
  have at2 := Heap.get?_push_size (s.heap.push { cls := .type "tuple_iterator", data := .fields #[.ref t, .int 0 0] }) (o := { cls := .type "enumerate", data := .fields #[.none, .bool false, .ref s.heap.objs.size, rawInt 0, .none, .none] }) rfl
  rw [grown] at at2
  show _ ∧ _
  rw [grown]
  exact ⟨⟨_, at2, rfl⟩, h _ at2 ⟨_, Heap.get?_push_of_some _ (Heap.get?_push_size _ rfl), rfl, rfl⟩ fun b o x => Heap.get?_push_of_some _ (Heap.get?_push_of_some _ x)⟩
/-- the tuple at a as it stands at each turn, each item in a new pair -/
def IteT (K : PySem.W.Frag) (a : Addr) : It :=
  ⟨fun i H => ∃ (xs : List V) (x : V), SqT K H a xs ∧ xs[i]? = some x, fun i H v H' => ∃ T x, v = .ref T ∧ H T = none ∧ H' = upd H T (.tup [.int (i : Nat), x]) ∧ ∀ xs, SqT K H a xs → xs[i]? = some x, fun i H => ∃ xs : List V, SqT K H a xs ∧ xs.length = i⟩
theorem turn_enumT {P : Program} {w : World} {K : PySem.W.Frag} {elts : List Expr} {kk : Nat} {tpos : Pos} (a e it : Addr) :
    Turn P w K (.Tuple elts kk tpos) (IteT K a) [e, it] e (fun i h => (∃ old, IsEnum h e it ((i : Nat) : Int) old) ∧ h.IsTupleIter it a i ∧ e ≠ it) where
  mem := List.mem_cons_self
  obj := fun i h ⟨⟨old, he⟩, ⟨o, ho, hc, hd⟩, _⟩ b hb => by
    rcases List.mem_cons.mp hb with rfl | hb
    · exact ⟨_, he, fun v q => nomatch q⟩
    · rw [List.mem_singleton.mp hb]
      exact ⟨o, ho, fun v q => by rw [hd] at q; cases q⟩
  keep := fun i h h' ⟨⟨old, he⟩, hi, hne⟩ k => ⟨⟨old, k e (by simp) _ he⟩, hi.at fun o q => k it (by simp) o q, hne⟩
  item := fun X hP hw hK hc i pins s σ H E I hf ⟨⟨old, he⟩, hit, hne⟩ ⟨xs, x, hq, hx⟩ => by
    subst hP hw hK
    obtain ⟨its, rv, p, hz⟩ := I.tuple hq
    obtain ⟨u, hu, ru⟩ := rv.get hx
    have p : s.heap.IsTuple a its.toArray := p
    have old1 : e < s.heap.objs.size := Heap.lt_size he
    have old2 : it < s.heap.objs.size := let ⟨_, q, _⟩ := hit; Heap.lt_size q
    have ai : a ≠ it := fun z => by
      obtain ⟨o1, g1, c1, _⟩ := hit
      obtain ⟨o2, g2, c2, _⟩ := p
      rw [z, g1] at g2
      cases g2
      exact absurd (Value.type.inj (c1.symm.trans c2)) (by decide)
    have ae : e ≠ a := fun z => by
      obtain ⟨o2, g2, c2, _⟩ := p
      have he : s.heap.get? e = some _ := he
      rw [← z, he] at g2
      cases g2
      exact absurd (Value.type.inj c2) (by decide)
    have li : i < its.toArray.size := by
      have z := (List.getElem?_eq_some_iff.mp hu).1
      simpa using z
    refine wpAny_pyNext_enum_itemD (Draws.tuple (show X.A.in1.handled = none from I.ok.hd hc) it a ai its.toArray) he ⟨hit, p⟩ li hne (by simp [hne, ae]) fun y h' tk hy ho st' hT hsz hk => ?_
    obtain rfl : y = u := by
      have z : its.toArray[i]? = some u := by simpa using hu
      rw [z] at hy
      exact (Option.some.inj hy).symm
    refine ⟨_, rfl, wpAny_letOwnedTupleGo_enum (s := { s with heap := h', toks := tk + 1 }) ho fun h'' he' sb => ?_⟩
    have hT2 : h''.get? s.heap.objs.size = some { cls := .type "tuple", data := .seq #[.int i tk, y] } := (sb.2 _ (Nat.ne_of_gt old1)).trans hT
    have new : ObjOk X.prog X.w (upd H s.heap.objs.size (.tup [.int (i : Nat), x])) h'' s.heap.objs.size (.tup [.int (i : Nat), x]) :=
      ⟨by show 2 ≤ sizeLine; decide, [.int i tk, y], .cons ⟨_, rfl⟩ (.cons ru .nil), ⟨_, hT2, rfl, _, rfl⟩⟩
    have I1 : Inv X pins σ (upd H s.heap.objs.size (.tup [.int (i : Nat), x])) { s with heap := h'', toks := tk + 1 } :=
      I.turnedNew (ch := [e, it]) (fun b ob hb q => (sb.2 b (fun z => hb (by simp [z]))).trans (hk b ob (fun z => hb (by simp [z])) (fun z => hb (by simp [z])) q)) hf (Nat.le_refl _) new
    refine ⟨.ref s.heap.objs.size, _, I1, rfl, ⟨_, x, rfl, I.hok.fresh (Nat.le_refl _), rfl, fun ys hy => by rw [I.tuple_inj hy hq]; exact hx⟩, ⟨⟨y, ?_⟩, st'.1.at fun o q => (sb.2 it (Ne.symm hne)).trans q, hne⟩, fun b hb => ?_⟩
    · rw [show ((i + 1 : Nat) : Int) = (i : Int) + 1 by omega]
      exact he'
    · have hb' : b < s.heap.objs.size := by
        rcases List.mem_cons.mp hb with rfl | hb
        · exact old1
        · rw [List.mem_singleton.mp hb]; exact old2
      rw [upd_ne (Nat.ne_of_lt hb')]
      exact (hf b hb).1
  done := fun X hP hw hK hc i pins s σ H E I hf ⟨⟨old, he⟩, hit, hne⟩ ⟨xs, hq, hx⟩ => by
    subst hP hw hK
    obtain ⟨its, rv, p, hz⟩ := I.tuple hq
    have p : s.heap.IsTuple a its.toArray := p
    obtain ⟨f0, f1, f2, f3, f4, f5⟩ := hf it (by simp)
    have hl := rv.length
    have ai : a ≠ it := fun z => by
      obtain ⟨o1, g1, c1, _⟩ := hit
      obtain ⟨o2, g2, c2, _⟩ := p
      rw [z, g1] at g2
      cases g2
      exact absurd (Value.type.inj (c1.symm.trans c2)) (by decide)
    have e' : i = its.toArray.size := by rw [List.size_toArray, ← hl, hx]
    exact wpAny_pyNext_enum_endD (Draws.tuple (show X.A.in1.handled = none from I.ok.hd hc) it a ai its.toArray) he ⟨by rw [← e']; exact hit, p⟩ fun h' eb => ⟨rfl, I.turned (t' := s.toks) (fun b o hb q => eb b o hb q) f0 f1 f3 f4 f5⟩
  self := fun A i s Q E ⟨⟨_, he⟩, _⟩ h => wpAny_pyIter_enum he h
def iEnumT (K : PySem.W.Frag) (ta : TA) : TI := fun σ H R => ta σ H fun vs H1 => ∃ a xs, vs = [.ref a] ∧ SqT K H1 a xs ∧ R (IteT K a) H1
section
variable {X : Cx} {e tg : Expr} {te : TE} {ta : TA} {p pos tpos : Pos} {elts : List Expr} {kk : Nat}
theorem pi_enumT (hg : Gl X "enumerate") (hm : X.mg "enumerate" = none) (ha : PA X [e] ta) (hs : starEach [e] X.env = [(false, eval e X.env)] := by rfl) : PI X (.Tuple elts kk tpos) (.Call (.Name "enumerate" p) [e] [] pos) (iEnumT X.K ta) :=
  ⟨fun pins s σ H R I h => Call_ (ld_blt I hg hm boot_enumerate (PyProof.Rows.callWith_type1 (thn (ha.run pos pins s σ H _ I h) fun us s1 ⟨vs, H1, I1, r1, a, xs, ex, hq, q⟩ => by
    subst ex
    cases r1 with
    | cons r rr =>
      cases rr
      cases r
      obtain ⟨its, rv, p', hz⟩ := I1.tuple hq
      refine enum_tuple (show s1.heap.IsTuple a its.toArray from p') fun h' he hit hk => wpAny_pyIter_enum he ?_
      refine ⟨s1.heap.objs.size + 1, [s1.heap.objs.size + 1, s1.heap.objs.size], _, _, H1, rfl, I1.kept (t' := s1.toks) hk, turn_enumT a (s1.heap.objs.size + 1) s1.heap.objs.size, ⟨⟨.none, he⟩, hit, Nat.succ_ne_self _⟩, fun b hb => ?_, q⟩
      have le : s1.heap.objs.size ≤ b := by
        rcases List.mem_cons.mp hb with rfl | hb
        · exact Nat.le_succ _
        · exact Nat.le_of_eq (List.mem_singleton.mp hb).symm
      exact I1.fpOk le (I1.hok.fresh le)) hs rfl))⟩
/-! ### a list or a tuple -/
theorem PI.or {w1 w2 : TI} {it : Expr} (a : PI X tg it w1) (b : PI X tg it w2) : PI X tg it (fun σ H R => w1 σ H R ∨ w2 σ H R) := ⟨fun pins s σ H R I h => h.elim (a.run pins s σ H R I) (b.run pins s σ H R I)⟩
theorem PG.or {g1 g2 : TG} (a : PG X tg g1) (b : PG X tg g2) : PG X tg (fun v σ H Q => g1 v σ H Q ∨ g2 v σ H Q) := ⟨fun pins s σ H v u Q I r h => h.elim (a.run pins s σ H v u Q I r) (b.run pins s σ H v u Q I r)⟩
/-- l: a list; else a tuple -/
def sq (l : Bool) (xs : List V) : HO := if l = true then .lst xs else .tup xs
theorem sq_l {K : PySem.W.Frag} {H : Hp} {a : Addr} {xs : List V} (h : H a = some (sq true xs)) : SqL K H a xs := SqL.of h
theorem sq_t {K : PySem.W.Frag} {H : Hp} {a : Addr} {xs : List V} (h : H a = some (sq false xs)) : SqT K H a xs := SqT.of h
def iSeq (K : PySem.W.Frag) (te : TE) : TI := fun σ H R => te σ H fun x H1 => ∃ a l xs, x = .ref a ∧ H1 a = some (sq l xs) ∧ R (if l = true then Itl K a else Itt K a) H1
theorem pi_seq (he : PE X e te) : PI X tg e (iSeq X.K te) := ⟨fun pins s σ H R I h => thn (he.run pins s σ H _ I h) fun v s1 ⟨x, H1, I1, rx, a, l, xs, ex, hx, q⟩ => by
  subst ex
  cases rx
  cases l with
  | true =>
    obtain ⟨its, rv, p, _⟩ := I1.list (SqL.of hx)
    exact wpAny_pyIter_list p.isList ⟨s1.heap.objs.size, [s1.heap.objs.size], _, _, H1, rfl, I1.kept (t' := s1.toks) fun b o e => Heap.get?_push_of_some _ e, turn_list a _, ⟨_, Heap.get?_push_size _ rfl, rfl, rfl⟩, fun b hb => by
      rw [List.mem_singleton.mp hb]
      exact I1.fpOk (Nat.le_refl _) (I1.hok.fresh (Nat.le_refl _)), q⟩
  | false =>
    obtain ⟨its, rv, p, _⟩ := I1.tuple (SqT.of hx)
    exact wpAny_pyIter_tuple (show s1.heap.IsTuple a its.toArray from p) ⟨s1.heap.objs.size, [s1.heap.objs.size], _, _, H1, rfl, I1.kept (t' := s1.toks) fun b o e => Heap.get?_push_of_some _ e, turn_tuple a _, ⟨_, Heap.get?_push_size _ rfl, rfl, rfl⟩, fun b hb => by
      rw [List.mem_singleton.mp hb]
      exact I1.fpOk (Nat.le_refl _) (I1.hok.fresh (Nat.le_refl _)), q⟩⟩
def iEnumS (K : PySem.W.Frag) (ta : TA) : TI := fun σ H R => ta σ H fun vs H1 => ∃ a l xs, vs = [.ref a] ∧ H1 a = some (sq l xs) ∧ R (if l = true then Ite K a else IteT K a) H1
theorem pi_enumS (hg : Gl X "enumerate") (hm : X.mg "enumerate" = none) (ha : PA X [e] ta) (hs : starEach [e] X.env = [(false, eval e X.env)] := by rfl) : PI X (.Tuple elts kk tpos) (.Call (.Name "enumerate" p) [e] [] pos) (iEnumS X.K ta) :=
  ⟨fun pins s σ H R I h => Call_ (ld_blt I hg hm boot_enumerate (PyProof.Rows.callWith_type1 (thn (ha.run pos pins s σ H _ I h) fun us s1 ⟨vs, H1, I1, r1, a, l, xs, ex, hq, q⟩ => by
    subst ex
    have young : ∀ b ∈ [s1.heap.objs.size + 1, s1.heap.objs.size], FpOk X pins H1 b := fun b hb => by
      have le : s1.heap.objs.size ≤ b := by
        rcases List.mem_cons.mp hb with rfl | hb
        · exact Nat.le_succ _
        · exact Nat.le_of_eq (List.mem_singleton.mp hb).symm
      exact I1.fpOk le (I1.hok.fresh le)
    cases r1 with
    | cons r rr =>
      cases rr
      cases r
      cases l with
      | true =>
        obtain ⟨its, rv, p', hz⟩ := I1.list (SqL.of hq)
        exact call_enumerate_list p'.isList fun h' he hit hsz hk => wpAny_pyIter_enum he ⟨_, _, _, _, H1, rfl, I1.kept (t' := s1.toks) hk, turn_enum a (s1.heap.objs.size + 1) s1.heap.objs.size, ⟨⟨.none, he⟩, hit, Nat.succ_ne_self _⟩, young, q⟩
      | false =>
        obtain ⟨its, rv, p', hz⟩ := I1.tuple (SqT.of hq)
        exact enum_tuple (show s1.heap.IsTuple a its.toArray from p') fun h' he hit hk => wpAny_pyIter_enum he ⟨_, _, _, _, H1, rfl, I1.kept (t' := s1.toks) hk, turn_enumT a (s1.heap.objs.size + 1) s1.heap.objs.size, ⟨⟨.none, he⟩, hit, Nat.succ_ne_self _⟩, young, q⟩) hs rfl))⟩
end
/-! ### loops over what walks n items -/
structure Goes (J : It) (S : Hp → Prop) (n : Nat) (y : Nat → Hp → V → Hp → Prop) : Prop where
  go : ∀ i H, i < n → S H → J.go i H
  stop : ∀ H, S H → J.stop n H
  yld : ∀ i H x H', S H → J.yld i H x H' → y i H x H'
theorem goes_seq {K : PySem.W.Frag} {a : Addr} {l : Bool} {xs : List V} : Goes (if l = true then Itl K a else Itt K a) (fun H => H a = some (sq l xs)) xs.length (fun i H x H' => H' = H ∧ xs[i]? = some x) := by
  cases l with
  | true => exact ⟨fun i H hi h => ⟨xs, xs[i], SqL.of h, by simp [hi]⟩, fun H h => ⟨xs, SqL.of h, Nat.le_refl _⟩, fun i H x H' h y => ⟨y.1, y.2 xs (SqL.of h)⟩⟩
  | false => exact ⟨fun i H hi h => ⟨xs, xs[i], SqT.of h, by simp [hi]⟩, fun H h => ⟨xs, SqT.of h, Nat.le_refl _⟩, fun i H x H' h y => ⟨y.1, y.2 xs (SqT.of h)⟩⟩
theorem goes_enum {K : PySem.W.Frag} {a : Addr} {l : Bool} {xs : List V} : Goes (if l = true then Ite K a else IteT K a) (fun H => H a = some (sq l xs)) xs.length (fun i H x H' => ∃ T z, x = .ref T ∧ H T = none ∧ H' = upd H T (.tup [.int (i : Nat), z]) ∧ xs[i]? = some z) := by
  cases l with
  | true => exact ⟨fun i H hi h => ⟨xs, xs[i], SqL.of h, by simp [hi]⟩, fun H h => ⟨xs, SqL.of h, Nat.le_refl _⟩, fun i H x H' h ⟨T, z, a, b, c, d⟩ => ⟨T, z, a, b, c, d xs (SqL.of h)⟩⟩
  | false => exact ⟨fun i H hi h => ⟨xs, xs[i], SqT.of h, by simp [hi]⟩, fun H h => ⟨xs, SqT.of h, rfl⟩, fun i H x H' h ⟨T, z, a, b, c, d⟩ => ⟨T, z, a, b, c, d xs (SqT.of h)⟩⟩
theorem loop_goes {J : It} {S : Hp → Prop} {n : Nat} {y : Nat → Hp → V → Hp → Prop} {g : TG} {tb : TS} {D : Ends} {σ : L2.St} {H : Hp} (G : Goes J S n y) (Pe : L2.St → Hp → Prop) (Pv : Nat → L2.St → Hp → Prop) (h0 : Pv 0 σ H) (hl : ∀ i σ H, i ≤ n → Pv i σ H → S H)
    (hs : ∀ (bk : L2.St → Hp → Prop), (∀ σ H, Pe σ H → bk σ H) → ∀ i x σ H H', i < n → Pv i σ H → y i H x H' → g x σ H' fun σ2 H2 => tb { D with nx := Pv (i + 1), ct := Pv (i + 1), bk := bk } σ2 H2)
    (hd : ∀ σ H, Pv n σ H → Pe σ H) (he : ∀ σ H, Pe σ H → D.nx σ H) : Rd.Loop J g tb D σ H :=
  ⟨fun i m σ H => m = n - i ∧ i ≤ n ∧ Pv i σ H, ⟨n, rfl, Nat.zero_le _, h0⟩, fun i m σ H ⟨e, hi, p⟩ => by
    subst e
    have q := hl i σ H hi p
    rcases Nat.lt_or_eq_of_le hi with lt | eq
    · exact .inr ⟨G.go i H lt q, Pv (i + 1), fun σ' H' p' => ⟨n - (i + 1), by omega, rfl, lt, p'⟩, fun x H' z => hs D.nx he i x σ H H' lt p (G.yld i H x H' q z)⟩
    · subst eq
      exact .inl ⟨G.stop H q, he σ H (hd σ H p)⟩⟩
theorem lcl_goes {J : It} {S : Hp → Prop} {n : Nat} {y : Nat → Hp → V → Hp → Prop} {g : TG} {tt : TT} {te : TE} {vs : List Nat} {σ : L2.St} {H : Hp} {Q : VK} (G : Goes J S n y) (Pv : Addr → Nat → Hp → Prop) (h0 : ∀ D, H D = none → Pv D 0 (upd H D (.lst []))) (hl : ∀ D i H1, i ≤ n → Pv D i H1 → S H1)
    (hs : ∀ D i x H1 H', i < n → Pv D i H1 → y i H1 x H' → g x (wipe σ vs) H' fun σ2 H2 => Rd.LcTurn te tt D (wipe σ vs) σ2 vs H2 (Pv D (i + 1))) (hd : ∀ D H1, H D = none → Pv D n H1 → Q (.ref D) H1) : Rd.LcL J g tt te vs σ H Q := fun D hD =>
  ⟨fun i m H => m = n - i ∧ i ≤ n ∧ Pv D i H, ⟨n, rfl, Nat.zero_le _, h0 D hD⟩, fun i m H1 ⟨e, hi, p⟩ => by
    subst e
    have q := hl D i H1 hi p
    rcases Nat.lt_or_eq_of_le hi with lt | eq
    · exact .inr ⟨G.go i H1 lt q, Pv D (i + 1), fun H' p' => ⟨n - (i + 1), by omega, rfl, lt, p'⟩, fun x H' z => hs D i x H1 H' lt p (G.yld i H1 x H' q z)⟩
    · subst eq
      exact .inl ⟨G.stop H1 q, hd D H1 hD p⟩⟩
theorem tFor_seq {K : PySem.W.Frag} {te : TE} {g : TG} {tb : TS} {D : Ends} {σ : L2.St} {H : Hp} : tFor (iSeq K te) g tb D σ H = te σ H (fun x H1 => ∃ a l xs, x = .ref a ∧ H1 a = some (sq l xs) ∧ Rd.Loop (if l = true then Itl K a else Itt K a) g tb D σ H1) := rfl
theorem tFor_enumS {K : PySem.W.Frag} {ta : TA} {g : TG} {tb : TS} {D : Ends} {σ : L2.St} {H : Hp} : tFor (iEnumS K ta) g tb D σ H = ta σ H (fun vs H1 => ∃ a l xs, vs = [.ref a] ∧ H1 a = some (sq l xs) ∧ Rd.Loop (if l = true then Ite K a else IteT K a) g tb D σ H1) := rfl
theorem tLc_seq {K : PySem.W.Frag} {te0 : TE} {g : TG} {tt : TT} {te : TE} {vs : List Nat} {σ : L2.St} {H : Hp} {Q : VK} : tLc (iSeq K te0) g tt te vs σ H Q = te0 σ H (fun x H1 => ∃ a l xs, x = .ref a ∧ H1 a = some (sq l xs) ∧ Rd.LcL (if l = true then Itl K a else Itt K a) g tt te vs σ H1 Q) := rfl
theorem tLc_enumS {K : PySem.W.Frag} {ta : TA} {g : TG} {tt : TT} {te : TE} {vs : List Nat} {σ : L2.St} {H : Hp} {Q : VK} : tLc (iEnumS K ta) g tt te vs σ H Q = ta σ H (fun ws H1 => ∃ a l xs, ws = [.ref a] ∧ H1 a = some (sq l xs) ∧ Rd.LcL (if l = true then Ite K a else IteT K a) g tt te vs σ H1 Q) := rfl
/-! ### x, *rest = a list or a tuple -/
section
variable {prog : Program} {w : World} {A : Around} {E : Value → Shared → Prop} {s : Shared}
theorem rest_list {l : Addr} {x : Value} {xs : List Value} {Q : List Value → Shared → Prop} (hl : s.heap.IsList l (x :: xs).toArray) (hh : A.handled = none) (hz : xs.length ≤ 1000)
    (h : ∀ (h' : Heap) (tk : Nat), (∀ b o, s.heap.get? b = some o → h'.get? b = some o) → Q [x, .ref h'.objs.size] { s with heap := h'.push { cls := .type "list", data := .seq xs.toArray }, toks := tk }) : wpAny (model prog w) A (unpackItems (.ref l) 2 (some 1)) Q E s := by
  have ne : l ≠ s.heap.objs.size := let ⟨_, g, _⟩ := hl; Nat.ne_of_lt (Heap.lt_size g)
  unfold unpackItems notIterableAtAll
  refine wpAny_bind (wpAny_bind (wpAny_specialOf hl.typeIs slot_list_iter.lookup (wpAny_pure ?_)))
  simp only [Bool.false_eq_true, if_false]
  refine wpAny_bind (wpAny_holding (wpAny_pyIter_list hl (wpAny_bind (wpAny_holding (PySem.W.kun_draw ne 1 0 _ _ ⟨_, Heap.get?_push_size _ rfl, rfl, rfl⟩ (hl.push _) (by simp) fun h1 it1 sb1 => ?_)))))
  have e1 : ((x :: xs).toArray.toList.drop 0).take 1 = [x] := rfl
  rw [e1]
  have it1 : h1.IsListIter s.heap.objs.size l 1 := it1
  have l1 : h1.IsList l (x :: xs).toArray := (hl.push _).extBut sb1.extBut ne
  have lt1 : s.heap.objs.size < h1.objs.size := let ⟨_, g, _⟩ := it1; Heap.lt_size g
  have lt2 : l < h1.objs.size := let ⟨_, g, _⟩ := l1; Heap.lt_size g
  rw [if_neg (show ¬ ([x] : List Value).length < 1 from Nat.lt_irrefl 1)]
  refine wpAny_bind (wpAny_holding (PySem.W.kun_collect (s := { s with heap := h1 }) (T := "list_iterator") (.inr (.inr (.inl rfl))) (Walks.list (A := A.in1) hh s.heap.objs.size l ne (x :: xs).toArray) (fun j u st => st.1.typeIs) (k := 1) (by simp) ⟨it1, l1⟩ lt1 lt2 (fun h2 tk k2 => ?_) (by simp; exact Nat.le_trans (Nat.succ_le_succ hz) (by decide))))
  rw [if_neg (Nat.not_lt_zero _)]
  have e2 : (x :: xs).toArray.toList.drop 1 = xs := rfl
  have e3 : xs.take (xs.length - (2 - 1 - 1)) = xs := List.take_length
  have e4 : xs.drop (xs.length - (2 - 1 - 1)) = [] := List.drop_length
  rw [e2, e3, e4]
  exact wpAny_bind (wpAny_newList (wpAny_pure (h h2 tk fun b o g => k2 b o (Nat.ne_of_lt (Heap.lt_size g)) (sb1.extBut b o (Nat.ne_of_lt (Heap.lt_size g)) (Heap.get?_push_of_some _ g)))) (Nat.le_trans hz (by decide)))
theorem rest_tuple {l : Addr} {x : Value} {xs : List Value} {Q : List Value → Shared → Prop} (hl : s.heap.IsTuple l (x :: xs).toArray) (hh : A.handled = none) (hz : xs.length ≤ 1000)
    (h : ∀ (h' : Heap) (tk : Nat), (∀ b o, s.heap.get? b = some o → h'.get? b = some o) → Q [x, .ref h'.objs.size] { s with heap := h'.push { cls := .type "list", data := .seq xs.toArray }, toks := tk }) : wpAny (model prog w) A (unpackItems (.ref l) 2 (some 1)) Q E s := by
  have ne : l ≠ s.heap.objs.size := let ⟨_, g, _⟩ := hl; Nat.ne_of_lt (Heap.lt_size g)
  unfold unpackItems notIterableAtAll
  refine wpAny_bind (wpAny_bind (wpAny_specialOf hl.typeIs slot_tuple_iter.lookup (wpAny_pure ?_)))
  simp only [Bool.false_eq_true, if_false]
  refine wpAny_bind (wpAny_holding (wpAny_pyIter_tuple hl (wpAny_bind (wpAny_holding (wpAny_draw_tuple ne 1 0 _ _ ⟨_, Heap.get?_push_size _ rfl, rfl, rfl⟩ (hl.push _) (by simp) fun h1 it1 sb1 => ?_)))))
  have e1 : ((x :: xs).toArray.toList.drop 0).take 1 = [x] := rfl
  rw [e1]
  have it1 : h1.IsTupleIter s.heap.objs.size l 1 := it1
  have l1 : h1.IsTuple l (x :: xs).toArray := (hl.push _).extBut sb1.extBut ne
  have lt1 : s.heap.objs.size < h1.objs.size := let ⟨_, g, _⟩ := it1; Heap.lt_size g
  have lt2 : l < h1.objs.size := let ⟨_, g, _⟩ := l1; Heap.lt_size g
  rw [if_neg (show ¬ ([x] : List Value).length < 1 from Nat.lt_irrefl 1)]
  refine wpAny_bind (wpAny_holding (PySem.W.kun_collect (s := { s with heap := h1 }) (T := "tuple_iterator") (.inr (.inr (.inr rfl))) (Walks.tuple (A := A.in1) hh s.heap.objs.size l ne (x :: xs).toArray) (fun j u st => st.1.typeIs) (k := 1) (by simp) ⟨it1, l1⟩ lt1 lt2 (fun h2 tk k2 => ?_) (by simp; exact Nat.le_trans (Nat.succ_le_succ hz) (by decide))))
  rw [if_neg (Nat.not_lt_zero _)]
  have e2 : (x :: xs).toArray.toList.drop 1 = xs := rfl
  have e3 : xs.take (xs.length - (2 - 1 - 1)) = xs := List.take_length
  have e4 : xs.drop (xs.length - (2 - 1 - 1)) = [] := List.drop_length
  rw [e2, e3, e4]
  exact wpAny_bind (wpAny_newList (wpAny_pure (h h2 tk fun b o g => k2 b o (Nat.ne_of_lt (Heap.lt_size g)) (sb1.extBut b o (Nat.ne_of_lt (Heap.lt_size g)) (Heap.get?_push_of_some _ g)))) (Nat.le_trans hz (by decide)))
end
def gRest (t : TGs) : TG := fun v σ H Q => ∃ a l x xs, v = .ref a ∧ H a = some (sq l (x :: xs)) ∧ xs.length ≤ 1000 ∧ ∀ D, H D = none → t [x, .ref D] σ (upd H D (.lst xs)) Q
theorem pg_rest {X : Cx} {t1 t2 : Expr} {p pos : Pos} {k : Nat} {t : TGs} (hc : X.calm = true) (h : PGs X [t1, t2] t) (he : (assignEach [t1, .Starred t2 p] X.env).map (·.2) = (assignEach [t1, t2] X.env).map (·.2) := by rfl)
    (hn : (assignEach [t1, .Starred t2 p] X.env).length = 2 := by rfl) (hst : (assignEach [t1, .Starred t2 p] X.env).findIdx? (·.1) = some 1 := by rfl) : PG X (.Tuple [t1, .Starred t2 p] k pos) (gRest t) := by
  refine ⟨fun pins s σ H v u Q I r ⟨a, l, x, xs, e1, hq, hz, hw⟩ => ?_⟩
  subst e1
  cases r
  rw [assign_Tuple]
  refine wpAny_bind (wpAny_standAt ?_)
  unfold unpack
  rw [hn, hst, he]
  have fin : ∀ {u : Value} {us : List Value}, RelV x u → Vals xs us → ∀ (h' : Heap) (tk : Nat), (∀ b o, s.heap.get? b = some o → h'.get? b = some o) →
      wpAny (model X.prog X.w) X.A (assignInOrder ((assignEach [t1, t2] X.env).map (·.2)) [u, .ref h'.objs.size]) (fun _ s' => ∃ σ' H', Inv X pins σ' H' s' ∧ Q σ' H') X.xe { s with heap := h'.push { cls := .type "list", data := .seq us.toArray }, toks := tk } := fun {u us} ru rus h' tk kp => by
    have I1 : Inv X pins σ H { s with heap := h', toks := tk } := I.kept (t' := tk) kp
    have I2 := I1.laid (t' := tk) (a := h'.objs.size) (o := .lst xs) (h' := h'.push { cls := .type "list", data := .seq us.toArray }) (fun b o e => Heap.get?_push_of_some _ e) (Nat.le_refl _) ⟨Nat.le_trans hz (by decide), us, 0, rus, Heap.get?_push_size _ rfl⟩
    exact h.run pins _ σ _ [x, .ref h'.objs.size] _ Q I2 (.cons ru (.cons rfl .nil)) (hw h'.objs.size (I1.hok.fresh (Nat.le_refl _)))
  cases l with
  | true =>
    obtain ⟨its, rv, pl, _⟩ := I.list (SqL.of hq)
    cases rv with
    | cons ru rus => exact wpAny_bind (wpAny_holding (rest_list pl.isList (I.ok.hd hc) (by rw [← rus.length]; exact hz) (fin ru rus)))
  | false =>
    obtain ⟨its, rv, pl, _⟩ := I.tuple (SqT.of hq)
    cases rv with
    | cons ru rus => exact wpAny_bind (wpAny_holding (rest_tuple (show s.heap.IsTuple a _ from pl) (I.ok.hd hc) (by rw [← rus.length]; exact hz) (fin ru rus)))
/-- x, y, .. = a list or a tuple of that length -/
def gSeq (n : Nat) (t : TGs) : TG := fun v σ H Q => ∃ a l xs, v = .ref a ∧ H a = some (sq l xs) ∧ xs.length = n ∧ t xs σ H Q
theorem pg_seq {X : Cx} {es : List Expr} {k n : Nat} {pos : Pos} {t : TGs} (hc : X.calm = true) (h : PGs X es t) (hn : (assignEach es X.env).length = n := by rfl) (hst : (assignEach es X.env).findIdx? (·.1) = none := by rfl) : PG X (.Tuple es k pos) (gSeq n t) := by
  refine ⟨fun pins s σ H v u Q I r ⟨a, l, xs, e1, hq, hl, hw⟩ => ?_⟩
  cases l with
  | true => exact (pg_unl hc h hn hst).run pins s σ H v u Q I r ⟨a, xs, e1, SqL.of hq, hl, hw⟩
  | false => exact (pg_tup hc h hn hst).run pins s σ H v u Q I r ⟨a, xs, e1, SqT.of hq, hl, hw⟩
end OwnSeq
/-! A list comprehension within a def that runs while an exception is handled. -/
namespace OwnHot
open PySem PySem.Spec PyProof.Rows L2 L2H HotX
section
variable {prog : Program} {w : World} {A : Around} {E : Value → Shared → Prop} {s : Shared}
/-- what stands behind an iterator's last item: a StopIteration, taken by the one who asked -/
theorem stop_hot {α : Type} {Qa : α → Shared → Prop} {t : Sem α} {k : Value → Sem α} (et : t = newExc (.type "StopIteration") [] >>= k) (ek : ∀ a, k (.ref a) = raiseNew (.ref a)) {x1 : Addr} {Q : Option Value → Shared → Prop} (hot : HotAt A x1 s.heap)
    (hQ : ∀ h', (∀ b o, s.heap.get? b = some o → h'.get? b = some o) → Q none { s with heap := h' }) :
    wpAny (model prog w) A.in1 t Qa (fun e s' => wpAny (model prog w) A (do let b ← isInstance e (.type "StopIteration"); if b = true then pure none else throw e) Q E s') s := by
  obtain ⟨hh, o1, vs1, g1, d1, c1⟩ := hot
  rw [et]
  refine wpAny_bind ?_
  simp only [newExc, newTuple]
  refine wpAny_bind (wpAny_newObj_type ?_ (by size_fits))
  refine wpAny_bind (m := firstArgMember _ _) (wpAny_of_eq (a := Value.none) (by first | rfl | (simp only [firstArgMember]; rfl)) ?_)
  refine wpAny_newObj_type ?_ (by size_fits)
  rw [ek]
  refine raiseNew_hot ⟨hh, o1, vs1, Heap.get?_push_of_some _ (Heap.get?_push_of_some _ g1), d1, c1⟩ (Nat.ne_of_lt (Heap.lt_size (Heap.get?_push_of_some _ g1))) (Heap.get?_push_size _ rfl) rfl (by first | (simp; done) | (simp; omega) | (simp only [Array.size_append]; simp; omega)) ?_
  refine wpAny_bind (wpAny_isInstance (T := "StopIteration") (b := true) ⟨_, Heap.get?_update_self _ (Heap.get?_push_size _ rfl) rfl, rfl⟩ isSubtype_stop (wpAny_pure (hQ _ fun b o e => ?_)))
  rw [Heap.get?_update_other _ _ (Nat.ne_of_gt (Heap.lt_size (Heap.get?_push_of_some _ e)))]
  exact Heap.get?_push_of_some _ (Heap.get?_push_of_some _ e)
theorem list_end {it l x1 : Addr} {i : Nat} {items : Array Value} {Q : Option Value → Shared → Prop} (hot : HotAt A x1 s.heap) (ne : x1 ≠ it) (hit : s.heap.IsListIter it l i) (hl : s.heap.IsList l items) (hx : items[i]? = none)
    (hQ : ∀ h', Heap.ExtBut it s.heap h' → Q none { s with heap := h' }) : wpAny (model prog w) A (pyNext (.ref it)) Q E s := by
  obtain ⟨o, ho, hc, hd⟩ := id hit
  obtain ⟨ol, hol, _, nl, hdl⟩ := hl
  unfold pyNext
  refine wpAny_bind (wpAny_attempt (wpAny_callSpecial?_slot (name := Str.ofString "__next__") hit.typeIs slot_listiter_next (wpAny_call_entry slot_listiter_next hit.typeIs entry_listiter_next ?_ (args_listiter_next _))))
  show wpAny _ _ (field (.ref it) 0 >>= _) _ _ s
  refine wpAny_bind (wpAny_field ho hd (x := .ref l) rfl ?_)
  rw [if_neg (show ¬ ((Value.ref l == Value.none) = true) from Bool.false_ne_true)]
  refine wpAny_bind (wpAny_field ho hd (x := .int i 0) rfl (wpAny_bind (wpAny_seqItems hol hdl ?_)))
  simp only [Int.toNat_natCast, hx]
  refine wpAny_bind (wpAny_rule (wpAny_bind (wpAny_setField ho hd (by simp) ?_)))
  obtain ⟨hh, o1, vs1, g1, d1, c1⟩ := hot
  refine stop_hot (k := fun e => raiseNew e) rfl (fun _ => rfl) ⟨hh, o1, vs1, (Heap.get?_update_other _ _ ne.symm).trans g1, d1, c1⟩ fun h' kp => hQ h' fun b ob hb e => kp b ob ((Heap.get?_update_other _ _ (Ne.symm hb)).trans e)
theorem tuple_end {it l x1 : Addr} {i : Nat} {items : Array Value} {Q : Option Value → Shared → Prop} (hot : HotAt A x1 s.heap) (ne : x1 ≠ it) (hit : s.heap.IsTupleIter it l i) (hl : s.heap.IsTuple l items) (hx : items[i]? = none)
    (hQ : ∀ h', Heap.ExtBut it s.heap h' → Q none { s with heap := h' }) : wpAny (model prog w) A (pyNext (.ref it)) Q E s := by
  obtain ⟨o, ho, hc, hd⟩ := id hit
  obtain ⟨ol, hol, _, nl, hdl⟩ := hl
  unfold pyNext
  refine wpAny_bind (wpAny_attempt (wpAny_callSpecial?_slot (name := Str.ofString "__next__") hit.typeIs F.slot_tuple_iterator_next (wpAny_call_entry F.slot_tuple_iterator_next hit.typeIs F.entry_tuple_iterator_next ?_ (F.args_tuple_iterator_next_1 _))))
  show wpAny _ _ (field (.ref it) 0 >>= _) _ _ s
  refine wpAny_bind (wpAny_field ho hd (x := .ref l) rfl ?_)
  rw [if_neg (show ¬ ((Value.ref l == Value.none) = true) from Bool.false_ne_true)]
  refine wpAny_bind (wpAny_field ho hd (x := .int i 0) rfl (wpAny_bind (wpAny_seqItems hol hdl ?_)))
  simp only [Int.toNat_natCast, hx]
  refine wpAny_bind (wpAny_rule (wpAny_bind (wpAny_setField ho hd (by simp) ?_)))
  obtain ⟨hh, o1, vs1, g1, d1, c1⟩ := hot
  refine stop_hot (k := fun e => raiseNew e) rfl (fun _ => rfl) ⟨hh, o1, vs1, (Heap.get?_update_other _ _ ne.symm).trans g1, d1, c1⟩ fun h' kp => hQ h' fun b ob hb e => kp b ob ((Heap.get?_update_other _ _ (Ne.symm hb)).trans e)
end
/-! ### walks -/
section
variable {P : Program} {w : World} {K : PySem.W.Frag} {tg : Expr}
theorem hot_of {X : Cx} {pins : List (Addr × Obj)} {σ : L2.St} {H : Hp} {s : Shared} {it : Addr} (hc : HotC X) (I : Inv X pins σ H s) (hf : FpOk X pins H it) : ∃ x1, HotAt X.A x1 s.heap ∧ x1 ≠ it := by
  obtain ⟨p, ⟨hh, v1, e1, c1⟩, hp⟩ := hc
  exact ⟨p.1, ⟨hh, p.2, v1, (I.pin p (List.mem_append_left _ hp)).1, e1, c1⟩, hf.2.2.2.2.2 p (List.mem_append_left _ hp)⟩
theorem turnL (a it : Addr) : TurnH P w K tg (Itl K a) [it] it (fun i h => h.IsListIter it a i) :=
  let T : Turn P w K tg (Itl K a) [it] it (fun i h => h.IsListIter it a i) := turn_list a it
  { mem := T.mem, obj := T.obj, keep := T.keep, self := T.self
    item := fun X hP hw hK hc i pins s σ H E I hf st ⟨xs, x, hq, hx⟩ => by
      subst hP hw hK
      obtain ⟨f0, f1, f2, f3, f4, f5⟩ := hf it (List.mem_singleton.mpr rfl)
      obtain ⟨its, rv, p, _⟩ := I.list hq
      obtain ⟨u, hu, ru⟩ := rv.get hx
      refine wpAny_pyNext_list_item st p.isList (x := u) (by simpa using hu) fun h' st' sb => ?_
      have I1 := I.turned (t' := s.toks) (fun b o hb e => (sb.2 b hb).trans e) f0 f1 f3 f4 f5
      obtain ⟨o, e, c, d⟩ := id st'
      exact ⟨u, rfl, go_of (s := { s with heap := h' }) e c d (by decide) ⟨x, H, I1, ru, ⟨rfl, fun ys hy => (congrArg (·[i]?) (I.list_inj hy hq)).trans hx⟩, st', fun b hb => (hf b hb).1⟩⟩
    done := fun X hP hw hK hc i pins s σ H E I hf st ⟨xs, hq, hx⟩ => by
      subst hP hw hK
      have ff := hf it (List.mem_singleton.mpr rfl)
      obtain ⟨f0, f1, f2, f3, f4, f5⟩ := id ff
      obtain ⟨its, rv, p, _⟩ := I.list hq
      obtain ⟨x1, hot, ne⟩ := hot_of hc I ff
      have hl := rv.length
      exact list_end hot ne st p.isList (by simp; omega) fun h' eb => ⟨rfl, I.turned (t' := s.toks) (fun b o hb e => eb b o hb e) f0 f1 f3 f4 f5⟩ }
theorem turnT (a it : Addr) : TurnH P w K tg (Itt K a) [it] it (fun i h => h.IsTupleIter it a i) :=
  let T : Turn P w K tg (Itt K a) [it] it (fun i h => h.IsTupleIter it a i) := turn_tuple a it
  { mem := T.mem, obj := T.obj, keep := T.keep, self := T.self
    item := fun X hP hw hK hc i pins s σ H E I hf st ⟨xs, x, hq, hx⟩ => by
      subst hP hw hK
      obtain ⟨f0, f1, f2, f3, f4, f5⟩ := hf it (List.mem_singleton.mpr rfl)
      obtain ⟨its, rv, p, _⟩ := I.tuple hq
      obtain ⟨u, hu, ru⟩ := rv.get hx
      refine wpAny_pyNext_tuple_item st (show s.heap.IsTuple a its.toArray from p) (x := u) (by simpa using hu) fun h' st' sb => ?_
      have I1 := I.turned (t' := s.toks) (fun b o hb e => (sb.2 b hb).trans e) f0 f1 f3 f4 f5
      obtain ⟨o, e, c, d⟩ := id st'
      exact ⟨u, rfl, go_of (s := { s with heap := h' }) e c d (by decide) ⟨x, H, I1, ru, ⟨rfl, fun ys hy => (congrArg (·[i]?) (I.tuple_inj hy hq)).trans hx⟩, st', fun b hb => (hf b hb).1⟩⟩
    done := fun X hP hw hK hc i pins s σ H E I hf st ⟨xs, hq, hx⟩ => by
      subst hP hw hK
      have ff := hf it (List.mem_singleton.mpr rfl)
      obtain ⟨f0, f1, f2, f3, f4, f5⟩ := id ff
      obtain ⟨its, rv, p, _⟩ := I.tuple hq
      obtain ⟨x1, hot, ne⟩ := hot_of hc I ff
      have hl := rv.length
      exact tuple_end hot ne st (show s.heap.IsTuple a its.toArray from p) (by simp; omega) fun h' eb => ⟨rfl, I.turned (t' := s.toks) (fun b o hb e => eb b o hb e) f0 f1 f3 f4 f5⟩ }
end
section
variable {X : Cx} {tg l : Expr} {tl : TE}
theorem pi_listH (hl : PE X l tl) : PIH X tg l (iList X.K tl) := ⟨fun pins s σ H R I h => thn (hl.run pins s σ H _ I h) fun v s1 ⟨x, H1, I1, r1, a, e, ⟨xs, hq⟩, q⟩ => by
  subst e
  cases r1
  obtain ⟨its, rv, p, _⟩ := I1.list hq
  exact wpAny_pyIter_list p.isList ⟨s1.heap.objs.size, [s1.heap.objs.size], _, _, H1, rfl, I1.kept (t' := s1.toks) fun b o e => Heap.get?_push_of_some _ e, turnL a _, ⟨_, Heap.get?_push_size _ rfl, rfl, rfl⟩, fun b hb => by
    rw [List.mem_singleton.mp hb]
    exact I1.fpOk (Nat.le_refl _) (I1.hok.fresh (Nat.le_refl _)), q⟩⟩
theorem pi_tupH (hl : PE X l tl) : PIH X tg l (iTup X.K tl) := ⟨fun pins s σ H R I h => thn (hl.run pins s σ H _ I h) fun v s1 ⟨x, H1, I1, r1, a, e, ⟨xs, hq⟩, q⟩ => by
  subst e
  cases r1
  obtain ⟨its, rv, p, _⟩ := I1.tuple hq
  exact wpAny_pyIter_tuple (show s1.heap.IsTuple a its.toArray from p) ⟨s1.heap.objs.size, [s1.heap.objs.size], _, _, H1, rfl, I1.kept (t' := s1.toks) fun b o e => Heap.get?_push_of_some _ e, turnT a _, ⟨_, Heap.get?_push_size _ rfl, rfl, rfl⟩, fun b hb => by
    rw [List.mem_singleton.mp hb]
    exact I1.fpOk (Nat.le_refl _) (I1.hok.fresh (Nat.le_refl _)), q⟩⟩
end
/-! ### the block -/
/-- a comprehension's block whose pins stay -/
abbrev blkP (X : Cx) (s : Shared) (H : Hp) (scope : Scope) (cenv : Env) (fp : List Addr) : Cx := { X.blk s H scope cenv fp with pn := X.pn }
theorem toP {X : Cx} {s0 : Shared} {H0 : Hp} {scope : Scope} {cenv : Env} {fp : List Addr} {pins : List (Addr × Obj)} {σ : L2.St} {H : Hp} {s : Shared} (I : Inv (X.blk s0 H0 scope cenv fp) pins σ H s)
    (hp : ∀ p ∈ X.pn, s.heap.get? p.1 = some p.2 ∧ H p.1 = none ∧ p.1 ≠ cenv.locals ∧ p.1 ∉ frs X.stack ∧ ∀ v, p.2.data ≠ .cell v) : Inv (blkP X s0 H0 scope cenv fp) pins σ H s :=
  let o := I.ok
  { ok := ⟨o.mod, o.kind, o.glob, o.blt, o.above, o.inj, o.has, o.cab, o.hd, o.frames, o.stk, o.exf, o.bs, o.bsz, o.noex, o.exfs, o.funs, o.frf⟩
    os := I.os, bare := I.bare, base := I.base, loc := I.loc, cell := I.cell, free := I.free, freeC := I.freeC, hok := I.hok, len := I.len
    pin := fun p h => (List.mem_append.mp h).elim (hp p) fun h => I.pin p (List.mem_append_right _ h) }
/-- [elt for target in iter], an exception being handled -/
theorem pe_lcH {X : Cx} {elt tg iter : Expr} {scope : Scope} {own : List (Str × Nat)} {pos : Pos} {wi : TI} {g : TG} {te : TE} (hc : HotC X) (hN : X.N.Nodup) (hi : PIH X tg iter wi) (ok : BlkOk X.N X.env.scope scope own)
    (hg : ∀ (s : Shared) (H : Hp) (C : Addr) (cl : List (Str × Addr)) (fp : List Addr), PG (blkP X s H scope (compEnvC scope cl C X.env) fp) tg g)
    (he : ∀ (s : Shared) (H : Hp) (C : Addr) (cl : List (Str × Addr)) (fp : List Addr), PE (blkP X s H scope (compEnvC scope cl C X.env) fp) elt te) (hs : ∀ x, foldedSetIterable iter X.env x = pure x := by intro _; rfl) :
    PE X (.ListComp elt [⟨tg, iter, [], 0⟩] scope pos) (tLc wi g tYes te (own.map (·.2))) := by
  refine ⟨fun pins s σ H Q I h => ?_⟩
  have free : ∀ y ∈ scope.names, y.2 = .free → ∃ c, X.env.cells.lookup y.1 = some c := fun y hy e => I.ok.has _ ((ok.free y hy e).imp (fun k => k) fun k => k)
  rw [eval_ListComp]
  refine wpAny_comprehension_free (use := none) rfl hs (closure_ok free) ok.kind (fun y hy e => (ok.uniq y hy).trans (congrArg some e)) (thn (hi.run pins s σ H _ I h) fun _ s1 h1 => thn h1 fun _ s2 ⟨it, fp, tn, J, H2, e, I2, T, st2, f2, q⟩ => ?_)
  subst e
  refine wpAny_newObj_type (newEnv_comp ?_) (Nat.zero_le sizeLine)
  -- the new list stands at D
  obtain ⟨W, ⟨m0, w0⟩, turn⟩ := q _ (I2.hok.fresh (Nat.le_refl s2.heap.objs.size))
  have I3 : Inv X pins σ (upd H2 s2.heap.objs.size (.lst [])) { s2 with heap := s2.heap.push { cls := .type "list", data := .seq ([] : List Value).toArray } } :=
    I2.laid (t' := s2.toks) (fun b o e => Heap.get?_push_of_some _ e) (Nat.le_refl _) ⟨Nat.zero_le _, [], 0, .nil, Heap.get?_push_size _ rfl⟩
  have below : ∀ b ∈ fp, b < s2.heap.objs.size := fun b hb => by
    obtain ⟨o, e, _⟩ := T.obj _ _ st2 b hb
    exact Heap.lt_size e
  have f3 : ∀ b ∈ fp, FpOk X pins (upd H2 s2.heap.objs.size (.lst [])) b ∧ b < ({ s2 with heap := s2.heap.push { cls := .type "list", data := .seq ([] : List Value).toArray } } : Shared).heap.objs.size := fun b hb =>
    ⟨⟨(upd_ne (Nat.ne_of_lt (below b hb))).trans (f2 b hb).1, (f2 b hb).2⟩, by rw [Heap.size_push]; exact Nat.lt_succ_of_lt (below b hb)⟩
  have st3 : tn 0 ({ s2 with heap := s2.heap.push { cls := .type "list", data := .seq ([] : List Value).toArray } } : Shared).heap := T.keep _ _ _ st2 fun b _ o e => Heap.get?_push_of_some _ e
  generalize hD : s2.heap.objs.size = D at turn I3 f3 st3 w0 ⊢
  generalize hs3 : ({ s2 with heap := s2.heap.push { cls := .type "list", data := .seq ([] : List Value).toArray } } : Shared) = s3 at I3 f3 st3
  have B0 := block_start I3 ok hN f3
  have pg := hg s3 (upd H2 D (.lst [])) s3.heap.objs.size (cellsFrom (s3.heap.objs.size + 1) scope.names (cloFrom X.env.cells scope.names [])) fp
  have pe := he s3 (upd H2 D (.lst [])) s3.heap.objs.size (cellsFrom (s3.heap.objs.size + 1) scope.names (cloFrom X.env.cells scope.names [])) fp
  show codeAny _ _ (.compStart (.ListComp elt [⟨tg, iter, [], 0⟩] scope pos) 0 (.ref it) (.ref D) (compEnvC scope (cellsFrom (s3.heap.objs.size + 1) scope.names (cloFrom X.env.cells scope.names [])) s3.heap.objs.size X.env)) (compPost (model X.prog X.w) X.A X.xe none (EP X pins σ Q) (.ref D) s3.heap.objs.size) { s3 with heap := pushCells (s3.heap.push { cls := .type "dict", data := .dict #[] }) scope.names }
  have cL : (compEnvC scope (cellsFrom (s3.heap.objs.size + 1) scope.names (cloFrom X.env.cells scope.names [])) s3.heap.objs.size X.env).locals = s3.heap.objs.size := rfl
  generalize compEnvC scope (cellsFrom (s3.heap.objs.size + 1) scope.names (cloFrom X.env.cells scope.names [])) s3.heap.objs.size X.env = ce at B0 pg pe cL ⊢
  have B := toP B0 fun p hp => by
    obtain ⟨g1, g2, g3, g4, g5⟩ := I3.pin p (List.mem_append_left _ hp)
    exact ⟨pushCells_keeps _ _ _ _ (Heap.get?_push_of_some _ g1), g2, by rw [cL]; exact Nat.ne_of_lt (Heap.lt_size g1), fun hm => (List.mem_cons.mp (I3.stkSub p.1 hm)).elim g3 g4, g5⟩
  have st4 : tn 0 ({ s3 with heap := pushCells (s3.heap.push { cls := .type "dict", data := .dict #[] }) scope.names } : Shared).heap := T.keep _ _ _ st3 fun b _ o e => pushCells_keeps _ _ _ _ (Heap.get?_push_of_some _ e)
  generalize ({ s3 with heap := pushCells (s3.heap.push { cls := .type "dict", data := .dict #[] }) scope.names } : Shared) = s4 at B st4 ⊢
  have fpk : ∀ {σ' : L2.St} {H' : Hp} {s' : Shared}, Inv (blkP X s3 (upd H2 D (.lst [])) scope ce fp) [] σ' H' s' → (∀ b ∈ fp, H' b = none) → ∀ b ∈ fp, FpOk (blkP X s3 (upd H2 D (.lst [])) scope ce fp) [] H' b := fun I' hn b hb =>
    ⟨hn b hb, (I'.ok.exf b hb).1, I'.ok.exfs b hb, .inl hb, (I'.ok.exf b hb).2, fun p hp => (f3 b hb).1.2.2.2.2.2 p (List.mem_append_left _ (by rw [List.append_nil] at hp; exact hp))⟩
  have L : codeAny (model X.prog X.w) X.A (.compLoop (.ListComp elt [⟨tg, iter, [], 0⟩] scope pos) 0 (.ref it) (.ref D) ce) (compPost (model X.prog X.w) X.A X.xe none (EP X pins σ Q) (.ref D) s3.heap.objs.size) s4 := by
    refine compLoop_any (fun n s' => ∃ i H', Inv (blkP X s3 (upd H2 D (.lst [])) scope ce fp) [] (wipe σ (own.map (·.2))) H' s' ∧ tn i s'.heap ∧ (∀ b ∈ fp, H' b = none) ∧ W i n H') ?_ m0 ⟨0, _, B, st4, fun b hb => (f3 b hb).1.1, w0⟩
    rintro n s5 ⟨i, H5, I5, st5, n5, w5⟩
    rcases turn i n H5 w5 with ⟨stop, done⟩ | ⟨go, Nx, next, step⟩
    · refine thnF (T.done (blkP X s3 (upd H2 D (.lst [])) scope ce fp) rfl rfl rfl hc i [] s5 _ H5 (fun _ _ => False) I5 (fpk I5 n5) st5 stop) fun r s6 ⟨hr, I6⟩ => ?_
      subst hr
      obtain ⟨m, hn, _⟩ := I6.loc
      have hn : s6.heap.Ns ce.locals m := hn
      have nC : H5 ce.locals = none := I6.free
      rw [cL] at hn nC
      obtain ⟨f0, f1, f2', f4, f5, f6⟩ := I3.fpOk (H' := H5) (Nat.le_refl _) nC
      have I7 : Inv X pins σ H5 s6 := I3.call' (ch := fp) I6.os I6.base I6.hok I6.bare fun b hb =>
        let ⟨_, a1, a2, a3, a4, a5⟩ := (f3 b hb).1
        ⟨a3, a1, a4, a5⟩
      exact ⟨m, hn, fun h' sb => ⟨.ref D, H5, I7.turned (t' := s6.toks) (fun b o hb e => (sb.2 b hb).trans e) f0 f1 f4 f5 f6, rfl, done⟩⟩
    · refine thnF (T.item (blkP X s3 (upd H2 D (.lst [])) scope ce fp) rfl rfl rfl hc i [] s5 _ H5 (fun _ _ => False) I5 (fpk I5 n5) st5 go) fun r s6 ⟨u, hr, h6⟩ => ?_
      subst hr
      refine thnF h6 fun _ s7 ⟨x, H7, I7, r7, y7, st7, n7⟩ => ?_
      refine thnF (pg.run _ s7 _ H7 x u _ (I7.pinned (fpk I7 n7) (T.obj _ _ st7)) r7 (step x H7 y7)) fun _ s8 ⟨σ8, H8, I8, hw, q8⟩ => ?_
      refine wpAny_tests_nil ?_
      have q8 : te σ8 H8 fun y H4 => ∃ acc, H4 D = some (.lst acc) ∧ acc.length < sizeLine ∧ Nx (upd H4 D (.lst (acc ++ [y]))) := q8
      refine thnF (pe.run _ s8 σ8 H8 _ I8 q8) fun z s9 ⟨yv, H9, I9, r9, acc, hD9, hz9, nx⟩ => ?_
      refine app_ok (X := blkP X s3 (upd H2 D (.lst [])) scope ce fp) I9 hD9 hz9 r9 fun s10 I10 => ?_
      obtain ⟨m', hm, w'⟩ := next _ nx
      have kept : ∀ b ∈ fp, ∀ o, s7.heap.get? b = some o → s10.heap.get? b = some o ∧ (upd H9 D (.lst (acc ++ [yv]))) b = none := fun b hb o e =>
        let z := I10.pin (b, o) (List.mem_append_right _ (List.mem_append_right _ (mem_pinsAt hb e)))
        ⟨z.1, z.2.1⟩
      refine ⟨m', hm, i + 1, _, (I10.unpinned (pins := [])).weak (by rw [← hw, wipe_length]) (fun j v e => ?_), T.keep _ _ _ st7 fun b hb o e => (kept b hb o e).1, fun b hb => ?_, w'⟩
      · rw [← hw] at e
        exact (wipe_some e).1
      · obtain ⟨o, e, _⟩ := T.obj _ _ st7 b hb
        exact (kept b hb o e).2
  exact codeAny_compStart_list L (T.self X.A 0 _ _ _ st4 L)
end OwnHot
/-! Own exceptions with a known context: what is raised by an own class, told so that a suite may call defs. -/
namespace OwnExN
open PySem PySem.Spec PyProof.Rows L2
section
variable {X : Cx} {CX : CXT} {x : Str} {C fI : Addr} {k : Nat} {fd : FuncData} {ps : List Str} {sp : Sp} {e : Expr} {es : List Expr} {ta : TA} {p pos : Pos}
/-- an own exception's call, its __init__ a def of one promise: what stands behind it -/
theorem raised_new {pins : List (Addr × Obj)} {σ : L2.St} {H1 : Hp} {s1 : Shared} {us : List Value} {vs : List V} {Q : XK} (T : OexC X.K C) (iC : PySem.W.findIn X.K (.ref C) "__init__" = some (some (.ref fI))) (tI : PySem.W.typeIn X.K (.ref fI) = some (.type "function"))
    (F1 : FnOk X.prog X.w X.K X.mg X.base CX k fI fd ps sp) (hr : Room (k + 1) X.A) (hb : Binds X.K fd ps []) (hx : Passes CX X (fun _ _ _ => False)) (I1 : Inv X pins σ H1 s1) (r1 : Vals vs us) (hz : vs.length ≤ 1000)
    (h : ∀ a, H1 a = none → sp (.ref a :: vs) (upd H1 a (exo a C none)) (fun v H2 => v = .non ∧ ∃ (d : Addr) (fs : List (Str × V)), H2 a = some (exo a C (some d)) ∧ H2 d = some (exd d fs) ∧ H1 d = none ∧ Q (.ref C) (some d) (upd (del H2 a) d (.xd fs))) (fun _ _ _ => False)) :
    wpAny (model X.prog X.w) X.A (call (.ref C) us) (L2N.MkP X pins σ Q) X.xe s1 := by
  obtain ⟨_, _, _, _, bm, _, _, _, _, _, _, _, _, _, _, inK, bmOk⟩ := T.cls
  have small : us.length ≤ sizeLine := Nat.le_trans (Nat.le_of_eq (Paired.length r1).symm) (Nat.le_trans hz (by decide))
  cases s1 with | mk hp g dr tk os =>
  -- the address of the new exception; what it promises there
  have q := h (hp.objs.size + 1) (I1.hok.fresh (Nat.le_succ _))
  have args : Vals (V.ref (hp.objs.size + 1) :: vs) (Value.ref (hp.objs.size + 1) :: us) := .cons rfl r1
  have J := I1.laid (t' := tk) (a := hp.objs.size + 1) (o := exo (hp.objs.size + 1) C none) (h' := (hp.push (PySem.W.kdv_tup us)).push (PySem.HandSPX.excO C hp.objs.size)) (fun b o z => Heap.get?_push_of_some _ (Heap.get?_push_of_some _ z)) (Nat.le_succ _) (exo_ok (by heap_get))
  have bd := hb _ (Value.ref (hp.objs.size + 1) :: us) J.kIn (by rw [List.append_nil]; exact args.length.symm.trans (F1.len _ _ _ _ q))
  rw [List.append_nil] at bd
  refine wpAny_call (PySem.HandSPX.call_own F.excBase_ValueError (PySem.HandSPX.refsVE_contains · bm bmOk) (I1.kIn _ _ inK) (PySem.W.looks_findIn I1.kIn iC) (fun self => PySem.W.bind_fn I1.kIn self tI) small ?_)
  refine codeAny_mono (F1.run _ X.stack _ _ ⟨Value.ref (hp.objs.size + 1) :: us, []⟩ _ _ _ (fun _ _ _ => False) (hr.make C us []) (J.env0.make C us []) bd args q) ?_
  rintro (er | fl) s' z
  · exact hx pins σ _ _ er s' J z
  · cases fl with
    | ret u =>
      obtain ⟨v, H2, o1, o2, o3, o4, rv, ev, d, fs, m1, m2, m3, fin⟩ := z
      subst ev
      cases s' with | mk h2 g2 d2 t2 os' =>
      obtain ⟨t0, G, JG, kG, nG, at2, free⟩ := mk_end0 (d2 := d2) (t2 := t2) I1 (Nat.le_succ _) (fun b o z => Heap.get?_push_of_some _ (Heap.get?_push_of_some _ z)) o3 o4 o1 o2 m1 m2 m3
      exact ⟨rv, hp.objs.size + 1, _, _, ⟨G, g2, d2, t2, os'⟩, _, .ref C, some d, rfl, JG, kG, nG, at2, ⟨rfl, rfl, fun vs hv => by cases hv; rfl⟩, rfl, rfl, free, rfl, o2, raises_own T.exC T.tyC, fin⟩
    | next => exact z.elim
    | brk => exact z.elim
    | cont => exact z.elim
theorem pmk_oexN (T : OexC X.K C) (iC : PySem.W.findIn X.K (.ref C) "__init__" = some (some (.ref fI))) (tI : PySem.W.typeIn X.K (.ref fI) = some (.type "function"))
    (F1 : FnOk X.prog X.w X.K X.mg X.base CX k fI fd ps sp) (hr : Room (k + 1) X.A) (hb : Binds X.K fd ps []) (hx : Passes CX X (fun _ _ _ => False)) (hg : Gl X x) (hm : X.mg x = some (.ref C)) (ha : PA X (e :: es) ta)
    (hdb : (x == ("__debug__" : Str)) = false := by decide) (he : starEach (e :: es) X.env = (false, eval e X.env) :: starEach es X.env := by rfl) (hpl : (backTo pos (starEach es X.env)).any (·.1) = false := by rfl) :
    L2N.PMk X (.Call (.Name x p) (e :: es) [] pos) (tMkO C sp [] ta) := fun pins s σ H Q I h =>
  wpAny_Call_Name_kw (ld_glob I hg hm (PySem.W.callWith_K (h₀ := X.base) I.ok.mod.kin T.kC (thn (ha.run pos pins s σ H _ I h) fun us s1 ⟨vs, H1, I1, r1, hz, q1⟩ => ⟨I1.kIn, raised_new T iC tI F1 hr hb hx I1 r1 hz fun a n => by
    have z := q1 a n
    rw [List.append_nil] at z
    exact z⟩) he hpl) hdb)
end
theorem passN {X : Cx} : Passes (L2N.CX X.prog X.w) X E0 := fun _ _ _ _ _ _ _ h => by
  obtain ⟨_, _, _, _, _, _, _, _, _, _, _, _, z⟩ := h
  exact z.elim
theorem takesN0 {X : Cx} : L2N.Takes X (fun _ _ _ _ => False) := fun _ _ x => by
  obtain ⟨_, _, _, _, _, _, _, _, _, _, _, _, _, _, _, _, z⟩ := x
  exact z.elim
/-- the rule of a def that may raise, the exception's context known -/
theorem okN {P : Program} {w : World} {K : PySem.W.Frag} {mg : Str → Option Value} {base : Heap} {x qual : Str} {st : Stmt} {f : Addr} {fd : FuncData} {N ps : List Str} {k : Nat} {sp : Sp} (F : Fun K x qual st f fd) (S : FnScope N ps (defScope st)) (len : ∀ vs H Q E, sp vs H Q E → vs.length = ps.length)
    (hbody : ∀ (cdv : Value) (A : Around) (outer : List Env) (s : Shared) (H : Hp) (vs : List V) (Q : VK) (E : XK), Room k (A.deeper (envOfC qual (defScope st) s.heap.objs.size f cdv)) → sp vs H Q E →
      ∃ t, PSs (cxOf (L2N.CX P w) P w K mg base N qual (defScope st) f cdv A outer s H E) (defBody st) t ∧ t { nx := fun _ H' => Q .non H', rt := Q } (L2.start N vs) H) : FnOk P w K mg base (L2N.CX P w) (k + 1) f fd ps sp :=
  match F.ex with
  | ⟨_, _, _, _, _, _, _, _, _, e, lk, hcd⟩ => e ▸ fn_of (e ▸ lk) hcd S len fun A outer s H vs Q E hr hsp => hbody _ A outer s H vs Q E hr hsp
end OwnExN
/-! Rules of our own: len of an own instance; a try with several handlers, named or not. -/
namespace OwnProj
open PySem PySem.Spec PyProof.Rows L2
section
variable {X : Cx} {CX : CXT} {n : Nat} {f C : Addr} {fd : FuncData} {ps : List Str} {sp : Sp} {E : XK}
/-- len(x) by the class's own __len__ -/
def rLenO (C : Addr) (sp : Sp) (E : XK) : List V → Hp → VK → Prop := fun xs H Q => ∃ a dx fs, xs = [.ref a] ∧ H a = some (.ins C dx fs) ∧ sp [.ref a] H (fun v H' => ∃ k : Nat, v = .int k ∧ k < 2 ^ 62 ∧ Q v H') E
theorem call_lenO (F : FnOk X.prog X.w X.K X.mg X.base CX n f fd ps sp) (hr : Room (n + 1) X.A) (m : Meth X.K C "__len__" f) (hb : Binds X.K fd ps []) (hx : Passes CX X E) : CallR X (.builtin "len") (rLenO C sp E) := by
  rintro pins s σ H xs us Q I r ⟨a, dx, fs, rfl, ha, hq⟩
  obtain ⟨u, rfl, rx⟩ := vals1 r
  cases rx
  obtain ⟨mA, J, _⟩ := ins_get I.hok ha
  obtain ⟨od, J, _⟩ := J.look
  obtain ⟨m0, hF⟩ := I.fr
  have args : Vals [V.ref a] [Value.ref a] := .cons rfl .nil
  have bd := hb s [Value.ref a] I.kIn (by rw [List.append_nil]; exact args.length.symm.trans (F.len _ _ _ _ hq))
  rw [List.append_nil] at bd
  refine PySem.W.len_K hF I.ok.mod.kin J m.at_ m.fn (wpAny_call (codeAny_mono (F.run X.A.in1 X.stack s H ⟨[Value.ref a], []⟩ _ _ _ E hr.in1 I.env0.in1 bd args hq) ?_))
  rintro (e | fl) s' z
  · exact hx pins σ H s e s' I z
  · cases fl with
    | ret u =>
      obtain ⟨v, H', I', rv, k, ev, hk, q⟩ := I.after z
      subst ev
      obtain ⟨t, rfl⟩ := rv
      refine ⟨⟨by omega, by omega⟩, ?_⟩
      exact ⟨.int k, H', I'.tok _, ⟨_, rfl⟩, q⟩
    | next => exact z.elim
    | brk => exact z.elim
    | cont => exact z.elim
end
/-! ### several handlers, some with a name -/
structure HdD where
  c : Value
  i : Option Nat
  ts : Addr → Value → Option Addr → TS
def endsAt (D : Ends) : Option Nat → Ends
  | none => D
  | some i => { nx := fun σ' H' => D.nx (σ'.set i none) H', rt := D.rt, bk := fun σ' H' => D.bk (σ'.set i none) H', ct := fun σ' H' => D.ct (σ'.set i none) H' }
def slotAt (σ : L2.St) (a : Addr) : Option Nat → L2.St
  | none => σ
  | some i => σ.set i (some (.ref a))
/-- what is wished of a body's exception: the first handler that takes it -/
def wHds (K : PySem.W.Frag) (Wout : WX) (D : Ends) : List HdD → WX
  | [] => Wout
  | h :: r => fun cls d σ H => ∃ b, PySem.W.exmOne K cls h.c = some b ∧ (b = true → ∀ a, H a = none → h.ts a cls d (endsAt D h.i) (slotAt σ a h.i) H) ∧ (b = false → wHds K Wout D r cls d σ H)
inductive Hds (X : Cx) : List ExceptHandler → List HdD → Prop
  | nil : Hds X [] []
  | bare {x : Str} {c : Value} {ts : Addr → Value → Option Addr → TS} {b₀ : Stmt} {suite : List Stmt} {np pos' : Pos} {hds : List ExceptHandler} {l : List HdD} (hc : Names X x c)
      (su : ∀ (ea : Addr) (oe : Obj) (cls : Value) (d : Option Addr) (pn : List (Addr × Obj)), L2N.Zn cls d oe → (∃ vs, oe.data = .fields vs) → PSs (X.suite ea ((ea, oe) :: pn)) (b₀ :: suite) (ts ea cls d)) (r : Hds X hds l) :
      Hds X (.ExceptHandler (some (.Name x np)) none (b₀ :: suite) pos' :: hds) (⟨c, none, ts⟩ :: l)
  | named {x n : Str} {c : Value} {i : Nat} {ts : Addr → Value → Option Addr → TS} {b₀ : Stmt} {suite : List Stmt} {np pos' : Pos} {hds : List ExceptHandler} {l : List HdD} (hN : X.N.Nodup) (hi : X.N[i]? = some n) (hn : X.env.kindOf n = some .local) (hc : Names X x c)
      (su : ∀ (ea : Addr) (oe : Obj) (cls : Value) (d : Option Addr) (pn : List (Addr × Obj)), L2N.Zn cls d oe → (∃ vs, oe.data = .fields vs) → PSs (X.suite ea ((ea, oe) :: pn)) (b₀ :: suite) (ts ea cls d)) (r : Hds X hds l) :
      Hds X (.ExceptHandler (some (.Name x np)) (some n) (b₀ :: suite) pos' :: hds) (⟨c, some i, ts⟩ :: l)
section
variable {X : Cx} {body : List Stmt} {h₀ : ExceptHandler} {hds : List ExceptHandler} {l : List HdD} {pos : Pos} {tb : WX → TS} {Wout : WX}
/-- where an exception has landed in our frame: the handlers in their order -/
theorem hds_run {pins : List (Addr × Obj)} {σ : L2.St} {H : Hp} {D : Ends} {ea : Addr} {B : Heap} {sI : Shared} {cls : Value} {d : Option Addr} {s : Shared} {h3 : Heap} (own : X.stack = X.env :: X.outer) (fr : X.env.frame = some X.env.locals) (tk : L2N.Takes X Wout) (ok : X.Ok)
    (J : Inv X pins σ H sI) (nb : ∀ b o, sI.heap.get? b = some o → b ∉ frs X.stack → B.get? b = some o) (up3 : sI.heap.UpToSlots h3) (fl3 : HandSPX.FlyingZ B (X.env :: X.outer) ea (L2N.Zn cls d) h3) (na : H ea = none) (os : s.os = sI.os) (ag : AllBare s.gens) :
    ∀ {hds : List ExceptHandler} {l : List HdD}, Hds X hds l → wHds X.K Wout D l cls d σ H → wpAny (model X.prog X.w) X.A (handleBy (.ref ea) X.env hds) (SP X pins D) X.xe { s with heap := h3 } := by
  have landed : ∀ {h : Heap}, HandSPX.FlyingZ B (X.env :: X.outer) ea (L2N.Zn cls d) h → sI.heap.UpToSlots h → Inv X pins σ H { s with heap := h } := fun fl up => J.landed nb fl.1 up os ag
  obtain ⟨oe3, vs3, he3, hz3, hd3⟩ := fl3.there
  have apart : ea ∉ frs (X.env :: X.outer) := fun hm => by
    obtain ⟨_, o, at1, no⟩ := fl3.2.2.1.mem hm
    rw [he3] at at1
    cases at1
    exact no _ hd3
  have n1 : ea ≠ X.env.locals := fun z => apart (List.mem_filterMap.mpr ⟨X.env, List.mem_cons_self, by rw [fr, z]⟩)
  have n2 : ea ∉ X.fs := fun hm => let ⟨e, he, q⟩ := List.mem_filterMap.mp hm; apart (List.mem_filterMap.mpr ⟨e, List.mem_cons_of_mem _ he, q⟩)
  have I3 := (landed fl3 up3).suite he3 hd3 na n1 n2
  -- a handler's test
  have asks : ∀ {x : Str} {c : Value} {np : Pos} {b : Bool} {Qs : Bool → Shared → Prop} {Es Et : Value → Shared → Prop}, Names X x c → PySem.W.exmOne X.K cls c = some b → Qs b { s with heap := h3 } →
      wpAny (model X.prog X.w) (X.A.mark (some (.ref ea))) (eval (.Name x np) X.env) (fun t s' => wpAny (model X.prog X.w) (X.A.mark (some (.ref ea))) (excMatches (.ref ea) t) Qs Es s') Et { s with heap := h3 } := fun {x c np b Qs Es Et} hc hb q => by
    have kind : PySem.W.Looks (model X.prog X.w) h3 (typeOf (.ref ea)) cls := fun A Q E s k q => wpAny_typeOf_ref (k _ _ he3) (by rw [hz3.1]; exact q)
    have m := PySem.W.exm_one (M := model X.prog X.w) I3.kIn kind hb
    obtain ⟨hg, hdbg, hm | ⟨hm, hv, hnn⟩⟩ := hc
    · exact ld_glob (X := X.suite ea ((ea, oe3) :: (X.pn ++ pins))) I3 hg hm (m.here q) hdbg
    · exact ld_blt (X := X.suite ea ((ea, oe3) :: (X.pn ++ pins))) I3 hg hm hv (m.here q) hnn hdbg
  intro hds l hk
  induction hk with
  | nil =>
    intro out
    refine wpAny_handleBy_nil ?_
    obtain ⟨_, _, _, _, _, T, _, _, at1, _, data, head, _⟩ := id fl3
    have flies : wpAny (model X.prog X.w) X.A (setFlight (.ref ea) X.env.frame) (fun _ s4 => wpAny (model X.prog X.w) X.A (throw (.ref ea) : Sem Flow) (SP X pins D) X.xe s4) X.xe { s with heap := h3 } := by
      rw [fr]
      exact HandSPX.setFlight_upZ fl3 fun h4 held up4 => wpAny_throw (tk _ _ ⟨ea, B, sI, pins, σ, H, cls, d, rfl, J, nb, up3.trans up4, .inr (.inr (by rw [own]; exact held)), na, os, ag, out⟩)
    unfold PySem.passOn
    refine wpAny_bind (wpAny_field at1 data head ?_)
    rw [if_neg (show ¬ ((Value.ref T == Value.none) = true) by simp)]
    first
      | exact wpAny_bind flies
      | exact wpAny_bind (wpAny_pure (wpAny_bind flies))
  | @bare x c ts b₀ suite np pos' hds2 l2 hc su r ih =>
    rintro ⟨b, hb, yes, no⟩
    refine wpAny_handleBy_cons (codeAny_handlers_test (asks hc hb ?_)) (by intro q; cases q)
    cases b with
    | false => exact ih (no rfl)
    | true =>
      refine codeAny_handlers_suite (HandSPX.lands_againZ fl3 fun h4 fl4 up4 => ?_)
      obtain ⟨oe4, vs4, he4, hz4, hd4⟩ := fl4.there
      refine wpAny_mono ((su ea oe4 cls d (X.pn ++ pins) hz4 ⟨_, hd4⟩).run [] _ _ H _ ((landed fl4 (up3.trans up4)).suite he4 hd4 na n1 n2) (yes rfl ea na)) (fun f s6 z => ?_) (fun _ _ z => z.elim)
      cases f with
      | next => exact let ⟨_, _, S6, q6⟩ := z; ⟨_, _, S6.unsuite ok, q6⟩
      | brk => exact let ⟨_, _, S6, q6⟩ := z; ⟨_, _, S6.unsuite ok, q6⟩
      | cont => exact let ⟨_, _, S6, q6⟩ := z; ⟨_, _, S6.unsuite ok, q6⟩
      | ret u => exact let ⟨_, _, _, S6, r6, q6⟩ := z; ⟨_, _, _, S6.unsuite ok, r6, q6⟩
  | @named x n c i ts b₀ suite np pos' hds2 l2 hN hi hn hc su r ih =>
    rintro ⟨b, hb, yes, no⟩
    refine wpAny_handleBy_cons (codeAny_handlers_test (asks hc hb ?_)) (by intro q; cases q)
    cases b with
    | false => exact ih (no rfl)
    | true =>
      refine codeAny_handlers_suite_as (HandSPX.lands_againZ fl3 fun h4 fl4 up4 => ?_)
      obtain ⟨oe4, vs4, he4, hz4, hd4⟩ := fl4.there
      refine store_ok (X := X.suite ea ((ea, oe4) :: (X.pn ++ pins))) (v := .ref ea) ((landed fl4 (up3.trans up4)).suite he4 hd4 na n1 n2) hN hi (.inl hn) rfl (fun s5 S5 => ?_) (.inr hn)
      refine wpAny_mono ((su ea oe4 cls d (X.pn ++ pins) hz4 ⟨_, hd4⟩).run [] s5 _ H _ S5 (yes rfl ea na)) (fun f s6 z => ?_) (fun _ _ z => z.elim)
      have gone : ∀ {σ6 : L2.St} {H6 : Hp} {Q : Shared → Prop}, Inv (X.suite ea ((ea, oe4) :: (X.pn ++ pins))) [] σ6 H6 s6 → (∀ s7, Inv X pins (σ6.set i none) H6 s7 → Q s7) → wpAny (model X.prog X.w) X.A (do bindName X.env n .none; unbindBehindTheSuite X.env n pos') (fun _ s7 => Q s7) X.xe s6 := fun S6 hq => gone_ok (S6.unsuite ok) hN hi hn hq
      cases f with
      | next => exact let ⟨_, _, S6, q6⟩ := z; gone S6 fun s7 J7 => ⟨_, _, J7, q6⟩
      | brk => exact let ⟨_, _, S6, q6⟩ := z; gone S6 fun s7 J7 => ⟨_, _, J7, q6⟩
      | cont => exact let ⟨_, _, S6, q6⟩ := z; gone S6 fun s7 J7 => ⟨_, _, J7, q6⟩
      | ret u => exact let ⟨_, _, _, S6, r6, q6⟩ := z; gone S6 fun s7 J7 => ⟨_, _, _, J7, r6, q6⟩
theorem ps_try_hds (own : X.stack = X.env :: X.outer) (fr : X.env.frame = some X.env.locals) (tk : L2N.Takes X Wout)
    (hb : ∀ (W : WX) (pn : List (Addr × Obj)) (xe : Value → Shared → Prop), L2N.Takes (X.tr pn xe) W → PassesOwn (model X.prog X.w) X.A X.env xe → PSs (X.tr pn xe) body (tb W)) (hh : Hds X (h₀ :: hds) l) :
    PS X (.Try body (h₀ :: hds) [] [] pos) (fun D σ H => tb (wHds X.K Wout D l) D σ H) := ⟨fun pins s σ H D I h => by
  have frames : X.A.frames = some (X.env :: X.outer) := by rw [I.ok.frames, own]
  let caught : Value → Shared → Prop := fun e s₁ => wpAny (model X.prog X.w) X.A (noteFrame e X.env) (fun _ s₂ => wpAny (model X.prog X.w) X.A (setFlight e none) (fun _ s₃ => wpAny (model X.prog X.w) X.A (handleBy e X.env (h₀ :: hds)) (SP X pins D) X.xe s₃) X.xe s₂) X.xe s₁
  have inner := hb (wHds X.K Wout D l) (X.pn ++ pins) caught (fun u s' ⟨ea, B, sI, pins', σ', H', cls, d, e, J, nb, up, sky, na, os, ag, w⟩ => by
    subst e
    have sky' : Sky B (X.env :: X.outer) ea (L2N.Zn cls d) X.env.locals s'.heap := by rw [← own]; exact sky
    exact L2N.Sky.land L2N.Zn.steady frames fr sky' fun h3 fl3 up3 => hds_run own fr tk I.ok (J.ofTry I.ok) nb (up.trans up3) fl3 na os ag hh w) PassesOwn.looking
  refine wpAny_Try_except (wpAny_mono (inner.run [] s σ H D (I.toTry _) h) (fun f s1 z => ?_) (fun e s1 he => he))
  cases f with
  | next => exact let ⟨_, _, J, q⟩ := z; wpAny_execs_nil ⟨_, _, J.ofTry I.ok, q⟩
  | brk => exact let ⟨_, _, J, q⟩ := z; ⟨_, _, J.ofTry I.ok, q⟩
  | cont => exact let ⟨_, _, J, q⟩ := z; ⟨_, _, J.ofTry I.ok, q⟩
  | ret u => exact let ⟨_, _, _, J, r, q⟩ := z; ⟨_, _, _, J.ofTry I.ok, r, q⟩⟩
end
end OwnProj
/-! A dict made in one go whose keys are tuples. -/
namespace OwnDcT
open PySem PySem.Spec PyProof.Rows L2
section
variable {X : Cx}
/-- an entry put under a tuple -/
theorem put_t {pins : List (Addr × Obj)} {σ : L2.St} {H : Hp} {s : Shared} {E : Value → Shared → Prop} {D b : Addr} {kvs : List (List Key × V)} {k : List Key} {v : V} {r : Value} {Q : Unit → Shared → Prop} (hu : X.A.units + 2 < cLine) (I : Inv X pins σ H s)
    (hD : H D = some (.dT kvs)) (hb : H b = some (.tup (k.map kV))) (hz : kvs.length < sizeLine) (rv : RelV v r) (h : ∀ s', Inv X pins σ (upd H D (.dT (putK kvs k v))) s' → Q () s') : wpAny (model X.prog X.w) X.A (dictSet D (.ref b) r) Q E s := by
  obtain ⟨z, hd, xs, rel, dd⟩ := dt_of I.hok hD
  have hl : (putK kvs k v).length ≤ sizeLine := by
    have := length_putK kvs k v
    omega
  refine wpAny_dictSet_heap (hsz := (Paired.length rel) ▸ z) ?_ (key_of I.hok hb) dd fun h' dd' hs => h _ ?_
  · show X.A.units < cLine
    omega
  · obtain ⟨q, es, ep, hq, h2, h3, h4, _, h5⟩ := dd'
    refine d_write I (by rw [hD]; exact True.intro) hs ⟨q, hq⟩ ⟨hl, hd, _, (rel.put k hb rv).keeps fun c ys ec => (upd_ne (ne_of ec hD (fun z => nomatch z))).trans ec, q, es, ep, hq, h2, h3, h4, h5⟩
/-- {k: v for target in iter}, the keys tuples -/
def tDcT (wi : TI) (g : TG) (tk tv : TE) (vs : List Nat) : TE := fun σ H Q => wi σ H fun J H1 => ∀ D, H1 D = none → ∃ W : Nat → Nat → Hp → Prop, (∃ m, W 0 m (upd H1 D (.dT []))) ∧ ∀ i m H, W i m H →
  (J.stop i H ∧ Q (.ref D) H) ∨ (J.go i H ∧ ∃ Nx : Hp → Prop, (∀ H', Nx H' → ∃ m', m' < m ∧ W (i + 1) m' H') ∧ ∀ x H', J.yld i H x H' → g x (wipe σ vs) H' fun σ2 H2 => wipe σ2 vs = wipe σ vs ∧
    tk σ2 H2 fun y H4 => tv σ2 H4 fun z H5 => ∃ kvs k b, y = .ref b ∧ H5 b = some (.tup (k.map kV)) ∧ H5 D = some (.dT kvs) ∧ kvs.length < sizeLine ∧ Nx (upd H5 D (.dT (putK kvs k z))))
theorem pe_dcT {kx vx tg iter : Expr} {scope : Scope} {own : List (Str × Nat)} {pos : Pos} {wi : TI} {g : TG} {tk tv : TE} (hu : X.A.units + 2 < cLine) (hc : X.calm = true) (hN : X.N.Nodup) (hi : PI X tg iter wi) (ok : BlkOk X.N X.env.scope scope own)
    (hg : ∀ (s : Shared) (H : Hp) (C : Addr) (cl : List (Str × Addr)) (fp : List Addr), PG (X.blk s H scope (compEnvC scope cl C X.env) fp) tg g)
    (hk : ∀ (s : Shared) (H : Hp) (C : Addr) (cl : List (Str × Addr)) (fp : List Addr), PE (X.blk s H scope (compEnvC scope cl C X.env) fp) kx tk)
    (he : ∀ (s : Shared) (H : Hp) (C : Addr) (cl : List (Str × Addr)) (fp : List Addr), PE (X.blk s H scope (compEnvC scope cl C X.env) fp) vx tv) (hs : ∀ x, foldedSetIterable iter X.env x = pure x := by intro _; rfl) :
    PE X (.DictComp kx vx [⟨tg, iter, [], 0⟩] scope pos) (tDcT wi g tk tv (own.map (·.2))) := by
  refine ⟨fun pins s σ H Q I h => ?_⟩
  have free : ∀ y ∈ scope.names, y.2 = .free → ∃ c, X.env.cells.lookup y.1 = some c := fun y hy e => I.ok.has _ ((ok.free y hy e).imp (fun k => k) fun k => k)
  rw [arm_eval_DictComp]
  refine wpAny_comprehension_free (use := none) rfl hs (closure_ok free) ok.kind (fun y hy e => (ok.uniq y hy).trans (congrArg some e)) (thn (hi.run pins s σ H _ I h) fun _ s1 h1 => thn h1 fun _ s2 ⟨it, fp, tn, J, H2, e, I2, T, st2, f2, q⟩ => ?_)
  subst e
  refine wpAny_newObj_type (newEnv_comp ?_)
  -- the new dict stands at D
  obtain ⟨W, ⟨m0, w0⟩, turn⟩ := q _ (I2.hok.fresh (Nat.le_refl s2.heap.objs.size))
  have I3 : Inv X pins σ (upd H2 s2.heap.objs.size (.dT [])) { s2 with heap := s2.heap.push { cls := .type "dict", data := .dict #[] } } :=
    I2.laid (t' := s2.toks) (fun b o e => Heap.get?_push_of_some _ e) (Nat.le_refl _) (dt_empty s2.heap I2.big)
  have below : ∀ b ∈ fp, b < s2.heap.objs.size := fun b hb => by
    obtain ⟨o, e, _⟩ := T.obj _ _ st2 b hb
    exact Heap.lt_size e
  have f3 : ∀ b ∈ fp, FpOk X pins (upd H2 s2.heap.objs.size (.dT [])) b ∧ b < ({ s2 with heap := s2.heap.push { cls := .type "dict", data := .dict #[] } } : Shared).heap.objs.size := fun b hb =>
    ⟨⟨(upd_ne (Nat.ne_of_lt (below b hb))).trans (f2 b hb).1, (f2 b hb).2⟩, by rw [Heap.size_push]; exact Nat.lt_succ_of_lt (below b hb)⟩
  have st3 : tn 0 ({ s2 with heap := s2.heap.push { cls := .type "dict", data := .dict #[] } } : Shared).heap := T.keep _ _ _ st2 fun b _ o e => Heap.get?_push_of_some _ e
  generalize hD : s2.heap.objs.size = D at turn I3 f3 st3 w0 ⊢
  generalize hs3 : ({ s2 with heap := s2.heap.push { cls := .type "dict", data := .dict #[] } } : Shared) = s3 at I3 f3 st3
  have B := block_start I3 ok hN f3
  have pg := hg s3 (upd H2 D (.dT [])) s3.heap.objs.size (cellsFrom (s3.heap.objs.size + 1) scope.names (cloFrom X.env.cells scope.names [])) fp
  have pk := hk s3 (upd H2 D (.dT [])) s3.heap.objs.size (cellsFrom (s3.heap.objs.size + 1) scope.names (cloFrom X.env.cells scope.names [])) fp
  have pe := he s3 (upd H2 D (.dT [])) s3.heap.objs.size (cellsFrom (s3.heap.objs.size + 1) scope.names (cloFrom X.env.cells scope.names [])) fp
  show codeAny _ _ (.compStart (.DictComp kx vx [⟨tg, iter, [], 0⟩] scope pos) 0 (.ref it) (.ref D) (compEnvC scope (cellsFrom (s3.heap.objs.size + 1) scope.names (cloFrom X.env.cells scope.names [])) s3.heap.objs.size X.env)) (compPost (model X.prog X.w) X.A X.xe none (EP X pins σ Q) (.ref D) s3.heap.objs.size) { s3 with heap := pushCells (s3.heap.push { cls := .type "dict", data := .dict #[] }) scope.names }
  have cL : (compEnvC scope (cellsFrom (s3.heap.objs.size + 1) scope.names (cloFrom X.env.cells scope.names [])) s3.heap.objs.size X.env).locals = s3.heap.objs.size := rfl
  generalize compEnvC scope (cellsFrom (s3.heap.objs.size + 1) scope.names (cloFrom X.env.cells scope.names [])) s3.heap.objs.size X.env = ce at B pg pk pe cL ⊢
  have st4 : tn 0 ({ s3 with heap := pushCells (s3.heap.push { cls := .type "dict", data := .dict #[] }) scope.names } : Shared).heap := T.keep _ _ _ st3 fun b _ o e => pushCells_keeps _ _ _ _ (Heap.get?_push_of_some _ e)
  generalize ({ s3 with heap := pushCells (s3.heap.push { cls := .type "dict", data := .dict #[] }) scope.names } : Shared) = s4 at B st4 ⊢
  have fpk : ∀ {σ' : L2.St} {H' : Hp} {s' : Shared}, Inv (X.blk s3 (upd H2 D (.dT [])) scope ce fp) [] σ' H' s' → (∀ b ∈ fp, H' b = none) → ∀ b ∈ fp, FpOk (X.blk s3 (upd H2 D (.dT [])) scope ce fp) [] H' b := fun I' hn b hb =>
    ⟨hn b hb, (I'.ok.exf b hb).1, I'.ok.exfs b hb, .inl hb, (I'.ok.exf b hb).2, fun p hp => absurd (show p ∈ ([] : List (Addr × Obj)) ++ [] from hp) (by simp)⟩
  have L : codeAny (model X.prog X.w) X.A (.compLoop (.DictComp kx vx [⟨tg, iter, [], 0⟩] scope pos) 0 (.ref it) (.ref D) ce) (compPost (model X.prog X.w) X.A X.xe none (EP X pins σ Q) (.ref D) s3.heap.objs.size) s4 := by
    refine compLoop_anyD (fun n s' => ∃ i H', Inv (X.blk s3 (upd H2 D (.dT [])) scope ce fp) [] (wipe σ (own.map (·.2))) H' s' ∧ tn i s'.heap ∧ (∀ b ∈ fp, H' b = none) ∧ W i n H') ?_ m0 ⟨0, _, B, st4, fun b hb => (f3 b hb).1.1, w0⟩
    rintro n s5 ⟨i, H5, I5, st5, n5, w5⟩
    rcases turn i n H5 w5 with ⟨stop, done⟩ | ⟨go, Nx, next, step⟩
    · refine thnF (T.done (X.blk s3 (upd H2 D (.dT [])) scope ce fp) rfl rfl rfl hc i [] s5 _ H5 (fun _ _ => False) I5 (fpk I5 n5) st5 stop) fun r s6 ⟨hr, I6⟩ => ?_
      subst hr
      obtain ⟨m, hn, _⟩ := I6.loc
      have hn : s6.heap.Ns ce.locals m := hn
      have nC : H5 ce.locals = none := I6.free
      rw [cL] at hn nC
      obtain ⟨f0, f1, f2', f4, f5, f6⟩ := I3.fpOk (H' := H5) (Nat.le_refl _) nC
      have I7 : Inv X pins σ H5 s6 := I3.call' (ch := fp) I6.os I6.base I6.hok I6.bare fun b hb =>
        let ⟨_, a1, a2, a3, a4, a5⟩ := (f3 b hb).1
        ⟨a3, a1, a4, a5⟩
      exact ⟨m, hn, fun h' sb => ⟨.ref D, H5, I7.turned (t' := s6.toks) (fun b o hb e => (sb.2 b hb).trans e) f0 f1 f4 f5 f6, rfl, done⟩⟩
    · refine thnF (T.item (X.blk s3 (upd H2 D (.dT [])) scope ce fp) rfl rfl rfl hc i [] s5 _ H5 (fun _ _ => False) I5 (fpk I5 n5) st5 go) fun r s6 ⟨u, hr, h6⟩ => ?_
      subst hr
      refine thnF h6 fun _ s7 ⟨x, H7, I7, r7, y7, st7, n7⟩ => ?_
      refine thnF (pg.run _ s7 _ H7 x u _ (I7.pinned (fpk I7 n7) (T.obj _ _ st7)) r7 (step x H7 y7)) fun _ s8 ⟨σ8, H8, I8, hw, q8⟩ => ?_
      refine wpAny_tests_nil ?_
      rw [if_pos rfl]
      refine thnF (pk.run _ s8 σ8 H8 _ I8 q8) fun z s9 ⟨yk, H9, I9, r9, q9⟩ => ?_
      refine thnF (pe.run _ s9 σ8 H9 _ I9 q9) fun z2 s10 ⟨yv, H10, I10, r10, kvs, k, b, ek, hb10, hD10, hz10, nx⟩ => ?_
      subst ek
      cases r9
      refine put_t (X := X.blk s3 (upd H2 D (.dT [])) scope ce fp) hu I10 hD10 hb10 hz10 r10 fun s11 I11 => ?_
      obtain ⟨m', hm, w'⟩ := next _ nx
      have kept : ∀ b ∈ fp, ∀ o, s7.heap.get? b = some o → s11.heap.get? b = some o ∧ (upd H10 D (.dT (putK kvs k yv))) b = none := fun b hb o e =>
        let z := I11.pin (b, o) (List.mem_append_right _ (List.mem_append_right _ (mem_pinsAt hb e)))
        ⟨z.1, z.2.1⟩
      refine ⟨m', hm, i + 1, _, (I11.unpinned (pins := [])).weak (by rw [← hw, wipe_length]) (fun j v e => ?_), T.keep _ _ _ st7 fun b hb o e => (kept b hb o e).1, fun b hb => ?_, w'⟩
      · rw [← hw] at e
        exact (wipe_some e).1
      · obtain ⟨o, e, _⟩ := T.obj _ _ st7 b hb
        exact (kept b hb o e).2
  exact codeAny_compStart_dict L (T.self X.A 0 _ _ _ st4 L)
end
end OwnDcT
namespace K37
open PySem PySem.Spec PyProof.Rows L2
def topS (i : Nat) : Stmt := PySem.Challenge.pw_greatestnext_k37_whole_greedy_at_least_s.main.body.getD i (.Pass ⟨0, 0, 0, 0⟩)
abbrev s_is_whole : Stmt := topS 10
abbrev s_is_within : Stmt := topS 11
abbrev s_is_ascending : Stmt := topS 12
abbrev s_Frac_init : Stmt := inClass (topS 17) 0
abbrev s_Frac_add : Stmt := inClass (topS 17) 1
abbrev s_Frac_is_below : Stmt := inClass (topS 17) 5
abbrev s_as_frac : Stmt := topS 18
abbrev s_total : Stmt := topS 19
abbrev s_parts_of : Stmt := topS 21
abbrev s_all_sets : Stmt := topS 22
abbrev s_is_part : Stmt := topS 23
abbrev s_touches : Stmt := topS 24
abbrev s_joined : Stmt := topS 25
abbrev s_rest_of : Stmt := topS 26
abbrev s_is_above_0 : Stmt := topS 28
abbrev s_first_greatest : Stmt := topS 29
abbrev s_greedy_set : Stmt := topS 30
abbrev s_heaviest_set : Stmt := topS 31
abbrev s_set_weight : Stmt := topS 32
abbrev s_quotient : Stmt := topS 33
abbrev s_clean_sets : Stmt := topS 36
abbrev s_closed_sets : Stmt := topS 37
abbrev s_Family_init : Stmt := inClass (topS 38) 0
abbrev s_Family_addable : Stmt := inClass (topS 38) 5
abbrev s_law_draw : Stmt := topS 40
abbrev s_law_low : Stmt := topS 41
abbrev s_law_whole : Stmt := topS 42
abbrev s_law_things : Stmt := topS 43
abbrev s_law_order : Stmt := topS 44
abbrev s_law_by_tops : Stmt := topS 45
abbrev s_law_by_classes : Stmt := topS 46
abbrev s_law_by_words : Stmt := topS 47
abbrev s_law_size : Stmt := topS 48
abbrev s_law_odd : Stmt := topS 49
abbrev s_law_family : Stmt := topS 50
abbrev s_law_adds : Stmt := topS 51
abbrev s_law_fault : Stmt := topS 52
abbrev s_law_told : Stmt := topS 53
abbrev s_law_given : Stmt := topS 54
abbrev s_law_weight : Stmt := topS 55
abbrev s_law_weights : Stmt := topS 56
abbrev s_law_scaled : Stmt := topS 57
abbrev s_law_greedy : Stmt := topS 58
abbrev s_law_heaviest : Stmt := topS 59
abbrev s_law_sum : Stmt := topS 60
abbrev s_law_mask : Stmt := topS 61
abbrev s_law_weighs : Stmt := topS 62
abbrev s_law_at_least : Stmt := topS 63
abbrev s_law_tight : Stmt := topS 64
abbrev s_law_asked : Stmt := topS 65
abbrev s_law : Stmt := topS 66
structure Ad where
  C_Frac : Addr
  C_Family : Addr
  a_is_whole : Addr
  a_is_within : Addr
  a_is_ascending : Addr
  a_Frac_init : Addr
  a_Frac_add : Addr
  a_Frac_is_below : Addr
  a_as_frac : Addr
  a_total : Addr
  a_parts_of : Addr
  a_all_sets : Addr
  a_is_part : Addr
  a_touches : Addr
  a_joined : Addr
  a_rest_of : Addr
  a_is_above_0 : Addr
  a_first_greatest : Addr
  a_greedy_set : Addr
  a_heaviest_set : Addr
  a_set_weight : Addr
  a_quotient : Addr
  a_clean_sets : Addr
  a_closed_sets : Addr
  a_Family_init : Addr
  a_Family_addable : Addr
  a_law_draw : Addr
  a_law_low : Addr
  a_law_whole : Addr
  a_law_things : Addr
  a_law_order : Addr
  a_law_by_tops : Addr
  a_law_by_classes : Addr
  a_law_by_words : Addr
  a_law_size : Addr
  a_law_odd : Addr
  a_law_family : Addr
  a_law_adds : Addr
  a_law_fault : Addr
  a_law_told : Addr
  a_law_given : Addr
  a_law_weight : Addr
  a_law_weights : Addr
  a_law_scaled : Addr
  a_law_greedy : Addr
  a_law_heaviest : Addr
  a_law_sum : Addr
  a_law_mask : Addr
  a_law_weighs : Addr
  a_law_at_least : Addr
  a_law_tight : Addr
  a_law_asked : Addr
  a_law : Addr
  d_is_whole : FuncData
  d_is_within : FuncData
  d_is_ascending : FuncData
  d_Frac_init : FuncData
  d_Frac_add : FuncData
  d_Frac_is_below : FuncData
  d_as_frac : FuncData
  d_total : FuncData
  d_parts_of : FuncData
  d_all_sets : FuncData
  d_is_part : FuncData
  d_touches : FuncData
  d_joined : FuncData
  d_rest_of : FuncData
  d_is_above_0 : FuncData
  d_first_greatest : FuncData
  d_greedy_set : FuncData
  d_heaviest_set : FuncData
  d_set_weight : FuncData
  d_quotient : FuncData
  d_clean_sets : FuncData
  d_closed_sets : FuncData
  d_Family_init : FuncData
  d_Family_addable : FuncData
  d_law_draw : FuncData
  d_law_low : FuncData
  d_law_whole : FuncData
  d_law_things : FuncData
  d_law_order : FuncData
  d_law_by_tops : FuncData
  d_law_by_classes : FuncData
  d_law_by_words : FuncData
  d_law_size : FuncData
  d_law_odd : FuncData
  d_law_family : FuncData
  d_law_adds : FuncData
  d_law_fault : FuncData
  d_law_told : FuncData
  d_law_given : FuncData
  d_law_weight : FuncData
  d_law_weights : FuncData
  d_law_scaled : FuncData
  d_law_greedy : FuncData
  d_law_heaviest : FuncData
  d_law_sum : FuncData
  d_law_mask : FuncData
  d_law_weighs : FuncData
  d_law_at_least : FuncData
  d_law_tight : FuncData
  d_law_asked : FuncData
  d_law : FuncData
structure Txt (K : PySem.W.Frag) (mg : Str → Option Value) (a : Ad) : Prop where
  mg_Frac : mg "Frac" = some (.ref a.C_Frac)
  mg_Family : mg "Family" = some (.ref a.C_Family)
  cl_Frac : Cls K a.C_Frac
  na_Frac_num : NoAttr K a.C_Frac "num"
  na_Frac_den : NoAttr K a.C_Frac "den"
  cg_Frac : PySem.W.findIn K (.ref a.C_Frac) "__class__" = some (some (.builtin "object.__class__"))
  mr_Frac : PySem.W.mroIn K a.C_Frac (.type "object") = some true
  sf_Frac : PySem.W.selfFirst K a.C_Frac = true
  cl_Family : Cls K a.C_Family
  na_Family_sets : NoAttr K a.C_Family "sets"
  na_Family_size : NoAttr K a.C_Family "size"
  cg_Family : PySem.W.findIn K (.ref a.C_Family) "__class__" = some (some (.builtin "object.__class__"))
  mr_Family : PySem.W.mroIn K a.C_Family (.type "object") = some true
  cget : PySem.W.specialIn K (.builtin "object.__class__") "__get__" = some (some (.builtin "getset_descriptor.__get__"))
  ctk : PySem.W.takesIn K (.builtin "object.__class__") = some true
  mg_is_whole : mg "is_whole" = some (.ref a.a_is_whole)
  fn_is_whole : Fun K "is_whole" "is_whole" s_is_whole a.a_is_whole a.d_is_whole
  b_is_whole : Binds K a.d_is_whole ["value"] []
  mg_is_within : mg "is_within" = some (.ref a.a_is_within)
  fn_is_within : Fun K "is_within" "is_within" s_is_within a.a_is_within a.d_is_within
  b_is_within : Binds K a.d_is_within ["value", "least", "most"] []
  mg_is_ascending : mg "is_ascending" = some (.ref a.a_is_ascending)
  fn_is_ascending : Fun K "is_ascending" "is_ascending" s_is_ascending a.a_is_ascending a.d_is_ascending
  b_is_ascending : Binds K a.d_is_ascending ["value", "size"] []
  fn_Frac_init : FunD K "__init__" "Frac.__init__" (defArgs s_Frac_init) (defBody s_Frac_init) (defScope s_Frac_init) [.int 1] [] a.a_Frac_init a.d_Frac_init
  mt_Frac_init : Meth K a.C_Frac "__init__" a.a_Frac_init
  fn_Frac_add : Fun K "__add__" "Frac.__add__" s_Frac_add a.a_Frac_add a.d_Frac_add
  b_Frac_add : Binds K a.d_Frac_add ["self", "other"] []
  mt_Frac_add : Meth K a.C_Frac "__add__" a.a_Frac_add
  fn_Frac_is_below : Fun K "is_below" "Frac.is_below" s_Frac_is_below a.a_Frac_is_below a.d_Frac_is_below
  b_Frac_is_below : Binds K a.d_Frac_is_below ["self", "other"] []
  mt_Frac_is_below : Meth K a.C_Frac "is_below" a.a_Frac_is_below
  mg_as_frac : mg "as_frac" = some (.ref a.a_as_frac)
  fn_as_frac : Fun K "as_frac" "as_frac" s_as_frac a.a_as_frac a.d_as_frac
  b_as_frac : Binds K a.d_as_frac ["value"] []
  mg_total : mg "total" = some (.ref a.a_total)
  fn_total : Fun K "total" "total" s_total a.a_total a.d_total
  b_total : Binds K a.d_total ["fracs"] []
  mg_parts_of : mg "parts_of" = some (.ref a.a_parts_of)
  fn_parts_of : Fun K "parts_of" "parts_of" s_parts_of a.a_parts_of a.d_parts_of
  b_parts_of : Binds K a.d_parts_of ["things"] []
  mg_all_sets : mg "all_sets" = some (.ref a.a_all_sets)
  fn_all_sets : Fun K "all_sets" "all_sets" s_all_sets a.a_all_sets a.d_all_sets
  b_all_sets : Binds K a.d_all_sets ["size"] []
  mg_is_part : mg "is_part" = some (.ref a.a_is_part)
  fn_is_part : Fun K "is_part" "is_part" s_is_part a.a_is_part a.d_is_part
  b_is_part : Binds K a.d_is_part ["part", "things"] []
  mg_touches : mg "touches" = some (.ref a.a_touches)
  fn_touches : Fun K "touches" "touches" s_touches a.a_touches a.d_touches
  b_touches : Binds K a.d_touches ["one", "other"] []
  mg_joined : mg "joined" = some (.ref a.a_joined)
  fn_joined : Fun K "joined" "joined" s_joined a.a_joined a.d_joined
  b_joined : Binds K a.d_joined ["one", "other"] []
  mg_rest_of : mg "rest_of" = some (.ref a.a_rest_of)
  fn_rest_of : Fun K "rest_of" "rest_of" s_rest_of a.a_rest_of a.d_rest_of
  b_rest_of : Binds K a.d_rest_of ["things", "out"] []
  mg_is_above_0 : mg "is_above_0" = some (.ref a.a_is_above_0)
  fn_is_above_0 : Fun K "is_above_0" "is_above_0" s_is_above_0 a.a_is_above_0 a.d_is_above_0
  b_is_above_0 : Binds K a.d_is_above_0 ["weight"] []
  mg_first_greatest : mg "first_greatest" = some (.ref a.a_first_greatest)
  fn_first_greatest : Fun K "first_greatest" "first_greatest" s_first_greatest a.a_first_greatest a.d_first_greatest
  b_first_greatest : Binds K a.d_first_greatest ["things", "weights"] []
  mg_greedy_set : mg "greedy_set" = some (.ref a.a_greedy_set)
  fn_greedy_set : Fun K "greedy_set" "greedy_set" s_greedy_set a.a_greedy_set a.d_greedy_set
  b_greedy_set : Binds K a.d_greedy_set ["family", "weights"] []
  mg_heaviest_set : mg "heaviest_set" = some (.ref a.a_heaviest_set)
  fn_heaviest_set : Fun K "heaviest_set" "heaviest_set" s_heaviest_set a.a_heaviest_set a.d_heaviest_set
  b_heaviest_set : Binds K a.d_heaviest_set ["family", "weights"] []
  mg_set_weight : mg "set_weight" = some (.ref a.a_set_weight)
  fn_set_weight : Fun K "set_weight" "set_weight" s_set_weight a.a_set_weight a.d_set_weight
  b_set_weight : Binds K a.d_set_weight ["weights", "things"] []
  mg_quotient : mg "quotient" = some (.ref a.a_quotient)
  fn_quotient : Fun K "quotient" "quotient" s_quotient a.a_quotient a.d_quotient
  b_quotient : Binds K a.d_quotient ["family"] []
  mg_clean_sets : mg "clean_sets" = some (.ref a.a_clean_sets)
  fn_clean_sets : Fun K "clean_sets" "clean_sets" s_clean_sets a.a_clean_sets a.d_clean_sets
  b_clean_sets : Binds K a.d_clean_sets ["size", "sets"] []
  mg_closed_sets : mg "closed_sets" = some (.ref a.a_closed_sets)
  fn_closed_sets : Fun K "closed_sets" "closed_sets" s_closed_sets a.a_closed_sets a.d_closed_sets
  b_closed_sets : Binds K a.d_closed_sets ["size", "sets"] []
  fn_Family_init : Fun K "__init__" "Family.__init__" s_Family_init a.a_Family_init a.d_Family_init
  b_Family_init : Binds K a.d_Family_init ["self", "size", "sets"] []
  mt_Family_init : Meth K a.C_Family "__init__" a.a_Family_init
  fn_Family_addable : Fun K "addable" "Family.addable" s_Family_addable a.a_Family_addable a.d_Family_addable
  b_Family_addable : Binds K a.d_Family_addable ["self", "taken"] []
  mt_Family_addable : Meth K a.C_Family "addable" a.a_Family_addable
  mg_law_draw : mg "_law_draw" = some (.ref a.a_law_draw)
  fn_law_draw : Fun K "_law_draw" "_law_draw" s_law_draw a.a_law_draw a.d_law_draw
  b_law_draw : Binds K a.d_law_draw ["feed", "many"] []
  mg_law_low : mg "_law_low" = some (.ref a.a_law_low)
  fn_law_low : Fun K "_law_low" "_law_low" s_law_low a.a_law_low a.d_law_low
  b_law_low : Binds K a.d_law_low ["num", "den"] []
  mg_law_whole : mg "_law_whole" = some (.ref a.a_law_whole)
  fn_law_whole : Fun K "_law_whole" "_law_whole" s_law_whole a.a_law_whole a.d_law_whole
  b_law_whole : Binds K a.d_law_whole ["found"] []
  mg_law_things : mg "_law_things" = some (.ref a.a_law_things)
  fn_law_things : Fun K "_law_things" "_law_things" s_law_things a.a_law_things a.d_law_things
  b_law_things : Binds K a.d_law_things ["mask"] []
  mg_law_order : mg "_law_order" = some (.ref a.a_law_order)
  fn_law_order : Fun K "_law_order" "_law_order" s_law_order a.a_law_order a.d_law_order
  b_law_order : Binds K a.d_law_order ["size", "inside"] []
  mg_law_by_tops : mg "_law_by_tops" = some (.ref a.a_law_by_tops)
  fn_law_by_tops : Fun K "_law_by_tops" "_law_by_tops" s_law_by_tops a.a_law_by_tops a.d_law_by_tops
  b_law_by_tops : Binds K a.d_law_by_tops ["feed", "size"] []
  mg_law_by_classes : mg "_law_by_classes" = some (.ref a.a_law_by_classes)
  fn_law_by_classes : Fun K "_law_by_classes" "_law_by_classes" s_law_by_classes a.a_law_by_classes a.d_law_by_classes
  b_law_by_classes : Binds K a.d_law_by_classes ["feed", "size"] []
  mg_law_by_words : mg "_law_by_words" = some (.ref a.a_law_by_words)
  fn_law_by_words : Fun K "_law_by_words" "_law_by_words" s_law_by_words a.a_law_by_words a.d_law_by_words
  b_law_by_words : Binds K a.d_law_by_words ["feed", "size"] []
  mg_law_size : mg "_law_size" = some (.ref a.a_law_size)
  fn_law_size : Fun K "_law_size" "_law_size" s_law_size a.a_law_size a.d_law_size
  b_law_size : Binds K a.d_law_size ["feed", "most"] []
  mg_law_odd : mg "_law_odd" = some (.ref a.a_law_odd)
  fn_law_odd : Fun K "_law_odd" "_law_odd" s_law_odd a.a_law_odd a.d_law_odd
  b_law_odd : Binds K a.d_law_odd ["feed", "size"] []
  mg_law_family : mg "_law_family" = some (.ref a.a_law_family)
  fn_law_family : Fun K "_law_family" "_law_family" s_law_family a.a_law_family a.d_law_family
  b_law_family : Binds K a.d_law_family ["feed", "size"] []
  mg_law_adds : mg "_law_adds" = some (.ref a.a_law_adds)
  fn_law_adds : Fun K "_law_adds" "_law_adds" s_law_adds a.a_law_adds a.d_law_adds
  b_law_adds : Binds K a.d_law_adds ["family", "mask"] []
  mg_law_fault : mg "_law_fault" = some (.ref a.a_law_fault)
  fn_law_fault : Fun K "_law_fault" "_law_fault" s_law_fault a.a_law_fault a.d_law_fault
  b_law_fault : Binds K a.d_law_fault ["family"] []
  mg_law_told : mg "_law_told" = some (.ref a.a_law_told)
  fn_law_told : Fun K "_law_told" "_law_told" s_law_told a.a_law_told a.d_law_told
  b_law_told : Binds K a.d_law_told ["family", "form"] []
  mg_law_given : mg "_law_given" = some (.ref a.a_law_given)
  fn_law_given : Fun K "_law_given" "_law_given" s_law_given a.a_law_given a.d_law_given
  b_law_given : Binds K a.d_law_given ["pair", "plain"] []
  mg_law_weight : mg "_law_weight" = some (.ref a.a_law_weight)
  fn_law_weight : Fun K "_law_weight" "_law_weight" s_law_weight a.a_law_weight a.d_law_weight
  b_law_weight : Binds K a.d_law_weight ["feed", "earlier"] []
  mg_law_weights : mg "_law_weights" = some (.ref a.a_law_weights)
  fn_law_weights : Fun K "_law_weights" "_law_weights" s_law_weights a.a_law_weights a.d_law_weights
  b_law_weights : Binds K a.d_law_weights ["feed", "size"] []
  mg_law_scaled : mg "_law_scaled" = some (.ref a.a_law_scaled)
  fn_law_scaled : Fun K "_law_scaled" "_law_scaled" s_law_scaled a.a_law_scaled a.d_law_scaled
  b_law_scaled : Binds K a.d_law_scaled ["weights"] []
  mg_law_greedy : mg "_law_greedy" = some (.ref a.a_law_greedy)
  fn_law_greedy : Fun K "_law_greedy" "_law_greedy" s_law_greedy a.a_law_greedy a.d_law_greedy
  b_law_greedy : Binds K a.d_law_greedy ["family", "mask", "weights"] []
  mg_law_heaviest : mg "_law_heaviest" = some (.ref a.a_law_heaviest)
  fn_law_heaviest : Fun K "_law_heaviest" "_law_heaviest" s_law_heaviest a.a_law_heaviest a.d_law_heaviest
  b_law_heaviest : Binds K a.d_law_heaviest ["family", "mask", "weights"] []
  mg_law_sum : mg "_law_sum" = some (.ref a.a_law_sum)
  fn_law_sum : Fun K "_law_sum" "_law_sum" s_law_sum a.a_law_sum a.d_law_sum
  b_law_sum : Binds K a.d_law_sum ["weights", "mask"] []
  mg_law_mask : mg "_law_mask" = some (.ref a.a_law_mask)
  fn_law_mask : Fun K "_law_mask" "_law_mask" s_law_mask a.a_law_mask a.d_law_mask
  b_law_mask : Binds K a.d_law_mask ["found", "size"] []
  mg_law_weighs : mg "_law_weighs" = some (.ref a.a_law_weighs)
  fn_law_weighs : Fun K "_law_weighs" "_law_weighs" s_law_weighs a.a_law_weighs a.d_law_weighs
  b_law_weighs : Binds K a.d_law_weighs ["found", "family", "weights"] []
  mg_law_at_least : mg "_law_at_least" = some (.ref a.a_law_at_least)
  fn_law_at_least : Fun K "_law_at_least" "_law_at_least" s_law_at_least a.a_law_at_least a.d_law_at_least
  b_law_at_least : Binds K a.d_law_at_least ["program", "family", "weights", "share"] []
  mg_law_tight : mg "_law_tight" = some (.ref a.a_law_tight)
  fn_law_tight : Fun K "_law_tight" "_law_tight" s_law_tight a.a_law_tight a.d_law_tight
  b_law_tight : Binds K a.d_law_tight ["program", "family", "found", "many"] []
  mg_law_asked : mg "_law_asked" = some (.ref a.a_law_asked)
  fn_law_asked : Fun K "_law_asked" "_law_asked" s_law_asked a.a_law_asked a.d_law_asked
  b_law_asked : Binds K a.d_law_asked ["script"] []
  mg_law : mg "law" = some (.ref a.a_law)
  fn_law : Fun K "law" "law" s_law a.a_law a.d_law
  b_law : Binds K a.d_law ["script"] []
  mk_Frac : Mk K a.C_Frac a.a_Frac_init
  op_Frac_Add : PySem.W.findIn K (.ref a.C_Frac) (PySem.dunder (Operator.info .Add).2) = some (some (.ref a.a_Frac_add))
  mk_Family : Mk K a.C_Family a.a_Family_init
  no_isinstance : mg "isinstance" = none
  no_int : mg "int" = none
  no_bool : mg "bool" = none
  no_range : mg "range" = none
  no_len : mg "len" = none
  no_abs : mg "abs" = none
  no_list : mg "list" = none
  no_tuple : mg "tuple" = none
  no_enumerate : mg "enumerate" = none
  no_any : mg "any" = none
  no_all : mg "all" = none
  no_sum : mg "sum" = none
  no_sorted : mg "sorted" = none
  no_set : mg "set" = none
  no_reversed : mg "reversed" = none
  mg_MOST_THINGS : ∃ t, mg "MOST_THINGS" = some (.int 6 t)
  mg_combinations : mg "combinations" = some (.type "itertools.combinations")
  mg_gcd : mg "gcd" = some (.builtin "math.gcd")
  kit_F_F : PySem.W.kitOne K (.ref a.C_Frac) (.ref a.C_Frac) = some true
  kit_F_list : PySem.W.kitOne K (.ref a.C_Frac) (.type "list") = some false
  kit_F_tuple : PySem.W.kitOne K (.ref a.C_Frac) (.type "tuple") = some false
  kit_int_F : PySem.W.kitOne K (.type "int") (.ref a.C_Frac) = some false
  kit_none_F : PySem.W.kitOne K (.type "NoneType") (.ref a.C_Frac) = some false
end K37
namespace K37
open PySem PySem.Spec PyProof.Rows L2 Own OwnSeq OwnSet OwnComb OwnSort OwnHot OwnExN OwnProj
/-! ### values by their kinds -/
inductive Tg | non | bl | int | str | lst | tup
  deriving DecidableEq
inductive Ty (H : Hp) : V → Tg → Prop
  | non : Ty H .non .non
  | bl (b : Bool) : Ty H (.bl b) .bl
  | int (i : Int) : Ty H (.int i) .int
  | str (x : Str) : Ty H (.str x) .str
  | lst {p : Addr} {xs : List V} (h : H p = some (.lst xs)) : Ty H (.ref p) .lst
  | tup {p : Addr} {xs : List V} (h : H p = some (.tup xs)) : Ty H (.ref p) .tup
def tyv : Tg → Value
  | .non => .type "NoneType"
  | .bl => .type "bool"
  | .int => .type "int"
  | .str => .type "str"
  | .lst => .type "list"
  | .tup => .type "tuple"
def isB (g : Tg) : Tg → Bool
  | .int => decide (g = .int) || decide (g = .bl)
  | c => decide (g = c)
def clv : Tg → V
  | .non => .ty "NoneType"
  | .bl => .ty "bool"
  | .int => .ty "int"
  | .str => .ty "str"
  | .lst => .ty "list"
  | .tup => .ty "tuple"
theorem Ty.x {K : PySem.W.Frag} {H : Hp} {v : V} {g : Tg} (t : Ty H v g) : TyX K H v (tyv g) := by
  cases t with
  | non => exact .base .non
  | bl b => exact .base (.bl b)
  | int i => exact .base (.int i)
  | str x => exact .base (.str x)
  | lst h => exact .base (.lst h)
  | tup h => exact .base (.tup h)
theorem kit_by {K : PySem.W.Frag} (g c : Tg) (h2 : c ≠ .non) : ∃ n : String, clv c = .ty n ∧ PySem.W.kitOne K (tyv g) (.type n) = some (isB g c) := by
  cases c with
  | non => exact absurd rfl h2
  | int => exact ⟨"int", rfl, by cases g <;> exact kit_ty (by decide +kernel)⟩
  | bl => exact ⟨"bool", rfl, by cases g <;> exact kit_ty (by decide +kernel)⟩
  | str => exact ⟨"str", rfl, by cases g <;> exact kit_ty (by decide +kernel)⟩
  | lst => exact ⟨"list", rfl, by cases g <;> exact kit_ty (by decide +kernel)⟩
  | tup => exact ⟨"tuple", rfl, by cases g <;> exact kit_ty (by decide +kernel)⟩
def rIsB (c : Tg) : List V → Hp → VK → Prop := fun xs H Q => ∃ v g, xs = [v, clv c] ∧ Ty H v g ∧ Q (.bl (isB g c)) H
theorem call_isB {X : Cx} (c : Tg) (h : c ≠ .non := by decide) : CallR X (.builtin "isinstance") (rIsB c) := Rd.CallR.imp call_isi fun xs H Q ⟨v, g, e, t, q⟩ =>
  let ⟨n, e1, k⟩ := kit_by (K := X.K) g c h
  ⟨v, clv c, tyv g, .type n, isB g c, e, e1 ▸ .ty n, t.x, k, q⟩
theorem kit_any {K : PySem.W.Frag} (g : Tg) : PySem.W.kitAny K (tyv g) [.type "list", .type "tuple"] = some (decide (g = .lst) || decide (g = .tup)) := by
  obtain ⟨n1, e1, k1⟩ := kit_by (K := K) g .lst (by decide)
  obtain ⟨n2, e2, k2⟩ := kit_by (K := K) g .tup (by decide)
  have e1 : V.ty "list" = V.ty n1 := e1
  have e2 : V.ty "tuple" = V.ty n2 := e2
  cases e1
  cases e2
  have k1 : PySem.W.kitOne K (tyv g) (.type "list") = some (decide (g = .lst)) := k1
  have k2 : PySem.W.kitOne K (tyv g) (.type "tuple") = some (decide (g = .tup)) := k2
  unfold PySem.W.kitAny
  rw [k1]
  cases decide (g = .lst) with
  | true => rfl
  | false =>
    unfold PySem.W.kitAny
    show (match PySem.W.kitOne K (tyv g) (.type "tuple") with | some true => some true | some false => PySem.W.kitAny K (tyv g) [] | none => none) = _
    rw [k2]
    cases decide (g = .tup) <;> rfl
def rIsS : List V → Hp → VK → Prop := fun xs H Q => ∃ v g tp, xs = [v, .ref tp] ∧ H tp = some (.tup [.ty "list", .ty "tuple"]) ∧ Ty H v g ∧ Q (.bl (decide (g = .lst) || decide (g = .tup))) H
theorem call_isS {X : Cx} : CallR X (.builtin "isinstance") rIsS := Rd.CallR.imp call_isiT fun xs H Q ⟨v, g, tp, e, ht, t, q⟩ =>
  ⟨v, tp, _, _, _, _, e, ht, .cons (.ty "list") (.cons (.ty "tuple") .nil), t.x, kit_any g, q⟩
/-- isinstance of an own instance with its own class -/
def rIsO (C : Addr) : List V → Hp → VK → Prop := fun xs H Q => ∃ p dx fs, xs = [.ref p, .ref C] ∧ H p = some (.ins C dx fs) ∧ Q (.bl true) H
theorem call_isF {X : Cx} {mg : Str → Option Value} {a : Ad} (T : Txt X.K mg a) : CallR X (.builtin "isinstance") (rIsO a.C_Frac) := Rd.CallR.imp call_isi fun xs H Q ⟨p, dx, fs, e, h, q⟩ =>
  ⟨.ref p, .ref a.C_Frac, .ref a.C_Frac, .ref a.C_Frac, true, e, .own _, .base (.ins h T.cl_Frac T.cg_Frac T.cget T.ctk T.mr_Frac), T.kit_F_F, q⟩
/-- is it a fraction: of None, an int, a fraction -/
def rIsFr (C : Addr) : List V → Hp → VK → Prop := fun xs H Q => ∃ v, xs = [v, .ref C] ∧ ((v = .non ∧ Q (.bl false) H) ∨ (∃ i, v = .int i ∧ Q (.bl false) H) ∨ ∃ p dx fs, v = .ref p ∧ H p = some (.ins C dx fs) ∧ Q (.bl true) H)
theorem call_isFr {X : Cx} {mg : Str → Option Value} {a : Ad} (T : Txt X.K mg a) : CallR X (.builtin "isinstance") (rIsFr a.C_Frac) := Rd.CallR.imp call_isi fun xs H Q ⟨v, e, q⟩ => by
  rcases q with ⟨rfl, q⟩ | ⟨i, rfl, q⟩ | ⟨p, dx, fs, rfl, h, q⟩
  · exact ⟨.non, .ref a.C_Frac, .type "NoneType", .ref a.C_Frac, false, e, .own _, .base .non, T.kit_none_F, q⟩
  · exact ⟨.int i, .ref a.C_Frac, .type "int", .ref a.C_Frac, false, e, .own _, .base (.int i), T.kit_int_F, q⟩
  · exact ⟨.ref p, .ref a.C_Frac, .ref a.C_Frac, .ref a.C_Frac, true, e, .own _, .base (.ins h T.cl_Frac T.cg_Frac T.cget T.ctk T.mr_Frac), T.kit_F_F, q⟩
/-- is it a list or a tuple: not None, no int, no fraction -/
def rIsLT (C : Addr) : List V → Hp → VK → Prop := fun xs H Q => ∃ v tp, xs = [v, .ref tp] ∧ H tp = some (.tup [.ty "list", .ty "tuple"]) ∧ (v = .non ∨ (∃ i, v = .int i) ∨ ∃ p dx fs, v = .ref p ∧ H p = some (.ins C dx fs)) ∧ Q (.bl false) H
theorem call_isLT {X : Cx} {mg : Str → Option Value} {a : Ad} (T : Txt X.K mg a) : CallR X (.builtin "isinstance") (rIsLT a.C_Frac) := Rd.CallR.imp call_isiT fun xs H Q ⟨v, tp, e, ht, q⟩ => by
  obtain ⟨q, k⟩ := q
  rcases q with rfl | ⟨i, rfl⟩ | ⟨p, dx, fs, rfl, h⟩
  · exact ⟨.non, tp, _, _, _, _, e, ht, .cons (.ty "list") (.cons (.ty "tuple") .nil), (Ty.non (H := H)).x, kit_any .non, k⟩
  · exact ⟨.int i, tp, _, _, _, _, e, ht, .cons (.ty "list") (.cons (.ty "tuple") .nil), (Ty.int (H := H) i).x, kit_any .int, k⟩
  · refine ⟨.ref p, tp, _, _, _, _, e, ht, .cons (.ty "list") (.cons (.ty "tuple") .nil), .base (.ins h T.cl_Frac T.cg_Frac T.cget T.ctk T.mr_Frac), ?_, k⟩
    unfold PySem.W.kitAny
    rw [T.kit_F_list]
    show PySem.W.kitAny X.K _ _ = _
    unfold PySem.W.kitAny
    rw [T.kit_F_tuple]
    rfl
theorem same_upd {H : Hp} {p : Addr} {o : HO} (h : H p = none) : Same H (upd H p o) := fun b x e => by
  rw [upd_ne (ne_of_none e h)]
  exact e
theorem small {n : Nat} (h : n < 1000) : n < sizeLine := Nat.lt_of_lt_of_le h (by decide)
theorem small_le {n : Nat} (h : n ≤ 1000) : n ≤ sizeLine := Nat.le_trans h (by decide)
/-- an item of a tuple that stands in H by itself -/
def rIxHT : R2 := fun x y H Q => ∃ p xs i v, x = .ref p ∧ y = .int i ∧ H p = some (.tup xs) ∧ atI xs i = some v ∧ Q v H
theorem ixHT {X : Cx} : IxR X rIxHT := fun value slice pins s σ H x y v u Q I rx ry ⟨p, xs, i, z, e1, e2, h, e3, q⟩ hs => ix_tup value slice pins s σ H x y v u Q I rx ry ⟨p, xs, i, z, e1, e2, SqT.of h, e3, q⟩ hs
/-! ### sets of things -/
/-- the things as values -/
def iv (s : List Nat) : List V := s.map fun g => V.int (g : Nat)
theorem iv_len (s : List Nat) : (iv s).length = s.length := List.length_map _
def mk (s : List Nat) : Nat := (s.map fun g => 2 ^ g).sum
def bit (m k : Nat) : Bool := decide (m / 2 ^ k % 2 = 1)
def bits (m : Nat) : List Nat := (List.range 6).filter (bit m)
/-- all sets of n things, in order of size -/
def allS (n : Nat) : List (List Nat) := (List.range (n + 1)).flatMap (combs n)
/-- a part, its masks -/
def Sub (m' m : Nat) : Prop := m' &&& m = m'
instance (m' m : Nat) : Decidable (Sub m' m) := inferInstanceAs (Decidable (_ = _))
def In (S : List Bool) (m : Nat) : Bool := S.getD m false
/-- what may be taken: which masks; () is one, and every part of one -/
structure Fam (n : Nat) (S : List Bool) : Prop where
  n1 : 1 ≤ n
  n6 : n ≤ 6
  len : S.length = 2 ^ n
  zero : In S 0 = true
  down : ∀ m m', Sub m' m → In S m = true → In S m' = true
def famL (n : Nat) (S : List Bool) : List (List Nat) := (allS n).filter fun s => In S (mk s)

/-! ### rules with the table of kept things told -/
theorem op_inK {X : Cx} (K : PySem.W.Frag) (hK : X.K = K := by rfl) : OpR X (compareOp .In) (rIn K false) := by
  subst hK
  exact op_in_seq
theorem op_notInK {X : Cx} (K : PySem.W.Frag) (hK : X.K = K := by rfl) : OpR X (compareOp .NotIn) (rIn K true) := by
  subst hK
  exact op_notIn_seq
theorem pi_combK {X : Cx} {tg e e2 : Expr} {ta : TA} {x : Str} {p pos : Pos} (K : PySem.W.Frag) (hg : Gl X x) (hm : X.mg x = some (.type OwnComb.T)) (ha : PA X [e, e2] ta) (hK : X.K = K := by rfl) (hdb : (x == ("__debug__" : Str)) = false := by decide)
    (hs : starEach [e, e2] X.env = (false, eval e X.env) :: starEach [e2] X.env := by rfl) (hpl : (backTo pos (starEach [e2] X.env)).any (·.1) = false := by rfl) :
    PI X tg (.Call (.Name x p) [e, e2] [] pos) (iComb K ta) := by
  subst hK
  exact pi_comb hg hm ha hdb hs hpl
theorem pe_fldK {X : Cx} {e : Expr} {f : Str} {pos : Pos} {ta : TE} (K : PySem.W.Frag) (he : PE X e ta) (hK : X.K = K := by rfl) (hb : attributeBase e f X.env (eval e X.env) = eval e X.env := by rfl) : PE X (.Attribute e f pos) (tFld K ta f) := by
  subst hK
  exact pe_fld he hb

end K37
namespace K37
open PySem PySem.Spec PyProof.Rows L2 Own OwnSeq OwnSet OwnComb OwnSort OwnHot OwnExN OwnProj
/-! ### the sets of few things: by reckoning -/
def enc (s : List Nat) : PyData := .tuple [.int s.length, .tuple (s.map fun g => .int (g : Nat))]
abbrev leS : List Nat → List Nat → Bool := PySem.W.dataLe false enc
def asc : List Nat → Bool
  | [] => true
  | x :: r => r.all (fun y => decide (x < y)) && asc r
def ordered : List (List Nat) → Bool
  | [] => true
  | s :: r => r.all (fun t => leS s t && !leS t s && decide (s.length ≤ t.length)) && ordered r
def chk (n : Nat) : Bool := ((allS n).all fun s => decide (bits (mk s) = s) && decide (mk s < 2 ^ n) && s.all (fun g => decide (g < n)) && decide (s.length ≤ n) && asc s) &&
  ((List.range (2 ^ n)).all fun m => decide (mk (bits m) = m) && (allS n).contains (bits m)) && ordered (allS n) && decide ((allS n).length = 2 ^ n)
theorem chk_all : ((List.range 7).all chk) = true := by decide +kernel
theorem chk_at {n : Nat} (h : n ≤ 6) : chk n = true := List.all_eq_true.mp chk_all n (List.mem_range.mpr (by omega))
theorem pw_of {r : List Nat → List Nat → Prop} : ∀ {l : List (List Nat)}, ordered l = true → (∀ s t, leS s t = true → leS t s = false → s.length ≤ t.length → r s t) → l.Pairwise r
  | [], _, _ => .nil
  | s :: l, h, k => by
    obtain ⟨a, b⟩ := Bool.and_eq_true_iff.mp h
    refine .cons (fun t ht => ?_) (pw_of b k)
    have z := List.all_eq_true.mp a t ht
    simp at z
    exact k s t z.1.1 z.1.2 z.2
section
variable {n : Nat} (h : n ≤ 6)
theorem allS_at {s : List Nat} (hs : s ∈ allS n) (h : n ≤ 6) : bits (mk s) = s ∧ mk s < 2 ^ n ∧ (∀ g ∈ s, g < n) ∧ s.length ≤ n ∧ asc s = true := by
  have z := chk_at h
  unfold chk at z
  simp only [Bool.and_eq_true] at z
  have y := List.all_eq_true.mp z.1.1.1 s hs
  simp only [Bool.and_eq_true, decide_eq_true_eq] at y
  exact ⟨y.1.1.1.1, y.1.1.1.2, fun g hg => of_decide_eq_true (List.all_eq_true.mp y.1.1.2 g hg), y.1.2, y.2⟩
theorem bits_in {m : Nat} (h : n ≤ 6) (hm : m < 2 ^ n) : mk (bits m) = m ∧ bits m ∈ allS n := by
  have z := chk_at h
  unfold chk at z
  simp only [Bool.and_eq_true] at z
  have y := List.all_eq_true.mp z.1.1.2 m (List.mem_range.mpr hm)
  simp only [Bool.and_eq_true, decide_eq_true_eq] at y
  exact ⟨y.1, List.contains_iff_mem.mp y.2⟩
theorem allS_len (h : n ≤ 6) : (allS n).length = 2 ^ n := by
  have z := chk_at h
  unfold chk at z
  simp only [Bool.and_eq_true, decide_eq_true_eq] at z
  exact z.2
theorem allS_strict (h : n ≤ 6) : (allS n).Pairwise fun s t => leS s t = true ∧ leS t s = false ∧ s.length ≤ t.length := by
  have z := chk_at h
  unfold chk at z
  simp only [Bool.and_eq_true] at z
  exact pw_of z.1.2 fun s t a b c => ⟨a, b, c⟩
theorem allS_nodup (h : n ≤ 6) : (allS n).Nodup := (allS_strict h).imp fun {s t} z e => by
  subst e
  rw [z.1] at z
  exact absurd z.2.1 (by decide)
/-- the masks' sets are all sets -/
theorem perm_masks (h : n ≤ 6) : ((List.range (2 ^ n)).map bits).Perm (allS n) := by
  refine (List.perm_ext_iff_of_nodup ?_ (allS_nodup h)).mpr fun s => ?_
  · refine List.pairwise_map.mpr (List.Pairwise.imp_of_mem (fun {x y} hx hy ne e => ne ?_) List.nodup_range)
    have a := (bits_in h (List.mem_range.mp hx)).1
    rw [e, (bits_in h (List.mem_range.mp hy)).1] at a
    exact a.symm
  · refine ⟨fun z => ?_, fun z => ?_⟩
    · obtain ⟨m, hm, rfl⟩ := List.mem_map.mp z
      exact (bits_in h (List.mem_range.mp hm)).2
    · have y := allS_at z h
      exact List.mem_map.mpr ⟨mk s, List.mem_range.mpr y.2.1, y.1⟩
end
theorem _root_.List.Pairwise.of_mem_or {α : Type} {r : α → α → Prop} : ∀ {l : List α}, l.Pairwise r → ∀ {x y : α}, x ∈ l → y ∈ l → x = y ∨ r x y ∨ r y x
  | _ :: l, .cons a b, x, y, hx, hy => by
    rcases List.mem_cons.mp hx with ex | hx
    · rcases List.mem_cons.mp hy with ey | hy
      · exact .inl (ex.trans ey.symm)
      · exact .inr (.inl (ex ▸ a y hy))
    · rcases List.mem_cons.mp hy with ey | hy
      · exact .inr (.inr (ey ▸ a x hx))
      · exact b.of_mem_or hx hy
theorem sorted_eq {l : List (List Nat)} {n : Nat} (h : n ≤ 6) {p : List Nat → Bool} (hl : l.Perm ((allS n).filter p)) : l.mergeSort leS = (allS n).filter p := by
  have st := (allS_strict h).filter p
  refine List.Perm.eq_of_pairwise (le := fun s t => leS s t = true) ?_ (PySem.W.sort_pairwise ?_ l) (st.imp fun z => z.1) ((List.mergeSort_perm l leS).trans hl)
  · intro s t hs ht a b
    have hs' : s ∈ (allS n).filter p := hl.mem_iff.mp (List.mem_mergeSort.mp hs)
    rcases st.of_mem_or hs' ht with e | e | e
    · exact e
    · rw [e.2.1] at b; cases b
    · rw [e.2.1] at a; cases a
  · exact PySem.W.sortLe_total _ _ _

end K37
namespace K37
open PySem PySem.Spec PyProof.Rows L2 Own OwnSeq OwnSet OwnComb OwnSort OwnHot OwnExN OwnProj
local macro_rules | `(tactic| walk_at "rd") => `(tactic| simp only [tSeq, tAsg, tOp, tUn, tVar, gName, gSub, rIxL, rIxT, rSetL, tC, rI0, rI, rU, rEq, rNe, tCons, tNil, tCB, tLst, tTup, tIfS, tAnd, tOr, tNot, tAndV, tOrV, tNotV, tTest, tB, tIf, tRet, tDrop, tNext, tBreak, tCont, tCall, tCallS, L2.WE, tMakeS, rIsS, rIsB, tChain, gSeq, gRest, gCons, gNil, tFor_seq, tFor_enumS, tLc_seq, tLc_enumS, rAny, rAll, L2.tMeth, StX.tStar, rIn, tLstRg, tRg1, tRg2, rSetI, rSortedSet, rInDT, rInD, rNotInD, rEqD, rNeD, iComb, tFld, tMake, tMkO, sFld, tOst, tNever, tBits, clv, isB,
  Rd.tFor_rng1, Rd.tFor_rng2, Rd.tFor_list, Rd.tFor_tup, Rd.tLc_list, Rd.tLc_tup, Rd.tLc_rng1, Rd.LcTurn, tYes, wipe, Rd.rLenL, Rd.rLenT, Rd.rIntI, Rd.rIxH, rIxHT,  HO.tup.injEq, Rd.at0, Rd.at1, Rd.at2, Rd.at3, Rd.ixN40, Rd.ixN41, Rd.ixN42, Rd.ixN43, Rd.scal_ii, cxOf,
  List.length_cons, List.length_nil, List.length_map, List.map_cons, List.map_nil, upd_same, decide_eq_true_eq, decide_true, decide_false, if_true, if_false, Bool.false_eq_true, Bool.not_true, Bool.not_false, HO.lst.injEq, HO.ins.injEq, List.set_cons_zero, List.set_cons_succ, List.getElem?_cons_zero, List.getElem?_cons_succ, List.append_nil, List.nil_append, List.cons_append, Option.some.injEq, V.ref.injEq, V.int.injEq, V.bl.injEq, List.cons.injEq, exists_eq_left', exists_and_left, exists_eq_left, true_and, and_true, and_self, and_assoc, implies_true, reduceCtorEq, Nat.reduceAdd])

/-- the sets as new tuples -/
def Tups (H : Hp) : List V → List (List Nat) → Prop
  | [], [] => True
  | v :: vs, s :: ss => (∃ q, v = .ref q ∧ H q = some (.tup (iv s))) ∧ Tups H vs ss
  | _, _ => False
theorem Tups.same {H H' : Hp} (e : Same H H') : ∀ {vs : List V} {ss : List (List Nat)}, Tups H vs ss → Tups H' vs ss
  | [], [], _ => trivial
  | _ :: _, _ :: _, ⟨⟨q, a, b⟩, r⟩ => ⟨⟨q, a, e _ _ b⟩, Tups.same e r⟩
  | [], _ :: _, h => h.elim
  | _ :: _, [], h => h.elim
theorem Tups.upd {H : Hp} {D : Addr} {xs : List V} {o : HO} (h : H D = some (.lst xs)) : ∀ {vs : List V} {ss : List (List Nat)}, Tups H vs ss → Tups (upd H D o) vs ss
  | [], [], _ => trivial
  | _ :: _, _ :: _, ⟨⟨q, a, b⟩, r⟩ => ⟨⟨q, a, by rw [upd_ne (fun z => by rw [z, h] at b; cases b)]; exact b⟩, Tups.upd h r⟩
  | [], _ :: _, h => h.elim
  | _ :: _, [], h => h.elim
theorem Tups.app {H : Hp} : ∀ {vs ws : List V} {gs hs : List (List Nat)}, Tups H vs gs → Tups H ws hs → Tups H (vs ++ ws) (gs ++ hs)
  | [], _, [], _, _, h => h
  | _ :: _, _, _ :: _, _, ⟨a, r⟩, h => ⟨a, Tups.app r h⟩
  | [], _, _ :: _, _, h, _ => h.elim
  | _ :: _, _, [], _, h, _ => h.elim
theorem Tups.len {H : Hp} : ∀ {xs : List V} {gs : List (List Nat)}, Tups H xs gs → xs.length = gs.length
  | [], [], _ => rfl
  | _ :: _, _ :: _, h => congrArg (· + 1) h.2.len
  | [], _ :: _, h => h.elim
  | _ :: _, [], h => h.elim
theorem Tups.at {H : Hp} : ∀ {xs : List V} {gs : List (List Nat)} {i : Nat} {x : V}, Tups H xs gs → xs[i]? = some x → ∃ g, gs[i]? = some g ∧ ∃ q, x = .ref q ∧ H q = some (.tup (iv g))
  | _ :: _, g :: _, 0, _, h, e => ⟨g, rfl, by cases Option.some.inj e; exact h.1⟩
  | _ :: _, _ :: _, i + 1, _, h, e => Tups.at (i := i) h.2 e
  | [], [], _, _, _, e => by cases e
  | [], _ :: _, _, _, h, _ => h.elim
  | _ :: _, [], _, _, h, _ => h.elim
theorem seqOr {K : PySem.W.Frag} {H : Hp} {p : Addr} {l : Bool} {xs : List V} (h : H p = some (sq l xs)) : SqL K H p xs ∨ SqT K H p xs := by
  cases l with
  | true => exact .inl (SqL.of h)
  | false => exact .inr (SqT.of h)
theorem seqOr' {K : PySem.W.Frag} {H : Hp} {p : Addr} {l : Bool} {xs : List V} (h : H p = some (sq l xs)) : SqT K H p xs ∨ SqL K H p xs := (seqOr h).symm
theorem flat_len : ((List.range 7).all fun n => (List.range 9).all fun i => decide (((List.range i).flatMap (combs n)).length ≤ 64)) = true := by decide +kernel
theorem flat_at {n i : Nat} (hn : n ≤ 6) (hi : i ≤ 8) : ((List.range i).flatMap (combs n)).length ≤ 64 := of_decide_eq_true (List.all_eq_true.mp (List.all_eq_true.mp flat_len n (List.mem_range.mpr (by omega))) i (List.mem_range.mpr (by omega)))
theorem pick_iv {n : Nat} {js : List Nat} (h : ∀ j ∈ js, j < n) : (js.map fun j => (iv (List.range n)).getD j .non) = iv js := List.map_congr_left fun j hj => by
  have z := h j hj
  unfold iv
  rw [List.getD_eq_getElem?_getD, List.getElem?_map, List.getElem?_range z]
  rfl
theorem all_flat {α β : Type} {f : α → Bool} : True := trivial
theorem iv_flat (s : List Nat) : (iv s).all flatV = true := List.all_eq_true.mpr fun x hx => by
  obtain ⟨g, _, rfl⟩ := List.mem_map.mp hx
  rfl
theorem inV_iv (g : Nat) (s : List Nat) : inV (.int (g : Nat)) (iv s) = s.contains g := by
  unfold inV iv
  rw [List.any_map]
  induction s with
  | nil => rfl
  | cons x s ih =>
    rw [List.any_cons, List.contains_cons, ih]
    congr 1
    show ((x : Int) == (g : Int)) = (g == x)
    exact Bool.eq_iff_iff.mpr ⟨fun z => beq_iff_eq.mpr (by have := beq_iff_eq.mp z; omega), fun z => beq_iff_eq.mpr (by have := beq_iff_eq.mp z; omega)⟩
section
variable {P : Program} {w : World} {K : PySem.W.Frag} {mg : Str → Option Value} {base : Heap} {a : Ad}
/-! ### parts_of(list(range(n))), all_sets -/
def spParts : Sp := fun vs H Q _ => ∃ (p : Addr) (n : Nat), vs = [.ref p] ∧ H p = some (.lst (iv (List.range n))) ∧ n ≤ 6 ∧ ∀ q ys H', H q = none → Same H H' → H' q = some (.lst ys) → Tups H' ys (allS n) → Q (.ref q) H'
theorem sc_parts_of : FnScope ["things", "row", "many", "part"] ["things"] (defScope s_parts_of) := ⟨rfl, rfl, rfl, by decide +kernel, rfl, by decide +kernel, by decide +kernel⟩
theorem ok_parts_of (T : Txt K mg a) : FnOk P w K mg base CX0 1 a.a_parts_of a.d_parts_of ["things"] spParts := by
  refine T.fn_parts_of.ok sc_parts_of (fun vs H Q E h => ?_) (fun cdv A outer s H vs Q E hr h => ?_)
  · obtain ⟨p, n, rfl, _⟩ := h
    rfl
  · obtain ⟨p, n, rfl, hp, hn, k⟩ := h
    refine ⟨_, (pss_cons (ps_set (i := 1) sc_parts_of.nd rfl (Or.inr rfl) (pe_callTy call_list_of (by rfl) T.no_list (by decide +kernel) (pa_cons (pv 0) pa_nil)))
      (pss_one (ps_ret (pe_lc2 (own := [("many", 2), ("part", 3)]) (vs1 := [3]) (by rfl) sc_parts_of.nd (pi_range1 (by rfl) T.no_range (pa_cons (pe_op op_add (pe_callB Rd.call_lenL (by rfl) T.no_len PySem.boot_len (pa_cons (pv 1) pa_nil)) pe_int) pa_nil)) (blkOk_by (own := [("many", 2), ("part", 3)]) (N := ["things", "row", "many", "part"]) (sc := defScope s_parts_of) (by decide +kernel)) (by decide) (fun _ _ _ _ _ => pg_name (i := 2) sc_parts_of.nd rfl (Or.inl rfl)) (fun _ _ _ _ _ => pts_nil) (fun _ _ _ _ _ => (pi_combK K (by rfl) T.mg_combinations (pa_cons (pv 1) (pa_cons (pv 2) pa_nil)))) (fun _ _ _ _ _ => pg_name (i := 3) sc_parts_of.nd rfl (Or.inl rfl)) (fun _ _ _ _ _ => pts_nil) (fun _ _ _ _ _ => (pv 3)))))), ?_⟩
    show (_ : TS) _ [some (V.ref p), none, none, none] H
    walk_at "rd"
    refine ⟨_, .inl (SqL.of hp), fun l hl => ?_⟩
    have e1 := same_upd (o := .lst (iv (List.range n))) hl
    have at1 := upd_same (H := H) (a := l) (o := .lst (iv (List.range n)))
    generalize upd H l (.lst (iv (List.range n))) = H1 at e1 at1 ⊢
    unfold tLc2 iRng1
    walk_at "rd"
    refine ⟨_, SqL.of at1, ?_⟩
    rw [iv_len, List.length_range]
    refine ⟨by omega, by omega, fun D hD => ⟨fun i m H' => m = n + 1 - i ∧ i ≤ n + 1 ∧ ∃ ys, Same H1 H' ∧ H' D = some (.lst ys) ∧ Tups H' ys ((List.range i).flatMap (combs n)), ⟨n + 1, rfl, Nat.zero_le _, [], same_upd hD, upd_same, trivial⟩, fun i m H2 ⟨em, hi, ys, e2, hy, tv⟩ => ?_⟩⟩
    have jn : ((n : Int) + 1).toNat = n + 1 := by omega
    rw [jn]
    rcases Nat.lt_or_eq_of_le hi with lt | eq
    · refine .inr ⟨lt, fun H' => ∃ ys, Same H1 H' ∧ H' D = some (.lst ys) ∧ Tups H' ys ((List.range (i + 1)).flatMap (combs n)), fun H' z => ⟨n + 1 - (i + 1), by omega, rfl, lt, z⟩, fun x H' yl => ?_⟩
      obtain ⟨rfl, rfl⟩ : H' = H2 ∧ x = V.int ((0 : Int) + (i : Nat)) := yl
      refine ⟨i, by rw [Int.zero_add], _, SqL.of (e2 _ _ at1), by omega, by rw [iv_len, List.length_range]; omega, combs n i, by rw [iv_len, List.length_range]; exact chain6 hn (by omega), ?_⟩
      have C := chain6 (n := n) (r := i) hn (by omega)
      have fl := flat_at (n := n) (i := i + 1) hn (by omega)
      rw [List.range_succ, List.flatMap_append, List.flatMap_cons, List.flatMap_nil, List.append_nil] at fl ⊢
      refine ⟨fun j k H' => k = (combs n i).length - j ∧ j ≤ (combs n i).length ∧ ∃ ys, Same H1 H' ∧ H' D = some (.lst ys) ∧ Tups H' ys ((List.range i).flatMap (combs n) ++ (combs n i).take j), ⟨_, rfl, Nat.zero_le _, ys, e2, hy, by rw [List.take_zero, List.append_nil]; exact tv⟩, fun j k H3 ⟨ek, hj, ys, e3, hy3, tv3⟩ => ?_⟩
      rcases Nat.lt_or_eq_of_le hj with lt2 | eq2
      · refine .inr ⟨lt2, fun H' => ∃ ys, Same H1 H' ∧ H' D = some (.lst ys) ∧ Tups H' ys ((List.range i).flatMap (combs n) ++ (combs n i).take (j + 1)), fun H' z => ⟨_, by omega, rfl, lt2, z⟩, fun x H4 yl => ?_⟩
        obtain ⟨t, js, hjs, rfl, ht, rfl⟩ := yl
        have te := same_upd (o := .tup (js.map fun j => (iv (List.range n)).getD j .non)) ht
        have yl := tv3.len
        rw [List.length_append, List.length_take] at yl
        rw [List.length_append] at fl
        refine ⟨ys, te _ _ hy3, small (by omega), ys ++ [.ref t], fun b o hb => (upd_ne (ne_of_none hb hD)).trans (te _ _ (e3 _ _ hb)), upd_same, ?_⟩
        rw [List.take_add_one, hjs, ← List.append_assoc]
        exact Tups.upd (te _ _ hy3) (Tups.app (tv3.same te) ⟨⟨t, rfl, by rw [upd_same, pick_iv (C.inn js (List.mem_of_getElem? hjs))]⟩, trivial⟩)
      · subst eq2
        rw [List.take_length] at tv3
        exact .inl ⟨rfl, ys, e3, hy3, tv3⟩
    · subst eq
      refine .inl ⟨Nat.le_refl _, k D ys H2 (e1.free hD) (e1.trans e2) hy tv⟩
def spAll : Sp := fun vs H Q _ => ∃ (n : Nat), vs = [.int n] ∧ n ≤ 6 ∧ ∀ q ys H', H q = none → Same H H' → H' q = some (.lst ys) → Tups H' ys (allS n) → Q (.ref q) H'
theorem sc_all_sets : FnScope ["size"] ["size"] (defScope s_all_sets) := ⟨rfl, rfl, rfl, by decide +kernel, rfl, by decide +kernel, by decide +kernel⟩
theorem ok_all_sets (T : Txt K mg a) : FnOk P w K mg base CX0 2 a.a_all_sets a.d_all_sets ["size"] spAll := by
  refine T.fn_all_sets.ok sc_all_sets (fun vs H Q E h => ?_) (fun cdv A outer s H vs Q E hr h => ?_)
  · obtain ⟨n, rfl, _⟩ := h
    rfl
  · obtain ⟨n, rfl, hn, k⟩ := h
    refine ⟨_, (pss_one (ps_ret (pe_call (ok_parts_of T) (hr.mono (by decide)) (by rfl) T.mg_parts_of T.fn_parts_of.kp T.b_parts_of .nil pass0 (pa_cons (pe_listRg rfl (by rfl) T.no_list (prg_1 (by rfl) T.no_range (pv 0))) pa_nil)))), ?_⟩
    show (_ : TS) _ [some (V.int n)] H
    walk_at "rd"
    refine ⟨RgOk.of_le (by decide) (by omega) (by decide) (by omega), fun q hq => ⟨q, n, rfl, ?_, hn, fun r ys H' hr e ha ht => k r ys H' ((same_upd hq).free hr) ((same_upd hq).trans e) ha ht⟩⟩
    rw [upd_same]
    unfold rgV iv
    rw [show ((n : Int) - 0).toNat = n by omega]
    congr 2
    refine List.map_congr_left fun j hj => ?_
    rw [Int.zero_add]
/-! ### is_part, touches -/
def subL (s t : List Nat) : Bool := s.all fun g => t.contains g
def spPart : Sp := fun vs H Q _ => ∃ (p q : Addr) (l l' : Bool) (s t : List Nat), vs = [.ref p, .ref q] ∧ H p = some (sq l (iv s)) ∧ H q = some (sq l' (iv t)) ∧ s.length ≤ 6 ∧ ∀ H', Same H H' → Q (.bl (subL s t)) H'
theorem sc_is_part : FnScope ["part", "things", "thing"] ["part", "things"] (defScope s_is_part) := ⟨rfl, rfl, rfl, by decide +kernel, rfl, by decide +kernel, by decide +kernel⟩
theorem ok_is_part (T : Txt K mg a) : FnOk P w K mg base CX0 1 a.a_is_part a.d_is_part ["part", "things"] spPart := by
  refine T.fn_is_part.ok sc_is_part (fun vs H Q E h => ?_) (fun cdv A outer s H vs Q E hr h => ?_)
  · obtain ⟨p, q, l, l', s, t, rfl, _⟩ := h
    rfl
  · obtain ⟨p, q, l, l', s, t, rfl, hp, hq, h6, k⟩ := h
    refine ⟨_, (pss_one (ps_ret (pe_callB (cr_all rfl) (by rfl) T.no_all (by decide +kernel) (pa_cons (pe_lc (own := [("thing", 2)]) (by rfl) sc_is_part.nd (pi_seq (pv 0)) (blkOk_by (own := [("thing", 2)]) (N := ["part", "things", "thing"]) (sc := defScope s_is_part) (by decide +kernel)) (fun _ _ _ _ _ => pg_name (i := 2) sc_is_part.nd rfl (Or.inl rfl)) (fun _ _ _ _ _ => pts_nil) (fun _ _ _ _ _ => (pe_cmpR (op_inK K) (pv 2) (pv 1) (by with_unfolding_all rfl)))) pa_nil)))), ?_⟩
    show (_ : TS) _ [some (V.ref p), some (V.ref q), none] H
    walk_at "rd"
    refine ⟨l, _, hp, lcl_goes goes_seq (fun D i H5 => H D = none ∧ Same H H5 ∧ H5 D = some (.lst (((s.take i).map fun g => t.contains g).map V.bl))) (fun D hD => ⟨hD, same_upd hD, upd_same⟩)
      (fun D i H5 _ h => h.2.1 _ _ hp) (fun D i x H5 H5' hi ⟨n5, e5, a5⟩ ⟨eq5, hx⟩ => ?_) (fun D H5 _ ⟨n5, e5, a5⟩ => ?_)⟩
    · subst eq5
      rw [iv_len] at hi
      obtain ⟨g, hg, rfl⟩ : ∃ g, s[i]? = some g ∧ x = V.int (g : Nat) := by
        unfold iv at hx
        rw [List.getElem?_map] at hx
        cases z : s[i]? with
        | none => rw [z] at hx; cases hx
        | some g => rw [z] at hx; exact ⟨g, rfl, (Option.some.inj hx).symm⟩
      walk_at "rd"
      refine ⟨_, seqOr (e5 _ _ hq), rfl, iv_flat t, _, a5, small (by rw [List.length_map, List.length_map, List.length_take]; omega), n5, fun b o hb => (upd_ne (ne_of_none hb n5)).trans (e5 _ _ hb), ?_⟩
      rw [List.take_add_one, hg, List.map_append, List.map_append, inV_iv]
      rfl
    · rw [iv_len, List.take_length] at a5
      exact ⟨D, rfl, _, SqL.of a5, by rw [List.all_map]; exact k _ e5⟩
def metL (s t : List Nat) : Bool := s.any fun g => t.contains g
def spTouches : Sp := fun vs H Q _ => ∃ (p q : Addr) (l l' : Bool) (s t : List Nat), vs = [.ref p, .ref q] ∧ H p = some (sq l (iv s)) ∧ H q = some (sq l' (iv t)) ∧ s.length ≤ 6 ∧ ∀ H', Same H H' → Q (.bl (metL s t)) H'
theorem sc_touches : FnScope ["one", "other", "thing"] ["one", "other"] (defScope s_touches) := ⟨rfl, rfl, rfl, by decide +kernel, rfl, by decide +kernel, by decide +kernel⟩
theorem ok_touches (T : Txt K mg a) : FnOk P w K mg base CX0 1 a.a_touches a.d_touches ["one", "other"] spTouches := by
  refine T.fn_touches.ok sc_touches (fun vs H Q E h => ?_) (fun cdv A outer s H vs Q E hr h => ?_)
  · obtain ⟨p, q, l, l', s, t, rfl, _⟩ := h
    rfl
  · obtain ⟨p, q, l, l', s, t, rfl, hp, hq, h6, k⟩ := h
    refine ⟨_, (pss_one (ps_ret (pe_callB (cr_any rfl) (by rfl) T.no_any (by decide +kernel) (pa_cons (pe_lc (own := [("thing", 2)]) (by rfl) sc_touches.nd (pi_seq (pv 0)) (blkOk_by (own := [("thing", 2)]) (N := ["one", "other", "thing"]) (sc := defScope s_touches) (by decide +kernel)) (fun _ _ _ _ _ => pg_name (i := 2) sc_touches.nd rfl (Or.inl rfl)) (fun _ _ _ _ _ => pts_nil) (fun _ _ _ _ _ => (pe_cmpR (op_inK K) (pv 2) (pv 1) (by with_unfolding_all rfl)))) pa_nil)))), ?_⟩
    show (_ : TS) _ [some (V.ref p), some (V.ref q), none] H
    walk_at "rd"
    refine ⟨l, _, hp, lcl_goes goes_seq (fun D i H5 => H D = none ∧ Same H H5 ∧ H5 D = some (.lst (((s.take i).map fun g => t.contains g).map V.bl))) (fun D hD => ⟨hD, same_upd hD, upd_same⟩)
      (fun D i H5 _ h => h.2.1 _ _ hp) (fun D i x H5 H5' hi ⟨n5, e5, a5⟩ ⟨eq5, hx⟩ => ?_) (fun D H5 _ ⟨n5, e5, a5⟩ => ?_)⟩
    · subst eq5
      rw [iv_len] at hi
      obtain ⟨g, hg, rfl⟩ : ∃ g, s[i]? = some g ∧ x = V.int (g : Nat) := by
        unfold iv at hx
        rw [List.getElem?_map] at hx
        cases z : s[i]? with
        | none => rw [z] at hx; cases hx
        | some g => rw [z] at hx; exact ⟨g, rfl, (Option.some.inj hx).symm⟩
      walk_at "rd"
      refine ⟨_, seqOr (e5 _ _ hq), rfl, iv_flat t, _, a5, small (by rw [List.length_map, List.length_map, List.length_take]; omega), n5, fun b o hb => (upd_ne (ne_of_none hb n5)).trans (e5 _ _ hb), ?_⟩
      rw [List.take_add_one, hg, List.map_append, List.map_append, inV_iv]
      rfl
    · rw [iv_len, List.take_length] at a5
      exact ⟨D, rfl, _, SqL.of a5, by rw [List.any_map]; exact k _ e5⟩
/-! ### joined, rest_of -/
def spJoined : Sp := fun vs H Q _ => ∃ (p q : Addr) (l l' : Bool) (s t : List Nat), vs = [.ref p, .ref q] ∧ H p = some (sq l (iv s)) ∧ H q = some (sq l' (iv t)) ∧ s.length ≤ 6 ∧ t.length ≤ 6 ∧
  ∀ r u H', H r = none → Same H H' → u.Pairwise (· < ·) → (∀ g, g ∈ u ↔ g ∈ s ∨ g ∈ t) → H' r = some (.tup (iv u)) → Q (.ref r) H'
theorem sc_joined : FnScope ["one", "other"] ["one", "other"] (defScope s_joined) := ⟨rfl, rfl, rfl, by decide +kernel, rfl, by decide +kernel, by decide +kernel⟩
theorem ok_joined (T : Txt K mg a) : FnOk P w K mg base CX0 1 a.a_joined a.d_joined ["one", "other"] spJoined := by
  refine T.fn_joined.ok sc_joined (fun vs H Q E h => ?_) (fun cdv A outer s H vs Q E hr h => ?_)
  · obtain ⟨p, q, l, l', s, t, rfl, _⟩ := h
    rfl
  · obtain ⟨p, q, l, l', s, t, rfl, hp, hq, h6, h6', k⟩ := h
    refine ⟨_, (pss_one (ps_ret (pe_callTy call_tuple_of (by rfl) T.no_tuple (by decide +kernel) (pa_cons (pe_callB (cr_sortedSet rfl) (by rfl) T.no_sorted (by decide +kernel) (pa_cons (pe_callTy (OwnSet.cr_setI rfl) (by rfl) T.no_set (by decide +kernel) (pa_cons (pe_lst (StX.pa_star (pv 0) (StX.pa_star (pv 1) pa_nil))) pa_nil)) pa_nil)) pa_nil)))), ?_⟩
    show (_ : TS) _ [some (V.ref p), some (V.ref q)] H
    walk_at "rd"
    have ln : (iv s ++ iv t).length ≤ 12 := by rw [List.length_append, iv_len, iv_len]; omega
    have e0 : iv s ++ iv t = ((s ++ t).map fun g => ((g : Nat) : Int)).map V.int := by
      unfold iv
      rw [← List.map_append, List.map_map]
      rfl
    refine ⟨_, seqOr' hp, _, seqOr' hq, small_le (by omega), fun d hd => ⟨(s ++ t).map fun g => ((g : Nat) : Int), SqL.of (by rw [upd_same, e0]), by rw [List.length_map, List.length_append]; omega, fun x n hx hn => ⟨_, n, rfl, ?_, fun ns y pw mem nl hy => ⟨_, .inl ⟨SqL.of upd_same, fun z hz => ?_⟩⟩⟩⟩⟩
    · rw [List.length_map, List.length_append] at hn
      omega
    · have m : ∀ j ∈ ns, ∃ g, (g ∈ s ∨ g ∈ t) ∧ j = ((g : Nat) : Int) := fun j hj => by
        have z := of_decide_eq_true ((mem j).mp hj)
        obtain ⟨g, hg, rfl⟩ := List.mem_map.mp z
        exact ⟨g, List.mem_append.mp hg, rfl⟩
      have c : ns = (ns.map Int.toNat).map fun g => ((g : Nat) : Int) := by
        rw [List.map_map]
        refine (List.map_id ns).symm.trans (List.map_congr_left fun j hj => ?_)
        obtain ⟨g, _, rfl⟩ := m j hj
        exact (congrArg _ (Int.toNat_natCast g)).symm
      have s1 := same_upd (o := .lst (iv s ++ iv t)) hd
      have s2 := same_upd (o := SetO w x (fun j => decide (j ∈ (s ++ t).map fun g => ((g : Nat) : Int))) n) hx
      have s3 := same_upd (o := .lst (ns.map V.int)) hy
      refine k z (ns.map Int.toNat) _ ((((s1.trans s2).trans s3)).free hz) (((s1.trans s2).trans s3).trans (same_upd hz)) ?_ (fun g => ?_) ?_
      · rw [c] at pw
        exact (List.pairwise_map.mp pw).imp fun h => by simpa using h
      · refine ⟨fun h => ?_, fun h => ?_⟩
        · obtain ⟨j, hj, rfl⟩ := List.mem_map.mp h
          obtain ⟨g, hg, rfl⟩ := m j hj
          rw [Int.toNat_natCast]
          exact hg
        · exact List.mem_map.mpr ⟨(g : Int), (mem _).mpr (decide_eq_true (List.mem_map.mpr ⟨g, List.mem_append.mpr h, rfl⟩)), Int.toNat_natCast g⟩
      · have c2 : iv (ns.map Int.toNat) = ns.map V.int := by
          unfold iv
          rw [List.map_map]
          refine List.map_congr_left fun j hj => ?_
          obtain ⟨g, _, rfl⟩ := m j hj
          exact congrArg (fun g : Nat => V.int (g : Int)) (Int.toNat_natCast g)
        rw [upd_same, c2]
def restL (s t : List Nat) : List Nat := s.filter fun g => !t.contains g
def spRest : Sp := fun vs H Q _ => ∃ (p q : Addr) (l l' : Bool) (s t : List Nat), vs = [.ref p, .ref q] ∧ H p = some (sq l (iv s)) ∧ H q = some (sq l' (iv t)) ∧ s.length ≤ 6 ∧ ∀ r H', H r = none → Same H H' → H' r = some (.tup (iv (restL s t))) → Q (.ref r) H'
theorem sc_rest_of : FnScope ["things", "out", "thing"] ["things", "out"] (defScope s_rest_of) := ⟨rfl, rfl, rfl, by decide +kernel, rfl, by decide +kernel, by decide +kernel⟩
theorem ok_rest_of (T : Txt K mg a) : FnOk P w K mg base CX0 1 a.a_rest_of a.d_rest_of ["things", "out"] spRest := by
  refine T.fn_rest_of.ok sc_rest_of (fun vs H Q E h => ?_) (fun cdv A outer s H vs Q E hr h => ?_)
  · obtain ⟨p, q, l, l', s, t, rfl, _⟩ := h
    rfl
  · obtain ⟨p, q, l, l', s, t, rfl, hp, hq, h6, k⟩ := h
    refine ⟨_, (pss_one (ps_ret (pe_callTy call_tuple_of (by rfl) T.no_tuple (by decide +kernel) (pa_cons (pe_lc (own := [("thing", 2)]) (by rfl) sc_rest_of.nd (pi_seq (pv 0)) (blkOk_by (own := [("thing", 2)]) (N := ["things", "out", "thing"]) (sc := defScope s_rest_of) (by decide +kernel)) (fun _ _ _ _ _ => pg_name (i := 2) sc_rest_of.nd rfl (Or.inl rfl)) (fun _ _ _ _ _ => pts_one (pt_cmpR (op_notInK K) (pv 2) (pv 1) (by with_unfolding_all rfl))) (fun _ _ _ _ _ => (pv 2))) pa_nil)))), ?_⟩
    show (_ : TS) _ [some (V.ref p), some (V.ref q), none] H
    walk_at "rd"
    refine ⟨l, _, hp, lcl_goes goes_seq (fun D i H5 => H D = none ∧ Same H H5 ∧ H5 D = some (.lst (iv (restL (s.take i) t)))) (fun D hD => ⟨hD, same_upd hD, upd_same⟩)
      (fun D i H5 _ h => h.2.1 _ _ hp) (fun D i x H5 H5' hi ⟨n5, e5, a5⟩ ⟨eq5, hx⟩ => ?_) (fun D H5 _ ⟨n5, e5, a5⟩ => ?_)⟩
    · subst eq5
      rw [iv_len] at hi
      obtain ⟨g, hg, rfl⟩ : ∃ g, s[i]? = some g ∧ x = V.int (g : Nat) := by
        unfold iv at hx
        rw [List.getElem?_map] at hx
        cases z : s[i]? with
        | none => rw [z] at hx; cases hx
        | some g => rw [z] at hx; exact ⟨g, rfl, (Option.some.inj hx).symm⟩
      walk_at "rd"
      refine ⟨_, seqOr (e5 _ _ hq), rfl, iv_flat t, ?_⟩
      have st : restL (s.take (i + 1)) t = restL (s.take i) t ++ (if t.contains g = true then [] else [g]) := by
        unfold restL
        rw [List.take_add_one, hg, List.filter_append]
        cases z : t.contains g with
        | true => rw [show (some g).toList = [g] from rfl, List.filter_cons_of_neg (by rw [z]; decide)]; rfl
        | false => rw [show (some g).toList = [g] from rfl, List.filter_cons_of_pos (by rw [z]; decide)]; rfl
      rw [inV_iv, st]
      cases z : t.contains g with
      | true =>
        rw [if_neg (by decide), if_pos rfl, List.append_nil]
        exact ⟨n5, e5, a5⟩
      | false =>
        rw [if_pos (by decide), if_neg (by decide)]
        refine ⟨_, a5, small ?_, n5, fun b o hb => (upd_ne (ne_of_none hb n5)).trans (e5 _ _ hb), ?_⟩
        · rw [iv_len]
          have := List.length_filter_le (fun g => !t.contains g) (s.take i)
          rw [List.length_take] at this
          show (restL (s.take i) t).length < 1000
          unfold restL
          omega
        · unfold iv
          rw [List.map_append]
          rfl
    · rw [iv_len, List.take_length] at a5
      exact ⟨D, rfl, _, .inl ⟨SqL.of a5, fun r hr => k r _ (e5.free hr) (e5.trans (same_upd hr)) upd_same⟩⟩
end

end K37
namespace K37
open PySem PySem.Spec PyProof.Rows L2 Own OwnSeq OwnSet OwnComb OwnSort OwnHot OwnExN OwnProj
local macro_rules | `(tactic| walk_at "rd") => `(tactic| simp only [tSeq, tAsg, tOp, tUn, tVar, gName, gSub, rIxL, rIxT, rSetL, tC, rI0, rI, rU, rEq, rNe, tCons, tNil, tCB, tLst, tTup, tIfS, tAnd, tOr, tNot, tAndV, tOrV, tNotV, tTest, tB, tIf, tRet, tDrop, tNext, tBreak, tCont, tCall, tCallS, L2.WE, tMakeS, rIsS, rIsB, tChain, gSeq, gRest, gCons, gNil, tFor_seq, tFor_enumS, tLc_seq, tLc_enumS, rAny, rAll, L2.tMeth, StX.tStar, rIn, tLstRg, tRg1, tRg2, rSetI, rSortedSet, rInDT, rInD, rNotInD, rEqD, rNeD, iComb, tFld, tMake, tMkO, sFld, tOst, tNever, tBits, clv, isB,
  Rd.tFor_rng1, Rd.tFor_rng2, Rd.tFor_list, Rd.tFor_tup, Rd.tLc_list, Rd.tLc_tup, Rd.tLc_rng1, Rd.LcTurn, tYes, wipe, Rd.rLenL, Rd.rLenT, Rd.rIntI, Rd.rIxH, rIxHT,  HO.tup.injEq, Rd.at0, Rd.at1, Rd.at2, Rd.at3, Rd.ixN40, Rd.ixN41, Rd.ixN42, Rd.ixN43, Rd.scal_ii, cxOf,
  List.length_cons, List.length_nil, List.length_map, List.map_cons, List.map_nil, upd_same, decide_eq_true_eq, decide_true, decide_false, if_true, if_false, Bool.false_eq_true, Bool.not_true, Bool.not_false, HO.lst.injEq, HO.ins.injEq, List.set_cons_zero, List.set_cons_succ, List.getElem?_cons_zero, List.getElem?_cons_succ, List.append_nil, List.nil_append, List.cons_append, Option.some.injEq, V.ref.injEq, V.int.injEq, V.bl.injEq, List.cons.injEq, exists_eq_left', exists_and_left, exists_eq_left, true_and, and_true, and_self, and_assoc, implies_true, reduceCtorEq, Nat.reduceAdd])

/-- sets as lists or tuples -/
def Seqs (H : Hp) : List V → List (List Nat) → Prop
  | [], [] => True
  | v :: vs, s :: ss => (∃ q l, v = .ref q ∧ H q = some (sq l (iv s))) ∧ Seqs H vs ss
  | _, _ => False
theorem Seqs.len {H : Hp} : ∀ {xs : List V} {gs : List (List Nat)}, Seqs H xs gs → xs.length = gs.length
  | [], [], _ => rfl
  | _ :: _, _ :: _, h => congrArg (· + 1) h.2.len
  | [], _ :: _, h => h.elim
  | _ :: _, [], h => h.elim
theorem Seqs.at {H : Hp} : ∀ {xs : List V} {gs : List (List Nat)} {i : Nat} {x : V}, Seqs H xs gs → xs[i]? = some x → ∃ g, gs[i]? = some g ∧ ∃ q l, x = .ref q ∧ H q = some (sq l (iv g))
  | _ :: _, g :: _, 0, _, h, e => ⟨g, rfl, by cases Option.some.inj e; exact h.1⟩
  | _ :: _, _ :: _, i + 1, _, h, e => Seqs.at (i := i) h.2 e
  | [], [], _, _, _, e => by cases e
  | [], _ :: _, _, _, h, _ => h.elim
  | _ :: _, [], _, _, h, _ => h.elim
theorem at_iv {s : List Nat} {i : Nat} {x : V} (hx : (iv s)[i]? = some x) : ∃ g, s[i]? = some g ∧ x = V.int (g : Nat) := by
  unfold iv at hx
  rw [List.getElem?_map] at hx
  cases z : s[i]? with
  | none => rw [z] at hx; cases hx
  | some g => rw [z] at hx; exact ⟨g, rfl, (Option.some.inj hx).symm⟩
theorem Seqs.same {H H' : Hp} (e : Same H H') : ∀ {vs : List V} {ss : List (List Nat)}, Seqs H vs ss → Seqs H' vs ss
  | [], [], _ => trivial
  | _ :: _, _ :: _, ⟨⟨q, l, a, b⟩, r⟩ => ⟨⟨q, l, a, e _ _ b⟩, Seqs.same e r⟩
  | [], _ :: _, h => h.elim
  | _ :: _, [], h => h.elim
theorem ty_sq {H : Hp} {p : Addr} {l : Bool} {xs : List V} (h : H p = some (sq l xs)) : ∃ g, Ty H (.ref p) g ∧ (decide (g = .lst) || decide (g = .tup)) = true ∧ (decide (g = .tup)) = !l := by
  cases l with
  | true => exact ⟨.lst, .lst h, by decide, by decide⟩
  | false => exact ⟨.tup, .tup h, by decide, by decide⟩
theorem asc_step {s : List Nat} {i g : Nat} (h : asc s = true) (hg : s[i]? = some g) : ∀ g', g' ∈ s.take i → g' < g := by
  induction s generalizing i with
  | nil => cases hg
  | cons x s ih =>
    obtain ⟨a, b⟩ := Bool.and_eq_true_iff.mp h
    cases i with
    | zero => intro g' hm; cases hm
    | succ i =>
      intro g' hm
      have hg : s[i]? = some g := hg
      rcases List.mem_cons.mp hm with rfl | hm
      · exact of_decide_eq_true (List.all_eq_true.mp a g (List.mem_of_getElem? hg))
      · exact ih b hg g' hm
section
variable {P : Program} {w : World} {K : PySem.W.Frag} {mg : Str → Option Value} {base : Heap} {a : Ad}
/-! ### is_whole, is_within, is_ascending -/
def spWhole : Sp := fun vs H Q _ => ∃ (i : Int), vs = [.int i] ∧ Q (.bl true) H
theorem sc_is_whole : FnScope ["value"] ["value"] (defScope s_is_whole) := ⟨rfl, rfl, rfl, by decide +kernel, rfl, by decide +kernel, by decide +kernel⟩
theorem ok_is_whole (T : Txt K mg a) : FnOk P w K mg base CX0 1 a.a_is_whole a.d_is_whole ["value"] spWhole := by
  refine T.fn_is_whole.ok sc_is_whole (fun vs H Q E h => ?_) (fun cdv A outer s H vs Q E hr h => ?_)
  · obtain ⟨i, rfl, _⟩ := h
    rfl
  · obtain ⟨i, rfl, k⟩ := h
    refine ⟨_, (pss_one (ps_ret (pe_and (pe_callB (call_isB .int) (by rfl) T.no_isinstance (by decide +kernel) (pa_cons (pv 0) (pa_cons (pe_bltn (v := .ty "int") (u := .type "int") (by rfl) T.no_int (by decide +kernel) rfl) pa_nil))) (pe_one (pe_not (pe_callB (call_isB .bl) (by rfl) T.no_isinstance (by decide +kernel) (pa_cons (pv 0) (pa_cons (pe_bltn (v := .ty "bool") (u := .type "bool") (by rfl) T.no_bool (by decide +kernel) rfl) pa_nil)))))))), ?_⟩
    show (_ : TS) _ [some (V.int i)] H
    walk_at "rd"
    refine ⟨_, .int i, ?_⟩
    rw [if_pos (by decide)]
    exact ⟨_, .int i, k⟩
def spWithin : Sp := fun vs H Q _ => ∃ (i lo hi : Int), vs = [.int i, .int lo, .int hi] ∧ Q (.bl (decide (lo ≤ i) && decide (i ≤ hi))) H
theorem sc_is_within : FnScope ["value", "least", "most"] ["value", "least", "most"] (defScope s_is_within) := ⟨rfl, rfl, rfl, by decide +kernel, rfl, by decide +kernel, by decide +kernel⟩
theorem ok_is_within (T : Txt K mg a) : FnOk P w K mg base CX0 2 a.a_is_within a.d_is_within ["value", "least", "most"] spWithin := by
  refine T.fn_is_within.ok sc_is_within (fun vs H Q E h => ?_) (fun cdv A outer s H vs Q E hr h => ?_)
  · obtain ⟨i, lo, hi, rfl, _⟩ := h
    rfl
  · obtain ⟨i, lo, hi, rfl, k⟩ := h
    refine ⟨_, (pss_one (ps_ret (pe_and (pe_call (ok_is_whole T) (hr.mono (by decide)) (by rfl) T.mg_is_whole T.fn_is_whole.kp T.b_is_whole .nil pass0 (pa_cons (pv 0) pa_nil)) (pe_one (pe_chain op_le op_le (pv 1) (pv 0) (pv 2)))))), ?_⟩
    show (_ : TS) _ [some (V.int i), some (V.int lo), some (V.int hi)] H
    walk_at "rd"
    refine ⟨i, rfl, true, rfl, ?_⟩
    rw [if_pos rfl]
    by_cases z : lo ≤ i
    · rw [if_pos z]
      rw [decide_eq_true z] at k
      exact k
    · rw [if_neg z]
      rw [decide_eq_false z] at k
      exact k
def spAsc : Sp := fun vs H Q _ => ∃ (p : Addr) (l : Bool) (s : List Nat) (n : Nat), vs = [.ref p, .int n] ∧ H p = some (sq l (iv s)) ∧ asc s = true ∧ (∀ g ∈ s, g < n) ∧ ∀ H', Same H H' → Q (.bl true) H'
theorem sc_is_ascending : FnScope ["value", "size", "least", "number"] ["value", "size"] (defScope s_is_ascending) := ⟨rfl, rfl, rfl, by decide +kernel, rfl, by decide +kernel, by decide +kernel⟩
theorem ok_is_ascending (T : Txt K mg a) : FnOk P w K mg base CX0 3 a.a_is_ascending a.d_is_ascending ["value", "size"] spAsc := by
  refine T.fn_is_ascending.ok sc_is_ascending (fun vs H Q E h => ?_) (fun cdv A outer s H vs Q E hr h => ?_)
  · obtain ⟨p, l, s, n, rfl, _⟩ := h
    rfl
  · obtain ⟨p, l, t, n, rfl, hp, ha, hn, k⟩ := h
    refine ⟨_, (pss_cons (ps_if (pt_not (pt_val (pe_callB call_isS (by rfl) T.no_isinstance (by decide +kernel) (pa_cons (pv 0) (pa_cons (pe_tup (pa_cons (pe_bltn (v := .ty "list") (u := .type "list") (by rfl) T.no_list (by decide +kernel) rfl) (pa_cons (pe_bltn (v := .ty "tuple") (u := .type "tuple") (by rfl) T.no_tuple (by decide +kernel) rfl) pa_nil))) pa_nil))))) (pss_one (ps_ret pe_bl)) pss_nil)
      (pss_cons (ps_set (i := 2) sc_is_ascending.nd rfl (Or.inl rfl) pe_int)
      (pss_cons (ps_for PassesOwn.never rfl (pi_seq (pv 0)) (pg_name (i := 3) sc_is_ascending.nd rfl (Or.inl rfl))
        (pss_cons (ps_if (pt_not (pt_val (pe_call (ok_is_within T) (hr.mono (by decide)) (by rfl) T.mg_is_within T.fn_is_within.kp T.b_is_within .nil pass0 (pa_cons (pv 3) (pa_cons (pv 2) (pa_cons (pe_op op_sub (pv 1) pe_int) pa_nil)))))) (pss_one (ps_ret pe_bl)) pss_nil)
        (pss_one (ps_set (i := 2) sc_is_ascending.nd rfl (Or.inl rfl) (pe_op op_add (pv 3) pe_int)))))
      (pss_one (ps_ret pe_bl))))), ?_⟩
    show (_ : TS) _ [some (V.ref p), some (V.int n), none, none] H
    walk_at "rd"
    refine ⟨by decide, fun c hc => ?_⟩
    have e1 := same_upd (o := .tup [V.ty "list", V.ty "tuple"]) hc
    generalize upd H c (.tup [V.ty "list", V.ty "tuple"]) = H1 at e1 ⊢
    obtain ⟨g, t1, t2, _⟩ := ty_sq (e1 _ _ hp)
    refine ⟨g, t1, ?_⟩
    rw [if_neg (by rw [t2]; decide)]
    refine ⟨l, _, e1 _ _ hp, loop_goes goes_seq (fun σ H' => Same H H' ∧ ∃ o2 o3, σ = [some (V.ref p), some (V.int n), o2, o3])
      (fun i σ H' => Same H H' ∧ ∃ (z : Nat) (o3 : Option V), σ = [some (V.ref p), some (V.int n), some (V.int z), o3] ∧ ∀ g ∈ t.drop i, z ≤ g) ⟨e1, 0, none, rfl, fun g _ => Nat.zero_le g⟩ (fun i σ H' _ ⟨e, _⟩ => e _ _ hp) ?_ (fun σ H' ⟨e, z, o3, q, _⟩ => ⟨e, _, _, q⟩) ?_⟩
    · rintro bk hbk i x σ H2 H2' hi ⟨e2, z, o3, rfl, lo⟩ ⟨rfl, hx⟩
      obtain ⟨g, hg, rfl⟩ := at_iv hx
      have hm := List.mem_of_getElem? hg
      have hd : t.drop i = g :: t.drop (i + 1) := by
        rw [List.drop_eq_getElem_cons (List.getElem?_eq_some_iff.mp hg).1]
        rw [(List.getElem?_eq_some_iff.mp hg).2]
      have zg := lo g (by rw [hd]; exact List.mem_cons_self)
      have gn := hn g hm
      walk_at "rd"
      refine ⟨_, _, _, rfl, true, ?_, ?_⟩
      · rw [decide_eq_true (show (z : Int) ≤ (g : Int) by omega), decide_eq_true (show (g : Int) ≤ (n : Int) - 1 by omega)]
        rfl
      rw [if_neg (by decide)]
      refine ⟨e2, g + 1, rfl, fun g' hg' => ?_⟩
      obtain ⟨j, hj⟩ := List.mem_iff_getElem?.mp hg'
      rw [List.getElem?_drop] at hj
      refine asc_step ha hj g ?_
      refine List.mem_take_iff_getElem.mpr ⟨i, ?_, (List.getElem?_eq_some_iff.mp hg).2⟩
      have := (List.getElem?_eq_some_iff.mp hj).1
      omega
    · rintro σ H2 ⟨e2, o2, o3, rfl⟩
      exact k _ e2
/-! ### clean_sets -/
def spCleanS : Sp := fun vs H Q _ => ∃ (p : Addr) (n : Nat) (xs : List V) (ss : List (List Nat)), vs = [.int n, .ref p] ∧ H p = some (.lst xs) ∧ Seqs H xs ss ∧ 1 ≤ n ∧ n ≤ 6 ∧ ss.length ≤ 100 ∧ (∀ s ∈ ss, s ∈ allS n) ∧
  ∀ q ys H', H q = none → Same H H' → H' q = some (.lst ys) → Tups H' ys ss → Q (.ref q) H'
theorem sc_clean_sets : FnScope ["size", "sets", "cleaned", "at", "things"] ["size", "sets"] (defScope s_clean_sets) := ⟨rfl, rfl, rfl, by decide +kernel, rfl, by decide +kernel, by decide +kernel⟩
theorem ok_clean_sets (T : Txt K mg a) : FnOk P w K mg base CX0 4 a.a_clean_sets a.d_clean_sets ["size", "sets"] spCleanS := by
  refine T.fn_clean_sets.ok sc_clean_sets (fun vs H Q E h => ?_) (fun cdv A outer s H vs Q E hr h => ?_)
  · obtain ⟨p, n, xs, ss, rfl, _⟩ := h
    rfl
  · obtain ⟨p, n, xs, ss, rfl, hp, sv, n1, n6, l64, ha, k⟩ := h
    obtain ⟨t1, mg_MOST_THINGS⟩ := T.mg_MOST_THINGS
    refine ⟨_, (pss_cons (ps_if (pt_not (pt_val (pe_call (ok_is_within T) (hr.mono (by decide)) (by rfl) T.mg_is_within T.fn_is_within.kp T.b_is_within .nil pass0 (pa_cons (pv 0) (pa_cons pe_int (pa_cons (pe_glob (v := .int 6) rfl mg_MOST_THINGS ⟨_, rfl⟩) pa_nil)))))) (pss_one ps_never) pss_nil)
      (pss_cons (ps_set (i := 2) sc_clean_sets.nd rfl (Or.inl rfl) (pe_lst pa_nil))
      (pss_cons (ps_for PassesOwn.never rfl (pi_enumS (by rfl) T.no_enumerate (pa_cons (pv 1) pa_nil)) (pg_seq (n := 2) rfl (pgs_cons (pg_name (i := 3) sc_clean_sets.nd rfl (Or.inl rfl)) (pgs_cons (pg_name (i := 4) sc_clean_sets.nd rfl (Or.inl rfl)) pgs_nil)))
        (pss_cons (ps_if (pt_not (pt_val (pe_call (ok_is_ascending T) (hr.mono (by decide)) (by rfl) T.mg_is_ascending T.fn_is_ascending.kp T.b_is_ascending .nil pass0 (pa_cons (pv 4) (pa_cons (pv 0) pa_nil))))) (pss_one ps_never) pss_nil)
        (pss_one (ps_expr (pe_bm PySem.F.plainAttrs_list PySem.F.slot_list_append PySem.F.type_list_append mt_append (pv 2) (pa_cons (pe_callTy call_tuple_of (by rfl) T.no_tuple (by decide +kernel) (pa_cons (pv 4) pa_nil)) pa_nil))))))
      (pss_one (ps_ret (pv 2)))))), ?_⟩
    show (_ : TS) _ [some (V.int n), some (V.ref p), none, none, none] H
    walk_at "rd"
    refine ⟨_, _, _, rfl, true, ?_, ?_⟩
    · rw [decide_eq_true (show (1 : Int) ≤ (n : Int) by omega), decide_eq_true (show (n : Int) ≤ 6 by omega)]
      rfl
    rw [if_neg (by decide)]
    refine ⟨by decide, fun c hc => ?_⟩
    have e1 := same_upd (o := .lst []) hc
    have at1 := upd_same (H := H) (a := c) (o := .lst [])
    generalize upd H c (.lst []) = H1 at e1 at1 ⊢
    have len := sv.len
    refine ⟨true, xs, e1 _ _ hp, loop_goes goes_enum (fun σ H' => ∃ o3 o4 acc, σ = [some (V.int n), some (V.ref p), some (V.ref c), o3, o4] ∧ Same H H' ∧ H' c = some (.lst acc) ∧ Tups H' acc ss)
      (fun i σ H' => ∃ o3 o4 acc, σ = [some (V.int n), some (V.ref p), some (V.ref c), o3, o4] ∧ Same H H' ∧ H' c = some (.lst acc) ∧ Tups H' acc (ss.take i)) ⟨none, none, [], rfl, e1, at1, trivial⟩ (fun i σ H' _ ⟨_, _, _, _, e, _⟩ => e _ _ hp) ?_
      (fun σ H' ⟨o3, o4, acc, q1, q2, q3, q4⟩ => ⟨o3, o4, acc, q1, q2, q3, by rw [len, List.take_length] at q4; exact q4⟩) ?_⟩
    · rintro bk hbk i y σ H3 H3' hi ⟨o3, o4, acc, rfl, e3, a3, c3⟩ ⟨t, z, rfl, ht, rfl, hz⟩
      obtain ⟨s', hs, q, l, rfl, hq⟩ := sv.at hz
      have te := same_upd (o := .tup [.int (i : Nat), .ref q]) ht
      have e4 := e3.trans te
      have ss' := allS_at (ha _ (List.mem_of_getElem? hs)) n6
      walk_at "rd"
      refine ⟨false, _, rfl, rfl, _, _, rfl, _, _, rfl, rfl, q, l, s', n, rfl, e4 _ _ hq, ss'.2.2.2.2, ss'.2.2.1, fun H5 e5 => ⟨true, rfl, ?_⟩⟩
      rw [if_neg (by decide)]
      simp only [tBM, rAppend]
      walk_at "rd"
      have a5 := e5 _ _ (te _ _ a3)
      have cl := c3.len
      rw [List.length_take] at cl
      have fin : ∀ r H6, Same H5 H6 → H6 r = some (.tup (iv s')) → ∃ x, H6 c = some (.lst x) ∧ x.length < sizeLine ∧ Same H (upd H6 c (.lst (x ++ [.ref r]))) ∧ Tups (upd H6 c (.lst (x ++ [.ref r]))) (x ++ [.ref r]) (ss.take (i + 1)) := fun r H6 e6 hr => by
        have a6 := e6 _ _ a5
        have c6 := ((c3.same te).same e5).same e6
        refine ⟨acc, a6, small (by omega), fun b o hb => (upd_ne (ne_of_none hb hc)).trans (e6 _ _ (e5 _ _ (e4 _ _ hb))), ?_⟩
        rw [List.take_add_one, hs]
        exact Tups.upd a6 (Tups.app c6 ⟨⟨r, rfl, hr⟩, trivial⟩)
      have hq5 := e5 _ _ (e4 _ _ hq)
      cases l with
      | true =>
        refine ⟨.inl ⟨rfl, _, SqL.of a5⟩, _, .inl ⟨SqL.of hq5, fun r hr => ?_⟩⟩
        obtain ⟨x, h1, h2, h3, h4⟩ := fin r _ (same_upd hr) upd_same
        exact ⟨x, h1, h2, h3, h4⟩
      | false =>
        refine ⟨.inl ⟨rfl, _, SqL.of a5⟩, _, .inr ⟨SqT.of hq5, ?_⟩⟩
        obtain ⟨x, h1, h2, h3, h4⟩ := fin q _ (Same.refl _) hq5
        exact ⟨x, h1, h2, h3, h4⟩
    · rintro σ H3 ⟨o3, o4, acc, rfl, e3, a3, c3⟩
      walk_at "rd"
      exact k c acc H3 hc e3 a3 c3
end

end K37
namespace K37
open PySem PySem.Spec PyProof.Rows L2 Own OwnSeq OwnSet OwnComb OwnSort OwnHot OwnExN OwnProj
local macro_rules | `(tactic| walk_at "rd") => `(tactic| simp only [tSeq, tAsg, tOp, tUn, tVar, gName, gSub, rIxL, rIxT, rSetL, tC, rI0, rI, rU, rEq, rNe, tCons, tNil, tCB, tLst, tTup, tIfS, tAnd, tOr, tNot, tAndV, tOrV, tNotV, tTest, tB, tIf, tRet, tDrop, tNext, tBreak, tCont, tCall, tCallS, L2.WE, tMakeS, rIsS, rIsB, tChain, gSeq, gRest, gCons, gNil, tFor_seq, tFor_enumS, tLc_seq, tLc_enumS, rAny, rAll, L2.tMeth, StX.tStar, rIn, tLstRg, tRg1, tRg2, rSetI, rSortedSet, rInDT, rInD, rNotInD, rEqD, rNeD, iComb, tFld, tMake, tMkO, sFld, tOst, tNever, tBits, clv, isB,
  Rd.tFor_rng1, Rd.tFor_rng2, Rd.tFor_list, Rd.tFor_tup, Rd.tLc_list, Rd.tLc_tup, Rd.tLc_rng1, Rd.LcTurn, tYes, wipe, Rd.rLenL, Rd.rLenT, Rd.rIntI, Rd.rIxH, rIxHT,  HO.tup.injEq, Rd.at0, Rd.at1, Rd.at2, Rd.at3, Rd.ixN40, Rd.ixN41, Rd.ixN42, Rd.ixN43, Rd.scal_ii, cxOf,
  List.length_cons, List.length_nil, List.length_map, List.map_cons, List.map_nil, upd_same, decide_eq_true_eq, decide_true, decide_false, if_true, if_false, Bool.false_eq_true, Bool.not_true, Bool.not_false, HO.lst.injEq, HO.ins.injEq, List.set_cons_zero, List.set_cons_succ, List.getElem?_cons_zero, List.getElem?_cons_succ, List.append_nil, List.nil_append, List.cons_append, Option.some.injEq, V.ref.injEq, V.int.injEq, V.bl.injEq, List.cons.injEq, exists_eq_left', exists_and_left, exists_eq_left, true_and, and_true, and_self, and_assoc, implies_true, reduceCtorEq, Nat.reduceAdd])

theorem eqD_at {X : Cx} (K : PySem.W.Frag) (hu : X.A.units + 64 < cLine) (hK : X.K = K := by rfl) : OpR X (compareOp .Eq) (rEqD K) := by
  subst hK
  exact op_eqD hu
theorem u65 {k : Nat} {A : Around} (r : Room k A) : A.units + 65 < cLine := by have := r.un; omega
theorem inD_at {X : Cx} (K : PySem.W.Frag) (hu : X.A.units + 65 < cLine) (hK : X.K = K := by rfl) : OpR X (compareOp .In) (rInD K) := by
  subst hK
  exact op_inD hu
theorem inDT_at {X : Cx} (K : PySem.W.Frag) (hu : X.A.units + 65 < cLine) (hK : X.K = K := by rfl) : OpR X (compareOp .In) (rInDT K) := by
  subst hK
  exact op_inDT hu
/-! ### sets as data -/
def dS (s : List Nat) : PyData := .tuple (s.map fun g => .int (g : Nat))
theorem dp_ints {K : PySem.W.Frag} {H : Hp} : ∀ s : List Nat, DpAll K H (iv s) (s.map fun g => PyData.int (g : Nat))
  | [] => .nil
  | g :: s => .cons (.int _) (dp_ints s)
theorem dp_set {K : PySem.W.Frag} {H : Hp} {q : Addr} {s : List Nat} (h : H q = some (.tup (iv s))) : Dp K H (.ref q) (dS s) := .tup (SqT.of h) (dp_ints s)
theorem dp_sets {K : PySem.W.Frag} {H : Hp} : ∀ {vs : List V} {ss : List (List Nat)}, Tups H vs ss → DpAll K H vs (ss.map dS)
  | [], [], _ => .nil
  | _ :: _, _ :: _, ⟨⟨q, e, h⟩, r⟩ => e ▸ .cons (dp_set h) (dp_sets r)
  | [], _ :: _, h => h.elim
  | _ :: _, [], h => h.elim
theorem lay_ints : ∀ s : List Nat, PyData.canLayAll0 (s.map fun g => PyData.int (g : Nat)) = true ∧ PyData.depthAll (s.map fun g => PyData.int (g : Nat)) = 0
  | [] => ⟨by simp [PyData.canLayAll0], by simp [PyData.depthAll]⟩
  | g :: s => by
    obtain ⟨a, b⟩ := lay_ints s
    refine ⟨?_, ?_⟩
    · simp only [List.map_cons, PyData.canLayAll0, PyData.canLay0, a, Bool.and_self]
    · simp only [List.map_cons, PyData.depthAll, PyData.depth, b, Nat.max_self]
theorem lay_set (s : List Nat) : (dS s).canLay0 = true ∧ (dS s).depth = 1 := by
  obtain ⟨a, b⟩ := lay_ints s
  unfold dS
  exact ⟨by simp only [PyData.canLay0, a], by simp only [PyData.depth, b]⟩
theorem lay_sets : ∀ ss : List (List Nat), PyData.canLayAll0 (ss.map dS) = true ∧ PyData.depthAll (ss.map dS) ≤ 1
  | [] => ⟨by simp [PyData.canLayAll0], by simp [PyData.depthAll]⟩
  | s :: ss => by
    obtain ⟨a, b⟩ := lay_sets ss
    obtain ⟨c, d⟩ := lay_set s
    refine ⟨?_, ?_⟩
    · simp only [List.map_cons, PyData.canLayAll0, a, c, Bool.and_self]
    · simp only [List.map_cons, PyData.depthAll, d]
      omega
theorem sh_set (s : List Nat) : SeqAt.shaped (dS s) = true := by
  unfold SeqAt.shaped
  rw [(lay_set s).1, (lay_set s).2]
  decide
theorem sh_list (ss : List (List Nat)) : SeqAt.shaped (.list (ss.map dS)) = true := by
  have := (lay_sets ss).2
  unfold SeqAt.shaped
  rw [show (PyData.list (ss.map dS)).canLay0 = PyData.canLayAll0 (ss.map dS) by simp only [PyData.canLay0], (lay_sets ss).1]
  simp only [PyData.depth, Bool.true_and]
  exact decide_eq_true (by omega)
theorem sh_tup (ss : List (List Nat)) : SeqAt.shaped (.tuple (ss.map dS)) = true := by
  have := (lay_sets ss).2
  unfold SeqAt.shaped
  rw [show (PyData.tuple (ss.map dS)).canLay0 = PyData.canLayAll0 (ss.map dS) by simp only [PyData.canLay0], (lay_sets ss).1]
  simp only [PyData.depth, Bool.true_and]
  exact decide_eq_true (by omega)
theorem eqv_ints : ∀ s t : List Nat, PyData.eqvAll (s.map fun g => PyData.int (g : Nat)) (t.map fun g => PyData.int (g : Nat)) = decide (s = t)
  | [], [] => by simp [PyData.eqvAll]
  | [], _ :: _ => by simp [PyData.eqvAll]
  | _ :: _, [] => by simp [PyData.eqvAll]
  | x :: s, y :: t => by
    simp only [List.map_cons, PyData.eqvAll, PyData.eqv, eqv_ints s t]
    by_cases h : x = y
    · subst h
      by_cases h2 : s = t <;> simp [h2]
    · have : ¬ ((x : Int) = (y : Int)) := by omega
      simp [h, this]
theorem eqv_set (s t : List Nat) : PyData.eqv (dS s) (dS t) = decide (s = t) := by
  unfold dS
  simp only [PyData.eqv]
  exact eqv_ints s t
theorem any_sets (ss : List (List Nat)) (s : List Nat) : ((ss.map dS).any fun z => PyData.eqv z (dS s)) = ss.contains s := by
  rw [List.any_map]
  induction ss with
  | nil => rfl
  | cons t ss ih =>
    rw [List.any_cons, List.contains_cons, ih]
    congr 1
    show PyData.eqv (dS t) (dS s) = (s == t)
    rw [eqv_set, Bool.eq_iff_iff, decide_eq_true_eq, beq_iff_eq]
    exact eq_comm
theorem famL_mem {n : Nat} {S : List Bool} {s : List Nat} : s ∈ famL n S ↔ s ∈ allS n ∧ In S (mk s) = true := List.mem_filter
theorem subs_all : ((List.range 7).all fun n => (allS n).all fun s => (allS n).all fun t => !subL s t || decide (Sub (mk s) (mk t))) = true := by decide +kernel
theorem sub_mk {n : Nat} {s t : List Nat} (h : n ≤ 6) (hs : s ∈ allS n) (ht : t ∈ allS n) (z : subL s t = true) : Sub (mk s) (mk t) := by
  have y := List.all_eq_true.mp (List.all_eq_true.mp (List.all_eq_true.mp subs_all n (List.mem_range.mpr (by omega))) s hs) t ht
  rw [z] at y
  simpa using y
theorem nil_in {n : Nat} (h : n ≤ 6) : ([] : List Nat) ∈ allS n := by
  have z := (bits_in (n := n) (m := 0) h (Nat.pow_pos (by decide))).2
  rwa [show bits 0 = [] by decide] at z
section
variable {P : Program} {w : World} {K : PySem.W.Frag} {mg : Str → Option Value} {base : Heap} {a : Ad}
/-! ### closed_sets -/
def spClosed : Sp := fun vs H Q _ => ∃ (p : Addr) (n : Nat) (S : List Bool) (xs : List V) (ss : List (List Nat)), vs = [.int n, .ref p] ∧ H p = some (.lst xs) ∧ Seqs H xs ss ∧ Fam n S ∧ ss.length ≤ 100 ∧ (∀ s, s ∈ ss ↔ s ∈ famL n S) ∧
  ∀ q ys H', H q = none → Same H H' → H' q = some (.tup ys) → Tups H' ys (famL n S) → Q (.ref q) H'
theorem sc_closed_sets : FnScope ["size", "sets", "given", "kept", "things", "other"] ["size", "sets"] (defScope s_closed_sets) := ⟨rfl, rfl, rfl, by decide +kernel, rfl, by decide +kernel, by decide +kernel⟩
theorem ok_closed_sets (T : Txt K mg a) : FnOk P w K mg base CX0 5 a.a_closed_sets a.d_closed_sets ["size", "sets"] spClosed := by
  refine T.fn_closed_sets.ok sc_closed_sets (fun vs H Q E h => ?_) (fun cdv A outer s H vs Q E hr h => ?_)
  · obtain ⟨p, n, S, xs, ss, rfl, _⟩ := h
    rfl
  · obtain ⟨p, n, S, xs, ss, rfl, hp, sv, F, l64, hs, k⟩ := h
    refine ⟨_, (pss_cons (ps_set (i := 2) sc_closed_sets.nd rfl (Or.inl rfl) (pe_call (ok_clean_sets T) (hr.mono (by decide)) (by rfl) T.mg_clean_sets T.fn_clean_sets.kp T.b_clean_sets .nil pass0 (pa_cons (pv 0) (pa_cons (pv 1) pa_nil))))
      (pss_cons (ps_set (i := 3) sc_closed_sets.nd rfl (Or.inl rfl) (pe_lst pa_nil))
      (pss_cons (ps_for PassesOwn.never rfl (pi_list (pe_call (ok_all_sets T) (hr.mono (by decide)) (by rfl) T.mg_all_sets T.fn_all_sets.kp T.b_all_sets .nil pass0 (pa_cons (pv 0) pa_nil))) (pg_name (i := 4) sc_closed_sets.nd rfl (Or.inr rfl))
        (pss_one (ps_if (pt_cmpR (inD_at K (u65 hr)) (pv 4) (pv 2) (by with_unfolding_all rfl)) (pss_one (ps_expr (pe_bm PySem.F.plainAttrs_list PySem.F.slot_list_append PySem.F.type_list_append mt_append (pv 3) (pa_cons (pv 4) pa_nil)))) (pss_one (ps_if (PW.pt (pw_or (pt_cmpR (eqD_at K hr.units) (pv 4) (pe_tup pa_nil) (nomark _)) (pw_or1 (pt_val (pe_callB (cr_any rfl) (by rfl) T.no_any (by decide +kernel) (pa_cons (pe_lc (own := [("other", 5)]) (by rfl) sc_closed_sets.nd (pi_list (pv 2)) (blkOk_by (own := [("other", 5)]) (N := ["size", "sets", "given", "kept", "things", "other"]) (sc := defScope s_closed_sets) (by decide +kernel)) (fun _ _ _ _ _ => pg_name (i := 5) sc_closed_sets.nd rfl (Or.inl rfl)) (fun _ _ _ _ _ => pts_nil) (fun _ _ _ _ _ => (pe_call (ok_is_part T) (hr.mono (by decide)) (by rfl) T.mg_is_part T.fn_is_part.kp T.b_is_part .nil pass0 (pa_cons (pv 4) (pa_cons (pv 5) pa_nil))))) pa_nil)))))) (pss_one ps_never) pss_nil)))))
      (pss_one (ps_ret (pe_callTy call_tuple_of (by rfl) T.no_tuple (by decide +kernel) (pa_cons (pv 3) pa_nil))))))), ?_⟩
    show (_ : TS) _ [some (V.int n), some (V.ref p), none, none, none, none] H
    walk_at "rd"
    have al : ∀ s ∈ ss, s ∈ allS n := fun s h => (famL_mem.mp ((hs s).mp h)).1
    refine ⟨p, n, xs, ss, rfl, hp, sv, F.n1, F.n6, l64, al, fun gv gl H1 g0 e1 hg tg => ⟨by decide, fun c hc => ⟨n, rfl, F.n6, fun q ys H2 q0 e2 hq tq => ⟨q, rfl, ⟨_, SqL.of hq⟩, ?_⟩⟩⟩⟩
    have ec := same_upd (o := .lst []) hc
    have hc2 := e2 _ _ (upd_same (H := H1) (a := c) (o := .lst []))
    have c0 : H c = none := e1.free hc
    have e02 : Same H H2 := (e1.trans ec).trans e2
    have hg2 := e2 _ _ (ec _ _ hg)
    have tg2 := (tg.same ec).same e2
    have gc : gv ≠ c := fun z => by rw [z, hc] at hg; cases hg
    have qc : q ≠ c := fun z => by rw [z, upd_same] at q0; cases q0
    have ql := tq.len
    refine Rd.loop_listC (xs := ys) (fun σ H' => ∃ acc o4 o5, σ = [some (V.int n), some (V.ref p), some (V.ref gv), some (V.ref c), o4, o5] ∧ Same H H' ∧ H' c = some (.lst acc) ∧ Tups H' acc (famL n S))
      (fun i σ H' => ∃ acc o4 o5, σ = [some (V.int n), some (V.ref p), some (V.ref gv), some (V.ref c), o4, o5] ∧ (∀ b o, b ≠ c → H2 b = some o → H' b = some o) ∧ H' c = some (.lst acc) ∧ acc.length ≤ i ∧ Tups H' acc (((allS n).take i).filter fun s => In S (mk s)))
      ⟨[], none, none, rfl, fun _ _ _ h => h, hc2, Nat.le_refl _, trivial⟩ (fun i σ H' _ ⟨_, _, _, _, e, _⟩ => SqL.of (e _ _ qc hq)) ?_ ?_ ?_
    · rintro bk hbk i x σ H3 hx ⟨acc, o4, o5, rfl, e3, hc3, al3, ta⟩
      obtain ⟨s', hs', t, rfl, ht⟩ := tq.at hx
      have sm := List.mem_of_getElem? hs'
      have tc : t ≠ c := fun z => by rw [z, hc2] at ht; cases ht
      have ht3 := e3 _ _ tc ht
      have hg3 := e3 _ _ gc hg2
      have mv : ∀ {vs : List V} {us : List (List Nat)}, Tups H2 vs us → Tups H3 vs us := fun {vs us} h => by
        induction vs generalizing us with
        | nil => cases us <;> exact h
        | cons v vs ih =>
          cases us with
          | nil => exact h
          | cons u us => exact let ⟨⟨q, a, b⟩, r⟩ := h; ⟨⟨q, a, e3 _ _ (fun z => by rw [z, hc2] at b; cases b) b⟩, ih r⟩
      have tg3 := mv tg2
      have i64 : i < 64 := by
        have := (List.getElem?_eq_some_iff.mp hs').1
        rw [allS_len F.n6] at this
        exact Nat.lt_of_lt_of_le this (Nat.le_trans (Nat.pow_le_pow_right (by decide) F.n6) (by decide))
      have nx : ((allS n).take (i + 1)).filter (fun s => In S (mk s)) = ((allS n).take i).filter (fun s => In S (mk s)) ++ (if In S (mk s') = true then [s'] else []) := by
        rw [List.take_add_one, hs', List.filter_append]
        cases z : In S (mk s') with
        | true => rw [show (some s').toList = [s'] from rfl, List.filter_cons_of_pos (p := fun s => In S (mk s)) z]; rfl
        | false => rw [show (some s').toList = [s'] from rfl, List.filter_cons_of_neg (p := fun s => In S (mk s)) (by rw [z]; decide)]; rfl
      walk_at "rd"
      refine ⟨_, dp_set ht3, _, .lst (SqL.of hg3) (dp_sets tg3), sh_set _, sh_list _, ?_⟩
      rw [any_sets]
      cases hin : ss.contains s' with
      | true =>
        have z : In S (mk s') = true := (famL_mem.mp ((hs s').mp (List.contains_iff_mem.mp hin))).2
        rw [if_pos rfl]
        simp only [tBM, rAppend]
        walk_at "rd"
        refine ⟨.inl ⟨rfl, _, SqL.of hc3⟩, acc, hc3, small (by omega), fun b o nb h => (upd_ne nb).trans (e3 _ _ nb h), by rw [List.length_append]; exact Nat.succ_le_succ al3, ?_⟩
        rw [nx, if_pos z]
        exact Tups.upd hc3 (Tups.app ta ⟨⟨t, rfl, ht3⟩, trivial⟩)
      | false =>
        have z : ¬ In S (mk s') = true := fun z => by
          have := List.contains_iff_mem.mpr ((hs s').mpr (famL_mem.mpr ⟨sm, z⟩))
          rw [hin] at this
          cases this
        have ns : s' ≠ [] := fun e => z (by rw [e]; exact F.zero)
        rw [if_neg (by decide)]
        refine ⟨by decide, fun u hu => ?_⟩
        have eu := same_upd (o := .tup []) hu
        refine ⟨_, dp_set (eu _ _ ht3), _, dp_set (s := []) upd_same, sh_set _, sh_set _, ?_⟩
        rw [eqv_set, decide_eq_false ns]
        rw [if_neg (by decide)]
        have glen := tg3.len
        have e3u : ∀ b o, b ≠ c → H2 b = some o → (upd H3 u (.tup [])) b = some o := fun b o nb h => eu _ _ (e3 _ _ nb h)
        have hc4 := eu _ _ hc3
        have ta4 := ta.same eu
        have tg4 := tg3.same eu
        have hg4 := eu _ _ hg3
        have ht4 := eu _ _ ht3
        generalize upd H3 u (.tup []) = H4 at e3u hc4 ta4 tg4 hg4 ht4 ⊢
        refine ⟨⟨_, SqL.of hg4⟩, Rd.lcl_list (xs := gl) (fun D j H' => H4 D = none ∧ Same H4 H' ∧ H' D = some (.lst (((ss.take j).map fun t => subL s' t).map V.bl))) (fun D hD => ⟨hD, same_upd hD, upd_same⟩) (fun D j H' _ h => SqL.of (h.2.1 _ _ hg4))
          (fun D j y H5 hy ⟨n5, e5, a5⟩ => ?_) (fun D H5 _ ⟨n5, e5, a5⟩ => ?_)⟩
        · obtain ⟨t', ht', r', rfl, hr'⟩ := tg4.at hy
          have jl := (List.getElem?_eq_some_iff.mp ht').1
          walk_at "rd"
          have al' := allS_at sm F.n6
          refine ⟨t, r', false, false, s', t', rfl, e5 _ _ ht4, e5 _ _ hr', Nat.le_trans al'.2.2.2.1 F.n6, fun H6 e6 => ⟨_, e6 _ _ a5, small (by rw [List.length_map, List.length_map, List.length_take]; omega), n5, fun b o hb => (upd_ne (ne_of_none hb n5)).trans (e6 _ _ (e5 _ _ hb)), ?_⟩⟩
          rw [List.take_add_one, ht', List.map_append, List.map_append]
          rfl
        · rw [glen, List.take_length] at a5
          refine ⟨D, rfl, _, SqL.of a5, ?_⟩
          rw [if_neg ?_]
          · refine ⟨fun b o nb h => e5 _ _ (e3u b o nb h), acc, e5 _ _ hc4, by omega, ?_⟩
            rw [nx, if_neg z, List.append_nil]
            exact ta4.same e5
          · intro y
            obtain ⟨b, hb, rfl⟩ := List.any_eq_true.mp y
            obtain ⟨t', ht', e⟩ := List.mem_map.mp hb
            have z2 := famL_mem.mp ((hs t').mp ht')
            exact z (F.down _ _ (sub_mk F.n6 sm z2.1 e) z2.2)
    · rintro σ H3 ⟨acc, o4, o5, rfl, e3, hc3, al3, ta⟩
      refine ⟨acc, o4, o5, rfl, fun b o h => e3 _ _ (ne_of_none h c0) (e02 _ _ h), hc3, ?_⟩
      rw [ql, List.take_length] at ta
      exact ta
    · rintro σ H3 ⟨acc, o4, o5, rfl, e3, hc3, ta⟩
      walk_at "rd"
      exact ⟨_, .inl ⟨SqL.of hc3, fun r hr => k r acc _ (e3.free hr) (e3.trans (same_upd hr)) upd_same (ta.same (same_upd hr))⟩⟩
/-! ### Family.__init__ -/
def ff (t : Addr) (n : Nat) : List (Str × V) := putF "size" (.int (n : Nat)) (putF "sets" (.ref t) [])
def spFam (C : Addr) : Sp := fun vs H Q _ => ∃ (x dx p : Addr) (n : Nat) (S : List Bool) (xs : List V) (ss : List (List Nat)), vs = [.ref x, .int n, .ref p] ∧ H x = some (.ins C dx []) ∧ H p = some (.lst xs) ∧ Seqs H xs ss ∧ Fam n S ∧ ss.length ≤ 100 ∧ (∀ s, s ∈ ss ↔ s ∈ famL n S) ∧
  ∀ t ys H1 H', Same H H1 → H1 t = some (.tup ys) → Tups H1 ys (famL n S) → H' = upd H1 x (.ins C dx (ff t n)) → Q .non H'
theorem sc_Family_init : FnScope ["self", "size", "sets"] ["self", "size", "sets"] (defScope s_Family_init) := ⟨rfl, rfl, rfl, by decide +kernel, rfl, by decide +kernel, by decide +kernel⟩
theorem ok_Family_init (T : Txt K mg a) : FnOk P w K mg base CX0 6 a.a_Family_init a.d_Family_init ["self", "size", "sets"] (spFam a.C_Family) := by
  refine T.fn_Family_init.ok sc_Family_init (fun vs H Q E h => ?_) (fun cdv A outer s H vs Q E hr h => ?_)
  · obtain ⟨x, dx, p, n, S, xs, ss, rfl, _⟩ := h
    rfl
  · obtain ⟨x, dx, p, n, S, xs, ss, rfl, hx, hp, sv, F, l64, hs, k⟩ := h
    refine ⟨_, (pss_cons (ps_fld (pv 0) (pe_call (ok_closed_sets T) (hr.mono (by decide)) (by rfl) T.mg_closed_sets T.fn_closed_sets.kp T.b_closed_sets .nil pass0 (pa_cons (pv 1) (pa_cons (pv 2) pa_nil))) rfl)
      (pss_one (ps_fld (pv 0) (pv 1) rfl))), ?_⟩
    show (_ : TS) _ [some (V.ref x), some (V.int n), some (V.ref p)] H
    walk_at "rd"
    refine ⟨p, n, S, xs, ss, rfl, hp, sv, F, l64, hs, fun t ys H1 t0 e1 ht tt => ⟨a.C_Family, dx, [], e1 _ _ hx, ?_⟩⟩
    refine ⟨T.cl_Family, T.na_Family_sets, by decide, T.cl_Family, T.na_Family_size, by show 1 < 1000; decide, ?_⟩
    rw [upd_upd]
    exact k t ys H1 _ e1 ht tt rfl
end

end K37
namespace K37
open PySem PySem.Spec PyProof.Rows L2 Own OwnSeq OwnSet OwnComb OwnSort OwnHot OwnExN OwnProj
local macro_rules | `(tactic| walk_at "rd") => `(tactic| simp only [tSeq, tAsg, tOp, tUn, tVar, gName, gSub, rIxL, rIxT, rSetL, tC, rI0, rI, rU, rEq, rNe, tCons, tNil, tCB, tLst, tTup, tIfS, tAnd, tOr, tNot, tAndV, tOrV, tNotV, tTest, tB, tIf, tRet, tDrop, tNext, tBreak, tCont, tCall, tCallS, L2.WE, tMakeS, rIsS, rIsB, tChain, gSeq, gRest, gCons, gNil, tFor_seq, tFor_enumS, tLc_seq, tLc_enumS, rAny, rAll, L2.tMeth, StX.tStar, rIn, tLstRg, tRg1, tRg2, rSetI, rSortedSet, rInDT, rInD, rNotInD, rEqD, rNeD, iComb, tFld, tMake, tMkO, sFld, tOst, tNever, tBits, clv, isB,
  Rd.tFor_rng1, Rd.tFor_rng2, Rd.tFor_list, Rd.tFor_tup, Rd.tLc_list, Rd.tLc_tup, Rd.tLc_rng1, Rd.LcTurn, tYes, wipe, Rd.rLenL, Rd.rLenT, Rd.rIntI, Rd.rIxH, rIxHT,  HO.tup.injEq, Rd.at0, Rd.at1, Rd.at2, Rd.at3, Rd.ixN40, Rd.ixN41, Rd.ixN42, Rd.ixN43, Rd.scal_ii, cxOf,
  List.length_cons, List.length_nil, List.length_map, List.map_cons, List.map_nil, upd_same, decide_eq_true_eq, decide_true, decide_false, if_true, if_false, Bool.false_eq_true, Bool.not_true, Bool.not_false, HO.lst.injEq, HO.ins.injEq, List.set_cons_zero, List.set_cons_succ, List.getElem?_cons_zero, List.getElem?_cons_succ, List.append_nil, List.nil_append, List.cons_append, Option.some.injEq, V.ref.injEq, V.int.injEq, V.bl.injEq, List.cons.injEq, exists_eq_left', exists_and_left, exists_eq_left, true_and, and_true, and_self, and_assoc, implies_true, reduceCtorEq, Nat.reduceAdd])

theorem ff_sets (t : Addr) (n : Nat) : (ff t n).lookup ("sets" : Str) = some (.ref t) := by
  unfold ff
  rw [lookup_putF, if_neg (by decide +kernel), lookup_putF, if_pos rfl]
theorem ff_size (t : Addr) (n : Nat) : (ff t n).lookup ("size" : Str) = some (.int (n : Nat)) := by
  unfold ff
  rw [lookup_putF, if_pos rfl]
theorem ff_no (t : Addr) (n : Nat) {m : Str} (h1 : ¬ m = "size") (h2 : ¬ m = "sets") : (ff t n).lookup m = none := by
  unfold ff
  rw [lookup_putF, if_neg h1, lookup_putF, if_neg h2]
  rfl
/-- a family as an object -/
structure FamV (C : Addr) (H : Hp) (f : Addr) (n : Nat) (S : List Bool) : Prop where
  fam : Fam n S
  ob : ∃ dx t ys, H f = some (.ins C dx (ff t n)) ∧ H t = some (.tup ys) ∧ Tups H ys (famL n S)
theorem FamV.same {C : Addr} {H H' : Hp} {f : Addr} {n : Nat} {S : List Bool} (F : FamV C H f n S) (e : Same H H') : FamV C H' f n S :=
  let ⟨dx, t, ys, a, b, c⟩ := F.ob
  ⟨F.fam, dx, t, ys, e _ _ a, e _ _ b, c.same e⟩
/-- the things that can be added -/
def addL (n : Nat) (S : List Bool) (s : List Nat) : List Nat := (restL (List.range n) s).filter fun g => In S (mk s + 2 ^ g)
def joinB (n : Nat) (s : List Nat) (g : Nat) : Bool := s.contains g || (decide (bits (mk s + 2 ^ g) ∈ allS n) && decide (mk (bits (mk s + 2 ^ g)) = mk s + 2 ^ g) && (List.range 6).all fun x => (bits (mk s + 2 ^ g)).contains x == (s.contains x || x == g))
theorem join_all : ((List.range 7).all fun n => (allS n).all fun s => (List.range n).all fun g => joinB n s g) = true := by decide +kernel
theorem asc_pw : ∀ {s : List Nat}, asc s = true → s.Pairwise (· < ·)
  | [], _ => .nil
  | x :: s, h => by
    obtain ⟨a, b⟩ := Bool.and_eq_true_iff.mp h
    exact .cons (fun y hy => of_decide_eq_true (List.all_eq_true.mp a y hy)) (asc_pw b)
theorem asc_ext {s t : List Nat} (hs : s.Pairwise (· < ·)) (ht : t.Pairwise (· < ·)) (h : ∀ g, g ∈ s ↔ g ∈ t) : s = t :=
  List.Perm.eq_of_pairwise (le := fun x y => x < y) (fun a b _ _ x y => absurd x (Nat.lt_asymm y)) hs ht ((List.perm_ext_iff_of_nodup (hs.imp Nat.ne_of_lt) (ht.imp Nat.ne_of_lt)).mpr h)
/-- one thing more -/
theorem join_at {n : Nat} {s u : List Nat} {g : Nat} (h : n ≤ 6) (hs : s ∈ allS n) (hg : g < n) (ns : ¬ g ∈ s) (hu : u.Pairwise (· < ·)) (mem : ∀ x, x ∈ u ↔ x ∈ s ∨ x = g) : u ∈ allS n ∧ mk u = mk s + 2 ^ g := by
  have y := List.all_eq_true.mp (List.all_eq_true.mp (List.all_eq_true.mp join_all n (List.mem_range.mpr (by omega))) s hs) g (List.mem_range.mpr hg)
  unfold joinB at y
  rw [show s.contains g = false by simpa using ns] at y
  simp only [Bool.false_or, Bool.and_eq_true, decide_eq_true_eq] at y
  obtain ⟨⟨y1, y2⟩, y3⟩ := y
  have al := allS_at hs h
  have bl := allS_at y1 h
  have e : u = bits (mk s + 2 ^ g) := asc_ext hu (asc_pw bl.2.2.2.2) fun x => by
    rw [mem]
    by_cases x6 : x < 6
    · have z := List.all_eq_true.mp y3 x (List.mem_range.mpr x6)
      have z := beq_iff_eq.mp z
      rw [← List.contains_iff_mem (as := bits _), z]
      simp
    · refine ⟨fun k => ?_, fun k => ?_⟩
      · rcases k with k | k
        · have := al.2.2.1 x k; omega
        · omega
      · have := bl.2.2.1 x k
        omega
  rw [e]
  exact ⟨y1, y2⟩
theorem rg_iv (n : Nat) : rgV 0 n = iv (List.range n) := by
  unfold rgV iv
  rw [show ((n : Int) - 0).toNat = n by omega]
  exact List.map_congr_left fun j hj => by rw [Int.zero_add]
theorem rest_mem {s t : List Nat} {g : Nat} : g ∈ restL s t ↔ g ∈ s ∧ ¬ g ∈ t := by
  unfold restL
  rw [List.mem_filter]
  simp
theorem rest_len (s t : List Nat) : (restL s t).length ≤ s.length := List.length_filter_le _ _
theorem add_len (n : Nat) (S : List Bool) (s : List Nat) : (addL n S s).length ≤ n := by
  have a := rest_len (List.range n) s
  rw [List.length_range] at a
  exact Nat.le_trans (List.length_filter_le _ _) a
theorem find_map_none {l : List (List Nat)} {p : List Nat → Bool} : True := trivial
theorem findSome_at {α β : Type} {f : α → Option β} : ∀ {l : List α} {i : Nat} {x : α} {y : β}, l[i]? = some x → f x = some y → (∀ z ∈ l.take i, f z = none) → l.findSome? f = some y
  | a :: l, 0, x, y, h, e, _ => by
    cases Option.some.inj h
    rw [List.findSome?_cons, e]
  | a :: l, i + 1, x, y, h, e, no => by
    rw [List.findSome?_cons, no a List.mem_cons_self]
    exact findSome_at (l := l) (i := i) h e fun z hz => no z (List.mem_cons_of_mem _ hz)
theorem find_at' {α : Type} {p : α → Bool} : ∀ {l : List α} {i : Nat} {x : α}, l[i]? = some x → p x = true → (∀ z ∈ l.take i, p z = false) → l.find? p = some x
  | a :: l, 0, x, h, e, _ => by
    cases Option.some.inj h
    rw [List.find?_cons, e]
  | a :: l, i + 1, x, h, e, no => by
    rw [List.find?_cons, no a List.mem_cons_self]
    exact find_at' (l := l) (i := i) h e fun z hz => no z (List.mem_cons_of_mem _ hz)
section
variable {P : Program} {w : World} {K : PySem.W.Frag} {mg : Str → Option Value} {base : Heap} {a : Ad}
/-! ### addable -/
def spAdd (C : Addr) : Sp := fun vs H Q _ => ∃ (f p : Addr) (l : Bool) (n : Nat) (S : List Bool) (s : List Nat), vs = [.ref f, .ref p] ∧ FamV C H f n S ∧ H p = some (sq l (iv s)) ∧ s ∈ famL n S ∧
  ∀ r H', H r = none → Same H H' → H' r = some (.tup (iv (addL n S s))) → Q (.ref r) H'
theorem sc_Family_addable : FnScope ["self", "taken", "others", "thing"] ["self", "taken"] (defScope s_Family_addable) := ⟨rfl, rfl, rfl, by decide +kernel, rfl, by decide +kernel, by decide +kernel⟩
theorem ok_Family_addable (T : Txt K mg a) : FnOk P w K mg base CX0 3 a.a_Family_addable a.d_Family_addable ["self", "taken"] (spAdd a.C_Family) := by
  refine T.fn_Family_addable.ok sc_Family_addable (fun vs H Q E h => ?_) (fun cdv A outer s H vs Q E hr h => ?_)
  · obtain ⟨f, p, l, n, S, s, rfl, _⟩ := h
    rfl
  · obtain ⟨f, p, l, n, S, s', rfl, F, hp, hs, k⟩ := h
    refine ⟨_, (pss_cons (ps_set (i := 2) sc_Family_addable.nd rfl (Or.inl rfl) (pe_call (ok_rest_of T) (hr.mono (by decide)) (by rfl) T.mg_rest_of T.fn_rest_of.kp T.b_rest_of .nil pass0 (pa_cons (pe_listRg rfl (by rfl) T.no_list (prg_1 (by rfl) T.no_range (pe_fldK K (pv 0)))) (pa_cons (pv 1) pa_nil))))
      (pss_one (ps_ret (pe_callTy call_tuple_of (by rfl) T.no_tuple (by decide +kernel) (pa_cons (pe_lc (own := [("thing", 3)]) (by rfl) sc_Family_addable.nd (pi_seq (pv 2)) (blkOk_by (own := [("thing", 3)]) (N := ["self", "taken", "others", "thing"]) (sc := defScope s_Family_addable) (by decide +kernel)) (fun _ _ _ _ _ => pg_name (i := 3) sc_Family_addable.nd rfl (Or.inl rfl)) (fun _ _ _ _ _ => pts_one (pt_cmpR (inDT_at K (u65 hr)) (pe_call (ok_joined T) (hr.mono (by decide)) (by rfl) T.mg_joined T.fn_joined.kp T.b_joined .nil pass0 (pa_cons (pv 1) (pa_cons (pe_tup (pa_cons (pv 3) pa_nil)) pa_nil))) (pe_fldK K (pv 0)) (by with_unfolding_all rfl))) (fun _ _ _ _ _ => (pv 3))) pa_nil))))), ?_⟩
    show (_ : TS) _ [some (V.ref f), some (V.ref p), none, none] H
    walk_at "rd"
    obtain ⟨dx, t, ys, hf, ht, tv⟩ := F.ob
    have sa := allS_at (famL_mem.mp hs).1 F.fam.n6
    have n6 := F.fam.n6
    refine ⟨_, dx, ff t n, hf, T.cl_Family, T.na_Family_size, _, ff_size t n, n, rfl, RgOk.of_le (by decide) (by omega) (by decide) (by omega), fun q hq => ?_⟩
    have eq1 := same_upd (o := .lst (rgV 0 n)) hq
    refine ⟨q, p, true, l, List.range n, s', rfl, by rw [upd_same, rg_iv]; rfl, eq1 _ _ hp, by rw [List.length_range]; exact n6, fun r H1 r0 e1 hr1 => ⟨r, rfl, false, _, hr1, ?_⟩⟩
    have e01 := eq1.trans e1
    refine lcl_goes goes_seq (fun D i H' => H1 D = none ∧ Same H1 H' ∧ H' D = some (.lst (iv (((restL (List.range n) s').take i).filter fun g => In S (mk s' + 2 ^ g))))) (fun D hD => ⟨hD, same_upd hD, upd_same⟩)
      (fun D i H' _ h => h.2.1 _ _ hr1) (fun D i x H5 H5' hi ⟨n5, e5, a5⟩ ⟨eq5, hx⟩ => ?_) (fun D H5 _ ⟨n5, e5, a5⟩ => ?_)
    · subst eq5
      obtain ⟨g, hg, rfl⟩ := at_iv hx
      have gm := rest_mem.mp (List.mem_of_getElem? hg)
      have gn := List.mem_range.mp gm.1
      have il := (List.getElem?_eq_some_iff.mp hg).1
      have rl := rest_len (List.range n) s'
      rw [List.length_range] at rl
      walk_at "rd"
      refine ⟨by decide, fun u hu => ?_⟩
      have eu := same_upd (o := .tup [V.int (g : Nat)]) hu
      refine ⟨p, u, l, false, s', [g], rfl, eu _ _ (e5 _ _ (e01 _ _ hp)), upd_same, Nat.le_trans sa.2.2.2.1 n6, by show 1 ≤ 6; decide, fun v us H6 v0 e6 pw mem hv => ?_⟩
      have e56 := eu.trans e6
      have e06 := (e01.trans e5).trans e56
      obtain ⟨j1, j2⟩ := join_at n6 (famL_mem.mp hs).1 gn gm.2 pw fun x => by rw [mem, List.mem_singleton]
      refine ⟨_, dx, ff t n, e06 _ _ hf, T.cl_Family, T.na_Family_sets, _, ff_sets t n, _, dp_set hv, _, .tup (SqT.of (e06 _ _ ht)) (dp_sets (tv.same e06)), sh_set _, sh_tup _, ?_⟩
      have a6 := e56 _ _ a5
      have s6 := e5.trans e56
      have nx : ((restL (List.range n) s').take (i + 1)).filter (fun g => In S (mk s' + 2 ^ g)) = ((restL (List.range n) s').take i).filter (fun g => In S (mk s' + 2 ^ g)) ++ (if In S (mk s' + 2 ^ g) = true then [g] else []) := by
        rw [List.take_add_one, hg, List.filter_append]
        cases z : In S (mk s' + 2 ^ g) with
        | true => rw [show (some g).toList = [g] from rfl, List.filter_cons_of_pos (p := fun g => In S (mk s' + 2 ^ g)) z]; rfl
        | false => rw [show (some g).toList = [g] from rfl, List.filter_cons_of_neg (p := fun g => In S (mk s' + 2 ^ g)) (by rw [z]; decide)]; rfl
      have c : (famL n S).contains us = In S (mk s' + 2 ^ g) := by
        rw [← j2, Bool.eq_iff_iff, List.contains_iff_mem, famL_mem]
        exact ⟨fun z => z.2, fun z => ⟨j1, z⟩⟩
      rw [any_sets, c, nx]
      cases z : In S (mk s' + 2 ^ g) with
      | true =>
        rw [if_pos rfl, if_pos rfl]
        refine ⟨_, a6, small ?_, n5, fun b o hb => (upd_ne (ne_of_none hb n5)).trans (s6 _ _ hb), ?_⟩
        · rw [iv_len]
          have := List.length_filter_le (fun g => In S (mk s' + 2 ^ g)) ((restL (List.range n) s').take i)
          rw [List.length_take] at this
          omega
        · unfold iv
          rw [List.map_append]
          rfl
      | false =>
        rw [if_neg (by decide), if_neg (by decide), List.append_nil]
        exact ⟨n5, s6, a6⟩
    · rw [iv_len, List.take_length] at a5
      exact ⟨D, rfl, _, .inl ⟨SqL.of a5, fun u hu => k u _ (e01.free (e5.free hu)) ((e01.trans e5).trans (same_upd hu)) upd_same⟩⟩
end

end K37
namespace K37
open PySem PySem.Spec PyProof.Rows L2 Own OwnSeq OwnSet OwnComb OwnSort OwnHot OwnExN OwnProj
local macro_rules | `(tactic| walk_at "rd") => `(tactic| simp only [tSeq, tAsg, tOp, tUn, tVar, gName, gSub, rIxL, rIxT, rSetL, tC, rI0, rI, rU, rEq, rNe, tCons, tNil, tCB, tLst, tTup, tIfS, tAnd, tOr, tNot, tAndV, tOrV, tNotV, tTest, tB, tIf, tRet, tDrop, tNext, tBreak, tCont, tCall, tCallS, L2.WE, tMakeS, rIsS, rIsB, tChain, gSeq, gRest, gCons, gNil, tFor_seq, tFor_enumS, tLc_seq, tLc_enumS, rAny, rAll, L2.tMeth, StX.tStar, rIn, tLstRg, tRg1, tRg2, rSetI, rSortedSet, rInDT, rInD, rNotInD, rEqD, rNeD, iComb, tFld, tMake, tMkO, sFld, tOst, tNever, tBits, clv, isB,
  Rd.tFor_rng1, Rd.tFor_rng2, Rd.tFor_list, Rd.tFor_tup, Rd.tLc_list, Rd.tLc_tup, Rd.tLc_rng1, Rd.LcTurn, tYes, wipe, Rd.rLenL, Rd.rLenT, Rd.rIntI, Rd.rIxH, rIxHT,  HO.tup.injEq, Rd.at0, Rd.at1, Rd.at2, Rd.at3, Rd.ixN40, Rd.ixN41, Rd.ixN42, Rd.ixN43, Rd.scal_ii, cxOf,
  List.length_cons, List.length_nil, List.length_map, List.map_cons, List.map_nil, upd_same, decide_eq_true_eq, decide_true, decide_false, if_true, if_false, Bool.false_eq_true, Bool.not_true, Bool.not_false, HO.lst.injEq, HO.ins.injEq, List.set_cons_zero, List.set_cons_succ, List.getElem?_cons_zero, List.getElem?_cons_succ, List.append_nil, List.nil_append, List.cons_append, Option.some.injEq, V.ref.injEq, V.int.injEq, V.bl.injEq, List.cons.injEq, exists_eq_left', exists_and_left, exists_eq_left, true_and, and_true, and_self, and_assoc, implies_true, reduceCtorEq, Nat.reduceAdd])

/-! ### fractions -/
def fq (n d : Int) : List (Str × V) := putF "den" (.int d) (putF "num" (.int n) [])
theorem nd_ne : ¬ (("num" : Str) = "den") := by decide +kernel
theorem fq_num (n d : Int) : (fq n d).lookup ("num" : Str) = some (.int n) := by
  unfold fq
  rw [lookup_putF, if_neg nd_ne, lookup_putF, if_pos rfl]
theorem fq_den (n d : Int) : (fq n d).lookup ("den" : Str) = some (.int d) := by
  unfold fq
  rw [lookup_putF, if_pos rfl]
theorem fq_no (n d : Int) {m : Str} (h1 : ¬ m = "den") (h2 : ¬ m = "num") : (fq n d).lookup m = none := by
  unfold fq
  rw [lookup_putF, if_neg h1, lookup_putF, if_neg h2]
  all_goals rfl
/-- a fraction as an object -/
def FrV (C : Addr) (H : Hp) (p : Addr) (n d : Int) : Prop := ∃ dx, H p = some (.ins C dx (fq n d))
theorem FrV.same {C : Addr} {H H' : Hp} {p : Addr} {n d : Int} (e : Same H H') : FrV C H p n d → FrV C H' p n d := fun ⟨dx, h⟩ => ⟨dx, e _ _ h⟩
/-- the sign of the divisor on the greatest common divisor -/
def gS (n d : Int) : Int := if d < 0 then -((Nat.gcd n.natAbs d.natAbs : Nat) : Int) else ((Nat.gcd n.natAbs d.natAbs : Nat) : Int)
def LN (n d : Int) : Int := n.fdiv (gS n d)
def LD (n d : Int) : Int := d.fdiv (gS n d)
abbrev Big (x : Int) : Prop := x.natAbs < 2 ^ 4000
abbrev Mid (x : Int) : Prop := x.natAbs < 2 ^ 1900
theorem gcd_pos {n d : Int} (h : d ≠ 0) : 0 < Nat.gcd n.natAbs d.natAbs := Nat.gcd_pos_of_pos_right _ (by omega)
theorem gcd_le {n d : Int} (h : d ≠ 0) : Nat.gcd n.natAbs d.natAbs ≤ d.natAbs := Nat.le_of_dvd (by omega) (Nat.gcd_dvd_right _ _)
theorem gS_div {n d : Int} (h : d ≠ 0) (hb : Big d) : CDivM n (gS n d) := by
  have p := gcd_pos (n := n) h
  have l := gcd_le (n := n) h
  have e : (gS n d).natAbs = Nat.gcd n.natAbs d.natAbs := by
    unfold gS
    split
    · rw [Int.natAbs_neg, Int.natAbs_natCast]
    · rw [Int.natAbs_natCast]
  refine ⟨by omega, ?_⟩
  rw [e]
  have z : Nat.log2 (Nat.gcd n.natAbs d.natAbs) < 4000 := PySem.Flt.log2_lt_of (by decide) (Nat.lt_of_le_of_lt l hb)
  omega
theorem mid_mul {x y : Int} (hx : Mid x) (hy : Mid y) : CMulW x y ∧ (x * y).natAbs < 2 ^ 3800 := ⟨wide_mul hx hy (by decide) (by decide) (by decide), wide_lt hx hy⟩
theorem big_of {x : Int} (h : x.natAbs < 2 ^ 3800) : Big x := Nat.lt_of_lt_of_le h (Nat.pow_le_pow_right (by decide) (by decide))
section
variable {P : Program} {w : World} {K : PySem.W.Frag} {mg : Str → Option Value} {base : Heap} {a : Ad}
/-! ### Frac.__init__ -/
def spFrac (C : Addr) : Sp := fun vs H Q _ => ∃ (p dx : Addr) (n d : Int), vs = [.ref p, .int n, .int d] ∧ H p = some (.ins C dx []) ∧ d ≠ 0 ∧ Big n ∧ Big d ∧ ∀ H', H' p = some (.ins C dx (fq (LN n d) (LD n d))) → (∀ b, b ≠ p → H' b = H b) → Q .non H'
theorem sc_Frac_init : FnScope ["self", "num", "den", "common"] ["self", "num", "den"] (defScope s_Frac_init) := ⟨rfl, rfl, rfl, by decide +kernel, rfl, by decide +kernel, by decide +kernel⟩
theorem ok_Frac_init (T : Txt K mg a) : FnOk P w K mg base CX0 2 a.a_Frac_init a.d_Frac_init ["self", "num", "den"] (spFrac a.C_Frac) := by
  refine T.fn_Frac_init.ok sc_Frac_init (fun vs H Q E h => ?_) (fun cdv A outer s H vs Q E hr h => ?_)
  · obtain ⟨p, dx, n, d, rfl, _⟩ := h
    rfl
  · obtain ⟨p, dx, n, d, rfl, hp, h0, bn, bd, k⟩ := h
    refine ⟨_, (pss_cons (ps_if (PW.pt (pw_or (pt_not (pt_val (pe_call (ok_is_whole T) (hr.mono (by decide)) (by rfl) T.mg_is_whole T.fn_is_whole.kp T.b_is_whole .nil pass0 (pa_cons (pv 1) pa_nil)))) (pw_or (pt_not (pt_val (pe_call (ok_is_whole T) (hr.mono (by decide)) (by rfl) T.mg_is_whole T.fn_is_whole.kp T.b_is_whole .nil pass0 (pa_cons (pv 2) pa_nil)))) (pw_or1 (pt_cmpR op_eq (pv 2) pe_int (nomark _)))))) (pss_one ps_never) pss_nil)
      (pss_cons (ps_set (i := 3) sc_Frac_init.nd rfl (Or.inl rfl) (pe_callBfun cr_gcd (by rfl) T.mg_gcd (pa_cons (pv 1) (pa_cons (pv 2) pa_nil))))
      (pss_cons (ps_if (pt_cmpR op_lt (pv 2) pe_int (nomark _)) (pss_one (ps_set (i := 3) sc_Frac_init.nd rfl (Or.inl rfl) (pe_un un_neg (pv 3)))) pss_nil)
      (pss_cons (ps_fld (pv 0) (pe_op op_fdivWN (pv 1) (pv 3)) rfl)
      (pss_one (ps_fld (pv 0) (pe_op op_fdivWN (pv 2) (pv 3)) rfl)))))), ?_⟩
    show (_ : TS) _ [some (V.ref p), some (V.int n), some (V.int d), none] H
    walk_at "rd"
    refine ⟨n, rfl, _, rfl, ?_⟩
    rw [if_neg (by decide)]
    refine ⟨d, rfl, _, rfl, ?_⟩
    rw [if_neg (by decide), if_neg h0]
    simp only [rGcd]
    walk_at "rd"
    have gd := gS_div (n := n) h0 bd
    refine ite2 (fun hn => ?_) (fun hn => ?_)
    · have e : gS n d = -((Nat.gcd n.natAbs d.natAbs : Nat) : Int) := if_pos hn
      rw [e] at gd
      refine ⟨gd, _, _, _, hp, T.cl_Frac, T.na_Frac_num, (by show 0 < 1000; decide), gd, T.cl_Frac, T.na_Frac_den, (by show 1 < 1000; decide), k _ ?_ fun b hb => by rw [upd_ne hb, upd_ne hb]⟩
      rw [upd_same]
      unfold fq LN LD
      rw [e]
    · have e : gS n d = ((Nat.gcd n.natAbs d.natAbs : Nat) : Int) := if_neg hn
      rw [e] at gd
      refine ⟨gd, _, _, _, hp, T.cl_Frac, T.na_Frac_num, (by show 0 < 1000; decide), gd, T.cl_Frac, T.na_Frac_den, (by show 1 < 1000; decide), k _ ?_ fun b hb => by rw [upd_ne hb, upd_ne hb]⟩
      rw [upd_same]
      unfold fq LN LD
      rw [e]
theorem b3 (T : Txt K mg a) : Binds K a.d_Frac_init ["self", "num", "den"] [] := by
  obtain ⟨ds, v, b⟩ := T.fn_Frac_init.binds1 (ps := ["self", "num", "den"]) 3 1 (by decide) rfl fun Tt kV doc pm an cdv ct us its hu hi => match us, its, hu, hi with | [_, _, _], [_], _, _ => ⟨_, rfl, by first | rfl | with_unfolding_all rfl | kernel_rfl⟩
  cases v
  exact b
theorem b2 (T : Txt K mg a) : ∃ ds, Vals [.int 1] ds ∧ Binds K a.d_Frac_init ["self", "num", "den"] ds :=
  T.fn_Frac_init.binds1 2 0 (by decide) rfl fun Tt kV doc pm an cdv ct us its hu hi => match us, its, hu, hi with | [_, _], [_], _, _ => ⟨_, rfl, by first | rfl | with_unfolding_all rfl | kernel_rfl⟩
/-- Frac(n, d) -/
theorem frac_made {C : Addr} {n d : Int} {H : Hp} {Q : VK} {E : XK} (hd : d ≠ 0) (bn : Big n) (bd : Big d) (k : ∀ x H', H x = none → FrV C H' x (LN n d) (LD n d) → Same H H' → Q (.ref x) H') :
    ∀ x dx, H x = none → H dx = none → dx ≠ x → spFrac C [.ref x, .int n, .int d] (upd (upd H dx (.own x)) x (.ins C dx [])) (fun v H2 => v = .non ∧ Q (.ref x) H2) E := fun x dx hx hdx hne =>
  ⟨x, dx, n, d, rfl, upd_same, hd, bn, bd, fun H' h1 h2 => ⟨rfl, k x H' hx ⟨dx, h1⟩ fun b o e => by
    rw [h2 b (ne_of_none e hx), upd_ne (ne_of_none e hx), upd_ne (ne_of_none e hdx)]
    exact e⟩⟩
/-! ### is_below -/
def spBel (C : Addr) : Sp := fun vs H Q _ => ∃ (p q : Addr) (n1 d1 n2 d2 : Int), vs = [.ref p, .ref q] ∧ FrV C H p n1 d1 ∧ FrV C H q n2 d2 ∧ Mid n1 ∧ Mid d1 ∧ Mid n2 ∧ Mid d2 ∧ Q (.bl (decide (n1 * d2 < n2 * d1))) H
theorem sc_Frac_is_below : FnScope ["self", "other"] ["self", "other"] (defScope s_Frac_is_below) := ⟨rfl, rfl, rfl, by decide +kernel, rfl, by decide +kernel, by decide +kernel⟩
theorem ok_Frac_is_below (T : Txt K mg a) : FnOk P w K mg base CX0 1 a.a_Frac_is_below a.d_Frac_is_below ["self", "other"] (spBel a.C_Frac) := by
  refine T.fn_Frac_is_below.ok sc_Frac_is_below (fun vs H Q E h => ?_) (fun cdv A outer s H vs Q E hr h => ?_)
  · obtain ⟨p, q, n1, d1, n2, d2, rfl, _⟩ := h
    rfl
  · obtain ⟨p, q, n1, d1, n2, d2, rfl, ⟨dx, hp⟩, ⟨dy, hq⟩, m1, m2, m3, m4, k⟩ := h
    refine ⟨_, (pss_one (ps_ret (pe_cmpR op_lt (pe_op op_mulW (pe_fldK K (pv 0)) (pe_fldK K (pv 1))) (pe_op op_mulW (pe_fldK K (pv 1)) (pe_fldK K (pv 0))) (nomark _)))), ?_⟩
    show (_ : TS) _ [some (V.ref p), some (V.ref q)] H
    walk_at "rd"
    exact ⟨_, dx, _, hp, T.cl_Frac, T.na_Frac_num, _, fq_num _ _, _, dy, _, hq, T.cl_Frac, T.na_Frac_den, _, fq_den _ _, _, rfl, _, rfl, (mid_mul m1 m4).1, _, dy, _, hq, T.cl_Frac, T.na_Frac_num, _, fq_num _ _, _, dx, _, hp, T.cl_Frac, T.na_Frac_den, _, fq_den _ _, _, rfl, _, rfl, (mid_mul m3 m2).1, k⟩
end

end K37
namespace K37
open PySem PySem.Spec PyProof.Rows L2 Own OwnSeq OwnSet OwnComb OwnSort OwnHot OwnExN OwnProj
local macro_rules | `(tactic| walk_at "rd") => `(tactic| simp only [tSeq, tAsg, tOp, tUn, tVar, gName, gSub, rIxL, rIxT, rSetL, tC, rI0, rI, rU, rEq, rNe, tCons, tNil, tCB, tLst, tTup, tIfS, tAnd, tOr, tNot, tAndV, tOrV, tNotV, tTest, tB, tIf, tRet, tDrop, tNext, tBreak, tCont, tCall, tCallS, L2.WE, tMakeS, rIsS, rIsB, tChain, gSeq, gRest, gCons, gNil, tFor_seq, tFor_enumS, tLc_seq, tLc_enumS, rAny, rAll, L2.tMeth, StX.tStar, rIn, tLstRg, tRg1, tRg2, rSetI, rSortedSet, rInDT, rInD, rNotInD, rEqD, rNeD, iComb, tFld, tMake, tMkO, sFld, tOst, tNever, tBits, clv, isB,
  Rd.tFor_rng1, Rd.tFor_rng2, Rd.tFor_list, Rd.tFor_tup, Rd.tLc_list, Rd.tLc_tup, Rd.tLc_rng1, Rd.LcTurn, tYes, wipe, Rd.rLenL, Rd.rLenT, Rd.rIntI, Rd.rIxH, rIxHT,  HO.tup.injEq, Rd.at0, Rd.at1, Rd.at2, Rd.at3, Rd.ixN40, Rd.ixN41, Rd.ixN42, Rd.ixN43, Rd.scal_ii, cxOf,
  List.length_cons, List.length_nil, List.length_map, List.map_cons, List.map_nil, upd_same, decide_eq_true_eq, decide_true, decide_false, if_true, if_false, Bool.false_eq_true, Bool.not_true, Bool.not_false, HO.lst.injEq, HO.ins.injEq, List.set_cons_zero, List.set_cons_succ, List.getElem?_cons_zero, List.getElem?_cons_succ, List.append_nil, List.nil_append, List.cons_append, Option.some.injEq, V.ref.injEq, V.int.injEq, V.bl.injEq, List.cons.injEq, exists_eq_left', exists_and_left, exists_eq_left, true_and, and_true, and_self, and_assoc, implies_true, reduceCtorEq, Nat.reduceAdd])

theorem at_int {ns : List Int} {z : Int} (h0 : 0 ≤ z) (h1 : z < (ns.length : Int)) : ∃ y, atI (ns.map V.int) z = some (V.int y) := by
  obtain ⟨j, rfl⟩ : ∃ j : Nat, z = (j : Int) := ⟨z.toNat, by omega⟩
  have hj : j < ns.length := by omega
  exact ⟨ns[j], atI_nat (by rw [List.getElem?_map, List.getElem?_eq_getElem hj]; rfl)⟩
theorem cm_mod {x y m : Int} (h : 0 < m) (h2 : m ≤ 2 ^ 64) : CMul (x % m) y := by
  have a := Int.emod_nonneg x (show m ≠ 0 by omega)
  have b := Int.emod_lt_of_pos x h
  exact .inl ⟨by omega, by omega⟩
/-- what stood stands, but for b -/
def But (b : Addr) (H H' : Hp) : Prop := ∀ p o, p ≠ b → H p = some o → H' p = some o
theorem But.refl (b : Addr) (H : Hp) : But b H H := fun _ _ _ h => h
theorem But.trans {b : Addr} {H H1 H2 : Hp} (x : But b H H1) (y : But b H1 H2) : But b H H2 := fun p o n h => y p o n (x p o n h)
theorem But.free {b : Addr} {H H1 : Hp} (x : But b H H1) {p : Addr} (n : p ≠ b) (h : H1 p = none) : H p = none := by
  cases e : H p with
  | none => rfl
  | some o =>
    rw [x p o n e] at h
    cases h
theorem Same.but {b : Addr} {H H1 : Hp} (x : Same H H1) : But b H H1 := fun p o _ h => x p o h
theorem But.of {b : Addr} {H H' : Hp} (e : ∀ p, p ≠ b → H' p = H p) : But b H H' := fun p o n h => (e p n).trans h
theorem But.updn {b p : Addr} {o : HO} {H H' : Hp} (e : But b H H') (h : H p = none) : But b H (upd H' p o) := fun q u n z => (upd_ne (ne_of_none z h)).trans (e q u n z)
/-- the law's feed: its cells, what is drawn from, how often -/
structure BoxAt (H : Hp) (b c : Addr) (ns : List Int) (t : Nat) : Prop where
  ne : c ≠ b
  len : ns.length ≤ 63
  ob : ∃ n1 n2 n3 : Int, H b = some (.lst [.ref c, .int n1, .int n2, .int n3]) ∧ 0 ≤ n1 ∧ 0 ≤ n2 ∧ 0 ≤ n3 ∧ n3 ≤ t
  cells : H c = some (.lst (ns.map V.int))
theorem BoxAt.same {H H' : Hp} {b c : Addr} {ns : List Int} {t : Nat} (B : BoxAt H b c ns t) (e : Same H H') : BoxAt H' b c ns t :=
  let ⟨n1, n2, n3, h, r⟩ := B.ob
  ⟨B.ne, B.len, ⟨n1, n2, n3, e _ _ h, r⟩, e _ _ B.cells⟩
theorem BoxAt.le {H : Hp} {b c : Addr} {ns : List Int} {t t' : Nat} (B : BoxAt H b c ns t) (h : t ≤ t') : BoxAt H b c ns t' :=
  let ⟨n1, n2, n3, a, r1, r2, r3, r4⟩ := B.ob
  ⟨B.ne, B.len, ⟨n1, n2, n3, a, r1, r2, r3, by omega⟩, B.cells⟩
theorem BoxAt.ne_new {H : Hp} {b c : Addr} {ns : List Int} {t : Nat} (B : BoxAt H b c ns t) {p : Addr} (h : H p = none) : p ≠ b := fun e => by
  obtain ⟨n1, n2, n3, hb, _⟩ := B.ob
  rw [e, hb] at h
  cases h
theorem BoxAt.upd {H0 H : Hp} {b c p : Addr} {ns : List Int} {o : HO} {t0 t : Nat} (B0 : BoxAt H0 b c ns t0) (B : BoxAt H b c ns t) (n : p ≠ b) (e : But b H0 (L2.upd H p o)) : BoxAt (L2.upd H p o) b c ns t :=
  let ⟨n1, n2, n3, h, r⟩ := B.ob
  ⟨B.ne, B.len, ⟨n1, n2, n3, (upd_ne (Ne.symm n)).trans h, r⟩, e _ _ B.ne B0.cells⟩
section
variable {P : Program} {w : World} {K : PySem.W.Frag} {mg : Str → Option Value} {base : Heap} {a : Ad}
/-! ### _law_draw -/
def spDraw : Sp := fun vs H Q _ => ∃ (b c : Addr) (ns : List Int) (t m : Nat), vs = [.ref b, .int m] ∧ BoxAt H b c ns t ∧ t ≤ 100000 ∧ 0 < m ∧ m < 1000000000 ∧
  ∀ (d : Nat) (H' : Hp), d < m → BoxAt H' b c ns (t + 1) → But b H H' → Q (.int d) H'
theorem sc_law_draw : FnScope ["feed", "many", "digit", "cells", "place", "cell", "mixed"] ["feed", "many"] (defScope s_law_draw) := ⟨rfl, rfl, rfl, by decide +kernel, rfl, by decide +kernel, by decide +kernel⟩
theorem ok_law_draw (T : Txt K mg a) : FnOk P w K mg base CX0 1 a.a_law_draw a.d_law_draw ["feed", "many"] spDraw := by
  refine T.fn_law_draw.ok sc_law_draw (fun vs H Q E h => ?_) (fun cdv A outer s H vs Q E hr h => ?_)
  · obtain ⟨b, c, ns, t, m, rfl, _⟩ := h
    rfl
  · obtain ⟨b, c, ns, t, m, rfl, ⟨hbc, hl, ⟨n1, n2, n3, hb, p1, p2, p3, p4⟩, hc⟩, ht, hm, hm2, k⟩ := h
    refine ⟨_, (pss_cons (ps_asg (pe_op op_add (pe_ix Rd.ixH (pv 0) pe_int (fun _ _ => rfl)) pe_int) (pg_sub (pv 0) pe_int set_list))
      (pss_cons (ps_if (pt_cmpR op_gt (pe_ix Rd.ixH (pv 0) pe_int (fun _ _ => rfl)) pe_int (nomark _)) (pss_cons (ps_set (i := 2) sc_law_draw.nd rfl (Or.inl rfl) (pe_op op_mod (pe_callTy Rd.call_intI (by rfl) T.no_int (by decide +kernel) (pa_cons (pe_ix Rd.ixH (pv 0) pe_int (fun _ _ => rfl)) pa_nil)) (pv 1)))
        (pss_cons (ps_asg (pe_op op_fdiv (pe_ix Rd.ixH (pv 0) pe_int (fun _ _ => rfl)) (pv 1)) (pg_sub (pv 0) pe_int set_list))
        (pss_one (ps_ret (pv 2))))) pss_nil)
      (pss_cons (ps_set (i := 3) sc_law_draw.nd rfl (Or.inl rfl) (pe_ix Rd.ixH (pv 0) pe_int (fun _ _ => rfl)))
      (pss_cons (ps_set (i := 4) sc_law_draw.nd rfl (Or.inl rfl) (pe_ix Rd.ixH (pv 0) pe_int (fun _ _ => rfl)))
      (pss_cons (ps_asg (pe_op op_add (pv 4) pe_int) (pg_sub (pv 0) pe_int set_list))
      (pss_cons (ps_set (i := 5) sc_law_draw.nd rfl (Or.inl rfl) pe_int)
      (pss_cons (ps_if (pt_cmpR op_gt (pe_callB Rd.call_lenL (by rfl) T.no_len PySem.boot_len (pa_cons (pv 3) pa_nil)) pe_int (nomark _)) (pss_one (ps_set (i := 5) sc_law_draw.nd rfl (Or.inl rfl) (pe_callTy Rd.call_intI (by rfl) T.no_int (by decide +kernel) (pa_cons (pe_ix ix_list (pv 3) (pe_op op_mod (pe_callTy Rd.call_intI (by rfl) T.no_int (by decide +kernel) (pa_cons (pv 4) pa_nil)) (pe_callB Rd.call_lenL (by rfl) T.no_len PySem.boot_len (pa_cons (pv 3) pa_nil))) (fun _ _ => rfl)) pa_nil)))) pss_nil)
      (pss_cons (ps_if (PW.pt (pw_and (pt_cmpR op_ge (pv 5) (pe_op op_pow pe_int pe_int) (nomark _)) (pw_and1 (pt_cmpR op_lt (pv 4) (pe_callB Rd.call_lenL (by rfl) T.no_len PySem.boot_len (pa_cons (pv 3) pa_nil)) (nomark _))))) (pss_cons (ps_asg (pe_op op_fdiv (pv 5) (pv 1)) (pg_sub (pv 0) pe_int set_list))
        (pss_one (ps_ret (pe_op op_mod (pe_callTy Rd.call_intI (by rfl) T.no_int (by decide +kernel) (pa_cons (pv 5) pa_nil)) (pv 1))))) pss_nil)
      (pss_cons (ps_set (i := 6) sc_law_draw.nd rfl (Or.inl rfl) (pe_op op_mod (pe_callTy Rd.call_intI (by rfl) T.no_int (by decide +kernel) (pa_cons (pe_op op_add (pe_op op_add (pe_op op_mul (pv 5) pe_int) (pe_op op_mul (pe_ix Rd.ixH (pv 0) pe_int (fun _ _ => rfl)) pe_int)) (pe_op op_mul (pv 4) pe_int)) pa_nil)) pe_int))
      (pss_cons (ps_set (i := 6) sc_law_draw.nd rfl (Or.inl rfl) (pe_op op_mod (pe_callTy Rd.call_intI (by rfl) T.no_int (by decide +kernel) (pa_cons (pe_op op_add (pe_op op_add (pe_op op_mul (pv 6) pe_int) (pe_op op_mul (pe_op op_mul (pe_ix Rd.ixH (pv 0) pe_int (fun _ _ => rfl)) (pe_ix Rd.ixH (pv 0) pe_int (fun _ _ => rfl))) pe_int)) (pe_op op_fdiv (pv 5) pe_int)) pa_nil)) pe_int))
      (pss_one (ps_ret (pe_op op_mod (pe_callTy Rd.call_intI (by rfl) T.no_int (by decide +kernel) (pa_cons (pe_op op_fdiv (pv 6) pe_int) pa_nil)) (pv 1)))))))))))))), ?_⟩
    show (_ : TS) _ [some (V.ref b), some (V.int m), none, none, none, none, none] H
    have k' : ∀ (x : Int) (o : HO) (H' : Hp), (∃ q1 q2 : Int, H' b = some (.lst [.ref c, .int q1, .int q2, .int (n3 + 1)]) ∧ 0 ≤ q1 ∧ 0 ≤ q2) → (∀ p, p ≠ b → H' p = H p) → Q (.int (x % m)) H' := fun x o H' ⟨q1, q2, z, y1, y2⟩ e => by
      have z1 := Int.emod_nonneg x (show (m : Int) ≠ 0 by omega)
      have z2 := Int.emod_lt_of_pos x (show (0 : Int) < m by omega)
      obtain ⟨d, hd⟩ : ∃ d : Nat, x % m = (d : Int) := ⟨(x % m).toNat, by omega⟩
      rw [hd]
      exact k d H' (by omega) ⟨hbc, hl, ⟨q1, q2, n3 + 1, z, y1, y2, by omega, by omega⟩, (e _ hbc).trans hc⟩ (But.of e)
    walk_at "rd"
    simp only [hb]
    walk_at "rd"
    have away : ∀ {o1 o2 : HO} p, p ≠ b → upd (upd H b o1) b o2 p = H p := fun p hp => by rw [upd_ne hp, upd_ne hp]
    have away3 : ∀ {o1 o2 o3 : HO} p, p ≠ b → upd (upd (upd H b o1) b o2) b o3 p = H p := fun p hp => by rw [upd_ne hp, upd_ne hp, upd_ne hp]
    have hc2 : ∀ {o1 o2 : HO}, SqL K (upd (upd H b o1) b o2) c (ns.map V.int) := SqL.of ((away _ hbc).trans hc)
    have cd : ∀ {x : Int}, CDiv x (m : Int) := ⟨by omega, by omega⟩
    have m0 : (0 : Int) < m := by omega
    refine ite2 (fun _ => ⟨m0, cd, k' _ (.lst []) _ ⟨n1, n2 / m, upd_same, p1, Int.ediv_nonneg p2 (by omega)⟩ away⟩) (fun _ => ⟨_, hc2, ?_⟩)
    rw [List.length_map]
    have fin : ∀ (i : Int), (i = 0 ∨ True) → CMul i 48271 ∧ CMul (n3 + 1) 69621 ∧ CMul n1 7 ∧ 0 < 2147483647 ∧ CMul ((i * 48271 + (n3 + 1) * 69621 + n1 * 7) % 2147483647) 16807 ∧ CMul (n3 + 1) (n3 + 1) ∧ CMul ((n3 + 1) * (n3 + 1)) 331 := fun i _ =>
      ⟨.inr ⟨by decide, by decide⟩, .inr ⟨by decide, by decide⟩, .inr ⟨by decide, by decide⟩, by decide, .inr ⟨by decide, by decide⟩, .inr ⟨by omega, by omega⟩, .inr ⟨by decide, by decide⟩⟩
    refine ite2 (fun h2 => ?_) (fun h2 => ?_)
    · obtain ⟨y, hy⟩ := at_int (ns := ns) (z := n1 % (ns.length : Int)) (Int.emod_nonneg _ (by omega)) (Int.emod_lt_of_pos _ h2)
      refine ⟨_, hc2, by rw [List.length_map]; exact h2, _, hc2, _, by rw [List.length_map]; exact hy, y, rfl, ⟨by decide, by decide, by decide⟩, ?_⟩
      have tail : CMul y 48271 ∧ CMul (n3 + 1) 69621 ∧ CMul n1 7 ∧ (0 : Int) < 2147483647 ∧ CMul ((y * 48271 + (n3 + 1) * 69621 + n1 * 7) % 2147483647) 16807 ∧ CMul (n3 + 1) (n3 + 1) ∧ CMul ((n3 + 1) * (n3 + 1)) 331 ∧ CDiv y 1009 ∧ (0 : Int) < 998244353 ∧
          CDiv (((y * 48271 + (n3 + 1) * 69621 + n1 * 7) % 2147483647 * 16807 + (n3 + 1) * (n3 + 1) * 331 + y / 1009) % 998244353) 8 ∧ (0 : Int) < m := by
        obtain ⟨a1, a2, a3, _, a5, a6, a7⟩ := fin y (.inr trivial)
        exact ⟨a1, a2, a3, by decide, a5, a6, a7, ⟨by decide, by decide⟩, by decide, ⟨by decide, by decide⟩, m0⟩
      obtain ⟨a1, a2, a3, a4, a5, a6, a7, a8, a9, a10, a11⟩ := tail
      have out := k' (((y * 48271 + (n3 + 1) * 69621 + n1 * 7) % 2147483647 * 16807 + (n3 + 1) * (n3 + 1) * 331 + y / 1009) % 998244353 / 8) (.lst []) (upd (upd H b (HO.lst [V.ref c, V.int n1, V.int n2, V.int (n3 + 1)])) b (HO.lst [V.ref c, V.int (n1 + 1), V.int n2, V.int (n3 + 1)])) ⟨n1 + 1, n2, upd_same, by omega, p2⟩ away
      refine ite2 (fun h3 => ⟨_, hc2, ?_⟩) (fun _ => ⟨a1, a2, a3, a4, a5, a6, a7, a8, a9, a10, a11, out⟩)
      rw [List.length_map]
      refine ite2 (fun _ => ⟨cd, m0, k' _ (.lst []) _ ⟨n1 + 1, y / m, upd_same, by omega, Int.ediv_nonneg (Int.le_trans (by decide) h3) (by omega)⟩ away3⟩) (fun _ => ⟨a1, a2, a3, a4, a5, a6, a7, a8, a9, a10, a11, out⟩)
    · obtain ⟨a1, a2, a3, a4, a5, a6, a7⟩ := fin 0 (.inl rfl)
      refine ⟨⟨by decide, by decide, by decide⟩, ?_⟩
      rw [if_neg (by decide)]
      exact ⟨a1, a2, a3, by decide, a5, a6, a7, ⟨by decide, by decide⟩, by decide, ⟨by decide, by decide⟩, m0, k' _ (.lst []) _ ⟨n1 + 1, n2, upd_same, by omega, p2⟩ away⟩
/-- a draw -/
theorem drw {H : Hp} {b c : Addr} {ns : List Int} {t : Nat} {x : Int} {Q : VK} {E : XK} (m : Nat) (B : BoxAt H b c ns t) (e : x = (m : Int)) (h0 : 0 < m) (h1 : m < 1000000000) (ht : t ≤ 100000) (k : ∀ (d : Nat) (H' : Hp), d < m → BoxAt H' b c ns (t + 1) → But b H H' → Q (.int (d : Nat)) H') : spDraw [.ref b, .int x] H Q E :=
  ⟨b, c, ns, t, m, by rw [e], B, ht, h0, h1, k⟩
end

end K37
namespace K37
open PySem PySem.Spec PyProof.Rows L2 Own OwnSeq OwnSet OwnComb OwnSort OwnHot OwnExN OwnProj
local macro_rules | `(tactic| walk_at "rd") => `(tactic| simp only [tSeq, tAsg, tOp, tUn, tVar, gName, gSub, rIxL, rIxT, rSetL, tC, rI0, rI, rU, rEq, rNe, tCons, tNil, tCB, tLst, tTup, tIfS, tAnd, tOr, tNot, tAndV, tOrV, tNotV, tTest, tB, tIf, tRet, tDrop, tNext, tBreak, tCont, tCall, tCallS, L2.WE, tMakeS, rIsS, rIsB, tChain, gSeq, gRest, gCons, gNil, tFor_seq, tFor_enumS, tLc_seq, tLc_enumS, rAny, rAll, L2.tMeth, StX.tStar, rIn, tLstRg, tRg1, tRg2, rSetI, rSortedSet, rInDT, rInD, rNotInD, rEqD, rNeD, iComb, tFld, tMake, tMkO, sFld, tOst, tNever, tBits, clv, isB,
  Rd.tFor_rng1, Rd.tFor_rng2, Rd.tFor_list, Rd.tFor_tup, Rd.tLc_list, Rd.tLc_tup, Rd.tLc_rng1, Rd.LcTurn, tYes, wipe, Rd.rLenL, Rd.rLenT, Rd.rIntI, Rd.rIxH, rIxHT,  HO.tup.injEq, Rd.at0, Rd.at1, Rd.at2, Rd.at3, Rd.ixN40, Rd.ixN41, Rd.ixN42, Rd.ixN43, Rd.scal_ii, cxOf,
  List.length_cons, List.length_nil, List.length_map, List.map_cons, List.map_nil, upd_same, decide_eq_true_eq, decide_true, decide_false, if_true, if_false, Bool.false_eq_true, Bool.not_true, Bool.not_false, HO.lst.injEq, HO.ins.injEq, List.set_cons_zero, List.set_cons_succ, List.getElem?_cons_zero, List.getElem?_cons_succ, List.append_nil, List.nil_append, List.cons_append, Option.some.injEq, V.ref.injEq, V.int.injEq, V.bl.injEq, List.cons.injEq, exists_eq_left', exists_and_left, exists_eq_left, true_and, and_true, and_self, and_assoc, implies_true, reduceCtorEq, Nat.reduceAdd])

theorem lenK {X : Cx} (K : PySem.W.Frag) (hK : X.K = K := by rfl) : CallR X (.builtin "len") fun xs H Q => ∃ p ys, xs = [V.ref p] ∧ (SqL K H p ys ∨ SqT K H p ys) ∧ Q (V.int ys.length) H := by
  subst hK
  exact call_len_seq
theorem abs_eq (x : Int) : (if x < 0 then -x else x) = (x.natAbs : Int) := by split <;> omega
theorem allK {X : Cx} (K : PySem.W.Frag) (hc : X.calm = true := by rfl) (hK : X.K = K := by rfl) : CallR X (.builtin "all") (rAll K) := by
  subst hK
  exact cr_all hc
theorem sumK {X : Cx} (K : PySem.W.Frag) (hc : X.calm = true := by rfl) (hK : X.K = K := by rfl) : CallR X (.builtin "sum") (rSum K) := by
  subst hK
  exact cr_sum hc
/-! ### masks by reckoning -/
def pop (m : Nat) : Nat := (bits m).length
def cntL (n : Nat) : List Nat := (List.range n).map pop
theorem and_nat {x y : Nat} : Builtin.bitAnd (x : Int) (y : Int) = ((x &&& y : Nat) : Int) := by
  rw [bitAnd_pp (by omega) (by omega), Int.toNat_natCast, Int.toNat_natCast]
theorem or_nat {x y : Nat} : Builtin.bitOr (x : Int) (y : Int) = ((x ||| y : Nat) : Int) := by
  rw [bitOr_and, bitAnd_pp (by omega) (by omega), Int.toNat_natCast, Int.toNat_natCast]
  have := nat_or_add_and x y
  omega
theorem sub_iff {m t : Nat} : (Builtin.bitAnd (m : Int) (t : Int) = (m : Int)) ↔ Sub m t := by
  rw [and_nat]
  unfold Sub
  omega
theorem sub_trans {x y z : Nat} (a : Sub x y) (b : Sub y z) : Sub x z := by
  unfold Sub at *
  rw [← a, Nat.and_assoc, b]
theorem sub_zero (x : Nat) : Sub 0 x := Nat.zero_and x
theorem sub_le {x y : Nat} (a : Sub x y) : x ≤ y := a ▸ Nat.and_le_right
theorem pow64 {n : Nat} (h : n ≤ 6) : 2 ^ n ≤ 64 := Nat.le_trans (Nat.pow_le_pow_right (by decide) h) (by decide)
theorem pow_cast (n : Nat) : (1 : Int) * 2 ^ (n : Int).toNat = ((2 ^ n : Nat) : Int) := by
  rw [Int.toNat_natCast, Int.one_mul]
  rfl
theorem pbd {n : Nat} (h : n ≤ 6) : -(2 : Int) ^ 62 ≤ 1 * 2 ^ (n : Int).toNat ∧ (1 : Int) * 2 ^ (n : Int).toNat < 2 ^ 62 ∧ ((1 : Int) * 2 ^ (n : Int).toNat).toNat = 2 ^ n ∧ ((1 : Int) * 2 ^ (n : Int).toNat - 1).toNat = 2 ^ n - 1 := by
  rw [Int.toNat_natCast]
  have hn : n = 0 ∨ n = 1 ∨ n = 2 ∨ n = 3 ∨ n = 4 ∨ n = 5 ∨ n = 6 := by omega
  rcases hn with rfl | rfl | rfl | rfl | rfl | rfl | rfl <;> decide
theorem sum_cast : ∀ s : List Nat, (s.map fun g => ((2 ^ g : Nat) : Int)).sum = ((mk s : Nat) : Int)
  | [] => rfl
  | g :: s => by
    have := sum_cast s
    unfold mk at this ⊢
    rw [List.map_cons, List.sum_cons, this, List.map_cons, List.sum_cons]
    exact (Int.natCast_add _ _).symm
theorem cpw {n : Nat} (h : n ≤ 8) : CPow 1 (n : Int) := ⟨by omega, by omega, by decide⟩
theorem shr_mod (m k : Nat) : ((m : Int) / 2 ^ (k : Int).toNat) = ((m / 2 ^ k : Nat) : Int) := by
  rw [Int.toNat_natCast, Int.natCast_ediv]
  rfl
theorem pops : ((List.range 64).all fun m => decide (m = 0) || decide (pop m = pop (m / 2) + m % 2)) = true := by decide +kernel
theorem pop_at {m : Nat} (h : m < 64) (h0 : m ≠ 0) : pop m = pop (m / 2) + m % 2 := by
  have z := List.all_eq_true.mp pops m (List.mem_range.mpr h)
  simpa [h0] using z
theorem in_bool {S : List Bool} {m : Nat} (h : m < S.length) : atI (S.map V.bl) (m : Nat) = some (V.bl (In S m)) := by
  refine atI_nat ?_
  unfold In
  rw [List.getElem?_map, List.getElem?_eq_getElem h, List.getD_eq_getElem?_getD, List.getElem?_eq_getElem h]
  rfl
theorem ixN_of {n t : Nat} (h : t < n) : ixN n (t : Int) = some t := by
  unfold ixN
  split <;> first
    | (split <;> first | rfl | (simp; omega))
    | (simp; omega)
theorem in_set {S : List Bool} {t m : Nat} {b : Bool} (h : t < S.length) : In (S.set t b) m = if m = t then b else In S m := by
  unfold In
  rw [List.getD_eq_getElem?_getD, List.getElem?_set]
  by_cases e : t = m
  · subst e
    rw [if_pos rfl, if_pos rfl, if_pos h]
    rfl
  · rw [if_neg e, if_neg (fun z => e z.symm), List.getD_eq_getElem?_getD]
theorem iv_at {s : List Nat} {j g : Nat} (h : s[j]? = some g) : atI (iv s) (j : Nat) = some (V.int (g : Nat)) := atI_nat (by unfold iv; rw [List.getElem?_map, h]; rfl)
theorem cnt_at {N j : Nat} (h : j < N) : (cntL N)[j]? = some (pop j) := by
  unfold cntL
  rw [List.getElem?_map, List.getElem?_range h]
  rfl
theorem fam_zero {n : Nat} (n1 : 1 ≤ n) (n6 : n ≤ 6) : Fam n ((List.range (2 ^ n)).map fun m => decide (m = 0)) := by
  have val : ∀ m, In ((List.range (2 ^ n)).map fun m => decide (m = 0)) m = decide (m = 0) := fun m => by
    unfold In
    rw [List.getD_eq_getElem?_getD, List.getElem?_map]
    by_cases h : m < 2 ^ n
    · rw [List.getElem?_range h]; rfl
    · rw [List.getElem?_eq_none (by rw [List.length_range]; omega)]
      have : 0 < 2 ^ n := Nat.pow_pos (by decide)
      rw [decide_eq_false (by omega)]
      rfl
  refine ⟨n1, n6, by rw [List.length_map, List.length_range], by rw [val]; decide, fun m m' s h => ?_⟩
  rw [val] at h ⊢
  have h := of_decide_eq_true h
  have := sub_le s
  exact decide_eq_true (by omega)
theorem steps_all : ((List.range 64).all fun m => (List.range 64).all fun m' => !decide (Sub m' m) || decide (m' = m) || (List.range 6).any fun k => bit m k && decide (Sub m' (m - 2 ^ k)) && decide (2 ^ k ≤ m)) = true := by decide +kernel
theorem fam_step {n : Nat} {S : List Bool} (n1 : 1 ≤ n) (n6 : n ≤ 6) (len : S.length = 2 ^ n) (zero : In S 0 = true) (step : ∀ m, m < 2 ^ n → In S m = true → ∀ k, k < n → bit m k = true → In S (m - 2 ^ k) = true) : Fam n S := by
  have p64 := pow64 n6
  have lt : ∀ {m}, In S m = true → m < 2 ^ n := fun {m} h => by
    rcases Nat.lt_or_ge m S.length with z | z
    · omega
    · unfold In at h
      rw [List.getD_eq_getElem?_getD, List.getElem?_eq_none z] at h
      cases h
  have go : ∀ d m m', m - m' ≤ d → Sub m' m → In S m = true → In S m' = true := fun d => by
    induction d with
    | zero =>
      intro m m' hd s h
      have := sub_le s
      rwa [show m' = m by omega]
    | succ d ih =>
      intro m m' hd s h
      have ml := lt h
      have := sub_le s
      have z := List.all_eq_true.mp (List.all_eq_true.mp steps_all m (List.mem_range.mpr (by omega))) m' (List.mem_range.mpr (by omega))
      rw [decide_eq_true s, Bool.not_true, Bool.false_or] at z
      rcases Bool.or_eq_true_iff.mp z with z | z
      · rwa [of_decide_eq_true z]
      · obtain ⟨k, _, z⟩ := List.any_eq_true.mp z
        simp only [Bool.and_eq_true, decide_eq_true_eq] at z
        have kn : k < n := Nat.lt_of_not_le fun q => by
          have := Nat.pow_le_pow_right (show 0 < 2 by decide) q
          omega
        have kp : 0 < 2 ^ k := Nat.pow_pos (by decide)
        have le := sub_le z.1.2
        exact ih _ _ (by omega) z.1.2 (step m ml h k kn z.1.1)
  exact ⟨n1, n6, len, zero, fun m m' s h => go (m - m') m m' (Nat.le_refl _) s h⟩
theorem bit_and (m k : Nat) : (Builtin.bitAnd ((m : Int) / 2 ^ (k : Int).toNat) 1 = 1) ↔ bit m k = true := by
  have e : (1 : Int) = ((1 : Nat) : Int) := rfl
  rw [shr_mod, e, and_nat]
  unfold bit
  rw [Nat.and_one_is_mod, decide_eq_true_eq]
  omega
theorem bit_and0 (m k : Nat) : (Builtin.bitAnd ((m : Int) / 2 ^ (k : Int).toNat) 1 = 0) ↔ bit m k = false := by
  have e : (1 : Int) = ((1 : Nat) : Int) := rfl
  rw [shr_mod, e, and_nat]
  unfold bit
  rw [Nat.and_one_is_mod, decide_eq_false_iff_not]
  omega
theorem in_app {S : List Bool} {q : Bool} {m : Nat} : In (S ++ [q]) m = if m < S.length then In S m else if m = S.length then q else false := by
  unfold In
  rw [List.getD_eq_getElem?_getD, List.getElem?_append, List.getD_eq_getElem?_getD]
  by_cases h : m < S.length
  · rw [if_pos h, if_pos h]
  · rw [if_neg h, if_neg h]
    by_cases e : m = S.length
    · rw [if_pos e, show m - S.length = 0 by omega]
      rfl
    · rw [if_neg e, List.getElem?_eq_none (by show 1 ≤ _; omega)]
      rfl
theorem bits_lt (x : Int) : x.natAbs < 2 ^ Builtin.Int.intBits x := by
  unfold Builtin.Int.intBits
  split
  · rename_i h
    have : x = 0 := by simpa using h
    subst this
    decide
  · exact Nat.lt_log2_self
theorem half_mod {x y : Nat} (h : y ≤ x) (h0 : 0 < y) : 2 * (x % y) ≤ x := by
  have h1 := Nat.mod_lt x h0
  have h2 := Nat.div_add_mod x y
  have h3 : 1 ≤ x / y := (Nat.one_le_div_iff h0).mpr h
  have h4 : y * 1 ≤ y * (x / y) := Nat.mul_le_mul_left y h3
  omega
/-- what stands between two turns of Euclid's loop -/
def Eu (g B i x y : Nat) : Prop := Nat.gcd x y = g ∧ ((i = 0 ∧ x < 2 ^ B ∧ y < 2 ^ B) ∨ (1 ≤ i ∧ y < x ∧ x * y * 2 ^ (i - 1) < 2 ^ (2 * B)))
theorem Eu.step {g B i x y : Nat} (h : Eu g B i x y) (hy : y ≠ 0) : Eu g B (i + 1) y (x % y) := by
  obtain ⟨hg, h⟩ := h
  have y0 : 0 < y := Nat.pos_of_ne_zero hy
  refine ⟨?_, .inr ⟨by omega, Nat.mod_lt x y0, ?_⟩⟩
  · rw [← hg, Nat.gcd_comm y, ← Nat.gcd_rec, Nat.gcd_comm]
  · show y * (x % y) * 2 ^ i < 2 ^ (2 * B)
    rcases h with ⟨rfl, h1, h2⟩ | ⟨h0, h1, h2⟩
    · rw [Nat.pow_zero, Nat.mul_one]
      have e : 2 ^ (2 * B) = 2 ^ B * 2 ^ B := by rw [← Nat.pow_add]; congr 1; omega
      rw [e]
      exact Nat.mul_lt_mul'' h2 (Nat.lt_of_le_of_lt (Nat.mod_le x y) h1)
    · refine Nat.lt_of_le_of_lt ?_ h2
      have e : 2 ^ i = 2 * 2 ^ (i - 1) := by
        rw [← Nat.pow_succ']
        congr 1
        omega
      have hm := half_mod (Nat.le_of_lt h1) y0
      calc y * (x % y) * 2 ^ i = y * (2 * (x % y)) * 2 ^ (i - 1) := by rw [e, Nat.mul_left_comm y 2, Nat.mul_comm 2 (y * (x % y))]; simp only [Nat.mul_assoc]
        _ ≤ y * x * 2 ^ (i - 1) := Nat.mul_le_mul_right _ (Nat.mul_le_mul_left _ hm)
        _ = x * y * 2 ^ (i - 1) := by rw [Nat.mul_comm y x]
theorem Eu.last {g B i x y : Nat} (h : Eu g B i x y) (hi : 2 * B + 2 ≤ i) : y = 0 := by
  obtain ⟨_, h⟩ := h
  rcases h with ⟨h0, _⟩ | ⟨_, h1, h2⟩
  · omega
  · by_cases hy : y = 0
    · exact hy
    · exfalso
      have p : 1 ≤ x * y := Nat.mul_pos (by omega) (Nat.pos_of_ne_zero hy)
      have q : 1 * 2 ^ (i - 1) ≤ x * y * 2 ^ (i - 1) := Nat.mul_le_mul_right _ p
      have r : 2 ^ (2 * B) < 2 ^ (i - 1) := Nat.pow_lt_pow_right (by decide) (by omega)
      omega
theorem Eu.end_ {g B i x : Nat} (h : Eu g B i x 0) : x = g := by
  rw [← h.1, Nat.gcd_zero_right]
/-- the first turn is its own -/
def Eu1 (n d B i x y : Nat) : Prop := (i = 0 ∧ x = n ∧ y = d) ∨ (1 ≤ i ∧ Eu (Nat.gcd n d) B (i - 1) x y)
theorem Eu1.step {n d B i x y : Nat} (hd : d < 2 ^ B) (h : Eu1 n d B i x y) (hy : y ≠ 0) : Eu1 n d B (i + 1) y (x % y) := by
  rcases h with ⟨rfl, rfl, rfl⟩ | ⟨h0, h⟩
  · refine .inr ⟨Nat.le_refl _, ?_, .inl ⟨rfl, hd, Nat.lt_trans (Nat.mod_lt _ (Nat.pos_of_ne_zero hy)) hd⟩⟩
    rw [Nat.gcd_comm y, ← Nat.gcd_rec, Nat.gcd_comm]
  · have z := h.step hy
    rw [show i - 1 + 1 = i + 1 - 1 by omega] at z
    exact .inr ⟨by omega, z⟩
section
variable {P : Program} {w : World} {K : PySem.W.Frag} {mg : Str → Option Value} {base : Heap} {a : Ad}
/-! ### _law_low -/
def spLow : Sp := fun vs H Q _ => ∃ n d : Int, vs = [.int n, .int d] ∧ 0 < d ∧ Big n ∧ Big d ∧ ∀ t H', H t = none → Same H H' → H' t = some (.tup [.int (LN n d), .int (LD n d)]) → Q (.ref t) H'
theorem sc_law_low : FnScope ["num", "den", "big", "small", "turn"] ["num", "den"] (defScope s_law_low) := ⟨rfl, rfl, rfl, by decide +kernel, rfl, by decide +kernel, by decide +kernel⟩
theorem ok_law_low (T : Txt K mg a) : FnOk P w K mg base CX0 1 a.a_law_low a.d_law_low ["num", "den"] spLow := by
  refine T.fn_law_low.ok sc_law_low (fun vs H Q E h => ?_) (fun cdv A outer s H vs Q E hr h => ?_)
  · obtain ⟨n, d, rfl, _⟩ := h
    rfl
  · obtain ⟨n, d, rfl, h0, bn, bd, k⟩ := h
    refine ⟨_, (pss_cons (ps_set (i := 2) sc_law_low.nd rfl (Or.inl rfl) (pe_callB call_abs (by rfl) T.no_abs (by decide +kernel) (pa_cons (pv 0) pa_nil)))
      (pss_cons (ps_set (i := 3) sc_law_low.nd rfl (Or.inl rfl) (pv 1))
      (pss_cons (ps_for PassesOwn.never rfl (pi_range1 (by rfl) T.no_range (pa_cons (pe_op op_add (pe_op op_mul pe_int (pe_bits (pv 1))) pe_int) pa_nil)) (pg_name (i := 4) sc_law_low.nd rfl (Or.inl rfl))
        (pss_cons (ps_if (pt_cmpR op_eq (pv 3) pe_int (nomark _)) (pss_one ps_break) pss_nil)
        (pss_one (ps_par (i := 2) (j := 3) (by rfl) sc_law_low.nd rfl rfl (by decide) rfl rfl (pa_cons (pv 3) (pa_cons (pe_op op_mod (pe_callTy Rd.call_intI (by rfl) T.no_int (by decide +kernel) (pa_cons (pv 2) pa_nil)) (pv 3)) pa_nil)) (by rfl)))))
      (pss_one (ps_ret (pe_tup (pa_cons (pe_op op_fdivWN (pv 0) (pv 2)) (pa_cons (pe_op op_fdivWN (pv 1) (pv 2)) pa_nil)))))))), ?_⟩
    show (_ : TS) _ [some (V.int n), some (V.int d), none, none, none] H
    walk_at "rd"
    simp only [abs_eq]
    have hd2 : d.natAbs < 2 ^ Builtin.Int.intBits d := bits_lt d
    have lB : Builtin.Int.intBits d ≤ 4000 := PyProof.Rows.intBits_le bd
    generalize Builtin.Int.intBits d = B at hd2 lB ⊢
    refine ⟨.inl ⟨by decide, by decide⟩, by omega, by omega, ?_⟩
    rw [show (2 * (B : Int) + 4).toNat = 2 * B + 4 by omega]
    have dd : (d.natAbs : Int) = d := by omega
    refine Rd.loop_rngC (fun σ H' => ∃ v3 v4, σ = [some (V.int n), some (V.int d), some (V.int ((Nat.gcd n.natAbs d.natAbs : Nat) : Int)), v3, v4] ∧ H' = H)
      (fun i σ H' => ∃ (x y : Nat) (v4 : Option V), σ = [some (V.int n), some (V.int d), some (V.int (x : Int)), some (V.int (y : Int)), v4] ∧ H' = H ∧ Eu1 n.natAbs d.natAbs B i x y)
      ⟨n.natAbs, d.natAbs, none, by rw [dd], rfl, .inl ⟨rfl, rfl, rfl⟩⟩ ?_ ?_ ?_
    · rintro bk hbk i σ H1 hi ⟨x', y', v4, rfl, rfl, eu⟩
      walk_at "rd"
      refine ite2 (fun hz => ?_) (fun hz => ?_)
      · have : y' = 0 := by omega
        subst this
        have : x' = Nat.gcd n.natAbs d.natAbs := by
          rcases eu with ⟨_, _, e⟩ | ⟨_, e⟩
          · omega
          · exact e.end_
        subst this
        exact hbk _ _ ⟨_, _, rfl, rfl⟩
      · have : y' ≠ 0 := by omega
        simp only [tPar]
        walk_at "rd"
        exact ⟨by omega, y', rfl, x' % y', by rw [Int.natCast_emod], eu.step hd2 this⟩
    · rintro σ H1 ⟨x', y', v4, rfl, rfl, eu⟩
      rcases eu with ⟨e, _⟩ | ⟨_, e⟩
      · omega
      · have := e.last (by omega)
        subst this
        have := e.end_
        subst this
        exact ⟨_, _, rfl, rfl⟩
    · rintro σ H1 ⟨v3, v4, rfl, rfl⟩
      walk_at "rd"
      have e : gS n d = ((Nat.gcd n.natAbs d.natAbs : Nat) : Int) := if_neg (by omega)
      have gd := gS_div (n := n) (d := d) (by omega) bd
      rw [e] at gd
      unfold LN LD at k
      rw [e] at k
      exact ⟨gd, gd, by decide, fun t ht => k t _ ht (same_upd ht) upd_same⟩
/-! ### _law_whole -/
def spWh : Sp := fun vs H Q _ => ∃ (i : Int), vs = [.int i] ∧ Q (.bl true) H
theorem sc_law_whole : FnScope ["found"] ["found"] (defScope s_law_whole) := ⟨rfl, rfl, rfl, by decide +kernel, rfl, by decide +kernel, by decide +kernel⟩
theorem ok_law_whole (T : Txt K mg a) : FnOk P w K mg base CX0 1 a.a_law_whole a.d_law_whole ["found"] spWh := by
  refine T.fn_law_whole.ok sc_law_whole (fun vs H Q E h => ?_) (fun cdv A outer s H vs Q E hr h => ?_)
  · obtain ⟨i, rfl, _⟩ := h
    rfl
  · obtain ⟨i, rfl, k⟩ := h
    refine ⟨_, (pss_one (ps_ret (pe_and (pe_callB (call_isB .int) (by rfl) T.no_isinstance (by decide +kernel) (pa_cons (pv 0) (pa_cons (pe_bltn (v := .ty "int") (u := .type "int") (by rfl) T.no_int (by decide +kernel) rfl) pa_nil))) (pe_one (pe_not (pe_callB (call_isB .bl) (by rfl) T.no_isinstance (by decide +kernel) (pa_cons (pv 0) (pa_cons (pe_bltn (v := .ty "bool") (u := .type "bool") (by rfl) T.no_bool (by decide +kernel) rfl) pa_nil)))))))), ?_⟩
    show (_ : TS) _ [some (V.int i)] H
    walk_at "rd"
    refine ⟨_, .int i, ?_⟩
    rw [if_pos (by decide)]
    exact ⟨_, .int i, k⟩
/-! ### _law_things -/
def spThings : Sp := fun vs H Q _ => ∃ (m : Nat), vs = [.int m] ∧ ∀ r H', H r = none → Same H H' → H' r = some (.tup (iv (bits m))) → Q (.ref r) H'
theorem sc_law_things : FnScope ["mask", "k"] ["mask"] (defScope s_law_things) := ⟨rfl, rfl, rfl, by decide +kernel, rfl, by decide +kernel, by decide +kernel⟩
theorem ok_law_things (T : Txt K mg a) : FnOk P w K mg base CX0 1 a.a_law_things a.d_law_things ["mask"] spThings := by
  refine T.fn_law_things.ok sc_law_things (fun vs H Q E h => ?_) (fun cdv A outer s H vs Q E hr h => ?_)
  · obtain ⟨m, rfl, _⟩ := h
    rfl
  · obtain ⟨m, rfl, k⟩ := h
    refine ⟨_, (pss_one (ps_ret (pe_callTy call_tuple_of (by rfl) T.no_tuple (by decide +kernel) (pa_cons (pe_lc (own := [("k", 1)]) (by rfl) sc_law_things.nd (pi_range1 (by rfl) T.no_range (pa_cons pe_int pa_nil)) (blkOk_by (own := [("k", 1)]) (N := ["mask", "k"]) (sc := defScope s_law_things) (by decide +kernel)) (fun _ _ _ _ _ => pg_name (i := 1) sc_law_things.nd rfl (Or.inl rfl)) (fun _ _ _ _ _ => pts_one (pt_cmpR op_eq (pe_op op_and (pe_op op_shr (pv 0) (pv 1)) pe_int) pe_int (nomark _))) (fun _ _ _ _ _ => (pv 1))) pa_nil)))), ?_⟩
    show (_ : TS) _ [some (V.int m), none] H
    walk_at "rd"
    refine ⟨by decide, by decide, Rd.lcl_rng (fun D i H5 => H D = none ∧ Same H H5 ∧ H5 D = some (.lst (iv ((List.range i).filter (bit m))))) (fun D hD => ⟨hD, same_upd hD, upd_same⟩) (fun D i H5 hi ⟨n5, e5, a5⟩ => ?_) (fun D H5 _ ⟨n5, e5, a5⟩ => ?_)⟩
    · walk_at "rd"
      have i6 : i < 6 := hi
      have fl : ((List.range i).filter (bit m)).length ≤ i := by
        have := List.length_filter_le (bit m) (List.range i)
        rwa [List.length_range] at this
      rw [Int.zero_add]
      refine ⟨by omega, ?_⟩
      rw [List.range_succ, List.filter_append]
      refine ite2 (fun h => ⟨_, a5, small (by rw [iv_len]; omega), n5, fun b o hb => (upd_ne (ne_of_none hb n5)).trans (e5 _ _ hb), ?_⟩) (fun h => ⟨n5, e5, ?_⟩)
      · rw [bit_and] at h
        rw [List.filter_cons_of_pos h]
        unfold iv
        rw [List.map_append]
        rfl
      · rw [bit_and] at h
        rw [List.filter_cons_of_neg h, List.filter_nil, List.append_nil]
        exact a5
    · exact ⟨D, rfl, _, .inl ⟨SqL.of a5, fun r hr => k r _ (e5.free hr) (e5.trans (same_upd hr)) upd_same⟩⟩
end

end K37
namespace K37
open PySem PySem.Spec PyProof.Rows L2 Own OwnSeq OwnSet OwnComb OwnSort OwnHot OwnExN OwnProj
local macro_rules | `(tactic| walk_at "rd") => `(tactic| simp only [tSeq, tAsg, tOp, tUn, tVar, gName, gSub, rIxL, rIxT, rSetL, tC, rI0, rI, rU, rEq, rNe, tCons, tNil, tCB, tLst, tTup, tIfS, tAnd, tOr, tNot, tAndV, tOrV, tNotV, tTest, tB, tIf, tRet, tDrop, tNext, tBreak, tCont, tCall, tCallS, L2.WE, tMakeS, rIsS, rIsB, tChain, gSeq, gRest, gCons, gNil, tFor_seq, tFor_enumS, tLc_seq, tLc_enumS, rAny, rAll, L2.tMeth, StX.tStar, rIn, tLstRg, tRg1, tRg2, rSetI, rSortedSet, rInDT, rInD, rNotInD, rEqD, rNeD, iComb, tFld, tMake, tMkO, sFld, tOst, tNever, tBits, clv, isB,
  Rd.tFor_rng1, Rd.tFor_rng2, Rd.tFor_list, Rd.tFor_tup, Rd.tLc_list, Rd.tLc_tup, Rd.tLc_rng1, Rd.LcTurn, tYes, wipe, Rd.rLenL, Rd.rLenT, Rd.rIntI, Rd.rIxH, rIxHT,  HO.tup.injEq, Rd.at0, Rd.at1, Rd.at2, Rd.at3, Rd.ixN40, Rd.ixN41, Rd.ixN42, Rd.ixN43, Rd.scal_ii, cxOf,
  List.length_cons, List.length_nil, List.length_map, List.map_cons, List.map_nil, upd_same, decide_eq_true_eq, decide_true, decide_false, if_true, if_false, Bool.false_eq_true, Bool.not_true, Bool.not_false, HO.lst.injEq, HO.ins.injEq, List.set_cons_zero, List.set_cons_succ, List.getElem?_cons_zero, List.getElem?_cons_succ, List.append_nil, List.nil_append, List.cons_append, Option.some.injEq, V.ref.injEq, V.int.injEq, V.bl.injEq, List.cons.injEq, exists_eq_left', exists_and_left, exists_eq_left, true_and, and_true, and_self, and_assoc, implies_true, reduceCtorEq, Nat.reduceAdd])

theorem bl_flat (L : List Bool) : (L.map V.bl).all flatV = true := List.all_eq_true.mpr fun x hx => by
  obtain ⟨g, _, rfl⟩ := List.mem_map.mp hx
  rfl

end K37
namespace K37
open PySem PySem.Spec PyProof.Rows L2 Own OwnSeq OwnSet OwnComb OwnSort OwnHot OwnExN OwnProj
local macro_rules | `(tactic| walk_at "rd") => `(tactic| simp only [tSeq, tAsg, tOp, tUn, tVar, gName, gSub, rIxL, rIxT, rSetL, tC, rI0, rI, rU, rEq, rNe, tCons, tNil, tCB, tLst, tTup, tIfS, tAnd, tOr, tNot, tAndV, tOrV, tNotV, tTest, tB, tIf, tRet, tDrop, tNext, tBreak, tCont, tCall, tCallS, L2.WE, tMakeS, rIsS, rIsB, tChain, gSeq, gRest, gCons, gNil, tFor_seq, tFor_enumS, tLc_seq, tLc_enumS, rAny, rAll, L2.tMeth, StX.tStar, rIn, tLstRg, tRg1, tRg2, rSetI, rSortedSet, rInDT, rInD, rNotInD, rEqD, rNeD, iComb, tFld, tMake, tMkO, sFld, tOst, tNever, tBits, clv, isB,
  Rd.tFor_rng1, Rd.tFor_rng2, Rd.tFor_list, Rd.tFor_tup, Rd.tLc_list, Rd.tLc_tup, Rd.tLc_rng1, Rd.LcTurn, tYes, wipe, Rd.rLenL, Rd.rLenT, Rd.rIntI, Rd.rIxH, rIxHT,  HO.tup.injEq, Rd.at0, Rd.at1, Rd.at2, Rd.at3, Rd.ixN40, Rd.ixN41, Rd.ixN42, Rd.ixN43, Rd.scal_ii, cxOf,
  List.length_cons, List.length_nil, List.length_map, List.map_cons, List.map_nil, upd_same, decide_eq_true_eq, decide_true, decide_false, if_true, if_false, Bool.false_eq_true, Bool.not_true, Bool.not_false, HO.lst.injEq, HO.ins.injEq, List.set_cons_zero, List.set_cons_succ, List.getElem?_cons_zero, List.getElem?_cons_succ, List.append_nil, List.nil_append, List.cons_append, Option.some.injEq, V.ref.injEq, V.int.injEq, V.bl.injEq, List.cons.injEq, exists_eq_left', exists_and_left, exists_eq_left, true_and, and_true, and_self, and_assoc, implies_true, reduceCtorEq, Nat.reduceAdd])

/-! ### _law_order -/
def thR (n x : Nat) : List Nat := (List.range n).filter fun k => bit x (n - 1 - k)
def msk (n i : Nat) : Nat := mk (thR n (2 ^ n - 1 - i))
theorem msks : ((List.range 7).all fun n => (List.range (2 ^ n)).all fun i => decide ((thR n (2 ^ n - 1 - i)).length = pop (msk n i)) && decide (msk n i < 2 ^ n) && decide (pop (msk n i) ≤ n)) = true := by decide +kernel
theorem msk_at {n i : Nat} (n6 : n ≤ 6) (hi : i < 2 ^ n) : (thR n (2 ^ n - 1 - i)).length = pop (msk n i) ∧ msk n i < 2 ^ n ∧ pop (msk n i) ≤ n := by
  have z := List.all_eq_true.mp (List.all_eq_true.mp msks n (List.mem_range.mpr (by omega))) i (List.mem_range.mpr hi)
  simp only [Bool.and_eq_true, decide_eq_true_eq] at z
  exact ⟨z.1.1, z.1.2, z.2⟩
theorem orders : ((List.range 7).all fun n => (List.range (n + 1)).all fun j => decide (((List.range (2 ^ n)).map (msk n)).filter (fun m => decide (pop m = j)) = (combs n j).map mk)) = true := by decide +kernel
def rowL (n : Nat) (S : List Bool) (i j : Nat) : List Nat := ((List.range i).map (msk n)).filter fun m => In S m && decide (pop m = j)
theorem row_next {n i j : Nat} {S : List Bool} : rowL n S (i + 1) j = rowL n S i j ++ (if (In S (msk n i) && decide (pop (msk n i) = j)) = true then [msk n i] else []) := by
  unfold rowL
  rw [List.range_succ, List.map_append, List.filter_append]
  cases z : (In S (msk n i) && decide (pop (msk n i) = j)) with
  | true => rw [show List.map (msk n) [i] = [msk n i] from rfl, List.filter_cons_of_pos (p := fun m => In S m && decide (pop m = j)) z]; rfl
  | false => rw [show List.map (msk n) [i] = [msk n i] from rfl, List.filter_cons_of_neg (p := fun m => In S m && decide (pop m = j)) (by rw [z]; decide)]; rfl
/-- the masks of a family in its order -/
def ordL (n : Nat) (S : List Bool) : List Nat := (famL n S).map mk
theorem row_all {n j : Nat} {S : List Bool} (n6 : n ≤ 6) (hj : j ≤ n) : rowL n S (2 ^ n) j = ((combs n j).filter fun s => In S (mk s)).map mk := by
  have z := of_decide_eq_true (List.all_eq_true.mp (List.all_eq_true.mp orders n (List.mem_range.mpr (by omega))) j (List.mem_range.mpr (by omega)))
  unfold rowL
  rw [show (fun m => In S m && decide (pop m = j)) = fun m => (fun m => In S m) m && (fun m => decide (pop m = j)) m from rfl, ← List.filter_filter, z, List.filter_map]
  rfl
theorem row_len {n i j : Nat} {S : List Bool} : (rowL n S i j).length ≤ i := by
  unfold rowL
  have := List.length_filter_le (fun m => In S m && decide (pop m = j)) ((List.range i).map (msk n))
  rwa [List.length_map, List.length_range] at this
theorem rfl_len {n N : Nat} {S : List Bool} : ∀ i, ((List.range i).flatMap (rowL n S N)).length ≤ N * i
  | 0 => Nat.zero_le _
  | i + 1 => by
    rw [List.range_succ, List.flatMap_append, List.flatMap_cons, List.flatMap_nil, List.append_nil, List.length_append, Nat.mul_succ]
    exact Nat.add_le_add (rfl_len i) row_len
theorem fm_congr {α β : Type} {f g : α → List β} : ∀ {l : List α}, (∀ x ∈ l, f x = g x) → l.flatMap f = l.flatMap g
  | [], _ => rfl
  | x :: l, h => by
    rw [List.flatMap_cons, List.flatMap_cons, h x List.mem_cons_self, fm_congr fun y hy => h y (List.mem_cons_of_mem _ hy)]
theorem ord_rows {n : Nat} {S : List Bool} (n6 : n ≤ 6) : (List.range (n + 1)).flatMap (rowL n S (2 ^ n)) = ordL n S := by
  unfold ordL famL allS
  rw [List.filter_flatMap, List.map_flatMap]
  exact fm_congr fun j hj => row_all n6 (by have := List.mem_range.mp hj; omega)
/-- lists within a list: their addresses -/
structure Rws (H : Hp) (r : Addr) (qs : List Addr) (f : Nat → List Nat) : Prop where
  at' : H r = some (.lst (qs.map V.ref))
  nd : qs.Nodup
  nr : ∀ q ∈ qs, q ≠ r
  row : ∀ (j : Nat) (q : Addr), qs[j]? = some q → H q = some (.lst (iv (f j)))
theorem Rws.same {H H' : Hp} {r : Addr} {qs : List Addr} {f : Nat → List Nat} (R : Rws H r qs f) (e : Same H H') : Rws H' r qs f := ⟨e _ _ R.at', R.nd, R.nr, fun j q h => e _ _ (R.row j q h)⟩
theorem Rws.set {H : Hp} {r q : Addr} {qs : List Addr} {f g : Nat → List Nat} {j : Nat} (R : Rws H r qs f) (hq : qs[j]? = some q) (h1 : ∀ i, i ≠ j → g i = f i) : Rws (upd H q (.lst (iv (g j)))) r qs g := by
  have qm := List.mem_of_getElem? hq
  refine ⟨(upd_ne (R.nr q qm).symm).trans R.at', R.nd, R.nr, fun i q' h => ?_⟩
  by_cases e : i = j
  · subst e
    rw [hq] at h
    cases h
    exact upd_same
  · have ne : q' ≠ q := fun z => by
      subst z
      obtain ⟨a1, b1⟩ := List.getElem?_eq_some_iff.mp h
      obtain ⟨a2, b2⟩ := List.getElem?_eq_some_iff.mp hq
      exact e ((List.getElem_inj R.nd).mp (b1.trans b2.symm))
    rw [upd_ne ne, R.row i q' h, h1 i e]
section
variable {P : Program} {w : World} {K : PySem.W.Frag} {mg : Str → Option Value} {base : Heap} {a : Ad}
def spOrd : Sp := fun vs H Q _ => ∃ (p : Addr) (n : Nat) (S : List Bool), vs = [.int n, .ref p] ∧ H p = some (.lst (S.map V.bl)) ∧ n ≤ 6 ∧ S.length = 2 ^ n ∧ ∀ r H', H r = none → Same H H' → H' r = some (.lst (iv (ordL n S))) → Q (.ref r) H'
theorem sc_law_order : FnScope ["size", "inside", "rows", "back", "number", "things", "mask", "ordered", "row", "k"] ["size", "inside"] (defScope s_law_order) := ⟨rfl, rfl, rfl, by decide +kernel, rfl, by decide +kernel, by decide +kernel⟩
theorem ok_law_order (T : Txt K mg a) : FnOk P w K mg base CX0 1 a.a_law_order a.d_law_order ["size", "inside"] spOrd := by
  refine T.fn_law_order.ok sc_law_order (fun vs H Q E h => ?_) (fun cdv A outer s H vs Q E hr h => ?_)
  · obtain ⟨p, n, S, rfl, _⟩ := h
    rfl
  · obtain ⟨p, n, S, rfl, hp, n6, Sl, k⟩ := h
    refine ⟨_, (pss_cons (ps_setLc (i := 2) (own := [("k", 9)]) (by rfl) sc_law_order.nd rfl rfl (sw_true rfl rfl rfl (by decide +kernel)) (pi_range1 (by rfl) T.no_range (pa_cons (pe_op op_add (pv 0) pe_int) pa_nil)) (blkOk_by (own := [("k", 9)]) (N := ["size", "inside", "rows", "back", "number", "things", "mask", "ordered", "row", "k"]) (sc := defScope s_law_order) (by decide +kernel)) (fun _ _ _ _ _ => pg_name (i := 9) sc_law_order.nd rfl (Or.inl rfl)) (fun _ _ _ _ _ => pts_nil) (fun _ _ _ _ _ => (pe_lst pa_nil)))
      (pss_cons (ps_for PassesOwn.never rfl (pi_range1 (by rfl) T.no_range (pa_cons (pe_op op_shl pe_int (pv 0)) pa_nil)) (pg_name (i := 3) sc_law_order.nd rfl (Or.inl rfl))
        (pss_cons (ps_set (i := 4) sc_law_order.nd rfl (Or.inr rfl) (pe_op op_sub (pe_op op_sub (pe_op op_shl pe_int (pv 0)) pe_int) (pv 3)))
        (pss_cons (ps_setLc (i := 5) (own := [("k", 9)]) (by rfl) sc_law_order.nd rfl rfl (sw_true rfl rfl rfl (by decide +kernel)) (pi_range1 (by rfl) T.no_range (pa_cons (pv 0) pa_nil)) (blkOk_by (own := [("k", 9)]) (N := ["size", "inside", "rows", "back", "number", "things", "mask", "ordered", "row", "k"]) (sc := defScope s_law_order) (by decide +kernel)) (fun _ _ _ _ _ => pg_name (i := 9) sc_law_order.nd rfl (Or.inl rfl)) (fun _ _ _ _ _ => pts_one (pt_cmpR op_eq (pe_op op_and (pe_op op_shr (pv 4) (pe_op op_sub (pe_op op_sub (pv 0) pe_int) (pv 9))) pe_int) pe_int (nomark _))) (fun _ _ _ _ _ => (pv 9)))
        (pss_cons (ps_set (i := 6) sc_law_order.nd rfl (Or.inl rfl) (pe_callB (cr_sum rfl) (by rfl) T.no_sum (by decide +kernel) (pa_cons (pe_lc (own := [("k", 9)]) (by rfl) sc_law_order.nd (pi_list (pv 5)) (blkOk_by (own := [("k", 9)]) (N := ["size", "inside", "rows", "back", "number", "things", "mask", "ordered", "row", "k"]) (sc := defScope s_law_order) (by decide +kernel)) (fun _ _ _ _ _ => pg_name (i := 9) sc_law_order.nd rfl (Or.inl rfl)) (fun _ _ _ _ _ => pts_nil) (fun _ _ _ _ _ => (pe_op op_shl pe_int (pv 9)))) pa_nil)))
        (pss_one (ps_if (pt_val (pe_ix Rd.ixH (pv 1) (pv 6) (fun _ _ => rfl))) (pss_one (ps_expr (pe_bm PySem.F.plainAttrs_list PySem.F.slot_list_append PySem.F.type_list_append mt_append (pe_ix Rd.ixH (pv 2) (pe_callB (lenK K) (by rfl) T.no_len PySem.boot_len (pa_cons (pv 5) pa_nil)) (fun _ _ => rfl)) (pa_cons (pv 6) pa_nil)))) pss_nil))))))
      (pss_cons (ps_set (i := 7) sc_law_order.nd rfl (Or.inl rfl) (pe_lst pa_nil))
      (pss_cons (ps_for PassesOwn.never rfl (pi_list (pv 2)) (pg_name (i := 8) sc_law_order.nd rfl (Or.inl rfl))
        (pss_one (ps_set (i := 7) sc_law_order.nd rfl (Or.inl rfl) (pe_op op_cat (pv 7) (pv 8)))))
      (pss_one (ps_ret (pv 7))))))), ?_⟩
    show (_ : TS) _ [some (V.int n), some (V.ref p), none, none, none, none, none, none, none, none] H
    have p64 := pow64 n6
    have pz : 0 < 2 ^ n := Nat.pow_pos (by decide)
    walk_at "rd"
    refine ⟨by omega, by omega, ?_⟩
    rw [show ((n : Int) + 1).toNat = n + 1 by omega]
    refine Rd.lcl_rng (fun D i H5 => H D = none ∧ Same H H5 ∧ ∃ qs : List Addr, qs.length = i ∧ (∀ q ∈ qs, H q = none) ∧ Rws H5 D qs (fun _ => [])) (fun D hD => ⟨hD, same_upd hD, [], rfl, (fun _ h => by cases h), ⟨upd_same, .nil, (fun _ h => by cases h), fun _ _ h => by cases h⟩⟩) (fun D i H5 hi ⟨n5, e5, qs, ql, qn, R⟩ => ?_) (fun D H5 _ ⟨n5, e5, qs, ql, qn, R⟩ => ?_)
    · walk_at "rd"
      refine ⟨by decide, fun q hq => ?_⟩
      have e1 := same_upd (o := .lst []) hq
      have R1 := R.same e1
      have nq : q ≠ D := fun z => by
        have := R.at'
        rw [← z, hq] at this
        cases this
      have ef : Same H (upd (upd H5 q (.lst [])) D (.lst (qs.map V.ref ++ [V.ref q]))) := fun b o hb => (upd_ne (ne_of_none hb n5)).trans (e1 _ _ (e5 _ _ hb))
      refine ⟨_, R1.at', small (by rw [List.length_map]; omega), n5, ef, qs ++ [q], by rw [List.length_append, ql]; rfl, fun z hz => ?_, by rw [List.map_append]; exact upd_same, ?_, fun z hz => ?_, fun j z hz => ?_⟩
      · rcases List.mem_append.mp hz with hz | hz
        · exact qn z hz
        · rw [List.mem_singleton.mp hz]
          exact e5.free hq
      · refine List.nodup_append.mpr ⟨R.nd, by simp, fun x hx y hy => ?_⟩
        rw [List.mem_singleton.mp hy]
        obtain ⟨j, hj⟩ := List.mem_iff_getElem?.mp hx
        intro z
        have := R.row j x hj
        rw [z, hq] at this
        cases this
      · rcases List.mem_append.mp hz with hz | hz
        · exact R.nr z hz
        · rw [List.mem_singleton.mp hz]
          exact nq
      · have zm := List.mem_of_getElem? hz
        rcases List.mem_append.mp zm with zm | zm
        · obtain ⟨j', hj'⟩ := List.mem_iff_getElem?.mp zm
          exact (upd_ne (R.nr z zm)).trans (e1 _ _ (R.row j' z hj'))
        · rw [List.mem_singleton.mp zm]
          exact (upd_ne nq).trans upd_same
    · refine ⟨cpw (by omega), (pbd n6).1, (pbd n6).2.1, ?_⟩
      rw [(pbd n6).2.2.1]
      have R0 : Rws H5 D qs (rowL n S 0) := R
      refine Rd.loop_rngC (fun σ H' => ∃ o3 o4 o5 o6, σ = [some (V.int n), some (V.ref p), some (V.ref D), o3, o4, o5, o6, none, none, none] ∧ Same H H' ∧ Rws H' D qs (rowL n S (2 ^ n)))
        (fun i σ H' => ∃ o3 o4 o5 o6, σ = [some (V.int n), some (V.ref p), some (V.ref D), o3, o4, o5, o6, none, none, none] ∧ Same H H' ∧ Rws H' D qs (rowL n S i)) ⟨none, none, none, none, rfl, e5, R0⟩ ?_ (fun _ _ z => z) ?_
      · rintro bk hbk i σ H6 hi ⟨o3, o4, o5, o6, rfl, e6, R6⟩
        obtain ⟨m1, m2, m3⟩ := msk_at n6 hi
        walk_at "rd"
        have eN : (1 : Int) * 2 ^ (n : Int).toNat - 1 - (0 + (i : Int)) = ((2 ^ n - 1 - i : Nat) : Int) := by
          rw [pow_cast]
          omega
        rw [eN]
        refine ⟨cpw (by omega), by omega, by omega, ?_⟩
        rw [Int.toNat_natCast]
        refine Rd.lcl_rng (fun D2 j H7 => H6 D2 = none ∧ Same H6 H7 ∧ H7 D2 = some (.lst (iv ((List.range j).filter fun k => bit (2 ^ n - 1 - i) (n - 1 - k))))) (fun D2 hD => ⟨hD, same_upd hD, upd_same⟩) (fun D2 j H7 hj ⟨n7, e7, a7⟩ => ?_) (fun D2 H7 _ ⟨n7, e7, a7⟩ => ?_)
        · walk_at "rd"
          have jl : ((List.range j).filter fun k => bit (2 ^ n - 1 - i) (n - 1 - k)).length ≤ j := by
            have := List.length_filter_le (fun k => bit (2 ^ n - 1 - i) (n - 1 - k)) (List.range j)
            rwa [List.length_range] at this
          have eK : (n : Int) - 1 - (0 + (j : Int)) = ((n - 1 - j : Nat) : Int) := by omega
          rw [eK]
          refine ⟨by omega, ?_⟩
          rw [List.range_succ, List.filter_append]
          refine ite2 (fun h => ⟨_, a7, small (by rw [iv_len]; omega), n7, fun b o hb => (upd_ne (ne_of_none hb n7)).trans (e7 _ _ hb), ?_⟩) (fun h => ⟨n7, e7, ?_⟩)
          · rw [bit_and] at h
            rw [List.filter_cons_of_pos (p := fun k => bit (2 ^ n - 1 - i) (n - 1 - k)) h, Int.zero_add]
            unfold iv
            rw [List.map_append]
            rfl
          · rw [bit_and] at h
            rw [List.filter_cons_of_neg (p := fun k => bit (2 ^ n - 1 - i) (n - 1 - k)) h, List.filter_nil, List.append_nil]
            exact a7
        · have thl : (thR n (2 ^ n - 1 - i)).length ≤ n := by omega
          have e67 := e6.trans e7
          have R7 := R6.same e7
          refine ⟨D2, rfl, ⟨_, SqL.of a7⟩, Rd.lcl_list (xs := iv (thR n (2 ^ n - 1 - i))) (fun D3 j H8 => H7 D3 = none ∧ Same H7 H8 ∧ H8 D3 = some (.lst ((((thR n (2 ^ n - 1 - i)).take j).map fun g => ((2 ^ g : Nat) : Int)).map V.int))) (fun D3 hD => ⟨hD, same_upd hD, upd_same⟩) (fun D3 j H8 _ z => z.2.1.seq (SqL.of a7)) (fun D3 j x H8 hx ⟨n8, e8, a8⟩ => ?_) (fun D3 H8 _ ⟨n8, e8, a8⟩ => ?_)⟩
          · obtain ⟨g, hg, rfl⟩ := at_iv hx
            have gm := List.mem_of_getElem? hg
            have gn : g < n := List.mem_range.mp (List.mem_filter.mp gm).1
            walk_at "rd"
            refine ⟨cpw (by omega), _, a8, small (by rw [List.length_map, List.length_map, List.length_take]; omega), n8, fun b o hb => (upd_ne (ne_of_none hb n8)).trans (e8 _ _ hb), ?_⟩
            rw [pow_cast, List.take_add_one, hg, List.map_append, List.map_append]
            rfl
          · rw [iv_len, List.take_length] at a8
            have e78 := e67.trans e8
            have R8 := R7.same e8
            refine ⟨D3, _, rfl, SqL.of a8, ?_⟩
            rw [sum_cast]
            refine ⟨_, _, rfl, e78 _ _ hp, _, in_bool (show mk (thR n (2 ^ n - 1 - i)) < S.length by rw [Sl]; exact m2), _, rfl, ite2 (fun h => ?_) (fun h => ⟨e78, ?_⟩)⟩
            · simp only [tBM, rAppend]
              walk_at "rd"
              obtain ⟨q, hq⟩ : ∃ q, qs[pop (msk n i)]? = some q := ⟨_, List.getElem?_eq_getElem (by omega)⟩
              have qm := List.mem_of_getElem? hq
              have rl : (rowL n S i (pop (msk n i))).length ≤ i := row_len
              refine ⟨_, .inl (SqL.of (e8 _ _ a7)), _, R8.at', V.ref q, ?_, .inl ⟨rfl, _, SqL.of (R8.row _ _ hq)⟩, q, rfl, _, R8.row _ _ hq, small (by rw [iv_len]; omega), ?_, ?_⟩
              · rw [iv_len]
                have := atI_nat (xs := qs.map V.ref) (j := (thR n (2 ^ n - 1 - i)).length) (v := V.ref q) (by rw [m1, List.getElem?_map, hq]; rfl)
                exact this
              · exact fun b o hb => (upd_ne (ne_of_none hb (qn q qm))).trans (e78 _ _ hb)
              · have z := R8.set (g := rowL n S (i + 1)) hq fun j ne => by
                  rw [row_next, show decide (pop (msk n i) = j) = false from decide_eq_false (Ne.symm ne), Bool.and_false, if_neg (by decide), List.append_nil]
                rw [row_next, show In S (msk n i) = true from h, decide_eq_true rfl, if_pos (by decide)] at z
                unfold iv at z ⊢
                rw [List.map_append] at z
                exact z
            · have z : rowL n S (i + 1) = rowL n S i := funext fun j => by
                rw [row_next, show In S (msk n i) = false from Bool.eq_false_iff.mpr h, Bool.false_and, if_neg (by decide), List.append_nil]
              rw [z]
              exact R8
      · rintro σ H6 ⟨o3, o4, o5, o6, rfl, e6, R6⟩
        walk_at "rd"
        refine ⟨by decide, fun o ho => ⟨⟨_, SqL.of ((same_upd ho) _ _ R6.at')⟩, ?_⟩⟩
        have e7 := same_upd (o := .lst []) ho
        have R7 := R6.same e7
        refine Rd.loop_listC (xs := qs.map V.ref) (fun σ H' => ∃ o8 ord, σ = [some (V.int n), some (V.ref p), some (V.ref D), o3, o4, o5, o6, some (V.ref ord), o8, none] ∧ H6 ord = none ∧ Same H6 H' ∧ H' ord = some (.lst (iv (ordL n S))))
          (fun i σ H' => ∃ o8 ord, σ = [some (V.int n), some (V.ref p), some (V.ref D), o3, o4, o5, o6, some (V.ref ord), o8, none] ∧ H6 ord = none ∧ Same H6 H' ∧ H' ord = some (.lst (iv ((List.range i).flatMap (rowL n S (2 ^ n))))))
          ⟨none, o, rfl, ho, e7, upd_same⟩ (fun i σ H' _ ⟨_, _, _, _, e, _⟩ => SqL.of (e _ _ R6.at')) ?_ (fun σ H' ⟨o8, ord, q1, q2, q3, q4⟩ => ⟨o8, ord, q1, q2, q3, by rw [List.length_map, ql, ord_rows n6] at q4; exact q4⟩) ?_
        · rintro bk hbk i x σ H8 hx ⟨o8, ord, rfl, f8, e8, a8⟩
          rw [List.getElem?_map] at hx
          obtain ⟨q, hq, rfl⟩ : ∃ q, qs[i]? = some q ∧ x = V.ref q := by
            cases e : qs[i]? with
            | none => rw [e] at hx; cases hx
            | some q => rw [e] at hx; exact ⟨q, rfl, (Option.some.inj hx).symm⟩
          have il := (List.getElem?_eq_some_iff.mp hq).1
          have fl := rfl_len (n := n) (S := S) (N := 2 ^ n) i
          have f64 : 2 ^ n * i ≤ 64 * i := Nat.mul_le_mul_right _ p64
          have rl : (rowL n S (2 ^ n) i).length ≤ 2 ^ n := row_len
          walk_at "rd"
          refine ⟨ord, q, _, _, rfl, rfl, a8, e8 _ _ (R6.row i q hq), small_le (by rw [iv_len, iv_len]; omega), fun z hz => ?_⟩
          refine ⟨_, z, rfl, rfl, e8.free hz, e8.trans (same_upd hz), ?_⟩
          rw [upd_same, List.range_succ, List.flatMap_append, List.flatMap_cons, List.flatMap_nil, List.append_nil]
          unfold iv
          rw [List.map_append]
        · rintro σ H8 ⟨o8, ord, rfl, f8, e8, a8⟩
          walk_at "rd"
          exact k ord H8 (e6.free f8) (e6.trans e8) a8
end

end K37
namespace K37
open PySem PySem.Spec PyProof.Rows L2 Own OwnSeq OwnSet OwnComb OwnSort OwnHot OwnExN OwnProj
local macro_rules | `(tactic| walk_at "rd") => `(tactic| simp only [tSeq, tAsg, tOp, tUn, tVar, gName, gSub, rIxL, rIxT, rSetL, tC, rI0, rI, rU, rEq, rNe, tCons, tNil, tCB, tLst, tTup, tIfS, tAnd, tOr, tNot, tAndV, tOrV, tNotV, tTest, tB, tIf, tRet, tDrop, tNext, tBreak, tCont, tCall, tCallS, L2.WE, tMakeS, rIsS, rIsB, tChain, gSeq, gRest, gCons, gNil, tFor_seq, tFor_enumS, tLc_seq, tLc_enumS, rAny, rAll, L2.tMeth, StX.tStar, rIn, tLstRg, tRg1, tRg2, rSetI, rSortedSet, rInDT, rInD, rNotInD, rEqD, rNeD, iComb, tFld, tMake, tMkO, sFld, tOst, tNever, tBits, clv, isB,
  Rd.tFor_rng1, Rd.tFor_rng2, Rd.tFor_list, Rd.tFor_tup, Rd.tLc_list, Rd.tLc_tup, Rd.tLc_rng1, Rd.LcTurn, tYes, wipe, Rd.rLenL, Rd.rLenT, Rd.rIntI, Rd.rIxH, rIxHT,  HO.tup.injEq, Rd.at0, Rd.at1, Rd.at2, Rd.at3, Rd.ixN40, Rd.ixN41, Rd.ixN42, Rd.ixN43, Rd.scal_ii, cxOf,
  List.length_cons, List.length_nil, List.length_map, List.map_cons, List.map_nil, upd_same, decide_eq_true_eq, decide_true, decide_false, if_true, if_false, Bool.false_eq_true, Bool.not_true, Bool.not_false, HO.lst.injEq, HO.ins.injEq, List.set_cons_zero, List.set_cons_succ, List.getElem?_cons_zero, List.getElem?_cons_succ, List.append_nil, List.nil_append, List.cons_append, Option.some.injEq, V.ref.injEq, V.int.injEq, V.bl.injEq, List.cons.injEq, exists_eq_left', exists_and_left, exists_eq_left, true_and, and_true, and_self, and_assoc, implies_true, reduceCtorEq, Nat.reduceAdd])

theorem in_range {N m : Nat} {f : Nat → Bool} : In ((List.range N).map f) m = (decide (m < N) && f m) := by
  unfold In
  rw [List.getD_eq_getElem?_getD, List.getElem?_map]
  by_cases h : m < N
  · rw [List.getElem?_range h, decide_eq_true h]
    rfl
  · rw [List.getElem?_eq_none (by rw [List.length_range]; omega), decide_eq_false h]
    rfl
theorem pops_sub : ((List.range 64).all fun m => (List.range 64).all fun m' => !decide (Sub m' m) || decide (pop m' ≤ pop m)) = true := by decide +kernel
theorem pop_sub {m m' : Nat} (h : m < 64) (s : Sub m' m) : pop m' ≤ pop m := by
  have := sub_le s
  have z := List.all_eq_true.mp (List.all_eq_true.mp pops_sub m (List.mem_range.mpr h)) m' (List.mem_range.mpr (by omega))
  rw [decide_eq_true s, Bool.not_true, Bool.false_or] at z
  exact of_decide_eq_true z
theorem sub_and {m m' f : Nat} (s : Sub m' m) : Sub (m' &&& f) (m &&& f) := by
  unfold Sub at *
  rw [show m' &&& f &&& (m &&& f) = (m' &&& m) &&& f by rw [Nat.and_assoc, ← Nat.and_assoc f, Nat.and_comm f m, Nat.and_assoc m, Nat.and_self, Nat.and_assoc], s]
theorem pop_and {m m' f : Nat} (h : m < 64) (s : Sub m' m) : pop (m' &&& f) ≤ pop (m &&& f) :=
  pop_sub (Nat.lt_of_le_of_lt Nat.and_le_left h) (sub_and s)
/-- a family cut by what is kept by parts -/
theorem fam_cut {n : Nat} {S S' : List Bool} {f : Nat → Bool} (F : Fam n S) (len : S'.length = 2 ^ n) (v : ∀ m, m < 2 ^ n → In S' m = (In S m && f m)) (f0 : f 0 = true) (fd : ∀ m m', m < 64 → Sub m' m → f m = true → f m' = true) : Fam n S' := by
  have p64 := pow64 F.n6
  have pz : 0 < 2 ^ n := Nat.pow_pos (by decide)
  refine ⟨F.n1, F.n6, len, by rw [v 0 pz, F.zero, f0]; rfl, fun m m' s h => ?_⟩
  have ml : m < 2 ^ n := by
    rcases Nat.lt_or_ge m S'.length with z | z
    · omega
    · unfold In at h
      rw [List.getD_eq_getElem?_getD, List.getElem?_eq_none z] at h
      cases h
  have le := sub_le s
  rw [v m ml] at h
  obtain ⟨h1, h2⟩ := Bool.and_eq_true_iff.mp h
  rw [v m' (by omega), F.down _ _ s h1, fd m m' (by omega) s h2]
  rfl
theorem fam_or {n : Nat} {S S' : List Bool} {f : Nat → Bool} (F : Fam n S) (len : S'.length = 2 ^ n) (v : ∀ m, m < 2 ^ n → In S' m = (In S m || f m)) (fd : ∀ m m', m < 64 → Sub m' m → f m = true → f m' = true) : Fam n S' := by
  have p64 := pow64 F.n6
  have pz : 0 < 2 ^ n := Nat.pow_pos (by decide)
  refine ⟨F.n1, F.n6, len, by rw [v 0 pz, F.zero]; rfl, fun m m' s h => ?_⟩
  have ml : m < 2 ^ n := by
    rcases Nat.lt_or_ge m S'.length with z | z
    · omega
    · unfold In at h
      rw [List.getD_eq_getElem?_getD, List.getElem?_eq_none z] at h
      cases h
  have le := sub_le s
  rw [v m ml] at h
  rw [v m' (by omega)]
  rcases Bool.or_eq_true_iff.mp h with h | h
  · rw [F.down _ _ s h]; rfl
  · rw [fd m m' (by omega) s h, Bool.or_true]
theorem fam_true {n : Nat} (n1 : 1 ≤ n) (n6 : n ≤ 6) : Fam n ((List.range (2 ^ n)).map fun _ => true) :=
  fam_or (f := fun _ => true) (fam_zero n1 n6) (by rw [List.length_map, List.length_range]) (fun m h => by rw [in_range, decide_eq_true h, Bool.or_true]; rfl) fun _ _ _ _ _ => rfl
theorem sub_dec (m t : Nat) : decide (Builtin.bitAnd (m : Int) (t : Int) = (m : Int)) = decide (Sub m t) := decide_eq_decide.mpr sub_iff
theorem cut {t u : TS} {D : Ends} {σ : L2.St} {H : Hp} (G : L2.St → Hp → Prop) (h : ∀ R : L2.St → Hp → Prop, (∀ σ H, G σ H → R σ H) → t { D with nx := R } σ H) (k : ∀ σ H, G σ H → u D σ H) : tSeq t u D σ H := h (u D) k
abbrev Gives (b c : Addr) (ns : List Int) (t n : Nat) (H : Hp) (Q : VK) : Prop := ∀ (r : Addr) (S : List Bool) (H' : Hp), H r = none → r ≠ b → H' r = some (.lst (S.map V.bl)) → Fam n S → BoxAt H' b c ns (t + 50) → But b H H' → Q (.ref r) H'
def spVec : Sp := fun vs H Q _ => ∃ (b c : Addr) (ns : List Int) (t n : Nat), vs = [.ref b, .int n] ∧ BoxAt H b c ns t ∧ t ≤ 90000 ∧ 1 ≤ n ∧ n ≤ 6 ∧ Gives b c ns t n H Q
section
variable {P : Program} {w : World} {K : PySem.W.Frag} {mg : Str → Option Value} {base : Heap} {a : Ad}
/-! ### _law_by_tops -/
theorem sc_law_by_tops : FnScope ["feed", "size", "inside", "turn", "top", "mask"] ["feed", "size"] (defScope s_law_by_tops) := ⟨rfl, rfl, rfl, by decide +kernel, rfl, by decide +kernel, by decide +kernel⟩
theorem ok_law_by_tops (T : Txt K mg a) : FnOk P w K mg base CX0 2 a.a_law_by_tops a.d_law_by_tops ["feed", "size"] spVec := by
  refine T.fn_law_by_tops.ok sc_law_by_tops (fun vs H Q E h => ?_) (fun cdv A outer s H vs Q E hr h => ?_)
  · obtain ⟨b, c, ns, t, n, rfl, _⟩ := h
    rfl
  · obtain ⟨b, c, ns, t, n, rfl, B, ht, n1, n6, k⟩ := h
    refine ⟨_, (pss_cons (ps_set (i := 2) sc_law_by_tops.nd rfl (Or.inr rfl) (pe_lc (own := [("mask", 5)]) (by rfl) sc_law_by_tops.nd (pi_range1 (by rfl) T.no_range (pa_cons (pe_op op_shl pe_int (pv 1)) pa_nil)) (blkOk_by (own := [("mask", 5)]) (N := ["feed", "size", "inside", "turn", "top", "mask"]) (sc := defScope s_law_by_tops) (by decide +kernel)) (fun _ _ _ _ _ => pg_name (i := 5) sc_law_by_tops.nd rfl (Or.inl rfl)) (fun _ _ _ _ _ => pts_nil) (fun _ _ _ _ _ => (pe_cmpR op_eq (pv 5) pe_int (nomark _)))))
      (pss_cons (ps_for PassesOwn.never rfl (pi_range1 (by rfl) T.no_range (pa_cons (pe_op op_add pe_int (pe_call (ok_law_draw T) (hr.mono (by decide)) (by rfl) T.mg_law_draw T.fn_law_draw.kp T.b_law_draw .nil pass0 (pa_cons (pv 0) (pa_cons pe_int pa_nil)))) pa_nil)) (pg_name (i := 3) sc_law_by_tops.nd rfl (Or.inl rfl))
        (pss_cons (ps_set (i := 4) sc_law_by_tops.nd rfl (Or.inr rfl) (pe_call (ok_law_draw T) (hr.mono (by decide)) (by rfl) T.mg_law_draw T.fn_law_draw.kp T.b_law_draw .nil pass0 (pa_cons (pv 0) (pa_cons (pe_op op_shl pe_int (pv 1)) pa_nil))))
        (pss_one (ps_set (i := 2) sc_law_by_tops.nd rfl (Or.inr rfl) (pe_lc (own := [("mask", 5)]) (by rfl) sc_law_by_tops.nd (pi_range1 (by rfl) T.no_range (pa_cons (pe_op op_shl pe_int (pv 1)) pa_nil)) (blkOk_by (own := [("mask", 5)]) (N := ["feed", "size", "inside", "turn", "top", "mask"]) (sc := defScope s_law_by_tops) (by decide +kernel)) (fun _ _ _ _ _ => pg_name (i := 5) sc_law_by_tops.nd rfl (Or.inl rfl)) (fun _ _ _ _ _ => pts_nil) (fun _ _ _ _ _ => (pe_or (pe_ix Rd.ixH (pv 2) (pv 5) (fun _ _ => rfl)) (pe_one (pe_cmpR op_eq (pe_op op_and (pv 5) (pv 4)) (pv 5) (nomark _))))))))))
      (pss_one (ps_ret (pv 2))))), ?_⟩
    show (_ : TS) _ [some (V.ref b), some (V.int n), none, none, none, none] H
    have p64 := pow64 n6
    have pz : 0 < 2 ^ n := Nat.pow_pos (by decide)
    refine cut (fun σ H' => ∃ r, σ = [some (V.ref b), some (V.int n), some (V.ref r), none, none, none] ∧ H r = none ∧ r ≠ b ∧ Same H H' ∧ H' r = some (.lst (((List.range (2 ^ n)).map fun m => decide (m = 0)).map V.bl))) (fun R hR => ?_) (fun σ H' h => ?_)
    · walk_at "rd"
      refine ⟨cpw (by omega), (pbd n6).1, (pbd n6).2.1, ?_⟩
      rw [(pbd n6).2.2.1]
      refine Rd.lcl_rng (fun D i H5 => H D = none ∧ Same H H5 ∧ H5 D = some (.lst (((List.range i).map fun m => decide (m = 0)).map V.bl))) (fun D hD => ⟨hD, same_upd hD, upd_same⟩) (fun D i H5 hi ⟨n5, e5, a5⟩ => ?_) (fun D H5 _ ⟨n5, e5, a5⟩ => ?_)
      · walk_at "rd"
        refine ⟨_, a5, small (by rw [List.length_map, List.length_map, List.length_range]; omega), n5, fun b o hb => (upd_ne (ne_of_none hb n5)).trans (e5 _ _ hb), ?_⟩
        rw [List.range_succ, List.map_append, List.map_append, show decide ((0 : Int) + (i : Nat) = 0) = decide (i = 0) from decide_eq_decide.mpr (by omega)]
        rfl
      · exact hR _ _ ⟨D, rfl, n5, B.ne_new n5, e5, a5⟩
    obtain ⟨r, rfl, hr0, nr, e1, a1⟩ := h
    have B1 := B.same e1
    walk_at "rd"
    refine drw 3 B1 rfl (by decide) (by decide) (by omega) fun d H2 dl B2 e2 => ⟨_, rfl, by omega, by omega, ?_⟩
    rw [show ((1 : Int) + (d : Nat)).toNat = 1 + d by omega]
    refine Rd.loop_rngC (fun σ H' => ∃ r S o3 o4, σ = [some (V.ref b), some (V.int n), some (V.ref r), o3, o4, none] ∧ H r = none ∧ r ≠ b ∧ H' r = some (.lst (S.map V.bl)) ∧ Fam n S ∧ BoxAt H' b c ns (t + 10) ∧ But b H H')
      (fun i σ H' => ∃ r S o3 o4, σ = [some (V.ref b), some (V.int n), some (V.ref r), o3, o4, none] ∧ H r = none ∧ r ≠ b ∧ H' r = some (.lst (S.map V.bl)) ∧ Fam n S ∧ BoxAt H' b c ns (t + 1 + i) ∧ But b H H')
      ⟨r, _, none, none, rfl, hr0, nr, e2 _ _ nr a1, fam_zero n1 n6, B2, (Same.but e1).trans e2⟩ ?_ (fun σ H' ⟨r, S, o3, o4, q1, q2, q3, q4, q5, q6, q7⟩ => ⟨r, S, o3, o4, q1, q2, q3, q4, q5, q6.le (by omega), q7⟩) ?_
    · rintro bk hbk i σ H3 hi ⟨r, S, o3, o4, rfl, f3, nr, a3, F, B3, e3⟩
      walk_at "rd"
      refine ⟨cpw (by omega), drw (2 ^ n) B3 (pow_cast n) pz (by omega) (by omega) fun tp H4 tl B4 e4 => ⟨cpw (by omega), (pbd n6).1, (pbd n6).2.1, ?_⟩⟩
      rw [(pbd n6).2.2.1]
      have a4 := e4 _ _ nr a3
      refine Rd.lcl_rng (fun D j H5 => H4 D = none ∧ Same H4 H5 ∧ H5 D = some (.lst (((List.range j).map fun m => In S m || decide (Sub m tp)).map V.bl))) (fun D hD => ⟨hD, same_upd hD, upd_same⟩) (fun D j H5 hj ⟨n5, e5, a5⟩ => ?_) (fun D H5 _ ⟨n5, e5, a5⟩ => ?_)
      · walk_at "rd"
        rw [show (0 : Int) + (j : Nat) = (j : Nat) from Int.zero_add _]
        have eq : ∀ q, q = (In S j || decide (Sub j tp)) → ((List.range j).map fun m => In S m || decide (Sub m tp)).map V.bl ++ [V.bl q] = ((List.range (j + 1)).map fun m => In S m || decide (Sub m tp)).map V.bl := fun q hq => by
          rw [List.range_succ, List.map_append, List.map_append, hq]
          rfl
        have sm : (((List.range j).map fun m => In S m || decide (Sub m tp)).map V.bl).length < sizeLine := small (by rw [List.length_map, List.length_map, List.length_range]; omega)
        refine ⟨_, e5 _ _ a4, _, in_bool (by rw [F.len]; exact hj), _, rfl, ite2 (fun h => ⟨_, a5, sm, n5, fun b o hb => (upd_ne (ne_of_none hb n5)).trans (e5 _ _ hb), eq _ ?_⟩) (fun h => ⟨_, a5, sm, n5, fun b o hb => (upd_ne (ne_of_none hb n5)).trans (e5 _ _ hb), eq _ ?_⟩)⟩
        · rw [h]
          rfl
        · rw [Bool.eq_false_iff.mpr h, sub_dec]
          rfl
      · have e34 := e3.trans e4
        have nD := B4.ne_new n5
        exact ⟨D, rfl, e34.free nD n5, nD, _, a5, fam_or (f := fun m => decide (Sub m tp)) F (by rw [List.length_map, List.length_range]) (fun m h => by rw [in_range, decide_eq_true h, Bool.true_and]) (fun m m' _ s h => decide_eq_true (sub_trans s (of_decide_eq_true h))), (B4.same e5).le (by omega), e34.trans (Same.but e5)⟩
    · rintro σ H3 ⟨r, S, o3, o4, rfl, f3, nr, a3, F, B3, e3⟩
      walk_at "rd"
      exact k r S H3 f3 nr a3 F (B3.le (by omega)) e3
/-! ### _law_by_classes -/
/-- draws, one for each of so many -/
theorem drawn_list {b c : Addr} {ns : List Int} {t : Nat} {H : Hp} : True := trivial
theorem sc_law_by_classes : FnScope ["feed", "size", "owners", "limits", "mask", "inside", "place", "ours", "thing", "k"] ["feed", "size"] (defScope s_law_by_classes) := ⟨rfl, rfl, rfl, by decide +kernel, rfl, by decide +kernel, by decide +kernel⟩
theorem ok_law_by_classes (T : Txt K mg a) : FnOk P w K mg base CX0 2 a.a_law_by_classes a.d_law_by_classes ["feed", "size"] spVec := by
  refine T.fn_law_by_classes.ok sc_law_by_classes (fun vs H Q E h => ?_) (fun cdv A outer s H vs Q E hr h => ?_)
  · obtain ⟨b, c, ns, t, n, rfl, _⟩ := h
    rfl
  · obtain ⟨b, c, ns, t, n, rfl, B, ht, n1, n6, k⟩ := h
    refine ⟨_, (pss_cons (ps_set (i := 2) sc_law_by_classes.nd rfl (Or.inr rfl) (pe_lc (own := [("thing", 8)]) (by rfl) sc_law_by_classes.nd (pi_range1 (by rfl) T.no_range (pa_cons (pv 1) pa_nil)) (blkOk_by (own := [("thing", 8)]) (N := ["feed", "size", "owners", "limits", "mask", "inside", "place", "ours", "thing", "k"]) (sc := defScope s_law_by_classes) (by decide +kernel)) (fun _ _ _ _ _ => pg_name (i := 8) sc_law_by_classes.nd rfl (Or.inl rfl)) (fun _ _ _ _ _ => pts_nil) (fun _ _ _ _ _ => (pe_call (ok_law_draw T) (hr.mono (by decide)) (by rfl) T.mg_law_draw T.fn_law_draw.kp T.b_law_draw .nil pass0 (pa_cons (pv 0) (pa_cons pe_int pa_nil))))))
      (pss_cons (ps_setLc (i := 3) (own := [("k", 9)]) (by rfl) sc_law_by_classes.nd rfl rfl (sw_true rfl rfl rfl (by decide +kernel)) (pi_range1 (by rfl) T.no_range (pa_cons pe_int pa_nil)) (blkOk_by (own := [("k", 9)]) (N := ["feed", "size", "owners", "limits", "mask", "inside", "place", "ours", "thing", "k"]) (sc := defScope s_law_by_classes) (by decide +kernel)) (fun _ _ _ _ _ => pg_name (i := 9) sc_law_by_classes.nd rfl (Or.inl rfl)) (fun _ _ _ _ _ => pts_nil) (fun _ _ _ _ _ => (pe_call (ok_law_draw T) (hr.mono (by decide)) (by rfl) T.mg_law_draw T.fn_law_draw.kp T.b_law_draw .nil pass0 (pa_cons (pv 0) (pa_cons pe_int pa_nil)))))
      (pss_cons (ps_setLc (i := 5) (own := [("mask", 4)]) (by rfl) sc_law_by_classes.nd rfl rfl (sw_true rfl rfl rfl (by decide +kernel)) (pi_range1 (by rfl) T.no_range (pa_cons (pe_op op_shl pe_int (pv 1)) pa_nil)) (blkOk_by (own := [("mask", 4)]) (N := ["feed", "size", "owners", "limits", "mask", "inside", "place", "ours", "thing", "k"]) (sc := defScope s_law_by_classes) (by decide +kernel)) (fun _ _ _ _ _ => pg_name (i := 4) sc_law_by_classes.nd rfl (Or.inl rfl)) (fun _ _ _ _ _ => pts_nil) (fun _ _ _ _ _ => pe_bl))
      (pss_cons (ps_for PassesOwn.never rfl (pi_range1 (by rfl) T.no_range (pa_cons pe_int pa_nil)) (pg_name (i := 6) sc_law_by_classes.nd rfl (Or.inr rfl))
        (pss_cons (ps_set (i := 7) sc_law_by_classes.nd rfl (Or.inl rfl) (pe_callB (cr_sum rfl) (by rfl) T.no_sum (by decide +kernel) (pa_cons (pe_lc (own := [("k", 9)]) (by rfl) sc_law_by_classes.nd (pi_range1 (by rfl) T.no_range (pa_cons (pv 1) pa_nil)) (blkOk_by (own := [("k", 9)]) (N := ["feed", "size", "owners", "limits", "mask", "inside", "place", "ours", "thing", "k"]) (sc := defScope s_law_by_classes) (by decide +kernel)) (fun _ _ _ _ _ => pg_name (i := 9) sc_law_by_classes.nd rfl (Or.inl rfl)) (fun _ _ _ _ _ => pts_one (pt_cmpR op_eq (pe_ix Rd.ixH (pv 2) (pv 9) (fun _ _ => rfl)) (pv 6) (nomark _))) (fun _ _ _ _ _ => (pe_op op_shl pe_int (pv 9)))) pa_nil)))
        (pss_one (ps_for PassesOwn.never rfl (pi_range1 (by rfl) T.no_range (pa_cons (pe_op op_shl pe_int (pv 1)) pa_nil)) (pg_name (i := 4) sc_law_by_classes.nd rfl (Or.inl rfl))
          (pss_one (ps_if (pt_cmpR op_gt (pe_callB (lenK K) (by rfl) T.no_len PySem.boot_len (pa_cons (pe_call (ok_law_things T) (hr.mono (by decide)) (by rfl) T.mg_law_things T.fn_law_things.kp T.b_law_things .nil pass0 (pa_cons (pe_op op_and (pv 4) (pv 7)) pa_nil)) pa_nil)) (pe_ix Rd.ixH (pv 3) (pv 6) (fun _ _ => rfl)) (nomark _)) (pss_one (ps_asg pe_bl (pg_sub (pv 5) (pv 4) set_list))) pss_nil))))))
      (pss_one (ps_ret (pv 5))))))), ?_⟩
    show (_ : TS) _ [some (V.ref b), some (V.int n), none, none, none, none, none, none, none, none] H
    have p64 := pow64 n6
    have pz : 0 < 2 ^ n := Nat.pow_pos (by decide)
    refine cut (fun σ H' => ∃ ow us, σ = [some (V.ref b), some (V.int n), some (V.ref ow), none, none, none, none, none, none, none] ∧ ow ≠ b ∧ H' ow = some (.lst (iv us)) ∧ us.length = n ∧ BoxAt H' b c ns (t + n) ∧ But b H H') (fun R hR => ?_) (fun σ H' h => ?_)
    · walk_at "rd"
      refine ⟨by omega, by omega, ?_⟩
      rw [Int.toNat_natCast]
      refine Rd.lcl_rng (fun D i H5 => H D = none ∧ But b H H5 ∧ BoxAt H5 b c ns (t + i) ∧ ∃ us, H5 D = some (.lst (iv us)) ∧ us.length = i) (fun D hD => ⟨hD, Same.but (same_upd hD), B.same (same_upd hD), [], upd_same, rfl⟩) (fun D i H5 hi ⟨n5, e5, B5, us, a5, ul⟩ => ?_) (fun D H5 _ ⟨n5, e5, B5, us, a5, ul⟩ => ?_)
      · walk_at "rd"
        refine drw 3 B5 rfl (by decide) (by decide) (by omega) fun x H6 x1 B6 e6 => ?_
        have a6 := e6 _ _ (B.ne_new n5) a5
        refine ⟨_, a6, small (by rw [iv_len]; omega), n5, ?_⟩
        have e7 : But b H (upd H6 D (HO.lst (iv us ++ [V.int x]))) := (e5.trans e6).updn n5
        exact ⟨e7, B.upd B6 (B.ne_new n5) e7, us ++ [x], by unfold iv; rw [List.map_append]; rfl, by rw [List.length_append, ul]; rfl⟩
      · exact hR _ _ ⟨D, us, rfl, B.ne_new n5, a5, ul, B5, e5⟩
    obtain ⟨ow, us, rfl, now, hw, ul, B1, e1⟩ := h
    refine cut (fun σ H2 => ∃ lm ls, σ = [some (V.ref b), some (V.int n), some (V.ref ow), some (V.ref lm), none, none, none, none, none, none] ∧ lm ≠ b ∧ H2 lm = some (.lst (iv ls)) ∧ ls.length = 3 ∧ H2 ow = some (.lst (iv us)) ∧ BoxAt H2 b c ns (t + n + 3) ∧ But b H H2) (fun R hR => ?_) (fun σ H2 h => ?_)
    · walk_at "rd"
      refine ⟨by decide, by decide, ?_⟩
      refine Rd.lcl_rng (fun D i H5 => H' D = none ∧ But b H' H5 ∧ BoxAt H5 b c ns (t + n + i) ∧ ∃ us, H5 D = some (.lst (iv us)) ∧ us.length = i) (fun D hD => ⟨hD, Same.but (same_upd hD), B1.same (same_upd hD), [], upd_same, rfl⟩) (fun D i H5 hi ⟨n5, e5, B5, us, a5, ul⟩ => ?_) (fun D H5 _ ⟨n5, e5, B5, us, a5, ul⟩ => ?_)
      · have hi : i < 3 := hi
        walk_at "rd"
        refine drw 4 B5 rfl (by decide) (by decide) (by omega) fun x H6 x1 B6 e6 => ?_
        have a6 := e6 _ _ (B1.ne_new n5) a5
        refine ⟨_, a6, small (by rw [iv_len]; omega), n5, ?_⟩
        have e7 : But b H' (upd H6 D (HO.lst (iv us ++ [V.int x]))) := (e5.trans e6).updn n5
        exact ⟨e7, B1.upd B6 (B1.ne_new n5) e7, us ++ [x], by unfold iv; rw [List.map_append]; rfl, by rw [List.length_append, ul]; rfl⟩
      · exact hR _ _ ⟨D, us, rfl, B1.ne_new n5, a5, ul, e5 _ _ now hw, B5, e1.trans e5⟩
    obtain ⟨lm, ls, rfl, nlm, hlm, ll, hw, B2, e2⟩ := h
    refine cut (fun σ H3 => ∃ r, σ = [some (V.ref b), some (V.int n), some (V.ref ow), some (V.ref lm), none, some (V.ref r), none, none, none, none] ∧ r ≠ b ∧ r ≠ lm ∧ r ≠ ow ∧ H r = none ∧ H2 r = none ∧ Same H2 H3 ∧ H3 r = some (.lst (((List.range (2 ^ n)).map fun _ => true).map V.bl))) (fun R hR => ?_) (fun σ H3 h => ?_)
    · walk_at "rd"
      refine ⟨cpw (by omega), (pbd n6).1, (pbd n6).2.1, ?_⟩
      rw [(pbd n6).2.2.1]
      refine Rd.lcl_rng (fun D i H5 => H2 D = none ∧ Same H2 H5 ∧ H5 D = some (.lst (((List.range i).map fun _ => true).map V.bl))) (fun D hD => ⟨hD, same_upd hD, upd_same⟩) (fun D i H5 hi ⟨n5, e5, a5⟩ => ?_) (fun D H5 _ ⟨n5, e5, a5⟩ => ?_)
      · walk_at "rd"
        refine ⟨_, a5, small (by rw [List.length_map, List.length_map, List.length_range]; omega), n5, fun b o hb => (upd_ne (ne_of_none hb n5)).trans (e5 _ _ hb), ?_⟩
        rw [List.range_succ, List.map_append, List.map_append]
        rfl
      · exact hR _ _ ⟨D, rfl, B2.ne_new n5, (fun z => by rw [z, hlm] at n5; cases n5), (fun z => by rw [z, hw] at n5; cases n5), e2.free (B2.ne_new n5) n5, n5, e5, a5⟩
    obtain ⟨r, rfl, nr, nrl, nro, f0, f2, e3, a3⟩ := h
    walk_at "rd"
    refine ⟨by decide, by decide, ?_⟩
    refine Rd.loop_rngC (fun σ H' => ∃ S o4 o6 o7, σ = [some (V.ref b), some (V.int n), some (V.ref ow), some (V.ref lm), o4, some (V.ref r), o6, o7, none, none] ∧ Same H2 H' ∧ H' r = some (.lst (S.map V.bl)) ∧ Fam n S)
      (fun _ σ H' => ∃ S o4 o6 o7, σ = [some (V.ref b), some (V.int n), some (V.ref ow), some (V.ref lm), o4, some (V.ref r), o6, o7, none, none] ∧ Same H2 H' ∧ H' r = some (.lst (S.map V.bl)) ∧ Fam n S)
      ⟨_, none, none, none, rfl, e3, a3, fam_true n1 n6⟩ ?_ (fun _ _ z => z) ?_
    · rintro bk hbk i σ H4 hi ⟨S, o4, o6, o7, rfl, e4, a4, F⟩
      have hi : i < 3 := hi
      walk_at "rd"
      refine ⟨by omega, by omega, ?_⟩
      rw [Int.toNat_natCast]
      refine Rd.lcl_rng (fun D j H5 => H4 D = none ∧ Same H4 H5 ∧ ∃ ks : List Nat, H5 D = some (.lst ((ks.map fun g => ((2 ^ g : Nat) : Int)).map V.int)) ∧ ks.length ≤ j) (fun D hD => ⟨hD, same_upd hD, [], upd_same, Nat.le_refl _⟩) (fun D j H5 hj ⟨n5, e5, ks, a5, kl⟩ => ?_) (fun D H5 _ ⟨n5, e5, ks, a5, kl⟩ => ?_)
      · obtain ⟨g, hg⟩ : ∃ g, us[j]? = some g := ⟨_, List.getElem?_eq_getElem (by omega)⟩
        walk_at "rd"
        rw [show (0 : Int) + (j : Nat) = (j : Nat) from Int.zero_add _]
        refine ⟨_, e5 _ _ (e4 _ _ hw), _, iv_at hg, rfl, ite2 (fun _ => ⟨cpw (by omega), _, a5, small (by rw [List.length_map, List.length_map]; omega), n5, fun b o hb => (upd_ne (ne_of_none hb n5)).trans (e5 _ _ hb), ks ++ [j], ?_, by rw [List.length_append]; show ks.length + 1 ≤ _; omega⟩) (fun _ => ⟨n5, e5, ks, a5, by omega⟩)⟩
        rw [pow_cast, List.map_append, List.map_append]
        rfl
      · refine ⟨D, _, rfl, SqL.of a5, ?_⟩
        rw [sum_cast]
        have pb := pbd n6
        rw [Int.toNat_natCast] at pb
        have e45 := e4.trans e5
        have a45 := e5 _ _ a4
        generalize mk ks = ours
        obtain ⟨lim, hlim⟩ : ∃ lim, ls[i]? = some lim := ⟨_, List.getElem?_eq_getElem (by omega)⟩
        refine ⟨cpw (by omega), pb.1, pb.2.1, ?_⟩
        rw [pb.2.2.1]
        refine Rd.loop_rngC (fun σ H' => ∃ S' o4, σ = [some (V.ref b), some (V.int n), some (V.ref ow), some (V.ref lm), o4, some (V.ref r), some (V.int (0 + (i : Nat))), some (V.int ours), none, none] ∧ Same H2 H' ∧ H' r = some (.lst (S'.map V.bl)) ∧ Fam n S')
          (fun j σ H' => ∃ S' o4, σ = [some (V.ref b), some (V.int n), some (V.ref ow), some (V.ref lm), o4, some (V.ref r), some (V.int (0 + (i : Nat))), some (V.int ours), none, none] ∧ Same H2 H' ∧ H' r = some (.lst (S'.map V.bl)) ∧ S'.length = 2 ^ n ∧ ∀ m, In S' m = (In S m && (decide (j ≤ m) || decide (pop (m &&& ours) ≤ lim))))
          ⟨S, _, rfl, e45, a45, F.len, fun m => by simp⟩ ?_ (fun σ H' ⟨S', o4, q1, q2, q3, q4, q5⟩ => ⟨S', o4, q1, q2, q3, fam_cut (f := fun m => decide (pop (m &&& ours) ≤ lim)) F q4 (fun m hm => by rw [q5, decide_eq_false (by omega), Bool.false_or]) (by rw [Nat.zero_and]; exact decide_eq_true (Nat.zero_le _)) (fun m m' hm s h => decide_eq_true (Nat.le_trans (pop_and hm s) (of_decide_eq_true h)))⟩) ?_
        · rintro bk2 hbk2 j σ H6 hj ⟨S', o4, rfl, e6, a6, sl, val⟩
          walk_at "rd"
          rw [show (0 : Int) + (j : Nat) = (j : Nat) from Int.zero_add _, and_nat]
          have nx : ∀ S'' : List Bool, (∀ m, m ≠ j → In S'' m = In S' m) → (In S'' j = (In S j && decide (pop (j &&& ours) ≤ lim))) → ∀ m, In S'' m = (In S m && (decide (j + 1 ≤ m) || decide (pop (m &&& ours) ≤ lim))) := fun S'' h1 h2 m => by
            by_cases e : m = j
            · rw [e, h2, show decide (j + 1 ≤ j) = false from decide_eq_false (by omega), Bool.false_or]
            · rw [h1 m e, val, show decide (j ≤ m) = decide (j + 1 ≤ m) from decide_eq_decide.mpr (by omega)]
          have vj : In S' j = In S j := by rw [val, decide_eq_true (Nat.le_refl j), Bool.true_or, Bool.and_true]
          refine ⟨_, rfl, fun q H7 q0 e7 a7 => ⟨q, rfl, _, .inr (SqT.of a7), _, e7 _ _ (e6 _ _ hlm), _, by rw [Int.zero_add]; exact iv_at hlim, _, rfl, ?_⟩⟩
          rw [iv_len]
          have pe : (bits (j &&& ours)).length = pop (j &&& ours) := rfl
          refine ite2 (fun h => ⟨_, e7 _ _ a6, j, ixN_of (by rw [List.length_map, sl]; exact hj), fun b o hb => (upd_ne (ne_of_none hb f2)).trans (e7 _ _ (e6 _ _ hb)), S'.set j false, by rw [List.map_set], by rw [List.length_set]; exact sl, nx _ (fun m ne => ?_) ?_⟩) (fun h => ⟨e6.trans e7, S', e7 _ _ a6, sl, nx _ (fun _ _ => rfl) ?_⟩)
          · rw [in_set (by omega), if_neg ne]
          · rw [in_set (by omega), if_pos rfl, decide_eq_false (by omega), Bool.and_false]
          · rw [vj, decide_eq_true (by omega), Bool.and_true]
        · rintro σ H6 ⟨S', o4, rfl, e6, a6, F'⟩
          walk_at "rd"
          exact ⟨e6, S', a6, F'⟩
    · rintro σ H4 ⟨S, o4, o6, o7, rfl, e4, a4, F⟩
      walk_at "rd"
      exact k r S H4 f0 nr a4 F ((B2.same e4).le (by omega)) (e2.trans (Same.but e4))
end

end K37
namespace K37
open PySem PySem.Spec PyProof.Rows L2 Own OwnSeq OwnSet OwnComb OwnSort OwnHot OwnExN OwnProj
local macro_rules | `(tactic| walk_at "rd") => `(tactic| simp only [tSeq, tAsg, tOp, tUn, tVar, gName, gSub, rIxL, rIxT, rSetL, tC, rI0, rI, rU, rEq, rNe, tCons, tNil, tCB, tLst, tTup, tIfS, tAnd, tOr, tNot, tAndV, tOrV, tNotV, tTest, tB, tIf, tRet, tDrop, tNext, tBreak, tCont, tCall, tCallS, L2.WE, tMakeS, rIsS, rIsB, tChain, gSeq, gRest, gCons, gNil, tFor_seq, tFor_enumS, tLc_seq, tLc_enumS, rAny, rAll, L2.tMeth, StX.tStar, rIn, tLstRg, tRg1, tRg2, rSetI, rSortedSet, rInDT, rInD, rNotInD, rEqD, rNeD, iComb, tFld, tMake, tMkO, sFld, tOst, tNever, tBits, clv, isB,
  Rd.tFor_rng1, Rd.tFor_rng2, Rd.tFor_list, Rd.tFor_tup, Rd.tLc_list, Rd.tLc_tup, Rd.tLc_rng1, Rd.LcTurn, tYes, wipe, Rd.rLenL, Rd.rLenT, Rd.rIntI, Rd.rIxH, rIxHT,  HO.tup.injEq, Rd.at0, Rd.at1, Rd.at2, Rd.at3, Rd.ixN40, Rd.ixN41, Rd.ixN42, Rd.ixN43, Rd.scal_ii, cxOf,
  List.length_cons, List.length_nil, List.length_map, List.map_cons, List.map_nil, upd_same, decide_eq_true_eq, decide_true, decide_false, if_true, if_false, Bool.false_eq_true, Bool.not_true, Bool.not_false, HO.lst.injEq, HO.ins.injEq, List.set_cons_zero, List.set_cons_succ, List.getElem?_cons_zero, List.getElem?_cons_succ, List.append_nil, List.nil_append, List.cons_append, Option.some.injEq, V.ref.injEq, V.int.injEq, V.bl.injEq, List.cons.injEq, exists_eq_left', exists_and_left, exists_eq_left, true_and, and_true, and_self, and_assoc, implies_true, reduceCtorEq, Nat.reduceAdd])

section
variable {P : Program} {w : World} {K : PySem.W.Frag} {mg : Str → Option Value} {base : Heap} {a : Ad}
/-! ### _law_by_words -/
theorem sc_law_by_words : FnScope ["feed", "size", "words", "mask", "mixed", "inside", "things", "thing", "k"] ["feed", "size"] (defScope s_law_by_words) := ⟨rfl, rfl, rfl, by decide +kernel, rfl, by decide +kernel, by decide +kernel⟩
theorem ok_law_by_words (T : Txt K mg a) : FnOk P w K mg base CX0 2 a.a_law_by_words a.d_law_by_words ["feed", "size"] spVec := by
  refine T.fn_law_by_words.ok sc_law_by_words (fun vs H Q E h => ?_) (fun cdv A outer s H vs Q E hr h => ?_)
  · obtain ⟨b, c, ns, t, n, rfl, _⟩ := h
    rfl
  · obtain ⟨b, c, ns, t, n, rfl, B, ht, n1, n6, k⟩ := h
    refine ⟨_, (pss_cons (ps_setLc (i := 2) (own := [("thing", 7)]) (by rfl) sc_law_by_words.nd rfl rfl (sw_true rfl rfl rfl (by decide +kernel)) (pi_range1 (by rfl) T.no_range (pa_cons (pv 1) pa_nil)) (blkOk_by (own := [("thing", 7)]) (N := ["feed", "size", "words", "mask", "mixed", "inside", "things", "thing", "k"]) (sc := defScope s_law_by_words) (by decide +kernel)) (fun _ _ _ _ _ => pg_name (i := 7) sc_law_by_words.nd rfl (Or.inl rfl)) (fun _ _ _ _ _ => pts_nil) (fun _ _ _ _ _ => (pe_call (ok_law_draw T) (hr.mono (by decide)) (by rfl) T.mg_law_draw T.fn_law_draw.kp T.b_law_draw .nil pass0 (pa_cons (pv 0) (pa_cons pe_int pa_nil)))))
      (pss_cons (ps_setLc (i := 4) (own := [("mask", 3)]) (by rfl) sc_law_by_words.nd rfl rfl (sw_true rfl rfl rfl (by decide +kernel)) (pi_range1 (by rfl) T.no_range (pa_cons (pe_op op_shl pe_int (pv 1)) pa_nil)) (blkOk_by (own := [("mask", 3)]) (N := ["feed", "size", "words", "mask", "mixed", "inside", "things", "thing", "k"]) (sc := defScope s_law_by_words) (by decide +kernel)) (fun _ _ _ _ _ => pg_name (i := 3) sc_law_by_words.nd rfl (Or.inl rfl)) (fun _ _ _ _ _ => pts_nil) (fun _ _ _ _ _ => pe_int))
      (pss_cons (ps_set (i := 5) sc_law_by_words.nd rfl (Or.inr rfl) (pe_lc (own := [("mask", 3)]) (by rfl) sc_law_by_words.nd (pi_range1 (by rfl) T.no_range (pa_cons (pe_op op_shl pe_int (pv 1)) pa_nil)) (blkOk_by (own := [("mask", 3)]) (N := ["feed", "size", "words", "mask", "mixed", "inside", "things", "thing", "k"]) (sc := defScope s_law_by_words) (by decide +kernel)) (fun _ _ _ _ _ => pg_name (i := 3) sc_law_by_words.nd rfl (Or.inl rfl)) (fun _ _ _ _ _ => pts_nil) (fun _ _ _ _ _ => pe_bl)))
      (pss_cons (ps_for PassesOwn.never rfl (pi_range2 (by rfl) T.no_range (pa_cons pe_int (pa_cons (pe_op op_shl pe_int (pv 1)) pa_nil))) (pg_name (i := 3) sc_law_by_words.nd rfl (Or.inr rfl))
        (pss_cons (ps_setLc (i := 6) (own := [("k", 8)]) (by rfl) sc_law_by_words.nd rfl rfl (sw_true rfl rfl rfl (by decide +kernel)) (pi_range1 (by rfl) T.no_range (pa_cons (pv 1) pa_nil)) (blkOk_by (own := [("k", 8)]) (N := ["feed", "size", "words", "mask", "mixed", "inside", "things", "thing", "k"]) (sc := defScope s_law_by_words) (by decide +kernel)) (fun _ _ _ _ _ => pg_name (i := 8) sc_law_by_words.nd rfl (Or.inl rfl)) (fun _ _ _ _ _ => pts_one (pt_cmpR op_eq (pe_op op_and (pe_op op_shr (pv 3) (pv 8)) pe_int) pe_int (nomark _))) (fun _ _ _ _ _ => (pv 8)))
        (pss_cons (ps_asg (pe_op op_xor (pe_ix Rd.ixH (pv 4) (pe_op op_sub (pv 3) (pe_op op_shl pe_int (pe_ix Rd.ixH (pv 6) pe_int (fun _ _ => rfl)))) (fun _ _ => rfl)) (pe_ix Rd.ixH (pv 2) (pe_ix Rd.ixH (pv 6) pe_int (fun _ _ => rfl)) (fun _ _ => rfl))) (pg_sub (pv 4) (pv 3) set_list))
        (pss_one (ps_asg (pe_and (pe_cmpR op_ne (pe_ix Rd.ixH (pv 4) (pv 3) (fun _ _ => rfl)) pe_int (nomark _)) (pe_one (pe_callB (allK K) (by rfl) T.no_all (by decide +kernel) (pa_cons (pe_lc (own := [("k", 8)]) (by rfl) sc_law_by_words.nd (pi_list (pv 6)) (blkOk_by (own := [("k", 8)]) (N := ["feed", "size", "words", "mask", "mixed", "inside", "things", "thing", "k"]) (sc := defScope s_law_by_words) (by decide +kernel)) (fun _ _ _ _ _ => pg_name (i := 8) sc_law_by_words.nd rfl (Or.inl rfl)) (fun _ _ _ _ _ => pts_nil) (fun _ _ _ _ _ => (pe_ix Rd.ixH (pv 5) (pe_op op_sub (pv 3) (pe_op op_shl pe_int (pv 8))) (fun _ _ => rfl)))) pa_nil)))) (pg_sub (pv 5) (pv 3) set_list))))))
      (pss_one (ps_ret (pv 5))))))), ?_⟩
    show (_ : TS) _ [some (V.ref b), some (V.int n), none, none, none, none, none, none, none] H
    have p64 := pow64 n6
    have pz : 0 < 2 ^ n := Nat.pow_pos (by decide)
    refine cut (fun σ H' => ∃ ow us, σ = [some (V.ref b), some (V.int n), some (V.ref ow), none, none, none, none, none, none] ∧ ow ≠ b ∧ H' ow = some (.lst (iv us)) ∧ us.length = n ∧ BoxAt H' b c ns (t + n) ∧ But b H H') (fun R hR => ?_) (fun σ H2 h => ?_)
    · walk_at "rd"
      refine ⟨by omega, by omega, ?_⟩
      rw [Int.toNat_natCast]
      refine Rd.lcl_rng (fun D i H5 => H D = none ∧ But b H H5 ∧ BoxAt H5 b c ns (t + i) ∧ ∃ us, H5 D = some (.lst (iv us)) ∧ us.length = i) (fun D hD => ⟨hD, Same.but (same_upd hD), B.same (same_upd hD), [], upd_same, rfl⟩) (fun D i H5 hi ⟨n5, e5, B5, us, a5, ul⟩ => ?_) (fun D H5 _ ⟨n5, e5, B5, us, a5, ul⟩ => ?_)
      · walk_at "rd"
        refine drw 8 B5 rfl (by decide) (by decide) (by omega) fun x H6 x1 B6 e6 => ?_
        have a6 := e6 _ _ (B.ne_new n5) a5
        refine ⟨_, a6, small (by rw [iv_len]; omega), n5, ?_⟩
        have e7 : But b H (upd H6 D (HO.lst (iv us ++ [V.int x]))) := (e5.trans e6).updn n5
        exact ⟨e7, B.upd B6 (B.ne_new n5) e7, us ++ [x], by unfold iv; rw [List.map_append]; rfl, by rw [List.length_append, ul]; rfl⟩
      · exact hR _ _ ⟨D, us, rfl, B.ne_new n5, a5, ul, B5, e5⟩
    obtain ⟨ow, us, rfl, now, hw, ul, B2, e2⟩ := h
    refine cut (fun σ H3 => ∃ mx, σ = [some (V.ref b), some (V.int n), some (V.ref ow), none, some (V.ref mx), none, none, none, none] ∧ mx ≠ b ∧ mx ≠ ow ∧ H2 mx = none ∧ Same H2 H3 ∧ H3 mx = some (.lst ((List.replicate (2 ^ n) (0 : Int)).map V.int))) (fun R hR => ?_) (fun σ H3 h => ?_)
    · walk_at "rd"
      refine ⟨cpw (by omega), (pbd n6).1, (pbd n6).2.1, ?_⟩
      rw [(pbd n6).2.2.1]
      refine Rd.lcl_rng (fun D i H5 => H2 D = none ∧ Same H2 H5 ∧ H5 D = some (.lst ((List.replicate i (0 : Int)).map V.int))) (fun D hD => ⟨hD, same_upd hD, upd_same⟩) (fun D i H5 hi ⟨n5, e5, a5⟩ => ?_) (fun D H5 _ ⟨n5, e5, a5⟩ => ?_)
      · walk_at "rd"
        refine ⟨_, a5, small (by simp; omega), n5, fun b o hb => (upd_ne (ne_of_none hb n5)).trans (e5 _ _ hb), ?_⟩
        rw [List.replicate_succ', List.map_append]
        rfl
      · exact hR _ _ ⟨D, rfl, B2.ne_new n5, (fun z => by rw [z, hw] at n5; cases n5), n5, e5, a5⟩
    obtain ⟨mx, rfl, nmx, nmo, fmx, e3, am3⟩ := h
    refine cut (fun σ H4 => ∃ r, σ = [some (V.ref b), some (V.int n), some (V.ref ow), none, some (V.ref mx), some (V.ref r), none, none, none] ∧ r ≠ b ∧ r ≠ mx ∧ r ≠ ow ∧ H r = none ∧ H2 r = none ∧ Same H3 H4 ∧ H4 r = some (.lst (((List.range (2 ^ n)).map fun _ => true).map V.bl))) (fun R hR => ?_) (fun σ H4 h => ?_)
    · walk_at "rd"
      refine ⟨cpw (by omega), (pbd n6).1, (pbd n6).2.1, ?_⟩
      rw [(pbd n6).2.2.1]
      refine Rd.lcl_rng (fun D i H5 => H3 D = none ∧ Same H3 H5 ∧ H5 D = some (.lst (((List.range i).map fun _ => true).map V.bl))) (fun D hD => ⟨hD, same_upd hD, upd_same⟩) (fun D i H5 hi ⟨n5, e5, a5⟩ => ?_) (fun D H5 _ ⟨n5, e5, a5⟩ => ?_)
      · walk_at "rd"
        refine ⟨_, a5, small (by rw [List.length_map, List.length_map, List.length_range]; omega), n5, fun b o hb => (upd_ne (ne_of_none hb n5)).trans (e5 _ _ hb), ?_⟩
        rw [List.range_succ, List.map_append, List.map_append]
        rfl
      · have f2 := e3.free n5
        exact hR _ _ ⟨D, rfl, B2.ne_new f2, (fun z => by rw [z, am3] at n5; cases n5), (fun z => by rw [z, hw] at f2; cases f2), e2.free (B2.ne_new f2) f2, f2, e5, a5⟩
    obtain ⟨r, rfl, nr, nrm, nro, f0, f2, e4, a4⟩ := h
    walk_at "rd"
    refine ⟨cpw (by omega), by decide, by decide, (pbd n6).1, (pbd n6).2.1, ?_⟩
    rw [(pbd n6).2.2.2]
    have e24 := e3.trans e4
    refine Rd.loop_rngC (fun σ H' => ∃ (S : List Bool) (o3 o6 : Option V), σ = [some (V.ref b), some (V.int n), some (V.ref ow), o3, some (V.ref mx), some (V.ref r), o6, none, none] ∧ Same H2 H' ∧ H' r = some (.lst (S.map V.bl)) ∧ S.length = 2 ^ n ∧ In S 0 = true ∧ ∀ m, m < 2 ^ n → In S m = true → ∀ k, k < n → bit m k = true → In S (m - 2 ^ k) = true)
      (fun i σ H' => ∃ (S : List Bool) (xs : List Int) (o3 o6 : Option V), σ = [some (V.ref b), some (V.int n), some (V.ref ow), o3, some (V.ref mx), some (V.ref r), o6, none, none] ∧ Same H2 H' ∧ H' r = some (.lst (S.map V.bl)) ∧ H' mx = some (.lst (xs.map V.int)) ∧ xs.length = 2 ^ n ∧ S.length = 2 ^ n ∧ In S 0 = true ∧ ∀ m, m < i + 1 → In S m = true → ∀ k, k < n → bit m k = true → In S (m - 2 ^ k) = true)
      ⟨_, _, none, none, rfl, e24, a4, e4 _ _ am3, by rw [List.length_replicate], by rw [List.length_map, List.length_range], by rw [in_range, decide_eq_true pz]; rfl, fun m hm _ k _ hk => ?_⟩ ?_ ?_ ?_
    · rw [show m = 0 by omega] at hk
      unfold bit at hk
      rw [Nat.zero_div] at hk
      cases hk
    · rintro bk hbk i σ H5 hi ⟨S, xs, o3, o6, rfl, e5, a5, x5, xl, sl, z0, step⟩
      walk_at "rd"
      have mk0 : (1 + (i : Int)) = ((i + 1 : Nat) : Int) := by omega
      rw [mk0]
      refine ⟨by omega, by omega, ?_⟩
      rw [Int.toNat_natCast]
      refine Rd.lcl_rng (fun D j H6 => H5 D = none ∧ Same H5 H6 ∧ H6 D = some (.lst (iv ((List.range j).filter (bit (i + 1)))))) (fun D hD => ⟨hD, same_upd hD, upd_same⟩) (fun D j H6 hj ⟨n6', e6, a6⟩ => ?_) (fun D H6 _ ⟨n6', e6, a6⟩ => ?_)
      · walk_at "rd"
        have fl : ((List.range j).filter (bit (i + 1))).length ≤ j := by
          have := List.length_filter_le (bit (i + 1)) (List.range j)
          rwa [List.length_range] at this
        rw [show (0 : Int) + (j : Nat) = (j : Nat) from Int.zero_add _]
        refine ⟨by omega, ?_⟩
        rw [List.range_succ, List.filter_append]
        refine ite2 (fun h => ⟨_, a6, small (by rw [iv_len]; omega), n6', fun b o hb => (upd_ne (ne_of_none hb n6')).trans (e6 _ _ hb), ?_⟩) (fun h => ⟨n6', e6, ?_⟩)
        · rw [bit_and] at h
          rw [List.filter_cons_of_pos h]
          unfold iv
          rw [List.map_append]
          rfl
        · rw [bit_and] at h
          rw [List.filter_cons_of_neg h, List.filter_nil, List.append_nil]
          exact a6
      · have i64 : i + 1 < 64 := by omega
        obtain ⟨g0, th, hth⟩ : ∃ g0 th, (List.range n).filter (bit (i + 1)) = g0 :: th := by
          cases e : (List.range n).filter (bit (i + 1)) with
          | cons x r => exact ⟨x, r, rfl⟩
          | nil =>
            exfalso
            have z : Nat.testBit (i + 1) = fun _ => false := funext fun g => by
              rw [← (show bit (i + 1) g = (i + 1).testBit g from (Nat.testBit_eq_decide_div_mod_eq).symm)]
              refine Bool.eq_false_iff.mpr fun q => ?_
              have gn : g < n := Nat.lt_of_not_le fun z => by
                have := Nat.pow_le_pow_right (show 0 < 2 by decide) z
                unfold bit at q
                rw [Nat.div_eq_of_lt (by omega)] at q
                cases q
              exact List.filter_eq_nil_iff.mp e g (List.mem_range.mpr gn) q
            have : i + 1 = 0 := Nat.eq_of_testBit_eq fun g => by rw [z, Nat.zero_testBit]
            omega
        have thm : ∀ g, g ∈ g0 :: th → g < n ∧ bit (i + 1) g = true ∧ 2 ^ g ≤ i + 1 := fun g hg => by
          rw [← hth] at hg
          obtain ⟨a, bb⟩ := List.mem_filter.mp hg
          refine ⟨List.mem_range.mp a, bb, Nat.le_of_not_lt fun z => ?_⟩
          unfold bit at bb
          rw [Nat.div_eq_of_lt z] at bb
          cases bb
        have thl : (g0 :: th).length ≤ n := by
          rw [← hth]
          have := List.length_filter_le (bit (i + 1)) (List.range n)
          rwa [List.length_range] at this
        obtain ⟨gn, gb, gl⟩ := thm g0 List.mem_cons_self
        rw [hth] at a6
        have hw6 := e6 _ _ (e5 _ _ hw)
        have x6 := e6 _ _ x5
        have gp : 0 < 2 ^ g0 := Nat.pow_pos (by decide)
        obtain ⟨y, hy⟩ : ∃ y, xs[i + 1 - 2 ^ g0]? = some y := ⟨_, List.getElem?_eq_getElem (Nat.lt_of_le_of_lt (Nat.sub_le _ _) (by omega))⟩
        obtain ⟨u, hu⟩ : ∃ u, us[g0]? = some u := ⟨_, List.getElem?_eq_getElem (by omega)⟩
        have eI : ((i + 1 : Nat) : Int) - 1 * 2 ^ (g0 : Int).toNat = ((i + 1 - 2 ^ g0 : Nat) : Int) := by
          rw [pow_cast, ← Int.natCast_sub gl]
        refine ⟨D, rfl, _, a6, _, iv_at (s := g0 :: th) (j := 0) rfl, _, rfl, cpw (by omega), _, x6, V.int y, by rw [eI]; exact atI_nat (by rw [List.getElem?_map, hy]; rfl), D, rfl, _, a6, _, iv_at (s := g0 :: th) (j := 0) rfl, _, _, rfl, hw6, _, iv_at hu, _, rfl, _, rfl, _, x6, i + 1, ixN_of (by rw [List.length_map]; omega), ?_⟩
        rw [show (xs.map V.int).set (i + 1) (V.int (Builtin.bitXor y u)) = (xs.set (i + 1) (Builtin.bitXor y u)).map V.int by rw [List.map_set]]
        have xl' : (xs.set (i + 1) (Builtin.bitXor y u)).length = 2 ^ n := by rw [List.length_set]; exact xl
        generalize xs.set (i + 1) (Builtin.bitXor y u) = xs' at xl' ⊢
        have nD : D ≠ mx := fun z => by rw [z, x5] at n6'; cases n6'
        have nDr : D ≠ r := fun z => by rw [z, a5] at n6'; cases n6'
        have e27 : Same H2 (upd H6 mx (.lst (xs'.map V.int))) := fun b o hb => (upd_ne (ne_of_none hb fmx)).trans (e6 _ _ (e5 _ _ hb))
        have r7 : upd H6 mx (.lst (xs'.map V.int)) r = some (.lst (S.map V.bl)) := (upd_ne nrm).trans (e6 _ _ a5)
        have x7 : upd H6 mx (.lst (xs'.map V.int)) mx = some (.lst (xs'.map V.int)) := upd_same
        have d7 : upd H6 mx (.lst (xs'.map V.int)) D = some (.lst (iv (g0 :: th))) := (upd_ne nD).trans a6
        generalize upd H6 mx (.lst (xs'.map V.int)) = H7 at e27 r7 x7 d7 ⊢
        have fin : ∀ (q : Bool) (H8 : Hp), Same H7 H8 → (q = true → ∀ g, g < n → bit (i + 1) g = true → In S (i + 1 - 2 ^ g) = true) → ∃ x_1, H8 r = some (.lst x_1) ∧ ∃ x_2, ixN x_1.length ((i + 1 : Nat) : Int) = some x_2 ∧ Same H2 (upd H8 r (.lst (x_1.set x_2 (V.bl q)))) ∧
            ∃ x_3, x_1.set x_2 (V.bl q) = List.map V.bl x_3 ∧ ∃ x_4, upd H8 r (.lst (x_1.set x_2 (V.bl q))) mx = some (.lst (List.map V.int x_4)) ∧ x_4.length = 2 ^ n ∧ x_3.length = 2 ^ n ∧ In x_3 0 = true ∧
              ∀ (m : Nat), m < i + 1 + 1 → In x_3 m = true → ∀ (k : Nat), k < n → bit m k = true → In x_3 (m - 2 ^ k) = true := fun q H8 e8 hq => by
          have il : i + 1 < S.length := by omega
          refine ⟨_, e8 _ _ r7, i + 1, ixN_of (by rw [List.length_map]; exact il), fun b o hb => (upd_ne (ne_of_none hb f2)).trans (e8 _ _ (e27 _ _ hb)), S.set (i + 1) q, by rw [List.map_set], xs', (upd_ne nrm.symm).trans (e8 _ _ x7), xl', by rw [List.length_set]; exact sl, by rw [in_set il, if_neg (by omega)]; exact z0, fun m hm h k hk hb => ?_⟩
          have kp : 0 < 2 ^ k := Nat.pow_pos (by decide)
          rw [in_set il] at h ⊢
          by_cases e : m = i + 1
          · subst e
            rw [if_pos rfl] at h
            rw [if_neg (by omega)]
            exact hq h k hk hb
          · rw [if_neg e] at h
            rw [if_neg (by omega)]
            exact step m (by omega) h k hk hb
        refine ⟨_, atI_nat (by rw [List.getElem?_map, List.getElem?_eq_getElem (show i + 1 < xs'.length by omega)]; rfl), rfl, ite2 (fun _ => ⟨D, rfl, ⟨_, SqL.of d7⟩, ?_⟩) (fun _ => fin false H7 (Same.refl _) fun z => by cases z)⟩
        refine Rd.lcl_list (xs := iv (g0 :: th)) (fun D2 j H8 => H7 D2 = none ∧ Same H7 H8 ∧ H8 D2 = some (.lst ((((g0 :: th).take j).map fun g => In S (i + 1 - 2 ^ g)).map V.bl))) (fun D2 hD => ⟨hD, same_upd hD, upd_same⟩) (fun D2 j H8 _ z => z.2.1.seq (SqL.of d7)) (fun D2 j v H8 hv ⟨n8, e8, a8⟩ => ?_) (fun D2 H8 _ ⟨n8, e8, a8⟩ => ?_)
        · obtain ⟨g, hg, rfl⟩ := at_iv hv
          obtain ⟨g1, g2, g3⟩ := thm g (List.mem_of_getElem? hg)
          have jl := (List.getElem?_eq_some_iff.mp hg).1
          walk_at "rd"
          refine ⟨cpw (by omega), _, e8 _ _ r7, V.bl (In S (i + 1 - 2 ^ g)), ?_, _, a8, small (by rw [List.length_map, List.length_map, List.length_take]; omega), n8, fun b o hb => (upd_ne (ne_of_none hb n8)).trans (e8 _ _ hb), ?_⟩
          · rw [pow_cast, ← Int.natCast_sub g3]
            exact in_bool (by rw [sl]; exact Nat.lt_of_le_of_lt (Nat.sub_le _ _) (by omega))
          · rw [List.take_add_one, hg, List.map_append, List.map_append]
            rfl
        · rw [iv_len, List.take_length] at a8
          refine ⟨D2, rfl, _, SqL.of a8, fin _ H8 e8 fun hq g gn gb => ?_⟩
          rw [List.all_map] at hq
          exact List.all_eq_true.mp hq g (by rw [← hth]; exact List.mem_filter.mpr ⟨List.mem_range.mpr gn, gb⟩)
    · intro σ H5 ⟨S, xs, o3, o6, q1, q2, q3, q4, q5, q6, q7, q8⟩
      refine ⟨S, o3, o6, q1, q2, q3, q6, q7, fun m hm => q8 m (by omega)⟩
    · rintro σ H5 ⟨S, o3, o6, rfl, e5, a5, sl, z0, step⟩
      walk_at "rd"
      exact k r S H5 f0 nr a5 (fam_step n1 n6 sl z0 step) ((B2.same e5).le (by omega)) (e2.trans (Same.but e5))
/-! ### _law_size -/
def spSize : Sp := fun vs H Q _ => ∃ (b c : Addr) (ns : List Int) (t m : Nat), vs = [.ref b, .int m] ∧ BoxAt H b c ns t ∧ t ≤ 90000 ∧ 3 ≤ m ∧ m ≤ 6 ∧ ∀ (n : Nat) H', 1 ≤ n → n ≤ m → BoxAt H' b c ns (t + 2) → But b H H' → Q (.int n) H'
theorem sc_law_size : FnScope ["feed", "most", "size"] ["feed", "most"] (defScope s_law_size) := ⟨rfl, rfl, rfl, by decide +kernel, rfl, by decide +kernel, by decide +kernel⟩
theorem ok_law_size (T : Txt K mg a) : FnOk P w K mg base CX0 2 a.a_law_size a.d_law_size ["feed", "most"] spSize := by
  refine T.fn_law_size.ok sc_law_size (fun vs H Q E h => ?_) (fun cdv A outer s H vs Q E hr h => ?_)
  · obtain ⟨b, c, ns, t, m, rfl, _⟩ := h
    rfl
  · obtain ⟨b, c, ns, t, m, rfl, B, ht, m3, m6, k⟩ := h
    refine ⟨_, (pss_cons (ps_set (i := 2) sc_law_size.nd rfl (Or.inl rfl) (pe_op op_add pe_int (pe_call (ok_law_draw T) (hr.mono (by decide)) (by rfl) T.mg_law_draw T.fn_law_draw.kp T.b_law_draw .nil pass0 (pa_cons (pv 0) (pa_cons (pv 1) pa_nil)))))
      (pss_cons (ps_if (PW.pt (pw_and (pt_cmpR op_lt (pv 2) pe_int (nomark _)) (pw_and (pt_cmpR op_gt (pv 1) pe_int (nomark _)) (pw_and1 (pt_cmpR op_eq (pe_call (ok_law_draw T) (hr.mono (by decide)) (by rfl) T.mg_law_draw T.fn_law_draw.kp T.b_law_draw .nil pass0 (pa_cons (pv 0) (pa_cons pe_int pa_nil))) pe_int (nomark _)))))) (pss_one (ps_set (i := 2) sc_law_size.nd rfl (Or.inl rfl) pe_int)) pss_nil)
      (pss_one (ps_ret (pv 2))))), ?_⟩
    show (_ : TS) _ [some (V.ref b), some (V.int m), none] H
    walk_at "rd"
    refine drw m B rfl (by omega) (by omega) (by omega) fun d H1 dl B1 e1 => ⟨_, rfl, ?_⟩
    rw [show (1 : Int) + (d : Int) = ((1 + d : Nat) : Int) by omega]
    have out := k (1 + d) H1 (by omega) (by omega) (B1.le (by omega)) e1
    refine ite2 (fun _ => ite2 (fun _ => drw 2 B1 rfl (by decide) (by decide) (by omega) fun x H2 _ B2 e2 => ⟨rfl, ite2 (fun _ => k 3 H2 (by decide) m3 B2 (e1.trans e2)) (fun _ => k (1 + d) H2 (by omega) (by omega) B2 (e1.trans e2))⟩) (fun _ => out)) (fun _ => out)
end

end K37
namespace K37
open PySem PySem.Spec PyProof.Rows L2 Own OwnSeq OwnSet OwnComb OwnSort OwnHot OwnExN OwnProj
local macro_rules | `(tactic| walk_at "rd") => `(tactic| simp only [tSeq, tAsg, tOp, tUn, tVar, gName, gSub, rIxL, rIxT, rSetL, tC, rI0, rI, rU, rEq, rNe, tCons, tNil, tCB, tLst, tTup, tIfS, tAnd, tOr, tNot, tAndV, tOrV, tNotV, tTest, tB, tIf, tRet, tDrop, tNext, tBreak, tCont, tCall, tCallS, L2.WE, tMakeS, rIsS, rIsB, tChain, gSeq, gRest, gCons, gNil, tFor_seq, tFor_enumS, tLc_seq, tLc_enumS, rAny, rAll, L2.tMeth, StX.tStar, rIn, tLstRg, tRg1, tRg2, rSetI, rSortedSet, rInDT, rInD, rNotInD, rEqD, rNeD, iComb, tFld, tMake, tMkO, sFld, tOst, tNever, tBits, clv, isB,
  Rd.tFor_rng1, Rd.tFor_rng2, Rd.tFor_list, Rd.tFor_tup, Rd.tLc_list, Rd.tLc_tup, Rd.tLc_rng1, Rd.LcTurn, tYes, wipe, Rd.rLenL, Rd.rLenT, Rd.rIntI, Rd.rIxH, rIxHT,  HO.tup.injEq, Rd.at0, Rd.at1, Rd.at2, Rd.at3, Rd.ixN40, Rd.ixN41, Rd.ixN42, Rd.ixN43, Rd.scal_ii, cxOf,
  List.length_cons, List.length_nil, List.length_map, List.map_cons, List.map_nil, upd_same, decide_eq_true_eq, decide_true, decide_false, if_true, if_false, Bool.false_eq_true, Bool.not_true, Bool.not_false, HO.lst.injEq, HO.ins.injEq, List.set_cons_zero, List.set_cons_succ, List.getElem?_cons_zero, List.getElem?_cons_succ, List.append_nil, List.nil_append, List.cons_append, Option.some.injEq, V.ref.injEq, V.int.injEq, V.bl.injEq, List.cons.injEq, exists_eq_left', exists_and_left, exists_eq_left, true_and, and_true, and_self, and_assoc, implies_true, reduceCtorEq, Nat.reduceAdd])

theorem iv_set0 {us : List Nat} {i : Nat} : (iv us).set i (V.int 0) = iv (us.set i 0) := by
  unfold iv
  rw [List.map_set]
  rfl
theorem iv_set1 {us : List Nat} {i : Nat} : (iv us).set i (V.int 1) = iv (us.set i 1) := by
  unfold iv
  rw [List.map_set]
  rfl
section
variable {P : Program} {w : World} {K : PySem.W.Frag} {mg : Str → Option Value} {base : Heap} {a : Ad}
/-! ### _law_odd -/
theorem sc_law_odd : FnScope ["feed", "size", "owners", "start", "one", "two", "thing", "k", "mask"] ["feed", "size"] (defScope s_law_odd) := ⟨rfl, rfl, rfl, by decide +kernel, rfl, by decide +kernel, by decide +kernel⟩
theorem ok_law_odd (T : Txt K mg a) : FnOk P w K mg base CX0 2 a.a_law_odd a.d_law_odd ["feed", "size"] spVec := by
  refine T.fn_law_odd.ok sc_law_odd (fun vs H Q E h => ?_) (fun cdv A outer s H vs Q E hr h => ?_)
  · obtain ⟨b, c, ns, t, n, rfl, _⟩ := h
    rfl
  · obtain ⟨b, c, ns, t, n, rfl, B, ht, n1, n6, k⟩ := h
    refine ⟨_, (pss_cons (ps_set (i := 2) sc_law_odd.nd rfl (Or.inr rfl) (pe_lc (own := [("thing", 6)]) (by rfl) sc_law_odd.nd (pi_range1 (by rfl) T.no_range (pa_cons (pv 1) pa_nil)) (blkOk_by (own := [("thing", 6)]) (N := ["feed", "size", "owners", "start", "one", "two", "thing", "k", "mask"]) (sc := defScope s_law_odd) (by decide +kernel)) (fun _ _ _ _ _ => pg_name (i := 6) sc_law_odd.nd rfl (Or.inl rfl)) (fun _ _ _ _ _ => pts_nil) (fun _ _ _ _ _ => (pe_call (ok_law_draw T) (hr.mono (by decide)) (by rfl) T.mg_law_draw T.fn_law_draw.kp T.b_law_draw .nil pass0 (pa_cons (pv 0) (pa_cons pe_int pa_nil))))))
      (pss_cons (ps_set (i := 3) sc_law_odd.nd rfl (Or.inl rfl) (pe_call (ok_law_draw T) (hr.mono (by decide)) (by rfl) T.mg_law_draw T.fn_law_draw.kp T.b_law_draw .nil pass0 (pa_cons (pv 0) (pa_cons (pv 1) pa_nil))))
      (pss_cons (ps_asg pe_int (pg_sub (pv 2) (pv 3) set_list))
      (pss_cons (ps_asg pe_int (pg_sub (pv 2) (pe_op op_mod (pe_callTy Rd.call_intI (by rfl) T.no_int (by decide +kernel) (pa_cons (pe_op op_add (pv 3) pe_int) pa_nil)) (pv 1)) set_list))
      (pss_cons (ps_asg pe_int (pg_sub (pv 2) (pe_op op_mod (pe_callTy Rd.call_intI (by rfl) T.no_int (by decide +kernel) (pa_cons (pe_op op_add (pv 3) pe_int) pa_nil)) (pv 1)) set_list))
      (pss_cons (ps_set (i := 4) sc_law_odd.nd rfl (Or.inr rfl) (pe_callB (cr_sum rfl) (by rfl) T.no_sum (by decide +kernel) (pa_cons (pe_lc (own := [("k", 7)]) (by rfl) sc_law_odd.nd (pi_range1 (by rfl) T.no_range (pa_cons (pv 1) pa_nil)) (blkOk_by (own := [("k", 7)]) (N := ["feed", "size", "owners", "start", "one", "two", "thing", "k", "mask"]) (sc := defScope s_law_odd) (by decide +kernel)) (fun _ _ _ _ _ => pg_name (i := 7) sc_law_odd.nd rfl (Or.inl rfl)) (fun _ _ _ _ _ => pts_one (PW.pt (pw_or (pt_cmpR op_eq (pe_ix Rd.ixH (pv 2) (pv 7) (fun _ _ => rfl)) pe_int (nomark _)) (pw_or1 (pt_cmpR op_eq (pe_ix Rd.ixH (pv 2) (pv 7) (fun _ _ => rfl)) pe_int (nomark _)))))) (fun _ _ _ _ _ => (pe_op op_shl pe_int (pv 7)))) pa_nil)))
      (pss_cons (ps_set (i := 5) sc_law_odd.nd rfl (Or.inr rfl) (pe_callB (cr_sum rfl) (by rfl) T.no_sum (by decide +kernel) (pa_cons (pe_lc (own := [("k", 7)]) (by rfl) sc_law_odd.nd (pi_range1 (by rfl) T.no_range (pa_cons (pv 1) pa_nil)) (blkOk_by (own := [("k", 7)]) (N := ["feed", "size", "owners", "start", "one", "two", "thing", "k", "mask"]) (sc := defScope s_law_odd) (by decide +kernel)) (fun _ _ _ _ _ => pg_name (i := 7) sc_law_odd.nd rfl (Or.inl rfl)) (fun _ _ _ _ _ => pts_one (PW.pt (pw_or (pt_cmpR op_eq (pe_ix Rd.ixH (pv 2) (pv 7) (fun _ _ => rfl)) pe_int (nomark _)) (pw_or1 (pt_cmpR op_eq (pe_ix Rd.ixH (pv 2) (pv 7) (fun _ _ => rfl)) pe_int (nomark _)))))) (fun _ _ _ _ _ => (pe_op op_shl pe_int (pv 7)))) pa_nil)))
      (pss_one (ps_ret (pe_lc (own := [("mask", 8)]) (by rfl) sc_law_odd.nd (pi_range1 (by rfl) T.no_range (pa_cons (pe_op op_shl pe_int (pv 1)) pa_nil)) (blkOk_by (own := [("mask", 8)]) (N := ["feed", "size", "owners", "start", "one", "two", "thing", "k", "mask"]) (sc := defScope s_law_odd) (by decide +kernel)) (fun _ _ _ _ _ => pg_name (i := 8) sc_law_odd.nd rfl (Or.inl rfl)) (fun _ _ _ _ _ => pts_nil) (fun _ _ _ _ _ => (pe_or (pe_cmpR op_eq (pe_op op_and (pv 8) (pv 4)) (pv 8) (nomark _)) (pe_one (pe_cmpR op_eq (pe_op op_and (pv 8) (pv 5)) (pv 8) (nomark _))))))))))))))), ?_⟩
    show (_ : TS) _ [some (V.ref b), some (V.int n), none, none, none, none, none, none, none] H
    have p64 := pow64 n6
    have pz : 0 < 2 ^ n := Nat.pow_pos (by decide)
    refine cut (fun σ H' => ∃ ow us, σ = [some (V.ref b), some (V.int n), some (V.ref ow), none, none, none, none, none, none] ∧ ow ≠ b ∧ H ow = none ∧ H' ow = some (.lst (iv us)) ∧ us.length = n ∧ BoxAt H' b c ns (t + n) ∧ But b H H') (fun R hR => ?_) (fun σ H' h => ?_)
    · walk_at "rd"
      refine ⟨by omega, by omega, ?_⟩
      rw [Int.toNat_natCast]
      refine Rd.lcl_rng (fun D i H5 => H D = none ∧ But b H H5 ∧ BoxAt H5 b c ns (t + i) ∧ ∃ us, H5 D = some (.lst (iv us)) ∧ us.length = i) (fun D hD => ⟨hD, Same.but (same_upd hD), B.same (same_upd hD), [], upd_same, rfl⟩) (fun D i H5 hi ⟨n5, e5, B5, us, a5, ul⟩ => ?_) (fun D H5 _ ⟨n5, e5, B5, us, a5, ul⟩ => ?_)
      · walk_at "rd"
        refine drw 4 B5 rfl (by decide) (by decide) (by omega) fun x H6 x1 B6 e6 => ?_
        have a6 := e6 _ _ (B.ne_new n5) a5
        refine ⟨_, a6, small (by rw [iv_len]; omega), n5, ?_⟩
        have e7 : But b H (upd H6 D (HO.lst (iv us ++ [V.int x]))) := (e5.trans e6).updn n5
        exact ⟨e7, B.upd B6 (B.ne_new n5) e7, us ++ [x], by unfold iv; rw [List.map_append]; rfl, by rw [List.length_append, ul]; rfl⟩
      · exact hR _ _ ⟨D, us, rfl, B.ne_new n5, n5, a5, ul, B5, e5⟩
    obtain ⟨ow, us, rfl, now, fow, hw, ul, B1, e1⟩ := h
    refine cut (fun σ H' => ∃ st : Nat, st < n ∧ σ = [some (V.ref b), some (V.int n), some (V.ref ow), some (V.int st), none, none, none, none, none] ∧ H' ow = some (.lst (iv us)) ∧ BoxAt H' b c ns (t + n + 1) ∧ But b H H') (fun R hR => ?_) (fun σ H2 h => ?_)
    · walk_at "rd"
      refine drw n B1 rfl n1 (by omega) (by omega) fun st H2 st1 B2 e2 => ?_
      exact hR _ _ ⟨st, st1, rfl, e2 _ _ now hw, B2, e1.trans e2⟩
    obtain ⟨st, stn, rfl, hw2, B2, e2⟩ := h
    walk_at "rd"
    have md : ∀ x : Nat, ((st : Int) + x) % (n : Int) = (((st + x) % n : Nat) : Int) := fun x => by rw [← Int.natCast_add, Int.natCast_emod]
    have mlt : ∀ x : Nat, (st + x) % n < n := fun x => Nat.mod_lt _ n1
    have i1 := ixN_of (n := (iv us).length) (t := st) (by rw [iv_len]; omega)
    have i2 := ixN_of (n := ((iv us).set st (V.int 0)).length) (t := (st + 1) % n) (by rw [List.length_set, iv_len, ul]; exact mlt 1)
    have i3 := ixN_of (n := (((iv us).set st (V.int 0)).set ((st + 1) % n) (V.int 1)).length) (t := (st + 2) % n) (by rw [List.length_set, List.length_set, iv_len, ul]; exact mlt 2)
    have m1 : ((st : Int) + 1) % (n : Int) = (((st + 1) % n : Nat) : Int) := md 1
    have m2 : ((st : Int) + 2) % (n : Int) = (((st + 2) % n : Nat) : Int) := md 2
    rw [m1, m2]
    refine ⟨_, hw2, _, i1, by omega, _, i2, by omega, _, i3, by omega, by omega, ?_⟩
    rw [iv_set0, iv_set1, iv_set1, Int.toNat_natCast]
    have ea := e2.updn (o := .lst (iv (us.set st 0))) fow
    have eb := ea.updn (o := .lst (iv ((us.set st 0).set ((st + 1) % n) 1))) fow
    have ec := eb.updn (o := .lst (iv (((us.set st 0).set ((st + 1) % n) 1).set ((st + 2) % n) 1))) fow
    have B3 := B.upd (B.upd (B.upd B2 now ea) now eb) now ec
    have hw3 := upd_same (H := upd (upd H2 ow (.lst (iv (us.set st 0)))) ow (.lst (iv ((us.set st 0).set ((st + 1) % n) 1)))) (a := ow) (o := .lst (iv (((us.set st 0).set ((st + 1) % n) 1).set ((st + 2) % n) 1)))
    have vl : (((us.set st 0).set ((st + 1) % n) 1).set ((st + 2) % n) 1).length = n := by rw [List.length_set, List.length_set, List.length_set]; exact ul
    generalize upd (upd (upd H2 ow (.lst (iv (us.set st 0)))) ow (.lst (iv ((us.set st 0).set ((st + 1) % n) 1)))) ow (.lst (iv (((us.set st 0).set ((st + 1) % n) 1).set ((st + 2) % n) 1))) = H3 at ec B3 hw3 ⊢
    generalize ((us.set st 0).set ((st + 1) % n) 1).set ((st + 2) % n) 1 = vs at hw3 vl ⊢
    clear ea eb i1 i2 i3 m1 m2
    refine Rd.lcl_rng (fun D j H5 => H3 D = none ∧ Same H3 H5 ∧ ∃ ks : List Nat, H5 D = some (.lst ((ks.map fun g => ((2 ^ g : Nat) : Int)).map V.int)) ∧ ks.length ≤ j) (fun D hD => ⟨hD, same_upd hD, [], upd_same, Nat.le_refl _⟩) (fun D j H5 hj ⟨n5, e5, ks, a5, kl⟩ => ?_) (fun D H5 _ ⟨n5, e5, ks, a5, kl⟩ => ?_)
    · obtain ⟨g, hg⟩ : ∃ g, vs[j]? = some g := ⟨_, List.getElem?_eq_getElem (by omega)⟩
      walk_at "rd"
      rw [show (0 : Int) + (j : Nat) = (j : Nat) from Int.zero_add _]
      have put : ∃ xs : List V, H5 D = some (HO.lst xs) ∧ xs.length < sizeLine ∧ H3 D = none ∧ Same H3 (upd H5 D (HO.lst (xs ++ [V.int (1 * 2 ^ (j : Int).toNat)]))) ∧ ∃ ks : List Nat, xs ++ [V.int (1 * 2 ^ (j : Int).toNat)] = List.map V.int (ks.map fun g => ((2 ^ g : Nat) : Int)) ∧ ks.length ≤ j + 1 :=
        ⟨_, a5, small (by rw [List.length_map, List.length_map]; omega), n5, fun b o hb => (upd_ne (ne_of_none hb n5)).trans (e5 _ _ hb), ks ++ [j], by rw [pow_cast, List.map_append, List.map_append]; rfl, by rw [List.length_append]; show ks.length + 1 ≤ _; omega⟩
      exact ⟨_, e5 _ _ hw3, _, iv_at hg, rfl, ite2 (fun _ => ⟨cpw (by omega), put⟩) (fun _ => ⟨_, e5 _ _ hw3, _, iv_at hg, rfl, ite2 (fun _ => ⟨cpw (by omega), put⟩) (fun _ => ⟨n5, e5, ks, a5, by omega⟩)⟩)⟩
    refine ⟨D, _, rfl, SqL.of a5, ?_⟩
    rw [sum_cast]
    generalize mk ks = one
    have e35 := e5
    have n53 := n5
    clear kl a5 ks n5 e5
    refine ⟨by omega, by omega, ?_⟩
    generalize H5 = H4 at e35 n53 ⊢
    refine Rd.lcl_rng (fun D j H5 => H4 D = none ∧ Same H4 H5 ∧ ∃ ks : List Nat, H5 D = some (.lst ((ks.map fun g => ((2 ^ g : Nat) : Int)).map V.int)) ∧ ks.length ≤ j) (fun D hD => ⟨hD, same_upd hD, [], upd_same, Nat.le_refl _⟩) (fun D j H5 hj ⟨n5, e5, ks, a5, kl⟩ => ?_) (fun D H5 _ ⟨n5, e5, ks, a5, kl⟩ => ?_)
    · obtain ⟨g, hg⟩ : ∃ g, vs[j]? = some g := ⟨_, List.getElem?_eq_getElem (by omega)⟩
      walk_at "rd"
      rw [show (0 : Int) + (j : Nat) = (j : Nat) from Int.zero_add _]
      have put : ∃ xs : List V, H5 D = some (HO.lst xs) ∧ xs.length < sizeLine ∧ H4 D = none ∧ Same H4 (upd H5 D (HO.lst (xs ++ [V.int (1 * 2 ^ (j : Int).toNat)]))) ∧ ∃ ks : List Nat, xs ++ [V.int (1 * 2 ^ (j : Int).toNat)] = List.map V.int (ks.map fun g => ((2 ^ g : Nat) : Int)) ∧ ks.length ≤ j + 1 :=
        ⟨_, a5, small (by rw [List.length_map, List.length_map]; omega), n5, fun b o hb => (upd_ne (ne_of_none hb n5)).trans (e5 _ _ hb), ks ++ [j], by rw [pow_cast, List.map_append, List.map_append]; rfl, by rw [List.length_append]; show ks.length + 1 ≤ _; omega⟩
      exact ⟨_, e5 _ _ (e35 _ _ hw3), _, iv_at hg, rfl, ite2 (fun _ => ⟨cpw (by omega), put⟩) (fun _ => ⟨_, e5 _ _ (e35 _ _ hw3), _, iv_at hg, rfl, ite2 (fun _ => ⟨cpw (by omega), put⟩) (fun _ => ⟨n5, e5, ks, a5, by omega⟩)⟩)⟩
    refine ⟨D, _, rfl, SqL.of a5, ?_⟩
    rw [sum_cast]
    generalize mk ks = two
    have pb := pbd n6
    rw [Int.toNat_natCast] at pb
    refine ⟨cpw (by omega), pb.1, pb.2.1, ?_⟩
    rw [pb.2.2.1]
    have e6 := ec.trans (Same.but (e35.trans e5))
    have B5 := B3.same (e35.trans e5)
    clear kl a5 n5
    generalize H5 = H6 at e6 B5 ⊢
    refine Rd.lcl_rng (fun D j H5 => H6 D = none ∧ Same H6 H5 ∧ H5 D = some (.lst (((List.range j).map fun m => decide (Sub m one) || decide (Sub m two)).map V.bl))) (fun D hD => ⟨hD, same_upd hD, upd_same⟩) (fun D j H5 hj ⟨n5, e5, a5⟩ => ?_) (fun D H5 _ ⟨n5, e5, a5⟩ => ?_)
    · walk_at "rd"
      rw [show (0 : Int) + (j : Nat) = (j : Nat) from Int.zero_add _]
      have eq : ∀ q, q = (decide (Sub j one) || decide (Sub j two)) → ((List.range j).map fun m => decide (Sub m one) || decide (Sub m two)).map V.bl ++ [V.bl q] = ((List.range (j + 1)).map fun m => decide (Sub m one) || decide (Sub m two)).map V.bl := fun q hq => by
        rw [List.range_succ, List.map_append, List.map_append, hq]
        rfl
      have sm : (((List.range j).map fun m => decide (Sub m one) || decide (Sub m two)).map V.bl).length < sizeLine := small (by rw [List.length_map, List.length_map, List.length_range]; omega)
      refine ite2 (fun h => ⟨_, a5, sm, n5, fun b o hb => (upd_ne (ne_of_none hb n5)).trans (e5 _ _ hb), eq _ ?_⟩) (fun h => ⟨_, a5, sm, n5, fun b o hb => (upd_ne (ne_of_none hb n5)).trans (e5 _ _ hb), eq _ ?_⟩)
      · rw [decide_eq_true (sub_iff.mp h)]
        rfl
      · rw [sub_dec, decide_eq_false (fun z => h (sub_iff.mpr z))]
        rfl
    · have nD := B5.ne_new n5
      have F1 : Fam n ((List.range (2 ^ n)).map fun m => decide (m = 0) || decide (Sub m one)) := fam_or (f := fun m => decide (Sub m one)) (fam_zero n1 n6) (by rw [List.length_map, List.length_range]) (fun m h => by rw [in_range, in_range, decide_eq_true h, Bool.true_and, Bool.true_and]) (fun m m' _ s h => decide_eq_true (sub_trans s (of_decide_eq_true h)))
      refine k D _ H5 (e6.free nD n5) nD a5 (fam_or (f := fun m => decide (Sub m two)) F1 (by rw [List.length_map, List.length_range]) (fun m h => ?_) (fun m m' _ s h => decide_eq_true (sub_trans s (of_decide_eq_true h)))) ((B5.same e5).le (by omega)) (e6.trans (Same.but e5))
      rw [in_range, in_range, decide_eq_true h, Bool.true_and, Bool.true_and]
      by_cases z : m = 0
      · subst z
        rw [decide_eq_true (sub_zero one), decide_eq_true rfl]
        rfl
      · rw [decide_eq_false z, Bool.false_or]
/-! ### _law_family -/
/-- the law's family: its size, what is inside, the order -/
structure LFam (b : Addr) (H : Hp) (p : Addr) (n : Nat) (S : List Bool) : Prop where
  fam : Fam n S
  nb : p ≠ b
  ob : ∃ q r, q ≠ b ∧ r ≠ b ∧ H p = some (.lst [.int (n : Nat), .ref q, .ref r]) ∧ H q = some (.lst (S.map V.bl)) ∧ H r = some (.lst (iv (ordL n S)))
theorem LFam.but {b p : Addr} {H H' : Hp} {n : Nat} {S : List Bool} (F : LFam b H p n S) (e : But b H H') : LFam b H' p n S :=
  let ⟨q, r, x, y, h1, h2, h3⟩ := F.ob
  ⟨F.fam, F.nb, q, r, x, y, e _ _ F.nb h1, e _ _ x h2, e _ _ y h3⟩
def spLFam : Sp := fun vs H Q _ => ∃ (b c : Addr) (ns : List Int) (t n : Nat), vs = [.ref b, .int n] ∧ BoxAt H b c ns t ∧ t ≤ 80000 ∧ 1 ≤ n ∧ n ≤ 6 ∧ ∀ p S H', H p = none → LFam b H' p n S → BoxAt H' b c ns (t + 60) → But b H H' → Q (.ref p) H'
theorem sc_law_family : FnScope ["feed", "size", "kind", "inside", "mask"] ["feed", "size"] (defScope s_law_family) := ⟨rfl, rfl, rfl, by decide +kernel, rfl, by decide +kernel, by decide +kernel⟩
theorem ok_law_family (T : Txt K mg a) : FnOk P w K mg base CX0 3 a.a_law_family a.d_law_family ["feed", "size"] spLFam := by
  refine T.fn_law_family.ok sc_law_family (fun vs H Q E h => ?_) (fun cdv A outer s H vs Q E hr h => ?_)
  · obtain ⟨b, c, ns, t, n, rfl, _⟩ := h
    rfl
  · obtain ⟨b, c, ns, t, n, rfl, B, ht, n1, n6, k⟩ := h
    refine ⟨_, (pss_cons (ps_set (i := 2) sc_law_family.nd rfl (Or.inl rfl) (pe_call (ok_law_draw T) (hr.mono (by decide)) (by rfl) T.mg_law_draw T.fn_law_draw.kp T.b_law_draw .nil pass0 (pa_cons (pv 0) (pa_cons pe_int pa_nil))))
      (pss_cons (ps_if (pt_cmpR op_eq (pv 2) pe_int (nomark _)) (pss_one (ps_setLc (i := 3) (own := [("mask", 4)]) (by rfl) sc_law_family.nd rfl rfl (sw_true rfl rfl rfl (by decide +kernel)) (pi_range1 (by rfl) T.no_range (pa_cons (pe_op op_shl pe_int (pv 1)) pa_nil)) (blkOk_by (own := [("mask", 4)]) (N := ["feed", "size", "kind", "inside", "mask"]) (sc := defScope s_law_family) (by decide +kernel)) (fun _ _ _ _ _ => pg_name (i := 4) sc_law_family.nd rfl (Or.inl rfl)) (fun _ _ _ _ _ => pts_nil) (fun _ _ _ _ _ => (pe_cmpR op_eq (pv 4) pe_int (nomark _))))) (pss_one (ps_if (PW.pt (pw_or (pt_cmpR op_lt (pv 2) pe_int (nomark _)) (pw_or1 (PW.pt (pw_and (pt_cmpR op_lt (pv 2) pe_int (nomark _)) (pw_and1 (pt_cmpR op_lt (pv 1) pe_int (nomark _)))))))) (pss_one (ps_set (i := 3) sc_law_family.nd rfl (Or.inl rfl) (pe_call (ok_law_by_tops T) (hr.mono (by decide)) (by rfl) T.mg_law_by_tops T.fn_law_by_tops.kp T.b_law_by_tops .nil pass0 (pa_cons (pv 0) (pa_cons (pv 1) pa_nil))))) (pss_one (ps_if (pt_cmpR op_lt (pv 2) pe_int (nomark _)) (pss_one (ps_set (i := 3) sc_law_family.nd rfl (Or.inl rfl) (pe_call (ok_law_odd T) (hr.mono (by decide)) (by rfl) T.mg_law_odd T.fn_law_odd.kp T.b_law_odd .nil pass0 (pa_cons (pv 0) (pa_cons (pv 1) pa_nil))))) (pss_one (ps_if (pt_cmpR op_lt (pv 2) pe_int (nomark _)) (pss_one (ps_set (i := 3) sc_law_family.nd rfl (Or.inl rfl) (pe_call (ok_law_by_classes T) (hr.mono (by decide)) (by rfl) T.mg_law_by_classes T.fn_law_by_classes.kp T.b_law_by_classes .nil pass0 (pa_cons (pv 0) (pa_cons (pv 1) pa_nil))))) (pss_one (ps_set (i := 3) sc_law_family.nd rfl (Or.inl rfl) (pe_call (ok_law_by_words T) (hr.mono (by decide)) (by rfl) T.mg_law_by_words T.fn_law_by_words.kp T.b_law_by_words .nil pass0 (pa_cons (pv 0) (pa_cons (pv 1) pa_nil))))))))))))
      (pss_one (ps_ret (pe_lst (pa_cons (pv 1) (pa_cons (pv 3) (pa_cons (pe_call (ok_law_order T) (hr.mono (by decide)) (by rfl) T.mg_law_order T.fn_law_order.kp T.b_law_order .nil pass0 (pa_cons (pv 1) (pa_cons (pv 3) pa_nil))) pa_nil)))))))), ?_⟩
    show (_ : TS) _ [some (V.ref b), some (V.int n), none, none, none] H
    have p64 := pow64 n6
    have pz : 0 < 2 ^ n := Nat.pow_pos (by decide)
    refine cut (fun σ H' => ∃ d : Nat, σ = [some (V.ref b), some (V.int n), some (V.int d), none, none] ∧ BoxAt H' b c ns (t + 1) ∧ But b H H') (fun R hR => ?_) (fun σ H1 h => ?_)
    · walk_at "rd"
      exact drw 16 B rfl (by decide) (by decide) (by omega) fun d H1 _ B1 e1 => hR _ _ ⟨d, rfl, B1, e1⟩
    obtain ⟨d, rfl, B1, e1⟩ := h
    refine cut (fun σ H' => ∃ q S, σ = [some (V.ref b), some (V.int n), some (V.int d), some (V.ref q), none] ∧ H q = none ∧ q ≠ b ∧ H' q = some (.lst (S.map V.bl)) ∧ Fam n S ∧ BoxAt H' b c ns (t + 51) ∧ But b H H') (fun R hR => ?_) (fun σ H2 h => ?_)
    · walk_at "rd"
      have go : spVec [V.ref b, V.int n] H1 (fun x H1 => R [some (V.ref b), some (V.int n), some (V.int d), some x, none] H1) E0 := ⟨b, c, ns, t + 1, n, rfl, B1, by omega, n1, n6, fun r S H' f nr a F B' e => hR _ _ ⟨r, S, rfl, e1.free nr f, nr, a, F, B'.le (by omega), e1.trans e⟩⟩
      refine ite2 (fun _ => ⟨cpw (by omega), (pbd n6).1, (pbd n6).2.1, ?_⟩) (fun _ => ite2 (fun _ => go) fun _ => ite2 (fun _ => ite2 (fun _ => go) fun _ => ite2 (fun _ => go) fun _ => ite2 (fun _ => go) fun _ => go) fun _ => ite2 (fun _ => go) fun _ => ite2 (fun _ => go) fun _ => go)
      rw [(pbd n6).2.2.1]
      refine Rd.lcl_rng (fun D i H5 => H1 D = none ∧ Same H1 H5 ∧ H5 D = some (.lst (((List.range i).map fun m => decide (m = 0)).map V.bl))) (fun D hD => ⟨hD, same_upd hD, upd_same⟩) (fun D i H5 hi ⟨n5, e5, a5⟩ => ?_) (fun D H5 _ ⟨n5, e5, a5⟩ => ?_)
      · walk_at "rd"
        refine ⟨_, a5, small (by rw [List.length_map, List.length_map, List.length_range]; omega), n5, fun b o hb => (upd_ne (ne_of_none hb n5)).trans (e5 _ _ hb), ?_⟩
        rw [List.range_succ, List.map_append, List.map_append, show decide ((0 : Int) + (i : Nat) = 0) = decide (i = 0) from decide_eq_decide.mpr (by omega)]
        rfl
      · have nD := B1.ne_new n5
        exact hR _ _ ⟨D, _, rfl, e1.free nD n5, nD, a5, fam_zero n1 n6, (B1.same e5).le (by omega), e1.trans (Same.but e5)⟩
    obtain ⟨q, S, rfl, q0, nq, hq, F, B2, e2⟩ := h
    walk_at "rd"
    refine ⟨q, n, S, rfl, hq, n6, F.len, fun r H3 r0 e3 hr3 => ⟨by decide, fun p p0 => ?_⟩⟩
    have B3 := B2.same e3
    have e03 := e2.trans (Same.but e3)
    have np := B3.ne_new p0
    have e4 := same_upd (o := .lst [V.int n, V.ref q, V.ref r]) p0
    exact k p S _ (e03.free np p0) ⟨F, np, q, r, nq, B2.ne_new r0, upd_same, e4 _ _ (e3 _ _ hq), e4 _ _ hr3⟩ ((B3.same e4).le (by omega)) (e03.trans (Same.but e4))
/-! ### _law_adds -/
def addN (n : Nat) (S : List Bool) (m : Nat) : List Nat := (List.range n).filter fun k => !bit m k && In S (m ||| 2 ^ k)
theorem or_lts : ((List.range 7).all fun n => (List.range (2 ^ n)).all fun m => (List.range n).all fun k => decide (m ||| 2 ^ k < 2 ^ n)) = true := by decide +kernel
theorem or_lt {n m k : Nat} (n6 : n ≤ 6) (hm : m < 2 ^ n) (hk : k < n) : m ||| 2 ^ k < 2 ^ n := of_decide_eq_true (List.all_eq_true.mp (List.all_eq_true.mp (List.all_eq_true.mp or_lts n (List.mem_range.mpr (by omega))) m (List.mem_range.mpr hm)) k (List.mem_range.mpr hk))
def spAdds : Sp := fun vs H Q _ => ∃ (b p : Addr) (n m : Nat) (S : List Bool), vs = [.ref p, .int m] ∧ LFam b H p n S ∧ m < 2 ^ n ∧ ∀ H', Same H H' → Q (.int (mk (addN n S m) : Nat)) H'
theorem sc_law_adds : FnScope ["family", "mask", "k"] ["family", "mask"] (defScope s_law_adds) := ⟨rfl, rfl, rfl, by decide +kernel, rfl, by decide +kernel, by decide +kernel⟩
theorem ok_law_adds (T : Txt K mg a) : FnOk P w K mg base CX0 1 a.a_law_adds a.d_law_adds ["family", "mask"] spAdds := by
  refine T.fn_law_adds.ok sc_law_adds (fun vs H Q E h => ?_) (fun cdv A outer s H vs Q E hr h => ?_)
  · obtain ⟨b, p, n, m, S, rfl, _⟩ := h
    rfl
  · obtain ⟨b, p, n, m, S, rfl, F, hm, k⟩ := h
    refine ⟨_, (pss_one (ps_ret (pe_callB (cr_sum rfl) (by rfl) T.no_sum (by decide +kernel) (pa_cons (pe_lc (own := [("k", 2)]) (by rfl) sc_law_adds.nd (pi_range1 (by rfl) T.no_range (pa_cons (pe_ix Rd.ixH (pv 0) pe_int (fun _ _ => rfl)) pa_nil)) (blkOk_by (own := [("k", 2)]) (N := ["family", "mask", "k"]) (sc := defScope s_law_adds) (by decide +kernel)) (fun _ _ _ _ _ => pg_name (i := 2) sc_law_adds.nd rfl (Or.inl rfl)) (fun _ _ _ _ _ => pts_one (PW.pt (pw_and (pt_cmpR op_eq (pe_op op_and (pe_op op_shr (pv 1) (pv 2)) pe_int) pe_int (nomark _)) (pw_and1 (pt_val (pe_ix Rd.ixH (pe_ix Rd.ixH (pv 0) pe_int (fun _ _ => rfl)) (pe_op op_or (pv 1) (pe_op op_shl pe_int (pv 2))) (fun _ _ => rfl))))))) (fun _ _ _ _ _ => (pe_op op_shl pe_int (pv 2)))) pa_nil)))), ?_⟩
    show (_ : TS) _ [some (V.ref p), some (V.int m), none] H
    obtain ⟨q, r, _, _, hp, hq, _⟩ := F.ob
    have n6 := F.fam.n6
    walk_at "rd"
    refine ⟨_, hp, _, Rd.at0, n, rfl, by omega, by omega, ?_⟩
    rw [Int.toNat_natCast]
    refine Rd.lcl_rng (fun D j H5 => H D = none ∧ Same H H5 ∧ H5 D = some (.lst ((((List.range j).filter fun k => !bit m k && In S (m ||| 2 ^ k)).map fun g => ((2 ^ g : Nat) : Int)).map V.int))) (fun D hD => ⟨hD, same_upd hD, upd_same⟩) (fun D j H5 hj ⟨n5, e5, a5⟩ => ?_) (fun D H5 _ ⟨n5, e5, a5⟩ => ?_)
    · walk_at "rd"
      have fl : ((List.range j).filter fun k => !bit m k && In S (m ||| 2 ^ k)).length ≤ j := by
        have := List.length_filter_le (fun k => !bit m k && In S (m ||| 2 ^ k)) (List.range j)
        rwa [List.length_range] at this
      rw [show (0 : Int) + (j : Nat) = (j : Nat) from Int.zero_add _]
      refine ⟨by omega, ?_⟩
      rw [List.range_succ, List.filter_append]
      refine ite2 (fun h => ⟨_, e5 _ _ hp, _, Rd.at1, cpw (by omega), q, rfl, _, e5 _ _ hq, V.bl (In S (m ||| 2 ^ j)), ?_, _, rfl, ite2 (fun h2 => ⟨cpw (by omega), _, a5, small (by rw [List.length_map, List.length_map]; omega), n5, fun b o hb => (upd_ne (ne_of_none hb n5)).trans (e5 _ _ hb), ?_⟩) (fun h2 => ⟨n5, e5, ?_⟩)⟩) (fun h => ⟨n5, e5, ?_⟩)
      · rw [pow_cast, or_nat]
        exact in_bool (by rw [F.fam.len]; exact or_lt n6 hm hj)
      · rw [List.filter_cons_of_pos (p := fun k => !bit m k && In S (m ||| 2 ^ k)) (by rw [(bit_and0 m j).mp h, h2]; rfl), pow_cast, List.map_append, List.map_append]
        rfl
      · rw [List.filter_cons_of_neg (p := fun k => !bit m k && In S (m ||| 2 ^ k)) (by rw [Bool.eq_false_iff.mpr h2, Bool.and_false]; decide), List.filter_nil, List.append_nil]
        exact a5
      · rw [List.filter_cons_of_neg (p := fun k => !bit m k && In S (m ||| 2 ^ k)) (by rw [show bit m j = true from by cases z : bit m j with | true => rfl | false => exact absurd ((bit_and0 m j).mpr z) h, Bool.not_true, Bool.false_and]; decide), List.filter_nil, List.append_nil]
        exact a5
    · refine ⟨D, _, rfl, SqL.of a5, ?_⟩
      rw [sum_cast]
      exact k _ e5
end

end K37
namespace K37
open PySem PySem.Spec PyProof.Rows L2 Own OwnSeq OwnSet OwnComb OwnSort OwnHot OwnExN OwnProj
local macro_rules | `(tactic| walk_at "rd") => `(tactic| simp only [tSeq, tAsg, tOp, tUn, tVar, gName, gSub, rIxL, rIxT, rSetL, tC, rI0, rI, rU, rEq, rNe, tCons, tNil, tCB, tLst, tTup, tIfS, tAnd, tOr, tNot, tAndV, tOrV, tNotV, tTest, tB, tIf, tRet, tDrop, tNext, tBreak, tCont, tCall, tCallS, L2.WE, tMakeS, rIsS, rIsB, tChain, gSeq, gRest, gCons, gNil, tFor_seq, tFor_enumS, tLc_seq, tLc_enumS, rAny, rAll, L2.tMeth, StX.tStar, rIn, tLstRg, tRg1, tRg2, rSetI, rSortedSet, rInDT, rInD, rNotInD, rEqD, rNeD, iComb, tFld, tMake, tMkO, sFld, tOst, tNever, tBits, clv, isB,
  Rd.tFor_rng1, Rd.tFor_rng2, Rd.tFor_list, Rd.tFor_tup, Rd.tLc_list, Rd.tLc_tup, Rd.tLc_rng1, Rd.LcTurn, tYes, wipe, Rd.rLenL, Rd.rLenT, Rd.rIntI, Rd.rIxH, rIxHT,  HO.tup.injEq, Rd.at0, Rd.at1, Rd.at2, Rd.at3, Rd.ixN40, Rd.ixN41, Rd.ixN42, Rd.ixN43, Rd.scal_ii, cxOf,
  List.length_cons, List.length_nil, List.length_map, List.map_cons, List.map_nil, upd_same, decide_eq_true_eq, decide_true, decide_false, if_true, if_false, Bool.false_eq_true, Bool.not_true, Bool.not_false, HO.lst.injEq, HO.ins.injEq, List.set_cons_zero, List.set_cons_succ, List.getElem?_cons_zero, List.getElem?_cons_succ, List.append_nil, List.nil_append, List.cons_append, Option.some.injEq, V.ref.injEq, V.int.injEq, V.bl.injEq, List.cons.injEq, exists_eq_left', exists_and_left, exists_eq_left, true_and, and_true, and_self, and_assoc, implies_true, reduceCtorEq, Nat.reduceAdd])

theorem goes_rev {K : PySem.W.Frag} {a : Addr} {xs : List V} : Goes (Itv K a xs.length) (fun H => SqL K H a xs) xs.length (fun i H x H' => H' = H ∧ xs[xs.length - 1 - i]? = some x) :=
  ⟨fun i _ hi q => ⟨hi, xs, xs[xs.length - 1 - i]'(by omega), q, by simp [show xs.length - 1 - i < xs.length by omega]⟩, fun _ _ => Nat.le_refl _, fun _ _ _ _ q y => ⟨y.1, y.2 xs q⟩⟩
theorem tLc_rev {K : PySem.W.Frag} {ta : TA} {g : TG} {tt : TT} {te : TE} {vs : List Nat} {σ : L2.St} {H : Hp} {Q : VK} : tLc (iRev K ta) g tt te vs σ H Q = ta σ H (fun ws H1 => ∃ (a : Addr) (xs : List V), ws = [.ref a] ∧ SqL K H1 a xs ∧ Rd.LcL (Itv K a xs.length) g tt te vs σ H1 Q) := rfl
theorem listK {X : Cx} (K : PySem.W.Frag) (hK : X.K = K := by rfl) : CallR X (.type "list") (fun xs H Q => ∃ p ys, xs = [V.ref p] ∧ (SqL K H p ys ∨ SqT K H p ys) ∧ ∀ l, H l = none → Q (V.ref l) (upd H l (.lst ys))) := by
  subst hK
  exact call_list_of
theorem tupleK {X : Cx} (K : PySem.W.Frag) (hK : X.K = K := by rfl) : CallR X (.type "tuple") (fun xs H Q => ∃ p ys, xs = [V.ref p] ∧ ((SqL K H p ys ∧ ∀ l, H l = none → Q (V.ref l) (upd H l (.tup ys))) ∨ (SqT K H p ys ∧ Q (V.ref p) H))) := by
  subst hK
  exact call_tuple_of
theorem Seqs.keep {H H' : Hp} : ∀ {xs : List V} {ss : List (List Nat)}, (∀ q o, V.ref q ∈ xs → H q = some o → H' q = some o) → Seqs H xs ss → Seqs H' xs ss
  | [], [], _, _ => trivial
  | _ :: _, _ :: _, k, ⟨⟨q, l, e, h⟩, r⟩ => ⟨⟨q, l, e, k q _ (e ▸ List.mem_cons_self) h⟩, Seqs.keep (fun q o m => k q o (List.mem_cons_of_mem _ m)) r⟩
  | [], _ :: _, _, h => h.elim
  | _ :: _, [], _, h => h.elim
theorem Tups.keep {H H' : Hp} : ∀ {xs : List V} {ss : List (List Nat)}, (∀ q l, H q = some (.tup l) → H' q = some (.tup l)) → Tups H xs ss → Tups H' xs ss
  | [], [], _, _ => trivial
  | _ :: _, _ :: _, k, ⟨⟨q, e, h⟩, r⟩ => ⟨⟨q, e, k q _ h⟩, Tups.keep k r⟩
  | [], _ :: _, _, h => h.elim
  | _ :: _, [], _, h => h.elim
theorem Seqs.app {H : Hp} : ∀ {vs ws : List V} {gs hs : List (List Nat)}, Seqs H vs gs → Seqs H ws hs → Seqs H (vs ++ ws) (gs ++ hs)
  | [], _, [], _, _, h => h
  | _ :: _, _, _ :: _, _, ⟨a, r⟩, h => ⟨a, Seqs.app r h⟩
  | [], _, _ :: _, _, h, _ => h.elim
  | _ :: _, _, [], _, h, _ => h.elim
/-- a list of sets, with its own place apart -/
def LS (H : Hp) (D : Addr) (ss : List (List Nat)) : Prop := ∃ xs, H D = some (.lst xs) ∧ Seqs H xs ss ∧ V.ref D ∉ xs
theorem LS.same {H H' : Hp} {D : Addr} {ss : List (List Nat)} (e : Same H H') : LS H D ss → LS H' D ss := fun ⟨xs, a, b, c⟩ => ⟨xs, e _ _ a, b.same e, c⟩
/-- one more set, which stands elsewhere -/
theorem LS.push {H : Hp} {D q : Addr} {xs : List V} {ss : List (List Nat)} {s : List Nat} {l : Bool} (h : H D = some (.lst xs)) (sv : Seqs H xs ss) (nd : V.ref D ∉ xs) (hq : H q = some (sq l (iv s))) (ne : q ≠ D) : LS (upd H D (.lst (xs ++ [.ref q]))) D (ss ++ [s]) := by
  have kp : ∀ p o, p ≠ D → H p = some o → upd H D (.lst (xs ++ [.ref q])) p = some o := fun p o n h => (upd_ne n).trans h
  refine ⟨_, upd_same, Seqs.app (sv.keep fun p o m => kp p o fun z => nd (z ▸ m)) ⟨⟨q, l, rfl, kp _ _ ne hq⟩, trivial⟩, fun m => ?_⟩
  rcases List.mem_append.mp m with m | m
  · exact nd m
  · rw [List.mem_singleton] at m
    injection m with m
    exact ne m.symm
theorem ord_at {n i g : Nat} {S : List Bool} (n6 : n ≤ 6) (h : (ordL n S)[i]? = some g) : ∃ s, (famL n S)[i]? = some s ∧ g = mk s ∧ bits g = s ∧ s ∈ famL n S := by
  unfold ordL at h
  rw [List.getElem?_map] at h
  cases e : (famL n S)[i]? with
  | none => rw [e] at h; cases h
  | some s =>
    rw [e] at h
    cases Option.some.inj h
    have m := List.mem_of_getElem? e
    exact ⟨s, rfl, rfl, (allS_at (famL_mem.mp m).1 n6).1, m⟩
theorem famL_len {n : Nat} {S : List Bool} (h : n ≤ 6) : (famL n S).length ≤ 64 := by
  have := List.length_filter_le (fun s => In S (mk s)) (allS n)
  rw [allS_len h] at this
  exact Nat.le_trans this (pow64 h)
section
variable {P : Program} {w : World} {K : PySem.W.Frag} {mg : Str → Option Value} {base : Heap} {a : Ad}
/-! ### _law_told -/
def spTold (C : Addr) : Sp := fun vs H Q _ => ∃ (b p : Addr) (n : Nat) (S : List Bool) (form : Int), vs = [.ref p, .int form] ∧ LFam b H p n S ∧ ∀ f H', H f = none → Same H H' → FamV C H' f n S → Q (.ref f) H'
theorem sc_law_told : FnScope ["family", "form", "sets", "mask", "one"] ["family", "form"] (defScope s_law_told) := ⟨rfl, rfl, rfl, by decide +kernel, rfl, by decide +kernel, by decide +kernel⟩
theorem ok_law_told (T : Txt K mg a) : FnOk P w K mg base CX0 8 a.a_law_told a.d_law_told ["family", "form"] (spTold a.C_Family) := by
  refine T.fn_law_told.ok sc_law_told (fun vs H Q E h => ?_) (fun cdv A outer s H vs Q E hr h => ?_)
  · obtain ⟨b, p, n, S, form, rfl, _⟩ := h
    rfl
  · obtain ⟨b, p, n, S, form, rfl, F, k⟩ := h
    refine ⟨_, (pss_cons (ps_setLc (i := 2) (own := [("mask", 3)]) (by rfl) sc_law_told.nd rfl rfl (sw_true rfl rfl rfl (by decide +kernel)) (pi_list (pe_ix Rd.ixH (pv 0) pe_int (fun _ _ => rfl))) (blkOk_by (own := [("mask", 3)]) (N := ["family", "form", "sets", "mask", "one"]) (sc := defScope s_law_told) (by decide +kernel)) (fun _ _ _ _ _ => pg_name (i := 3) sc_law_told.nd rfl (Or.inl rfl)) (fun _ _ _ _ _ => pts_nil) (fun _ _ _ _ _ => (pe_callTy (listK K) (by rfl) T.no_list (by decide +kernel) (pa_cons (pe_call (ok_law_things T) (hr.mono (by decide)) (by rfl) T.mg_law_things T.fn_law_things.kp T.b_law_things .nil pass0 (pa_cons (pv 3) pa_nil)) pa_nil))))
      (pss_cons (ps_if (pt_cmpR op_eq (pv 1) pe_int (nomark _)) (pss_one (ps_set (i := 2) sc_law_told.nd rfl (Or.inl rfl) (pe_op op_cat (pe_lc (own := [("one", 4)]) (by rfl) sc_law_told.nd (pi_reversed (by rfl) T.no_reversed (pa_cons (pv 2) pa_nil)) (blkOk_by (own := [("one", 4)]) (N := ["family", "form", "sets", "mask", "one"]) (sc := defScope s_law_told) (by decide +kernel)) (fun _ _ _ _ _ => pg_name (i := 4) sc_law_told.nd rfl (Or.inl rfl)) (fun _ _ _ _ _ => pts_nil) (fun _ _ _ _ _ => (pe_callTy (tupleK K) (by rfl) T.no_tuple (by decide +kernel) (pa_cons (pv 4) pa_nil)))) (pe_lst (pa_cons (pe_callTy call_list_of (by rfl) T.no_list (by decide +kernel) (pa_cons (pe_ix Rd.ixH (pv 2) (pe_un un_neg pe_int) (fun _ _ => rfl)) pa_nil)) pa_nil))))) pss_nil)
      (pss_one (ps_ret (pe_make T.mk_Family (ok_Family_init T) (hr.mono (by decide)) (by rfl) T.mg_Family T.b_Family_init .nil pass0 (pa_cons (pe_ix Rd.ixH (pv 0) pe_int (fun _ _ => rfl)) (pa_cons (pv 2) pa_nil))))))), ?_⟩
    show (_ : TS) _ [some (V.ref p), some (V.int form), none, none, none] H
    obtain ⟨q, r, _, _, hp, hq, hr1⟩ := F.ob
    have n6 := F.fam.n6
    have fl := famL_len (S := S) n6
    have ol : (ordL n S).length = (famL n S).length := by unfold ordL; rw [List.length_map]
    refine cut (fun σ H' => ∃ D, σ = [some (V.ref p), some (V.int form), some (V.ref D), none, none] ∧ Same H H' ∧ LS H' D (famL n S)) (fun R hR => ?_) (fun σ H1 h => ?_)
    · walk_at "rd"
      refine ⟨_, hp, _, Rd.at2, r, rfl, ⟨_, SqL.of hr1⟩, ?_⟩
      refine Rd.lcl_list (xs := iv (ordL n S)) (fun D i H5 => H D = none ∧ Same H H5 ∧ LS H5 D ((famL n S).take i)) (fun D hD => ⟨hD, same_upd hD, [], upd_same, trivial, List.not_mem_nil⟩) (fun D i H5 _ z => z.2.1.seq (SqL.of hr1)) (fun D i x H5 hx ⟨n5, e5, xs, a5, sv, nd⟩ => ?_) (fun D H5 _ ⟨n5, e5, z⟩ => ?_)
      · obtain ⟨g, hg, rfl⟩ := at_iv hx
        obtain ⟨s', hs, rfl, bs, sm⟩ := ord_at n6 hg
        walk_at "rd"
        have xl := sv.len
        rw [List.length_take] at xl
        refine ⟨_, rfl, fun u H6 u0 e6 hu => ⟨u, rfl, _, .inr (SqT.of hu), fun l hl => ?_⟩⟩
        rw [bs]
        have e7 := same_upd (o := .lst (iv s')) hl
        have e67 := e6.trans e7
        have a7 := e67 _ _ a5
        refine ⟨_, a7, small (by omega), n5, fun b o hb => (upd_ne (ne_of_none hb n5)).trans (e67 _ _ (e5 _ _ hb)), ?_⟩
        rw [List.take_add_one, hs]
        exact LS.push a7 (sv.same e67) nd (l := true) upd_same fun z => by rw [z, e6 _ _ a5] at hl; cases hl
      · rw [iv_len, ol, List.take_length] at z
        exact hR _ _ ⟨D, rfl, e5, z⟩
    obtain ⟨D, rfl, e1, L1⟩ := h
    refine cut (fun σ H' => ∃ D ss, σ = [some (V.ref p), some (V.int form), some (V.ref D), none, none] ∧ Same H H' ∧ LS H' D ss ∧ ss.length ≤ 100 ∧ ∀ s, s ∈ ss ↔ s ∈ famL n S) (fun R hR => ?_) (fun σ H1 h => ?_)
    · walk_at "rd"
      simp only [tLc_rev]
      walk_at "rd"
      obtain ⟨xs, hD, sv, nd⟩ := L1
      have xl := sv.len
      have fp : 0 < (famL n S).length := List.length_pos_of_mem (famL_mem.mpr ⟨nil_in n6, F.fam.zero⟩)
      refine ite2 (fun _ => ⟨_, SqL.of hD, ?_⟩) (fun _ => hR _ _ ⟨D, _, rfl, e1, ⟨xs, hD, sv, nd⟩, by omega, fun _ => Iff.rfl⟩)
      refine lcl_goes goes_rev (fun D2 i H5 => H1 D2 = none ∧ Same H1 H5 ∧ LS H5 D2 ((famL n S).reverse.take i)) (fun D2 hD2 => ⟨hD2, same_upd hD2, [], upd_same, trivial, List.not_mem_nil⟩) (fun D2 i H5 _ z => SqL.of (z.2.1 _ _ hD)) (fun D2 i x H5 H5' hi ⟨n5, e5, ys, a5, sy, ny⟩ ⟨eq5, hx⟩ => ?_) (fun D2 H5 _ ⟨n5, e5, z⟩ => ?_)
      · subst eq5
        obtain ⟨s', hs, u, l, rfl, hu⟩ := (sv.same e5).at hx
        rw [xl] at hs hi
        have yl := sy.len
        rw [List.length_take, List.length_reverse] at yl
        have rs : (famL n S).reverse[i]? = some s' := by rw [List.getElem?_reverse hi]; exact hs
        walk_at "rd"
        have ne : u ≠ D2 := fun z => by
          subst z
          obtain ⟨_, _, u', l', e', h'⟩ := (sv.at hx)
          injection e' with e'
          subst e'
          rw [h'] at n5
          cases n5
        have put : ∀ (v : Addr) (l : Bool) (H6 : Hp), Same H5' H6 → H6 v = some (sq l (iv s')) → v ≠ D2 → ∃ acc, H6 D2 = some (HO.lst acc) ∧ acc.length < sizeLine ∧ H1 D2 = none ∧ Same H1 (upd H6 D2 (HO.lst (acc ++ [V.ref v]))) ∧ LS (upd H6 D2 (HO.lst (acc ++ [V.ref v]))) D2 ((famL n S).reverse.take (i + 1)) := fun v l H6 e6 hv nv =>
          ⟨_, e6 _ _ a5, small (n := ys.length) (by omega), n5, fun b o hb => (upd_ne (ne_of_none hb n5)).trans (e6 _ _ (e5 _ _ hb)), by rw [List.take_add_one, rs]; exact LS.push (e6 _ _ a5) (sy.same e6) ny hv nv⟩
        cases l with
        | true => exact ⟨_, .inl ⟨SqL.of hu, fun v hv => put v false _ (same_upd hv) upd_same fun z => by rw [z, a5] at hv; cases hv⟩⟩
        | false => exact ⟨_, .inr ⟨SqT.of hu, put u false H5' (Same.refl _) hu ne⟩⟩
      · rw [xl, ← List.length_reverse (as := famL n S), List.take_length] at z
        obtain ⟨xi, v, rfl⟩ : ∃ xi v, xs = xi ++ [v] := by
          rcases List.eq_nil_or_concat xs with e | ⟨xi, v, e⟩
          · rw [e] at xl
            exact absurd xl (by show ¬ 0 = _; omega)
          · exact ⟨xi, v, by rw [e, List.concat_eq_append]⟩
        obtain ⟨s0, hs0, u, l, rfl, hu⟩ := sv.at (i := xi.length) (x := v) (by rw [List.getElem?_append_right (Nat.le_refl _), Nat.sub_self]; rfl)
        refine ⟨_, e5 _ _ hD, _, atI_last _ _, u, rfl, _, seqOr (e5 _ _ hu), fun v hv => ⟨by decide, fun w hw => ?_⟩⟩
        obtain ⟨ys, a5, sy, ny⟩ := z
        have e6 := (same_upd (o := .lst (iv s0)) hv).trans (same_upd (o := .lst [V.ref v]) hw)
        have yl := sy.len
        rw [List.length_reverse] at yl
        have v6 : upd (upd H5 v (.lst (iv s0))) w (.lst [V.ref v]) v = some (sq true (iv s0)) := (same_upd hw) _ _ upd_same
        refine ⟨D2, w, _, _, rfl, rfl, e6 _ _ a5, upd_same, small_le (by rw [yl]; show _ + 1 ≤ 1000; omega), fun z hz => ?_⟩
        have e7 := same_upd (o := .lst (ys ++ [V.ref v])) hz
        have e17 := (e5.trans e6).trans e7
        refine hR _ _ ⟨z, (famL n S).reverse ++ [s0], rfl, e1.trans e17, ⟨_, upd_same, Seqs.app (sy.same (e6.trans e7)) ⟨⟨v, true, rfl, e7 _ _ v6⟩, trivial⟩, fun m => ?_⟩, by rw [List.length_append, List.length_reverse]; show _ + 1 ≤ 100; omega, fun s => ?_⟩
        · rcases List.mem_append.mp m with m | m
          · obtain ⟨j, hj⟩ := List.mem_iff_getElem?.mp m
            obtain ⟨_, _, u', l', e', h'⟩ := (sy.same e6).at hj
            injection e' with e'
            subst e'
            rw [h'] at hz
            cases hz
          · rw [List.mem_singleton] at m
            injection m with m
            subst m
            rw [v6] at hz
            cases hz
        · rw [List.mem_append, List.mem_reverse, List.mem_singleton]
          exact ⟨fun z => z.elim id fun z => z ▸ List.mem_of_getElem? hs0, .inl⟩
    obtain ⟨D, ss, rfl, e2, ⟨xs, hD, sv, nd⟩, s100, mem⟩ := h
    walk_at "rd"
    refine ⟨_, e2 _ _ hp, _, Rd.at0, fun x dx hx hdx ne => ?_⟩
    have s1 : Same H1 (upd H1 dx (.own x)) := same_upd hdx
    have s2 : Same (upd H1 dx (.own x)) (upd (upd H1 dx (.own x)) x (.ins a.C_Family dx [])) := same_upd ((upd_ne ne.symm).trans hx)
    have s12 := s1.trans s2
    refine ⟨x, dx, D, n, S, xs, ss, rfl, upd_same, s12 _ _ hD, sv.same s12, F.fam, s100, mem, fun t ys H3 H4 e3 ht tt e4 => ⟨rfl, ?_⟩⟩
    subst e4
    have x3 := e3 _ _ upd_same
    refine k x _ (e2.free hx) (fun b o hb => (upd_ne fun z => ?_).trans (e3 _ _ (s12 _ _ (e2 _ _ hb)))) ⟨F.fam, dx, t, ys, upd_same, (upd_ne fun z => by rw [z, x3] at ht; cases ht).trans ht, ?_⟩
    · rw [z, e2.free hx] at hb
      cases hb
    · exact Tups.keep (fun z l h => (upd_ne fun e => by rw [e, x3] at h; cases h).trans h) tt
end

end K37
namespace K37
open PySem PySem.Spec PyProof.Rows L2 Own OwnSeq OwnSet OwnComb OwnSort OwnHot OwnExN OwnProj
local macro_rules | `(tactic| walk_at "rd") => `(tactic| simp only [tSeq, tAsg, tOp, tUn, tVar, gName, gSub, rIxL, rIxT, rSetL, tC, rI0, rI, rU, rEq, rNe, tCons, tNil, tCB, tLst, tTup, tIfS, tAnd, tOr, tNot, tAndV, tOrV, tNotV, tTest, tB, tIf, tRet, tDrop, tNext, tBreak, tCont, tCall, tCallS, L2.WE, tMakeS, rIsS, rIsB, tChain, gSeq, gRest, gCons, gNil, tFor_seq, tFor_enumS, tLc_seq, tLc_enumS, rAny, rAll, L2.tMeth, StX.tStar, rIn, tLstRg, tRg1, tRg2, rSetI, rSortedSet, rInDT, rInD, rNotInD, rEqD, rNeD, iComb, tFld, tMake, tMkO, sFld, tOst, tNever, tBits, clv, isB,
  Rd.tFor_rng1, Rd.tFor_rng2, Rd.tFor_list, Rd.tFor_tup, Rd.tLc_list, Rd.tLc_tup, Rd.tLc_rng1, Rd.LcTurn, tYes, wipe, Rd.rLenL, Rd.rLenT, Rd.rIntI, Rd.rIxH, rIxHT,  HO.tup.injEq, Rd.at0, Rd.at1, Rd.at2, Rd.at3, Rd.ixN40, Rd.ixN41, Rd.ixN42, Rd.ixN43, Rd.scal_ii, cxOf,
  List.length_cons, List.length_nil, List.length_map, List.map_cons, List.map_nil, upd_same, decide_eq_true_eq, decide_true, decide_false, if_true, if_false, Bool.false_eq_true, Bool.not_true, Bool.not_false, HO.lst.injEq, HO.ins.injEq, List.set_cons_zero, List.set_cons_succ, List.getElem?_cons_zero, List.getElem?_cons_succ, List.append_nil, List.nil_append, List.cons_append, Option.some.injEq, V.ref.injEq, V.int.injEq, V.bl.injEq, List.cons.injEq, exists_eq_left', exists_and_left, exists_eq_left, true_and, and_true, and_self, and_assoc, implies_true, reduceCtorEq, Nat.reduceAdd])

theorem neD_at {X : Cx} (K : PySem.W.Frag) (hu : X.A.units + 64 < cLine) (hK : X.K = K := by rfl) : OpR X (compareOp .NotEq) (rNeD K) := by
  subst hK
  exact op_neD hu
theorem mk_app (s : List Nat) (g : Nat) : mk (s ++ [g]) = mk s + 2 ^ g := by
  unfold mk
  rw [List.map_append, List.sum_append]
  rfl
theorem filt_self {n : Nat} {s : List Nat} (h : n ≤ 6) (hs : s ∈ allS n) : (List.range n).filter (fun g => s.contains g) = s := by
  have al := allS_at hs h
  refine asc_ext (List.pairwise_lt_range.filter _) (asc_pw al.2.2.2.2) fun g => ?_
  rw [List.mem_filter, List.contains_iff_mem, List.mem_range]
  exact ⟨fun z => z.2, fun z => ⟨al.2.2.1 g z, z⟩⟩
section
variable {P : Program} {w : World} {K : PySem.W.Frag} {mg : Str → Option Value} {base : Heap} {a : Ad}
/-! ### _law_mask -/
def spMask : Sp := fun vs H Q _ => ∃ (p : Addr) (n : Nat) (s : List Nat), vs = [.ref p, .int n] ∧ H p = some (.tup (iv s)) ∧ n ≤ 6 ∧ s ∈ allS n ∧ ∀ H', Same H H' → Q (.int (mk s : Nat)) H'
theorem sc_law_mask : FnScope ["found", "size", "mask", "thing", "k"] ["found", "size"] (defScope s_law_mask) := ⟨rfl, rfl, rfl, by decide +kernel, rfl, by decide +kernel, by decide +kernel⟩
theorem ok_law_mask (T : Txt K mg a) : FnOk P w K mg base CX0 2 a.a_law_mask a.d_law_mask ["found", "size"] spMask := by
  refine T.fn_law_mask.ok sc_law_mask (fun vs H Q E h => ?_) (fun cdv A outer s H vs Q E hr h => ?_)
  · obtain ⟨p, n, s, rfl, _⟩ := h
    rfl
  · obtain ⟨p, n, s', rfl, hp, n6, hs, k⟩ := h
    refine ⟨_, (pss_cons (ps_if (PW.pt (pw_or (pt_not (pt_val (pe_callB (call_isB .tup) (by rfl) T.no_isinstance (by decide +kernel) (pa_cons (pv 0) (pa_cons (pe_bltn (v := .ty "tuple") (u := .type "tuple") (by rfl) T.no_tuple (by decide +kernel) rfl) pa_nil))))) (pw_or (pt_cmpR op_gt (pe_callB (lenK K) (by rfl) T.no_len PySem.boot_len (pa_cons (pv 0) pa_nil)) (pv 1) (nomark _)) (pw_or1 (pt_not (pt_val (pe_callB (cr_all rfl) (by rfl) T.no_all (by decide +kernel) (pa_cons (pe_lc (own := [("k", 4)]) (by rfl) sc_law_mask.nd (pi_seq (pv 0)) (blkOk_by (own := [("k", 4)]) (N := ["found", "size", "mask", "thing", "k"]) (sc := defScope s_law_mask) (by decide +kernel)) (fun _ _ _ _ _ => pg_name (i := 4) sc_law_mask.nd rfl (Or.inl rfl)) (fun _ _ _ _ _ => pts_nil) (fun _ _ _ _ _ => (pe_call (ok_law_whole T) (hr.mono (by decide)) (by rfl) T.mg_law_whole T.fn_law_whole.kp T.b_law_whole .nil pass0 (pa_cons (pv 4) pa_nil)))) pa_nil)))))))) (pss_one (ps_ret (pe_un un_neg pe_int))) pss_nil)
      (pss_cons (ps_set (i := 2) sc_law_mask.nd rfl (Or.inl rfl) pe_int)
      (pss_cons (ps_for PassesOwn.never rfl (pi_range1 (by rfl) T.no_range (pa_cons (pv 1) pa_nil)) (pg_name (i := 3) sc_law_mask.nd rfl (Or.inl rfl))
        (pss_one (ps_if (pt_cmpR (op_inK K) (pv 3) (pv 0) (by with_unfolding_all rfl)) (pss_one (ps_set (i := 2) sc_law_mask.nd rfl (Or.inl rfl) (pe_op op_add (pv 2) (pe_op op_shl pe_int (pv 3))))) pss_nil)))
      (pss_cons (ps_if (pt_cmpR (neD_at K hr.units) (pe_call (ok_law_things T) (hr.mono (by decide)) (by rfl) T.mg_law_things T.fn_law_things.kp T.b_law_things .nil pass0 (pa_cons (pv 2) pa_nil)) (pv 0) (nomark _)) (pss_one (ps_ret (pe_un un_neg pe_int))) pss_nil)
      (pss_one (ps_ret (pv 2))))))), ?_⟩
    show (_ : TS) _ [some (V.ref p), some (V.int n), none, none, none] H
    have al := allS_at hs n6
    refine cut (fun σ H' => σ = [some (V.ref p), some (V.int n), none, none, none] ∧ Same H H') (fun R hR => ?_) (fun σ H1 h => ?_)
    · walk_at "rd"
      refine ⟨.tup, .tup hp, ?_⟩
      rw [if_neg (by decide)]
      refine ⟨_, .inr (SqT.of hp), ?_⟩
      have sl : s'.length ≤ n := al.2.2.2.1
      rw [if_neg (by rw [iv_len]; omega)]
      refine ⟨false, _, hp, lcl_goes goes_seq (fun D i H5 => H D = none ∧ Same H H5 ∧ H5 D = some (.lst ((List.replicate i true).map V.bl))) (fun D hD => ⟨hD, same_upd hD, upd_same⟩)
        (fun D i H5 _ h => h.2.1 _ _ hp) (fun D i x H5 H5' hi ⟨n5, e5, a5⟩ ⟨eq5, hx⟩ => ?_) (fun D H5 _ ⟨n5, e5, a5⟩ => ?_)⟩
      · subst eq5
        obtain ⟨g, hg, rfl⟩ := at_iv hx
        rw [iv_len] at hi
        walk_at "rd"
        refine ⟨_, rfl, _, a5, small (by rw [List.length_map, List.length_replicate]; omega), n5, fun b o hb => (upd_ne (ne_of_none hb n5)).trans (e5 _ _ hb), ?_⟩
        rw [List.replicate_succ', List.map_append]
        rfl
      · refine ⟨D, rfl, _, SqL.of a5, ?_⟩
        rw [show ((List.replicate (iv s').length true).all id) = true by simp]
        exact hR _ _ ⟨rfl, e5⟩
    obtain ⟨rfl, e1⟩ := h
    walk_at "rd"
    refine ⟨by omega, by omega, ?_⟩
    rw [Int.toNat_natCast]
    refine Rd.loop_rngC (fun σ H' => ∃ o3, σ = [some (V.ref p), some (V.int n), some (V.int (mk s' : Nat)), o3, none] ∧ H' = H1)
      (fun i σ H' => ∃ o3, σ = [some (V.ref p), some (V.int n), some (V.int (mk ((List.range i).filter fun g => s'.contains g) : Nat)), o3, none] ∧ H' = H1)
      ⟨none, rfl, rfl⟩ ?_ (fun σ H' ⟨o3, q1, q2⟩ => ⟨o3, by rw [filt_self n6 hs] at q1; exact q1, q2⟩) ?_
    · rintro bk hbk i σ H2 hi ⟨o3, rfl, rfl⟩
      walk_at "rd"
      rw [show (0 : Int) + (i : Nat) = (i : Nat) from Int.zero_add _]
      refine ⟨_, .inr (SqT.of (e1 _ _ hp)), rfl, iv_flat _, ?_⟩
      rw [inV_iv, List.range_succ, List.filter_append]
      refine ite2 (fun h => ⟨cpw (by omega), ?_⟩) (fun h => ?_)
      · rw [List.filter_cons_of_pos (p := fun g => s'.contains g) h, List.filter_nil, mk_app, pow_cast]
        exact ⟨rfl, _, rfl⟩
      · rw [List.filter_cons_of_neg (p := fun g => s'.contains g) h, List.filter_nil, List.append_nil]
        exact ⟨rfl, _, rfl⟩
    · rintro σ H2 ⟨o3, rfl, rfl⟩
      walk_at "rd"
      refine ⟨_, rfl, fun u H3 u0 e3 hu => ?_⟩
      rw [al.1] at hu
      refine ⟨_, dp_set hu, _, dp_set (e3 _ _ (e1 _ _ hp)), sh_set _, sh_set _, ?_⟩
      rw [eqv_set, decide_eq_true rfl]
      rw [if_neg (by decide)]
      exact k _ (e1.trans e3)
end

end K37
namespace K37
open PySem PySem.Spec PyProof.Rows L2 Own OwnSeq OwnSet OwnComb OwnSort OwnHot OwnExN OwnProj
local macro_rules | `(tactic| walk_at "rd") => `(tactic| simp only [tSeq, tAsg, tOp, tUn, tVar, gName, gSub, rIxL, rIxT, rSetL, tC, rI0, rI, rU, rEq, rNe, tCons, tNil, tCB, tLst, tTup, tIfS, tAnd, tOr, tNot, tAndV, tOrV, tNotV, tTest, tB, tIf, tRet, tDrop, tNext, tBreak, tCont, tCall, tCallS, L2.WE, tMakeS, rIsS, rIsB, tChain, gSeq, gRest, gCons, gNil, tFor_seq, tFor_enumS, tLc_seq, tLc_enumS, rAny, rAll, L2.tMeth, StX.tStar, rIn, tLstRg, tRg1, tRg2, rSetI, rSortedSet, rInDT, rInD, rNotInD, rEqD, rNeD, iComb, tFld, tMake, tMkO, sFld, tOst, tNever, tBits, clv, isB,
  Rd.tFor_rng1, Rd.tFor_rng2, Rd.tFor_list, Rd.tFor_tup, Rd.tLc_list, Rd.tLc_tup, Rd.tLc_rng1, Rd.LcTurn, tYes, wipe, Rd.rLenL, Rd.rLenT, Rd.rIntI, Rd.rIxH, rIxHT,  HO.tup.injEq, Rd.at0, Rd.at1, Rd.at2, Rd.at3, Rd.ixN40, Rd.ixN41, Rd.ixN42, Rd.ixN43, Rd.scal_ii, cxOf,
  List.length_cons, List.length_nil, List.length_map, List.map_cons, List.map_nil, upd_same, decide_eq_true_eq, decide_true, decide_false, if_true, if_false, Bool.false_eq_true, Bool.not_true, Bool.not_false, HO.lst.injEq, HO.ins.injEq, List.set_cons_zero, List.set_cons_succ, List.getElem?_cons_zero, List.getElem?_cons_succ, List.append_nil, List.nil_append, List.cons_append, Option.some.injEq, V.ref.injEq, V.int.injEq, V.bl.injEq, List.cons.injEq, exists_eq_left', exists_and_left, exists_eq_left, true_and, and_true, and_self, and_assoc, implies_true, reduceCtorEq, Nat.reduceAdd])

/-! ### the quotient, by reckoning -/
def pairs (n : Nat) (p : List Nat → List Nat → Bool) : Bool := (allS n).all fun s => (allS n).all fun t => p s t
theorem pairs_at {p : Nat → List Nat → List Nat → Bool} (hp : ((List.range 7).all fun n => pairs n (p n)) = true) {n : Nat} (h : n ≤ 6) {s t : List Nat} (hs : s ∈ allS n) (ht : t ∈ allS n) : p n s t = true :=
  List.all_eq_true.mp (List.all_eq_true.mp (List.all_eq_true.mp hp n (List.mem_range.mpr (by omega))) s hs) t ht
theorem sub_all : ((List.range 7).all fun n => pairs n fun s t => subL s t == decide (Sub (mk s) (mk t))) = true := by decide +kernel
theorem sub_eq {n : Nat} {s t : List Nat} (h : n ≤ 6) (hs : s ∈ allS n) (ht : t ∈ allS n) : decide (Sub (mk s) (mk t)) = subL s t := (beq_iff_eq.mp (pairs_at (p := fun _ s t => subL s t == decide (Sub (mk s) (mk t))) sub_all h hs ht)).symm
theorem met_all : ((List.range 7).all fun n => pairs n fun s t => metL s t == !decide (mk s &&& mk t = 0)) = true := by decide +kernel
theorem met_eq {n : Nat} {s t : List Nat} (h : n ≤ 6) (hs : s ∈ allS n) (ht : t ∈ allS n) : decide (mk s &&& mk t = 0) = !metL s t := by
  rw [beq_iff_eq.mp (pairs_at (p := fun _ s t => metL s t == !decide (mk s &&& mk t = 0)) met_all h hs ht), Bool.not_not]
theorem any_bits (p : Nat → Bool) : ∃ m, m < 64 ∧ ∀ k, k < 6 → bit m k = p k := by
  have five : ∀ b0 b1 b2 b3 b4 b5 : Bool, ∃ m, m < 64 ∧ bit m 0 = b0 ∧ bit m 1 = b1 ∧ bit m 2 = b2 ∧ bit m 3 = b3 ∧ bit m 4 = b4 ∧ bit m 5 = b5 := fun b0 b1 b2 b3 b4 b5 =>
    ⟨b0.toNat + 2 * b1.toNat + 4 * b2.toNat + 8 * b3.toNat + 16 * b4.toNat + 32 * b5.toNat, by
      revert b0 b1 b2 b3 b4 b5
      decide +kernel⟩
  obtain ⟨m, hm, h0, h1, h2, h3, h4, h5⟩ := five (p 0) (p 1) (p 2) (p 3) (p 4) (p 5)
  refine ⟨m, hm, fun k hk => ?_⟩
  have : k = 0 ∨ k = 1 ∨ k = 2 ∨ k = 3 ∨ k = 4 ∨ k = 5 := by omega
  rcases this with rfl | rfl | rfl | rfl | rfl | rfl <;> assumption
theorem filts : ((List.range 7).all fun n => (List.range 64).all fun m => (allS n).contains ((List.range n).filter (bit m))) = true := by decide +kernel
theorem filt_in {n : Nat} (h : n ≤ 6) (p : Nat → Bool) : (List.range n).filter p ∈ allS n := by
  obtain ⟨m, hm, hb⟩ := any_bits p
  have z := List.all_eq_true.mp (List.all_eq_true.mp filts n (List.mem_range.mpr (by omega))) m (List.mem_range.mpr hm)
  rw [List.contains_iff_mem] at z
  rwa [List.filter_congr (q := p) fun k hk => hb k (by have := List.mem_range.mp hk; omega)] at z
theorem bits_ors : ((List.range 7).all fun n => (allS n).all fun s => (List.range n).all fun k => (bit (mk s) k == s.contains k) && (s.contains k || decide (mk s ||| 2 ^ k = mk s + 2 ^ k)) && (s.contains k || decide ((bits (mk s + 2 ^ k)).length = s.length + 1 ∧ bits (mk s + 2 ^ k) ∈ allS n ∧ mk (bits (mk s + 2 ^ k)) = mk s + 2 ^ k ∧ ∀ t ∈ allS n, subL s t = true → t.contains k = true → subL (bits (mk s + 2 ^ k)) t = true))) = true := by decide +kernel
theorem bits_or {n : Nat} {s : List Nat} {k : Nat} (h : n ≤ 6) (hs : s ∈ allS n) (hk : k < n) : bit (mk s) k = s.contains k ∧ (s.contains k = false → mk s ||| 2 ^ k = mk s + 2 ^ k) ∧
    (s.contains k = false → (bits (mk s + 2 ^ k)).length = s.length + 1 ∧ bits (mk s + 2 ^ k) ∈ allS n ∧ mk (bits (mk s + 2 ^ k)) = mk s + 2 ^ k ∧ ∀ t ∈ allS n, subL s t = true → t.contains k = true → subL (bits (mk s + 2 ^ k)) t = true) := by
  have z := List.all_eq_true.mp (List.all_eq_true.mp (List.all_eq_true.mp bits_ors n (List.mem_range.mpr (by omega))) s hs) k (List.mem_range.mpr hk)
  obtain ⟨z12, z3⟩ := Bool.and_eq_true_iff.mp z
  obtain ⟨z1, z2⟩ := Bool.and_eq_true_iff.mp z12
  refine ⟨beq_iff_eq.mp z1, fun q => ?_, fun q => ?_⟩
  · rw [q, Bool.false_or] at z2
    exact of_decide_eq_true z2
  · rw [q, Bool.false_or] at z3
    exact of_decide_eq_true z3
theorem adds_eq {n : Nat} {S : List Bool} {s : List Nat} (h : n ≤ 6) (hs : s ∈ allS n) : addN n S (mk s) = addL n S s := by
  unfold addN addL restL
  rw [List.filter_filter]
  refine List.filter_congr fun k hk => ?_
  obtain ⟨b1, b2, _⟩ := bits_or h hs (List.mem_range.mp hk)
  rw [b1]
  cases z : s.contains k with
  | true => rw [Bool.not_true, Bool.false_and, Bool.and_false]
  | false => rw [b2 z, Bool.not_false, Bool.true_and, Bool.and_true]
theorem add_in {n : Nat} {S : List Bool} {s : List Nat} (h : n ≤ 6) : addL n S s ∈ allS n := by
  unfold addL restL
  rw [List.filter_filter]
  exact filt_in h _
/-- the sets held within things; those that can't grow there -/
def inL (n : Nat) (S : List Bool) (t : List Nat) : List (List Nat) := (famL n S).filter fun s => subL s t
def fuL (n : Nat) (S : List Bool) (t : List Nat) : List (List Nat) := (inL n S t).filter fun s => !metL (addL n S s) t
def lgL (n : Nat) (S : List Bool) (t : List Nat) : List Nat := (inL n S t).getLastD []
def smL (n : Nat) (S : List Bool) (t : List Nat) : List Nat := (fuL n S t).headD []
theorem nil_sub (t : List Nat) : subL [] t = true := rfl
theorem in_ne {n : Nat} {S : List Bool} {t : List Nat} (F : Fam n S) : [] ∈ inL n S t := List.mem_filter.mpr ⟨famL_mem.mpr ⟨nil_in F.n6, F.zero⟩, nil_sub t⟩
theorem lg_last {n : Nat} {S : List Bool} {t : List Nat} (F : Fam n S) : ∃ l, inL n S t = l ++ [lgL n S t] := by
  unfold lgL
  rcases List.eq_nil_or_concat (inL n S t) with e | ⟨l, v, e⟩
  · have := in_ne (t := t) F
    rw [e] at this
    cases this
  · exact ⟨l, by rw [e, List.concat_eq_append, List.getLastD_eq_getLast?, List.getLast?_append]; rfl⟩
theorem lg_mem {n : Nat} {S : List Bool} {t : List Nat} (F : Fam n S) : lgL n S t ∈ inL n S t := by
  obtain ⟨l, e⟩ := lg_last (t := t) F
  have : lgL n S t ∈ l ++ [lgL n S t] := List.mem_append_right _ List.mem_cons_self
  rwa [← e] at this
theorem lg_most {n : Nat} {S : List Bool} {t u : List Nat} (F : Fam n S) (hu : u ∈ inL n S t) : u.length ≤ (lgL n S t).length := by
  obtain ⟨l, e⟩ := lg_last (t := t) F
  have st := ((allS_strict F.n6).filter (fun s => In S (mk s))).filter (fun s => subL s t)
  have st : (inL n S t).Pairwise fun s t => leS s t = true ∧ leS t s = false ∧ s.length ≤ t.length := st
  rw [e] at st hu
  rcases List.mem_append.mp hu with m | m
  · exact ((List.pairwise_append.mp st).2.2 u m _ List.mem_cons_self).2.2
  · rw [List.mem_singleton.mp m]
    exact Nat.le_refl _
theorem lg_full {n : Nat} {S : List Bool} {t : List Nat} (F : Fam n S) (ht : t ∈ allS n) : lgL n S t ∈ fuL n S t := by
  have lm := lg_mem (t := t) F
  obtain ⟨l1, l2⟩ := List.mem_filter.mp lm
  obtain ⟨l3, l4⟩ := famL_mem.mp l1
  refine List.mem_filter.mpr ⟨lm, ?_⟩
  cases z : metL (addL n S (lgL n S t)) t with
  | false => rfl
  | true =>
    exfalso
    obtain ⟨g, hg, gt⟩ := List.any_eq_true.mp z
    obtain ⟨g1, g2⟩ := List.mem_filter.mp hg
    obtain ⟨g3, g4⟩ := rest_mem.mp g1
    obtain ⟨_, _, b3⟩ := bits_or F.n6 l3 (List.mem_range.mp g3)
    obtain ⟨c1, c2, c3, c4⟩ := b3 (by simpa using g4)
    have := lg_most (t := t) F (u := bits (mk (lgL n S t) + 2 ^ g)) (List.mem_filter.mpr ⟨famL_mem.mpr ⟨c2, by rw [c3]; exact g2⟩, c4 t ht l2 gt⟩)
    omega
theorem sm_head {n : Nat} {S : List Bool} {t : List Nat} (F : Fam n S) (ht : t ∈ allS n) : ∃ l, fuL n S t = smL n S t :: l := by
  unfold smL
  cases e : fuL n S t with
  | nil =>
    have := lg_full F ht
    rw [e] at this
    cases this
  | cons x l => exact ⟨l, rfl⟩
theorem sm_mem {n : Nat} {S : List Bool} {t : List Nat} (F : Fam n S) (ht : t ∈ allS n) : smL n S t ∈ fuL n S t := by
  obtain ⟨l, e⟩ := sm_head F ht
  rw [e]
  exact List.mem_cons_self
/-- the sets that the quotient keeps: (things, smaller, larger) -/
abbrev Q3 := List Nat × List Nat × List Nat
def qTurn (n : Nat) (S : List Bool) (o : Option Q3) (t : List Nat) : Option Q3 :=
  if lgL n S t = [] then o else match o with
  | none => some (t, smL n S t, lgL n S t)
  | some q => if (smL n S t).length * q.2.2.length < q.2.1.length * (lgL n S t).length then some (t, smL n S t, lgL n S t) else some q
def qRes (n : Nat) (S : List Bool) (i : Nat) : Option Q3 := ((allS n).take i).foldl (qTurn n S) none
def Q3ok (n : Nat) (S : List Bool) (q : Q3) : Prop := q.1 ∈ allS n ∧ q.2.1 = smL n S q.1 ∧ q.2.2 = lgL n S q.1 ∧ q.2.2 ≠ []
theorem q_next {n i : Nat} {S : List Bool} {t : List Nat} (h : (allS n)[i]? = some t) : qRes n S (i + 1) = qTurn n S (qRes n S i) t := by
  unfold qRes
  rw [List.take_add_one, h, List.foldl_append]
  rfl
theorem q_ok {n : Nat} {S : List Bool} : ∀ i, i ≤ (allS n).length → ∀ q, qRes n S i = some q → Q3ok n S q
  | 0, _, q, h => by cases h
  | i + 1, hi, q, h => by
    have e : (allS n)[i]? = some ((allS n)[i]'(by omega)) := List.getElem?_eq_getElem (by omega)
    rw [q_next e] at h
    have m := List.mem_of_getElem? e
    generalize (allS n)[i]'(by omega) = t at h m
    unfold qTurn at h
    split at h
    · exact q_ok i (by omega) q h
    · rename_i ne
      have new : Q3ok n S (t, smL n S t, lgL n S t) := ⟨m, rfl, rfl, ne⟩
      cases eo : qRes n S i with
      | none =>
        rw [eo] at h
        cases Option.some.inj h
        exact new
      | some q0 =>
        rw [eo] at h
        dsimp only at h
        split at h
        · cases Option.some.inj h
          exact new
        · cases Option.some.inj h
          exact q_ok i (by omega) _ eo
theorem lg_t {n : Nat} {S : List Bool} {t : List Nat} (F : Fam n S) (h : lgL n S t ≠ []) : t ≠ [] := fun e => by
  subst e
  have := (List.mem_filter.mp (lg_mem (t := []) F)).2
  cases z : lgL n S [] with
  | nil => exact h z
  | cons x l =>
    rw [z] at this
    unfold subL at this
    rw [List.all_cons] at this
    cases this
/-- fractions in lowest terms are compared as they are -/
theorem below_iff {a b c d : Nat} (hb : 0 < b) (hd : 0 < d) : (LN a b * LD c d < LN c d * LD a b) ↔ a * d < c * b := by
  have go : ∀ {x y : Nat}, 0 < y → ∃ g : Int, 0 < g ∧ (x : Int) = LN x y * g ∧ (y : Int) = LD x y * g := fun {x y} hy => by
    have e : gS (x : Int) (y : Int) = ((Nat.gcd x y : Nat) : Int) := if_neg (by omega)
    have gp : 0 < Nat.gcd x y := Nat.gcd_pos_of_pos_right _ hy
    unfold LN LD
    rw [e]
    have dx : ((Nat.gcd x y : Nat) : Int) ∣ (x : Int) := Int.natCast_dvd_natCast.mpr (Nat.gcd_dvd_left x y)
    have dy : ((Nat.gcd x y : Nat) : Int) ∣ (y : Int) := Int.natCast_dvd_natCast.mpr (Nat.gcd_dvd_right x y)
    refine ⟨((Nat.gcd x y : Nat) : Int), by omega, ?_, ?_⟩
    · rw [Int.fdiv_eq_ediv_of_dvd dx, Int.ediv_mul_cancel dx]
    · rw [Int.fdiv_eq_ediv_of_dvd dy, Int.ediv_mul_cancel dy]
  obtain ⟨g, g0, ga, gb⟩ := go (x := a) hb
  obtain ⟨k, k0, kc, kd⟩ := go (x := c) hd
  have z : ((a * d : Nat) : Int) = (LN a b * LD c d) * (g * k) := by
    rw [Int.natCast_mul, ga, kd, ← ga, ← kd]
    calc (a : Int) * (d : Int) = (LN a b * g) * (LD c d * k) := by rw [← ga, ← kd]
      _ = _ := by rw [Int.mul_assoc, Int.mul_left_comm g, ← Int.mul_assoc, ← Int.mul_assoc]
  have y : ((c * b : Nat) : Int) = (LN c d * LD a b) * (g * k) := by
    calc ((c * b : Nat) : Int) = (c : Int) * (b : Int) := Int.natCast_mul _ _
      _ = (LN c d * k) * (LD a b * g) := by rw [← kc, ← gb]
      _ = _ := by rw [Int.mul_assoc, Int.mul_left_comm k, Int.mul_comm k g, ← Int.mul_assoc]
  have gk : 0 < g * k := Int.mul_pos g0 k0
  constructor
  · intro h
    have := Int.mul_lt_mul_of_pos_right h gk
    rw [← z, ← y] at this
    omega
  · intro h
    refine Int.lt_of_mul_lt_mul_right (a := g * k) ?_ (Int.le_of_lt gk)
    rw [← z, ← y]
    omega

end K37
namespace K37
open PySem PySem.Spec PyProof.Rows L2 Own OwnSeq OwnSet OwnComb OwnSort OwnHot OwnExN OwnProj
local macro_rules | `(tactic| walk_at "rd") => `(tactic| simp only [tSeq, tAsg, tOp, tUn, tVar, gName, gSub, rIxL, rIxT, rSetL, tC, rI0, rI, rU, rEq, rNe, tCons, tNil, tCB, tLst, tTup, tIfS, tAnd, tOr, tNot, tAndV, tOrV, tNotV, tTest, tB, tIf, tRet, tDrop, tNext, tBreak, tCont, tCall, tCallS, L2.WE, tMakeS, rIsS, rIsB, tChain, gSeq, gRest, gCons, gNil, tFor_seq, tFor_enumS, tLc_seq, tLc_enumS, rAny, rAll, L2.tMeth, StX.tStar, rIn, tLstRg, tRg1, tRg2, rSetI, rSortedSet, rInDT, rInD, rNotInD, rEqD, rNeD, iComb, tFld, tMake, tMkO, sFld, tOst, tNever, tBits, clv, isB,
  Rd.tFor_rng1, Rd.tFor_rng2, Rd.tFor_list, Rd.tFor_tup, Rd.tLc_list, Rd.tLc_tup, Rd.tLc_rng1, Rd.LcTurn, tYes, wipe, Rd.rLenL, Rd.rLenT, Rd.rIntI, Rd.rIxH, rIxHT,  HO.tup.injEq, Rd.at0, Rd.at1, Rd.at2, Rd.at3, Rd.ixN40, Rd.ixN41, Rd.ixN42, Rd.ixN43, Rd.scal_ii, cxOf,
  List.length_cons, List.length_nil, List.length_map, List.map_cons, List.map_nil, upd_same, decide_eq_true_eq, decide_true, decide_false, if_true, if_false, Bool.false_eq_true, Bool.not_true, Bool.not_false, HO.lst.injEq, HO.ins.injEq, List.set_cons_zero, List.set_cons_succ, List.getElem?_cons_zero, List.getElem?_cons_succ, List.append_nil, List.nil_append, List.cons_append, Option.some.injEq, V.ref.injEq, V.int.injEq, V.bl.injEq, List.cons.injEq, exists_eq_left', exists_and_left, exists_eq_left, true_and, and_true, and_self, and_assoc, implies_true, reduceCtorEq, Nat.reduceAdd])

open OwnDcT
theorem u2 {k : Nat} {A : Around} (r : Room k A) : A.units + 2 < cLine := by have := r.un; omega
theorem u1 {k : Nat} {A : Around} (r : Room k A) : A.units + 1 < cLine := by have := r.un; omega
def DcL (J : It) (g : TG) (tk tv : TE) (vs : List Nat) (σ : L2.St) (H : Hp) (Q : VK) : Prop := tDcT (fun _ H1 R => R J H1) g tk tv vs σ H Q
theorem tDcT_seq {K : PySem.W.Frag} {te : TE} {g : TG} {tk tv : TE} {vs : List Nat} {σ : L2.St} {H : Hp} {Q : VK} : tDcT (iSeq K te) g tk tv vs σ H Q = te σ H (fun x H1 => ∃ a l xs, x = .ref a ∧ H1 a = some (sq l xs) ∧ DcL (if l = true then Itl K a else Itt K a) g tk tv vs σ H1 Q) := rfl
theorem dcl_goes {J : It} {S : Hp → Prop} {n : Nat} {y : Nat → Hp → V → Hp → Prop} {g : TG} {tk tv : TE} {vs : List Nat} {σ : L2.St} {H : Hp} {Q : VK} (G : Goes J S n y) (Pv : Addr → Nat → Hp → Prop) (h0 : ∀ D, H D = none → Pv D 0 (upd H D (.dT []))) (hl : ∀ D i H1, i ≤ n → Pv D i H1 → S H1)
    (hs : ∀ D i x H1 H', i < n → Pv D i H1 → y i H1 x H' → g x (wipe σ vs) H' fun σ2 H2 => wipe σ2 vs = wipe σ vs ∧ tk σ2 H2 fun yk H4 => tv σ2 H4 fun z H5 => ∃ kvs k b, yk = .ref b ∧ H5 b = some (.tup (k.map kV)) ∧ H5 D = some (.dT kvs) ∧ kvs.length < sizeLine ∧ Pv D (i + 1) (upd H5 D (.dT (putK kvs k z))))
    (hd : ∀ D H1, H D = none → Pv D n H1 → Q (.ref D) H1) : DcL J g tk tv vs σ H Q := fun D hD =>
  ⟨fun i m H => m = n - i ∧ i ≤ n ∧ Pv D i H, ⟨n, rfl, Nat.zero_le _, h0 D hD⟩, fun i m H1 ⟨e, hi, p⟩ => by
    subst e
    have q := hl D i H1 hi p
    rcases Nat.lt_or_eq_of_le hi with lt | eq
    · exact .inr ⟨G.go i H1 lt q, Pv D (i + 1), fun H' p' => ⟨n - (i + 1), by omega, rfl, lt, p'⟩, fun x H' z => hs D i x H1 H' lt p (G.yld i H1 x H' q z)⟩
    · subst eq
      exact .inl ⟨G.stop H1 q, hd D H1 hD p⟩⟩
/-- a set as a key -/
def ks (s : List Nat) : List Key := s.map fun (g : Nat) => (Sum.inl (g : Int) : Key)
theorem ks_iv (s : List Nat) : (ks s).map kV = iv s := by
  unfold ks iv
  rw [List.map_map]
  rfl
theorem ks_inj : ∀ {s t : List Nat}, ks s = ks t → s = t
  | [], [], _ => rfl
  | x :: s, y :: t, h => by
    unfold ks at h
    rw [List.map_cons, List.map_cons, List.cons.injEq, Sum.inl.injEq] at h
    obtain ⟨h1, h2⟩ := h
    rw [show x = y by omega, ks_inj (s := s) (t := t) h2]
  | [], _ :: _, h => by cases h
  | _ :: _, [], h => by cases h
/-- what can be added, by set -/
def Adds (H : Hp) (n : Nat) (S : List Bool) (kvs : List (List Key × V)) (s : List Nat) : Prop := ∃ r, valV kvs (ks s) = some (.ref r) ∧ H r = some (.tup (iv (addL n S s)))
theorem Adds.same {H H' : Hp} {n : Nat} {S : List Bool} {kvs : List (List Key × V)} {s : List Nat} (e : Same H H') : Adds H n S kvs s → Adds H' n S kvs s := fun ⟨r, a, b⟩ => ⟨r, a, e _ _ b⟩
/-- share and sets of what the quotient keeps -/
def fr (o : Option Q3) : Int × Int := match o with | none => (1, 1) | some q => (q.2.1.length, q.2.2.length)
def q3 (o : Option Q3) : Q3 := o.getD ([], [], [])
def QAt (C : Addr) (H : Hp) (r : Addr) (o : Option Q3) : Prop := ∃ p x y z, H r = some (.tup [.ref p, .ref x, .ref y, .ref z]) ∧ FrV C H p (LN (fr o).1 (fr o).2) (LD (fr o).1 (fr o).2) ∧ H x = some (.tup (iv (q3 o).1)) ∧ H y = some (.tup (iv (q3 o).2.1)) ∧ H z = some (.tup (iv (q3 o).2.2))
theorem QAt.same {C : Addr} {H H' : Hp} {r : Addr} {o : Option Q3} (e : Same H H') : QAt C H r o → QAt C H' r o := fun ⟨p, x, y, z, h1, h2, h3, h4, h5⟩ => ⟨p, x, y, z, e _ _ h1, h2.same e, e _ _ h3, e _ _ h4, e _ _ h5⟩
section
variable {P : Program} {w : World} {K : PySem.W.Frag} {mg : Str → Option Value} {base : Heap} {a : Ad}
theorem frac_new {C x dx : Addr} {H H' : Hp} {n d : Int} (hx : H x = none) (hdx : H dx = none) (h1 : H' x = some (.ins C dx (fq (LN n d) (LD n d)))) (h2 : ∀ b, b ≠ x → H' b = upd (upd H dx (.own x)) x (.ins C dx []) b) : FrV C H' x (LN n d) (LD n d) ∧ Same H H' :=
  ⟨⟨dx, h1⟩, fun b o e => by
    rw [h2 b (ne_of_none e hx), upd_ne (ne_of_none e hx), upd_ne (ne_of_none e hdx)]
    exact e⟩
theorem big6 {x : Nat} (h : x ≤ 6) : Big (x : Int) := Nat.lt_of_lt_of_le (show (x : Int).natAbs < 2 ^ 3 by rw [Int.natAbs_natCast]; omega) (Nat.pow_le_pow_right (by decide) (by decide))
theorem lows6 : ((List.range 7).all fun a => (List.range 7).all fun b => decide (b = 0) || (decide ((LN (a : Nat) (b : Nat)).natAbs ≤ 6) && decide ((LD (a : Nat) (b : Nat)).natAbs ≤ 6))) = true := by decide +kernel
theorem low6 {a b : Nat} (ha : a ≤ 6) (hb : b ≤ 6) (h : 0 < b) : Mid (LN a b) ∧ Mid (LD a b) := by
  have z := List.all_eq_true.mp (List.all_eq_true.mp lows6 a (List.mem_range.mpr (by omega))) b (List.mem_range.mpr (by omega))
  rw [decide_eq_false (by omega), Bool.false_or] at z
  obtain ⟨z1, z2⟩ := Bool.and_eq_true_iff.mp z
  have p : 2 ^ 3 ≤ 2 ^ 1900 := Nat.pow_le_pow_right (by decide) (by decide)
  exact ⟨Nat.lt_of_lt_of_le (Nat.lt_of_le_of_lt (of_decide_eq_true z1) (by decide)) p, Nat.lt_of_lt_of_le (Nat.lt_of_le_of_lt (of_decide_eq_true z2) (by decide)) p⟩
/-! ### quotient -/
def spQuo (CF C : Addr) : Sp := fun vs H Q _ => ∃ (f : Addr) (n : Nat) (S : List Bool), vs = [.ref f] ∧ FamV CF H f n S ∧ ∀ r H', Same H H' → QAt C H' r (qRes n S (allS n).length) → Q (.ref r) H'
theorem sc_quotient : FnScope ["family", "addable", "best", "things", "within", "large", "full", "share", "held"] ["family"] (defScope s_quotient) := ⟨rfl, rfl, rfl, by decide +kernel, rfl, by decide +kernel, by decide +kernel⟩
theorem ok_quotient (T : Txt K mg a) : FnOk P w K mg base CX0 4 a.a_quotient a.d_quotient ["family"] (spQuo a.C_Family a.C_Frac) := by
  refine T.fn_quotient.ok sc_quotient (fun vs H Q E h => ?_) (fun cdv A outer s H vs Q E hr h => ?_)
  · obtain ⟨f, n, S, rfl, _⟩ := h
    rfl
  · obtain ⟨f, n, S, rfl, F, k⟩ := h
    obtain ⟨b2d, b2v, b2b⟩ := b2 T
    refine ⟨_, (pss_cons (ps_set (i := 1) sc_quotient.nd rfl (Or.inr rfl) (OwnDcT.pe_dcT (u2 hr) (own := [("held", 8)]) (by rfl) sc_quotient.nd (pi_seq (pe_fldK K (pv 0))) (blkOk_by (own := [("held", 8)]) (N := ["family", "addable", "best", "things", "within", "large", "full", "share", "held"]) (sc := defScope s_quotient) (by decide +kernel)) (fun _ _ _ _ _ => pg_name (i := 8) sc_quotient.nd rfl (Or.inl rfl)) (fun _ _ _ _ _ => (pv 8)) (fun _ _ _ _ _ => (pe_meth (pv 0) T.cl_Family T.mt_Family_addable (ok_Family_addable T) (hr.mono (by decide)) T.b_Family_addable .nil pass0 (pa_cons (pv 8) pa_nil)))))
      (pss_cons (ps_set (i := 2) sc_quotient.nd rfl (Or.inl rfl) (pe_tup (pa_cons (pe_make T.mk_Frac (ok_Frac_init T) (hr.mono (by decide)) (by rfl) T.mg_Frac b2b b2v pass0 (pa_cons pe_int pa_nil)) (pa_cons (pe_tup pa_nil) (pa_cons (pe_tup pa_nil) (pa_cons (pe_tup pa_nil) pa_nil))))))
      (pss_cons (ps_for PassesOwn.never rfl (pi_list (pe_call (ok_all_sets T) (hr.mono (by decide)) (by rfl) T.mg_all_sets T.fn_all_sets.kp T.b_all_sets .nil pass0 (pa_cons (pe_fldK K (pv 0)) pa_nil))) (pg_name (i := 3) sc_quotient.nd rfl (Or.inr rfl))
        (pss_cons (ps_setLc (i := 4) (own := [("held", 8)]) (by rfl) sc_quotient.nd rfl rfl (sw_true rfl rfl rfl (by decide +kernel)) (pi_seq (pe_fldK K (pv 0))) (blkOk_by (own := [("held", 8)]) (N := ["family", "addable", "best", "things", "within", "large", "full", "share", "held"]) (sc := defScope s_quotient) (by decide +kernel)) (fun _ _ _ _ _ => pg_name (i := 8) sc_quotient.nd rfl (Or.inl rfl)) (fun _ _ _ _ _ => pts_one (pt_val (pe_call (ok_is_part T) (hr.mono (by decide)) (by rfl) T.mg_is_part T.fn_is_part.kp T.b_is_part .nil pass0 (pa_cons (pv 8) (pa_cons (pv 3) pa_nil))))) (fun _ _ _ _ _ => (pv 8)))
        (pss_cons (ps_set (i := 5) sc_quotient.nd rfl (Or.inl rfl) (pe_ix Rd.ixH (pv 4) (pe_un un_neg pe_int) (fun _ _ => rfl)))
        (pss_cons (ps_if (pt_cmpR (eqD_at K hr.units) (pv 5) (pe_tup pa_nil) (nomark _)) (pss_one ps_continue) pss_nil)
        (pss_cons (ps_setLc (i := 6) (own := [("held", 8)]) (by rfl) sc_quotient.nd rfl rfl (sw_true rfl rfl rfl (by decide +kernel)) (pi_list (pv 4)) (blkOk_by (own := [("held", 8)]) (N := ["family", "addable", "best", "things", "within", "large", "full", "share", "held"]) (sc := defScope s_quotient) (by decide +kernel)) (fun _ _ _ _ _ => pg_name (i := 8) sc_quotient.nd rfl (Or.inl rfl)) (fun _ _ _ _ _ => pts_one (pt_not (pt_val (pe_call (ok_touches T) (hr.mono (by decide)) (by rfl) T.mg_touches T.fn_touches.kp T.b_touches .nil pass0 (pa_cons (pe_dget (u1 hr) (pv 1) (pv 8) (fun _ _ => rfl)) (pa_cons (pv 3) pa_nil)))))) (fun _ _ _ _ _ => (pv 8)))
        (pss_cons (ps_set (i := 7) sc_quotient.nd rfl (Or.inl rfl) (pe_make T.mk_Frac (ok_Frac_init T) (hr.mono (by decide)) (by rfl) T.mg_Frac (b3 T) .nil pass0 (pa_cons (pe_callB (lenK K) (by rfl) T.no_len PySem.boot_len (pa_cons (pe_ix Rd.ixH (pv 6) pe_int (fun _ _ => rfl)) pa_nil)) (pa_cons (pe_callB (lenK K) (by rfl) T.no_len PySem.boot_len (pa_cons (pv 5) pa_nil)) pa_nil))))
        (pss_one (ps_if (PW.pt (pw_or (pt_cmpR (eqD_at K hr.units) (pe_ix ixHT (pv 2) pe_int (fun _ _ => rfl)) (pe_tup pa_nil) (nomark _)) (pw_or1 (pt_val (pe_meth (pv 7) T.cl_Frac T.mt_Frac_is_below (ok_Frac_is_below T) (hr.mono (by decide)) T.b_Frac_is_below .nil pass0 (pa_cons (pe_ix ixHT (pv 2) pe_int (fun _ _ => rfl)) pa_nil)))))) (pss_one (ps_set (i := 2) sc_quotient.nd rfl (Or.inl rfl) (pe_tup (pa_cons (pv 7) (pa_cons (pv 3) (pa_cons (pe_ix Rd.ixH (pv 6) pe_int (fun _ _ => rfl)) (pa_cons (pv 5) pa_nil))))))) pss_nil))))))))
      (pss_one (ps_ret (pv 2)))))), ?_⟩
    show (_ : TS) _ [some (V.ref f), none, none, none, none, none, none, none, none] H
    have n6 := F.fam.n6
    obtain ⟨dx, tp, ys, hf, ht, tv⟩ := F.ob
    have fl := famL_len (S := S) n6
    have yl := tv.len
    refine cut (fun σ H' => ∃ D kvs, σ = [some (V.ref f), some (V.ref D), none, none, none, none, none, none, none] ∧ Same H H' ∧ H' D = some (.dT kvs) ∧ ∀ s ∈ famL n S, Adds H' n S kvs s) (fun R hR => ?_) (fun σ H1 h => ?_)
    · walk_at "rd"
      simp only [tDcT_seq]
      walk_at "rd"
      refine ⟨_, dx, _, hf, T.cl_Family, T.na_Family_sets, _, ff_sets tp n, tp, rfl, false, _, ht, dcl_goes goes_seq (fun D i H5 => H D = none ∧ Same H H5 ∧ ∃ kvs, H5 D = some (.dT kvs) ∧ kvs.length ≤ i ∧ ∀ s ∈ (famL n S).take i, Adds H5 n S kvs s) (fun D hD => ⟨hD, same_upd hD, [], upd_same, Nat.le_refl _, fun _ h => by cases h⟩)
        (fun D i H5 _ h => h.2.1 _ _ ht) (fun D i x H5 H5' hi ⟨n5, e5, kvs, a5, kl, ad⟩ ⟨eq5, hx⟩ => ?_) (fun D H5 _ ⟨n5, e5, kvs, a5, kl, ad⟩ => ?_)⟩
      · subst eq5
        obtain ⟨s', hs, q, rfl, hq⟩ := tv.at hx
        have sm := List.mem_of_getElem? hs
        walk_at "rd"
        refine ⟨dx, _, e5 _ _ hf, ff_no tp n (by decide +kernel) (by decide +kernel), ?_⟩
        refine ⟨f, q, false, n, S, s', rfl, F.same e5, e5 _ _ hq, sm, fun r H6 r0 e6 hr6 => ?_⟩
        have a6 := e6 _ _ a5
        have nd : r ≠ D := fun z => by rw [z, a6] at hr6; cases hr6
        refine ⟨kvs, ks s', by rw [ks_iv]; exact e6 _ _ (e5 _ _ hq), a6, small (by omega), n5, fun b o hb => (upd_ne (ne_of_none hb n5)).trans (e6 _ _ (e5 _ _ hb)), _, rfl, Nat.le_trans (length_putK _ _ _) (by omega), fun u hu => ?_⟩
        rw [List.take_add_one, hs] at hu
        by_cases e : u = s'
        · subst e
          exact ⟨r, by rw [valV_put, if_pos rfl], (upd_ne nd).trans hr6⟩
        · rcases List.mem_append.mp hu with m | m
          · obtain ⟨r', v', h'⟩ := ad u m
            refine ⟨r', by rw [valV_put, if_neg (fun z => e (ks_inj z))]; exact v', (upd_ne fun z => ?_).trans (e6 _ _ h')⟩
            rw [z, a5] at h'
            cases h'
          · exact absurd (List.mem_singleton.mp m) e
      · rw [yl, List.take_length] at ad
        exact hR _ _ ⟨D, kvs, rfl, e5, a5, ad⟩
    obtain ⟨D, kvs, rfl, e1, hD, ad⟩ := h
    refine cut (fun σ H' => ∃ r, σ = [some (V.ref f), some (V.ref D), some (V.ref r), none, none, none, none, none, none] ∧ Same H1 H' ∧ QAt a.C_Frac H' r none) (fun R hR => ?_) (fun σ H2 h => ?_)
    · walk_at "rd"
      refine fun p dp p0 dp0 ne => ⟨p, dp, 1, 1, rfl, upd_same, by decide, by decide, by decide, fun H2 h1 h2 => ?_⟩
      obtain ⟨fp, e2⟩ := frac_new p0 dp0 h1 h2
      refine ⟨rfl, Nat.zero_le _, fun x hx => ⟨Nat.zero_le _, fun y hy => ⟨Nat.zero_le _, fun z hz => ⟨by decide, fun r hr => ?_⟩⟩⟩⟩
      have ex := same_upd (o := .tup []) hx
      have ey := same_upd (o := .tup []) hy
      have ez := same_upd (o := .tup []) hz
      have er := same_upd (o := .tup [V.ref p, V.ref x, V.ref y, V.ref z]) hr
      exact hR _ _ ⟨r, rfl, ((((e2.trans ex).trans ey).trans ez).trans er), p, x, y, z, upd_same, fp.same ((((ex).trans ey).trans ez).trans er), ((ey.trans ez).trans er) _ _ upd_same, (ez.trans er) _ _ upd_same, er _ _ upd_same⟩
    obtain ⟨r, rfl, e2, q2⟩ := h
    walk_at "rd"
    have e02 := e1.trans e2
    refine ⟨_, dx, _, e02 _ _ hf, T.cl_Family, T.na_Family_size, _, ff_size tp n, n, rfl, n6, fun q us H3 q0 e3 hq tu => ⟨q, rfl, ⟨_, SqL.of hq⟩, ?_⟩⟩
    have e03 := e02.trans e3
    have ul := tu.len
    have hD3 := e3 _ _ (e2 _ _ hD)
    refine Rd.loop_listC (xs := us) (fun σ H' => ∃ r o3 o4 o5 o6 o7, σ = [some (V.ref f), some (V.ref D), some (V.ref r), o3, o4, o5, o6, o7, none] ∧ Same H3 H' ∧ QAt a.C_Frac H' r (qRes n S (allS n).length))
      (fun i σ H' => ∃ r o3 o4 o5 o6 o7, σ = [some (V.ref f), some (V.ref D), some (V.ref r), o3, o4, o5, o6, o7, none] ∧ Same H3 H' ∧ QAt a.C_Frac H' r (qRes n S i))
      ⟨r, none, none, none, none, none, rfl, Same.refl _, q2.same e3⟩ (fun i σ H' _ ⟨_, _, _, _, _, _, _, h, _⟩ => SqL.of (h _ _ hq)) ?_ (fun σ H' ⟨r, o3, o4, o5, o6, o7, q1, q2, q3⟩ => ⟨r, o3, o4, o5, o6, o7, q1, q2, by rw [ul] at q3; exact q3⟩) ?_
    · rintro bk hbk i x σ H4 hx ⟨r, o3, o4, o5, o6, o7, rfl, e4, qr⟩
      obtain ⟨t, ht', q', rfl, hq'⟩ := (tu.same e4).at hx
      have tm := List.mem_of_getElem? ht'
      have e04 := e03.trans e4
      refine cut (fun σ H' => ∃ W ws, σ = [some (V.ref f), some (V.ref D), some (V.ref r), some (V.ref q'), some (V.ref W), o5, o6, o7, none] ∧ Same H4 H' ∧ H' W = some (.lst ws) ∧ Tups H' ws (inL n S t)) (fun R hR => ?_) (fun σ H5 h => ?_)
      · walk_at "rd"
        refine ⟨_, dx, _, e04 _ _ hf, T.cl_Family, T.na_Family_sets, _, ff_sets tp n, tp, rfl, false, _, e04 _ _ ht, lcl_goes goes_seq (fun D5 i H5 => H4 D5 = none ∧ Same H4 H5 ∧ ∃ ws, H5 D5 = some (.lst ws) ∧ Tups H5 ws (((famL n S).take i).filter fun s => subL s t)) (fun D5 hD5 => ⟨hD5, same_upd hD5, [], upd_same, trivial⟩)
          (fun D5 i H5 _ h => h.2.1 _ _ (e04 _ _ ht)) (fun D5 i x H5 H5' hi ⟨n5, e5, ws, a5, tw⟩ ⟨eq5, hx⟩ => ?_) (fun D5 H5 _ ⟨n5, e5, ws, a5, tw⟩ => ?_)⟩
        · subst eq5
          obtain ⟨s', hs, q6, rfl, hq6⟩ := (tv.same (e04.trans e5)).at hx
          have sm := List.mem_of_getElem? hs
          have wl := tw.len
          have fll := List.length_filter_le (fun s => subL s t) ((famL n S).take i)
          rw [List.length_take] at fll
          have s6 : s'.length ≤ 6 := Nat.le_trans (allS_at (famL_mem.mp sm).1 n6).2.2.2.1 n6
          walk_at "rd"
          rw [List.take_add_one, hs, List.filter_append]
          refine ⟨q6, q', false, false, s', t, rfl, hq6, e5 _ _ hq', s6, fun H6 e6 => ⟨_, rfl, ite2 (fun h => ⟨_, e6 _ _ a5, small (by omega), n5, fun b o hb => (upd_ne (ne_of_none hb n5)).trans (e6 _ _ (e5 _ _ hb)), ?_⟩) (fun h => ⟨n5, e5.trans e6, ws, e6 _ _ a5, ?_⟩)⟩⟩
          · rw [show (some s').toList = [s'] from rfl, List.filter_cons_of_pos (p := fun s => subL s t) h]
            exact Tups.upd (e6 _ _ a5) (Tups.app (tw.same e6) ⟨⟨q6, rfl, e6 _ _ hq6⟩, trivial⟩)
          · rw [show (some s').toList = [s'] from rfl, List.filter_cons_of_neg (p := fun s => subL s t) h, List.filter_nil, List.append_nil]
            exact tw.same e6
        · rw [yl, List.take_length] at tw
          exact hR _ _ ⟨D5, ws, rfl, e5, a5, tw⟩
      obtain ⟨W, ws, rfl, e5, hW, tw⟩ := h
      obtain ⟨li, el⟩ := lg_last (t := t) F.fam
      have wl := tw.len
      have il := List.length_filter_le (fun s => subL s t) (famL n S)
      have il : (inL n S t).length ≤ (famL n S).length := il
      obtain ⟨wi, v, rfl⟩ : ∃ wi v, ws = wi ++ [v] := by
        rcases List.eq_nil_or_concat ws with e | ⟨wi, v, e⟩
        · rw [e, el, List.length_append] at wl
          exact absurd wl (by show ¬ 0 = _ + 1; omega)
        · exact ⟨wi, v, by rw [e, List.concat_eq_append]⟩
      have hlg : ∃ ql, v = .ref ql ∧ H5 ql = some (.tup (iv (lgL n S t))) := by
        obtain ⟨g, hg, ql, e, h⟩ := tw.at (i := wi.length) (x := v) (by rw [List.getElem?_append_right (Nat.le_refl _), Nat.sub_self]; rfl)
        rw [el] at hg wl
        rw [List.length_append, List.length_append] at wl
        rw [show wi.length = li.length from Nat.succ.inj wl, List.getElem?_append_right (Nat.le_refl _), Nat.sub_self] at hg
        cases Option.some.inj hg
        exact ⟨ql, e, h⟩
      obtain ⟨ql, rfl, hql⟩ := hlg
      have nx := q_next (S := S) ht'
      have lm := List.mem_filter.mp (lg_mem (t := t) F.fam)
      have la := allS_at (famL_mem.mp lm.1).1 n6
      walk_at "rd"
      refine ⟨_, hW, _, atI_last _ _, Nat.zero_le _, fun u hu => ?_⟩
      have e6 := same_upd (o := .tup []) hu
      refine ⟨_, dp_set (e6 _ _ hql), _, dp_set (s := []) upd_same, sh_set _, sh_set _, ?_⟩
      rw [eqv_set]
      have u6 := upd_same (H := H5) (a := u) (o := .tup [])
      generalize upd H5 u (.tup []) = H6 at e6 u6 ⊢
      have e36 := (e4.trans e5).trans e6
      refine ite2 (fun h => ⟨e36, ?_⟩) (fun h => ?_)
      · rw [nx]
        unfold qTurn
        rw [if_pos (of_decide_eq_true h)]
        exact qr.same (e5.trans e6)
      · have h : lgL n S t ≠ [] := fun z => h (decide_eq_true z)
        refine ⟨⟨_, SqL.of (e6 _ _ hW)⟩, ?_⟩
        refine Rd.lcl_list (xs := wi ++ [V.ref ql]) (fun D7 i H7 => H6 D7 = none ∧ Same H6 H7 ∧ ∃ fs, H7 D7 = some (.lst fs) ∧ Tups H7 fs (((inL n S t).take i).filter fun s => !metL (addL n S s) t)) (fun D7 hD7 => ⟨hD7, same_upd hD7, [], upd_same, trivial⟩) (fun D7 i H7 _ z => SqL.of (z.2.1 _ _ (e6 _ _ hW))) (fun D7 i x H7 hx ⟨n7, e7, fs, a7, tf⟩ => ?_) (fun D7 H7 _ ⟨n7, e7, fs, a7, tf⟩ => ?_)
        · obtain ⟨s', hs, q6, rfl, hq6⟩ := (tw.same (e6.trans e7)).at hx
          have sm := (List.mem_filter.mp (List.mem_of_getElem? hs)).1
          have fl := tf.len
          have fll := List.length_filter_le (fun s => !metL (addL n S s) t) ((inL n S t).take i)
          rw [List.length_take] at fll
          walk_at "rd"
          simp only [tDGet]
          walk_at "rd"
          rw [List.take_add_one, hs, List.filter_append]
          obtain ⟨ra, va, ha⟩ := (ad s' sm).same (((e2.trans e3).trans e36).trans e7)
          have al := add_len n S s'
          refine ⟨_, by rw [← va]; exact DGet.t (((e36.trans e7)) _ _ hD3) (by rw [ks_iv]; exact hq6), ?_⟩
          refine ⟨ra, q', false, false, addL n S s', t, rfl, ha, ((e5.trans e6).trans e7) _ _ hq', by omega, fun H8 e8 => ⟨_, rfl, ite2 (fun h => ⟨_, e8 _ _ a7, small (by omega), n7, fun b o hb => (upd_ne (ne_of_none hb n7)).trans (e8 _ _ (e7 _ _ hb)), ?_⟩) (fun h => ⟨n7, e7.trans e8, fs, e8 _ _ a7, ?_⟩)⟩⟩
          · rw [show (some s').toList = [s'] from rfl, List.filter_cons_of_pos (p := fun s => !metL (addL n S s) t) h]
            exact Tups.upd (e8 _ _ a7) (Tups.app (tf.same e8) ⟨⟨q6, rfl, e8 _ _ hq6⟩, trivial⟩)
          · rw [show (some s').toList = [s'] from rfl, List.filter_cons_of_neg (p := fun s => !metL (addL n S s) t) h, List.filter_nil, List.append_nil]
            exact tf.same e8
        · have wl2 : (wi ++ [V.ref ql]).length = (inL n S t).length := wl
          rw [wl2, List.take_length] at tf
          obtain ⟨fl', ef⟩ := sm_head F.fam tm
          have tf : Tups H7 fs (fuL n S t) := tf
          obtain ⟨v0, hv0⟩ : ∃ v0, fs[0]? = some v0 := ⟨_, List.getElem?_eq_getElem (by rw [tf.len, ef]; exact Nat.succ_pos _)⟩
          obtain ⟨g, hg, qs, rfl, hqs⟩ := tf.at hv0
          rw [ef] at hg
          cases Option.some.inj (show some (smL n S t) = some g from hg)
          have sa := allS_at (famL_mem.mp (List.mem_filter.mp (List.mem_filter.mp (sm_mem F.fam tm)).1).1).1 n6
          refine ⟨D7, rfl, _, a7, _, atI_nat hv0, qs, rfl, _, .inr (SqT.of hqs), ql, rfl, _, .inr (SqT.of (e7 _ _ (e6 _ _ hql))), fun p dp p0 dp0 ne => ?_⟩
          rw [iv_len, iv_len]
          have lp : 0 < (lgL n S t).length := List.length_pos_iff.mpr h
          refine ⟨p, dp, _, _, rfl, upd_same, by omega, ?_, ?_, fun H8 h1 h2 => ?_⟩
          · exact big6 (Nat.le_trans sa.2.2.2.1 n6)
          · exact big6 (Nat.le_trans la.2.2.2.1 n6)
          · obtain ⟨fp, e8⟩ := frac_new p0 dp0 h1 h2
            refine ⟨rfl, ?_⟩
            obtain ⟨pb, xb, yb, zb, b1, b2, b3, b4, b5⟩ := qr.same (((e5.trans e6).trans e7).trans e8)
            refine ⟨_, b1, _, Rd.at1, Nat.zero_le _, fun u9 hu9 => ?_⟩
            have e9 := same_upd (o := .tup []) hu9
            refine ⟨_, dp_set (e9 _ _ b3), _, dp_set (s := []) upd_same, sh_set _, sh_set _, ?_⟩
            rw [eqv_set]
            generalize upd H8 u9 (.tup []) = H9 at e9 ⊢
            have e79 := e8.trans e9
            have e39 := (e36.trans e7).trans e79
            have put : qRes n S (i + 1) = some (t, smL n S t, lgL n S t) → ∃ p_1, V.ref D7 = V.ref p_1 ∧ ∃ x, H9 p_1 = some (HO.lst x) ∧ ∃ x_1, atI x 0 = some x_1 ∧ 4 ≤ sizeLine ∧ ∀ (p_2 : Addr), H9 p_2 = none → Same H3 (upd H9 p_2 (HO.tup [V.ref p, V.ref q', x_1, V.ref ql])) ∧ QAt a.C_Frac (upd H9 p_2 (HO.tup [V.ref p, V.ref q', x_1, V.ref ql])) p_2 (qRes n S (i + 1)) := fun eq => by
              refine ⟨D7, rfl, _, e79 _ _ a7, _, atI_nat hv0, by decide, fun p2 hp2 => ?_⟩
              have e10 := same_upd (o := .tup [V.ref p, V.ref q', V.ref qs, V.ref ql]) hp2
              rw [eq]
              exact ⟨e39.trans e10, p, q', qs, ql, upd_same, fp.same (e9.trans e10), (((e5.trans e6).trans e7).trans (e79.trans e10)) _ _ hq', (e79.trans e10) _ _ hqs, ((e6.trans e7).trans (e79.trans e10)) _ _ hql⟩
            have qt : qRes n S (i + 1) = qTurn n S (qRes n S i) t := nx
            unfold qTurn at qt
            rw [if_neg h] at qt
            have ilt : i < (allS n).length := (List.getElem?_eq_some_iff.mp ht').1
            cases eo : qRes n S i with
            | none =>
              rw [eo] at qt
              rw [if_pos (by rfl)]
              exact put qt
            | some q0 =>
              rw [eo] at qt b2 b3 b4 b5
              obtain ⟨k1, k2, k3, k4⟩ := q_ok i (Nat.le_of_lt ilt) q0 eo
              have n0 : q0.1 ≠ [] := lg_t F.fam (by rw [← k3]; exact k4)
              rw [if_neg (show ¬ decide ((q3 (some q0)).fst = []) = true from fun z => n0 (of_decide_eq_true z))]
              have sb := allS_at (famL_mem.mp (List.mem_filter.mp (List.mem_filter.mp (sm_mem F.fam k1)).1).1).1 n6
              have lb := allS_at (famL_mem.mp (List.mem_filter.mp (lg_mem (t := q0.1) F.fam)).1).1 n6
              rw [← k2] at sb
              rw [← k3] at lb
              have lp0 : 0 < q0.2.2.length := List.length_pos_iff.mpr k4
              obtain ⟨m1, m2⟩ := low6 (Nat.le_trans sa.2.2.2.1 n6) (Nat.le_trans la.2.2.2.1 n6) lp
              obtain ⟨m3, m4⟩ := low6 (Nat.le_trans sb.2.2.2.1 n6) (Nat.le_trans lb.2.2.2.1 n6) lp0
              obtain ⟨dx9, hp9⟩ := fp.same e9
              refine ⟨_, _, hp9, fq_no _ _ (by decide +kernel) (by decide +kernel), _, e9 _ _ b1, _, Rd.at0, p, pb, _, _, _, _, rfl, ⟨dx9, hp9⟩, b2.same e9, m1, m2, m3, m4, _, rfl, ?_⟩
              refine ite2 (fun z => put ?_) (fun z => ⟨e39, ?_⟩)
              · rw [qt]
                exact if_pos ((below_iff lp lp0).mp (of_decide_eq_true z))
              · rw [qt]
                dsimp only
                rw [if_neg (fun y => z (decide_eq_true ((below_iff lp lp0).mpr y))), ← eo]
                exact qr.same (((e5.trans e6).trans e7).trans e79)
    · rintro σ H4 ⟨r, o3, o4, o5, o6, o7, rfl, e4, qr⟩
      walk_at "rd"
      exact k r H4 (e03.trans e4) qr
end

end K37
namespace K37
open PySem PySem.Spec PyProof.Rows L2 Own OwnSeq OwnSet OwnComb OwnSort OwnHot OwnExN OwnProj
local macro_rules | `(tactic| walk_at "rd") => `(tactic| simp only [tSeq, tAsg, tOp, tUn, tVar, gName, gSub, rIxL, rIxT, rSetL, tC, rI0, rI, rU, rEq, rNe, tCons, tNil, tCB, tLst, tTup, tIfS, tAnd, tOr, tNot, tAndV, tOrV, tNotV, tTest, tB, tIf, tRet, tDrop, tNext, tBreak, tCont, tCall, tCallS, L2.WE, tMakeS, rIsS, rIsB, tChain, gSeq, gRest, gCons, gNil, tFor_seq, tFor_enumS, tLc_seq, tLc_enumS, rAny, rAll, L2.tMeth, StX.tStar, rIn, tLstRg, tRg1, tRg2, rSetI, rSortedSet, rInDT, rInD, rNotInD, rEqD, rNeD, iComb, tFld, tMake, tMkO, sFld, tOst, tNever, tBits, clv, isB,
  Rd.tFor_rng1, Rd.tFor_rng2, Rd.tFor_list, Rd.tFor_tup, Rd.tLc_list, Rd.tLc_tup, Rd.tLc_rng1, Rd.LcTurn, tYes, wipe, Rd.rLenL, Rd.rLenT, Rd.rIntI, Rd.rIxH, rIxHT,  HO.tup.injEq, Rd.at0, Rd.at1, Rd.at2, Rd.at3, Rd.ixN40, Rd.ixN41, Rd.ixN42, Rd.ixN43, Rd.scal_ii, cxOf,
  List.length_cons, List.length_nil, List.length_map, List.map_cons, List.map_nil, upd_same, decide_eq_true_eq, decide_true, decide_false, if_true, if_false, Bool.false_eq_true, Bool.not_true, Bool.not_false, HO.lst.injEq, HO.ins.injEq, List.set_cons_zero, List.set_cons_succ, List.getElem?_cons_zero, List.getElem?_cons_succ, List.append_nil, List.nil_append, List.cons_append, Option.some.injEq, V.ref.injEq, V.int.injEq, V.bl.injEq, List.cons.injEq, exists_eq_left', exists_and_left, exists_eq_left, true_and, and_true, and_self, and_assoc, implies_true, reduceCtorEq, Nat.reduceAdd])

/-! ### lowest terms -/
theorem gS_abs (n d : Int) : (gS n d).natAbs = Nat.gcd n.natAbs d.natAbs := by
  unfold gS
  split
  · rw [Int.natAbs_neg, Int.natAbs_natCast]
  · rw [Int.natAbs_natCast]
theorem gS_ne {n d : Int} (h : d ≠ 0) : gS n d ≠ 0 := fun z => by
  have a := gS_abs n d
  have p := gcd_pos (n := n) h
  rw [z] at a
  simp at a
  omega
theorem gS_n (n d : Int) : gS n d ∣ n := Int.natAbs_dvd_natAbs.mp (by rw [gS_abs]; exact Nat.gcd_dvd_left _ _)
theorem gS_d (n d : Int) : gS n d ∣ d := Int.natAbs_dvd_natAbs.mp (by rw [gS_abs]; exact Nat.gcd_dvd_right _ _)
theorem LN_eq {n d : Int} (h : d ≠ 0) : n = gS n d * LN n d := by
  obtain ⟨q, e⟩ := gS_n n d
  have g0 := gS_ne (n := n) h
  unfold LN
  generalize gS n d = g at *
  subst e
  rw [Int.mul_fdiv_cancel_left _ g0]
theorem LD_eq {n d : Int} (h : d ≠ 0) : d = gS n d * LD n d := by
  obtain ⟨q, e⟩ := gS_d n d
  have g0 := gS_ne (n := n) h
  unfold LD
  generalize gS n d = g at *
  subst e
  rw [Int.mul_fdiv_cancel_left _ g0]
theorem gS_neg {n d : Int} (h : d < 0) : gS n d < 0 := by
  have a := gS_abs n d
  have p := gcd_pos (n := n) (d := d) (by omega)
  unfold gS at *
  rw [if_pos h] at *
  omega
theorem gS_pos {n d : Int} (h : 0 < d) : 0 < gS n d := by
  have a := gS_abs n d
  have p := gcd_pos (n := n) (d := d) (by omega)
  unfold gS at *
  rw [if_neg (show ¬ d < 0 by omega)] at *
  omega
theorem LD_pos {n d : Int} (h : d ≠ 0) : 0 < LD n d := by
  have e := LD_eq (n := n) h
  rcases Int.lt_or_gt_of_ne h with z | z
  · have g := gS_neg (n := n) z
    generalize gS n d = g' at *
    generalize LD n d = l at *
    rcases Int.lt_trichotomy l 0 with c | c | c
    · have := Int.mul_pos_of_neg_of_neg g c
      omega
    · rw [c] at e; omega
    · exact c
  · have g := gS_pos (n := n) z
    generalize gS n d = g' at *
    generalize LD n d = l at *
    rcases Int.lt_trichotomy l 0 with c | c | c
    · have := Int.mul_neg_of_pos_of_neg g c
      omega
    · rw [c] at e; omega
    · exact c
theorem gS_mul {k n d : Int} (hk : k ≠ 0) (hd : d ≠ 0) : gS (k * n) (k * d) = k * gS n d := by
  have ab : Nat.gcd (k * n).natAbs (k * d).natAbs = k.natAbs * Nat.gcd n.natAbs d.natAbs := by rw [Int.natAbs_mul, Int.natAbs_mul, Nat.gcd_mul_left]
  unfold gS
  rw [ab, Int.natCast_mul]
  generalize ((Nat.gcd n.natAbs d.natAbs : Nat) : Int) = g
  rcases Int.lt_or_gt_of_ne hk with hk | hk <;> rcases Int.lt_or_gt_of_ne hd with hd | hd
  · rw [if_neg (by have := Int.mul_pos_of_neg_of_neg hk hd; omega), if_pos hd, show (k.natAbs : Int) = -k by omega, Int.neg_mul, Int.mul_neg]
  · rw [if_pos (Int.mul_neg_of_neg_of_pos hk hd), if_neg (by omega), show (k.natAbs : Int) = -k by omega, Int.neg_mul, Int.neg_neg]
  · rw [if_pos (Int.mul_neg_of_pos_of_neg hk hd), if_pos hd, show (k.natAbs : Int) = k by omega, Int.mul_neg]
  · rw [if_neg (by have := Int.mul_pos hk hd; omega), if_neg (by omega), show (k.natAbs : Int) = k by omega]
theorem LN_mul {k n d : Int} (hk : k ≠ 0) (hd : d ≠ 0) : LN (k * n) (k * d) = LN n d := by
  have e := LN_eq (n := n) hd
  have g0 := gS_ne (n := n) hd
  show (k * n).fdiv (gS (k * n) (k * d)) = LN n d
  rw [gS_mul hk hd]
  generalize LN n d = l at *
  generalize gS n d = g at *
  rw [e, ← Int.mul_assoc, Int.mul_fdiv_cancel_left _ (Int.mul_ne_zero hk g0)]
theorem LD_mul {k n d : Int} (hk : k ≠ 0) (hd : d ≠ 0) : LD (k * n) (k * d) = LD n d := by
  have e := LD_eq (n := n) hd
  have g0 := gS_ne (n := n) hd
  show (k * d).fdiv (gS (k * n) (k * d)) = LD n d
  rw [gS_mul hk hd]
  generalize LD n d = l at *
  generalize gS n d = g at *
  rw [e, ← Int.mul_assoc, Int.mul_fdiv_cancel_left _ (Int.mul_ne_zero hk g0)]
theorem low_mul {k n d n' d' : Int} (hk : k ≠ 0) (hd : d ≠ 0) (hn : n' = k * n) (hd' : d' = k * d) : LN n d = LN n' d' ∧ LD n d = LD n' d' := by
  subst hn hd'
  exact ⟨(LN_mul hk hd).symm, (LD_mul hk hd).symm⟩
theorem LN_LN {n d : Int} (h : 0 < d) : LN (LN n d) (LD n d) = LN n d := by
  have h0 : d ≠ 0 := by omega
  have z := LN_mul (k := gS n d) (n := LN n d) (d := LD n d) (gS_ne h0) (Int.ne_of_gt (LD_pos h0))
  rw [← LN_eq h0, ← LD_eq h0] at z
  exact z.symm
theorem LD_LD {n d : Int} (h : 0 < d) : LD (LN n d) (LD n d) = LD n d := by
  have h0 : d ≠ 0 := by omega
  have z := LD_mul (k := gS n d) (n := LN n d) (d := LD n d) (gS_ne h0) (Int.ne_of_gt (LD_pos h0))
  rw [← LN_eq h0, ← LD_eq h0] at z
  exact z.symm
theorem LN_one (n : Int) : LN n 1 = n := by
  have z := LN_eq (n := n) (d := 1) (by decide)
  have g : gS n 1 = 1 := by
    unfold gS
    rw [if_neg (by decide), show (1 : Int).natAbs = 1 from rfl, Nat.gcd_one_right]
    rfl
  rw [g, Int.one_mul] at z
  exact z.symm
theorem LD_one (n : Int) : LD n 1 = 1 := by
  have z := LD_eq (n := n) (d := 1) (by decide)
  have g : gS n 1 = 1 := by
    unfold gS
    rw [if_neg (by decide), show (1 : Int).natAbs = 1 from rfl, Nat.gcd_one_right]
    rfl
  rw [g, Int.one_mul] at z
  exact z.symm
theorem abs_le_mul {g l : Int} (h : g ≠ 0) : l.natAbs ≤ (g * l).natAbs := by
  rw [Int.natAbs_mul]
  exact Nat.le_mul_of_pos_left _ (by omega)
theorem LN_le {n d : Int} (h : d ≠ 0) : (LN n d).natAbs ≤ n.natAbs := by
  have z := abs_le_mul (g := gS n d) (l := LN n d) (gS_ne h)
  rwa [← LN_eq h] at z
theorem LD_le {n d : Int} (h : d ≠ 0) : (LD n d).natAbs ≤ d.natAbs := by
  have z := abs_le_mul (g := gS n d) (l := LD n d) (gS_ne h)
  rwa [← LD_eq h] at z
theorem LN_pos {n d : Int} (h : 0 < d) : 0 < LN n d ↔ 0 < n := by
  have e := LN_eq (n := n) (d := d) (by omega)
  have g := gS_pos (n := n) h
  constructor
  · intro z
    rw [e]
    exact Int.mul_pos g z
  · intro z
    rw [e] at z
    exact Int.pos_of_mul_pos_right z g
theorem low_lt {a b c d : Int} (hb : 0 < b) (hd : 0 < d) : (LN a b * LD c d < LN c d * LD a b) ↔ a * d < c * b := by
  have ga := LN_eq (n := a) (d := b) (by omega)
  have gb := LD_eq (n := a) (d := b) (by omega)
  have kc := LN_eq (n := c) (d := d) (by omega)
  have kd := LD_eq (n := c) (d := d) (by omega)
  have g0 := gS_pos (n := a) hb
  have k0 := gS_pos (n := c) hd
  generalize gS a b = g at *
  generalize gS c d = k at *
  have gk : 0 < g * k := Int.mul_pos g0 k0
  have z : a * d = (LN a b * LD c d) * (g * k) := by
    calc a * d = (g * LN a b) * (k * LD c d) := by rw [← ga, ← kd]
      _ = _ := by rw [Int.mul_comm g, Int.mul_comm k, Int.mul_assoc, Int.mul_left_comm g, ← Int.mul_assoc, ← Int.mul_assoc]
  have y : c * b = (LN c d * LD a b) * (g * k) := by
    calc c * b = (k * LN c d) * (g * LD a b) := by rw [← kc, ← gb]
      _ = _ := by rw [Int.mul_comm k, Int.mul_comm g (LD a b), Int.mul_assoc, Int.mul_left_comm k, Int.mul_comm k g, ← Int.mul_assoc]
  rw [z, y]
  exact ⟨fun h => Int.mul_lt_mul_of_pos_right h gk, fun h => Int.lt_of_mul_lt_mul_right h (Int.le_of_lt gk)⟩
/-! ### weights -/
abbrev Wt := Option (Int × Int)
abbrev Wd (x : Int) : Prop := x.natAbs < 2 ^ 140
def WOk (o : Wt) : Prop := ∀ n d, o = some (n, d) → 0 < d ∧ Wd n ∧ Wd d
theorem Wd.big {x : Int} (h : Wd x) : Big x := Nat.lt_of_lt_of_le h (Nat.pow_le_pow_right (by decide) (by decide))
theorem Wd.mid {x : Int} (h : Wd x) : Mid x := Nat.lt_of_lt_of_le h (Nat.pow_le_pow_right (by decide) (by decide))
/-- a weight as the law hands it over -/
def WV (C : Addr) (H : Hp) (v : V) (o : Wt) : Prop := match o with
  | none => v = .non
  | some (n, d) => (v = .int n ∧ d = 1) ∨ ∃ p, v = .ref p ∧ FrV C H p (LN n d) (LD n d)
theorem WV.same {C : Addr} {H H' : Hp} {v : V} {o : Wt} (e : Same H H') (h : WV C H v o) : WV C H' v o := by
  cases o with
  | none => exact h
  | some q =>
    rcases h with h | ⟨p, h1, h2⟩
    · exact .inl h
    · exact .inr ⟨p, h1, h2.same e⟩
/-- weights in a list or a tuple -/
structure WsV (C : Addr) (H : Hp) (l : Bool) (p : Addr) (ws : List Wt) : Prop where
  ok : ∀ o ∈ ws, WOk o
  ob : ∃ vs : List V, H p = some (sq l vs) ∧ vs.length = ws.length ∧ ∀ (i : Nat) (v : V) (o : Wt), vs[i]? = some v → ws[i]? = some o → WV C H v o
theorem WsV.same {C : Addr} {H H' : Hp} {l : Bool} {p : Addr} {ws : List Wt} (e : Same H H') (W : WsV C H l p ws) : WsV C H' l p ws :=
  let ⟨vs, a, b, c⟩ := W.ob
  ⟨W.ok, vs, e _ _ a, b, fun i v o h1 h2 => (c i v o h1 h2).same e⟩
/-- an item of a list or a tuple -/
def rIxQ : R2 := fun x y H Q => ∃ p l xs i v, x = .ref p ∧ y = .int i ∧ H p = some (sq l xs) ∧ atI xs i = some v ∧ Q v H
theorem ixQ {X : Cx} : IxR X rIxQ := fun value slice pins s σ H x y v u Q I rx ry ⟨p, l, xs, i, z, e1, e2, h, e3, q⟩ hs => by
  cases l with
  | true => exact Rd.ixH value slice pins s σ H x y v u Q I rx ry ⟨p, xs, i, z, e1, e2, h, e3, q⟩ hs
  | false => exact ixHT value slice pins s σ H x y v u Q I rx ry ⟨p, xs, i, z, e1, e2, h, e3, q⟩ hs
def wt (ws : List Wt) (g : Nat) : Wt := (ws[g]?).getD none
def posW (ws : List Wt) (g : Nat) : Bool := match wt ws g with | none => false | some (n, _) => decide (0 < n)
theorem pos_some {ws : List Wt} {g : Nat} (h : posW ws g = true) : ∃ n d, wt ws g = some (n, d) := by
  unfold posW at h
  cases e : wt ws g with
  | none => rw [e] at h; cases h
  | some q => exact ⟨q.1, q.2, rfl⟩
def wlt (ws : List Wt) (a b : Nat) : Bool := match wt ws a, wt ws b with | some (n1, d1), some (n2, d2) => decide (n1 * d2 < n2 * d1) | _, _ => false
theorem WsV.get {C : Addr} {H : Hp} {l : Bool} {p : Addr} {ws : List Wt} (W : WsV C H l p ws) {g : Nat} (h : g < ws.length) : ∃ vs v, H p = some (sq l vs) ∧ atI vs (g : Nat) = some v ∧ WV C H v (wt ws g) ∧ WOk (wt ws g) := by
  obtain ⟨vs, a, b, c⟩ := W.ob
  have e : ws[g]? = some ws[g] := List.getElem?_eq_getElem h
  have e2 : vs[g]? = some (vs[g]'(by omega)) := List.getElem?_eq_getElem (by omega)
  refine ⟨vs, _, a, atI_nat e2, ?_, ?_⟩
  · have := c g _ _ e2 e
    unfold wt
    rw [e]
    exact this
  · unfold wt
    rw [e]
    exact W.ok _ (List.getElem_mem h)
section
variable {P : Program} {w : World} {K : PySem.W.Frag} {mg : Str → Option Value} {base : Heap} {a : Ad}
/-! ### as_frac, is_above_0 -/
def spAsF (C : Addr) : Sp := fun vs H Q _ => ∃ (v : V) (n d : Int), vs = [v] ∧ WV C H v (some (n, d)) ∧ Wd n ∧ ∀ q H', Same H H' → FrV C H' q (LN n d) (LD n d) → Q (.ref q) H'
theorem sc_as_frac : FnScope ["value"] ["value"] (defScope s_as_frac) := ⟨rfl, rfl, rfl, by decide +kernel, rfl, by decide +kernel, by decide +kernel⟩
theorem ok_as_frac (T : Txt K mg a) : FnOk P w K mg base CX0 4 a.a_as_frac a.d_as_frac ["value"] (spAsF a.C_Frac) := by
  refine T.fn_as_frac.ok sc_as_frac (fun vs H Q E h => ?_) (fun cdv A outer s H vs Q E hr h => ?_)
  · obtain ⟨v, n, d, rfl, _⟩ := h
    rfl
  · obtain ⟨v, n, d, rfl, wv, wn, k⟩ := h
    obtain ⟨b2d, b2v, b2b⟩ := b2 T
    refine ⟨_, (pss_cons (ps_if (pt_val (pe_callB (call_isFr T) (by rfl) T.no_isinstance (by decide +kernel) (pa_cons (pv 0) (pa_cons (pe_glob (v := .ref a.C_Frac) rfl T.mg_Frac rfl) pa_nil)))) (pss_one (ps_ret (pv 0))) pss_nil)
      (pss_cons (ps_if (pt_not (pt_val (pe_call (ok_is_whole T) (hr.mono (by decide)) (by rfl) T.mg_is_whole T.fn_is_whole.kp T.b_is_whole .nil pass0 (pa_cons (pv 0) pa_nil)))) (pss_one ps_never) pss_nil)
      (pss_one (ps_ret (pe_make T.mk_Frac (ok_Frac_init T) (hr.mono (by decide)) (by rfl) T.mg_Frac b2b b2v pass0 (pa_cons (pv 0) pa_nil)))))), ?_⟩
    show (_ : TS) _ [some v] H
    walk_at "rd"
    rcases wv with ⟨rfl, rfl⟩ | ⟨p, rfl, fv⟩
    · refine ⟨_, rfl, .inr (.inl ⟨n, rfl, false, rfl, ?_⟩)⟩
      rw [if_neg (by decide)]
      refine ⟨n, rfl, true, rfl, ?_⟩
      rw [if_neg (by decide)]
      refine fun p dp p0 dp0 ne => ⟨p, dp, n, 1, rfl, upd_same, by decide, wn.big, by decide, fun H2 h1 h2 => ?_⟩
      obtain ⟨fp, e2⟩ := frac_new p0 dp0 h1 h2
      exact ⟨rfl, k p H2 e2 fp⟩
    · obtain ⟨dx, hp⟩ := id fv
      refine ⟨_, rfl, .inr (.inr ⟨p, dx, _, rfl, hp, true, rfl, ?_⟩)⟩
      rw [if_pos rfl]
      exact k p H (Same.refl H) fv
def spAb0 (C : Addr) : Sp := fun vs H Q _ => ∃ (v : V) (o : Wt), vs = [v] ∧ WV C H v o ∧ WOk o ∧ ∀ H', Same H H' → Q (.bl (match o with | none => false | some (n, _) => decide (0 < n))) H'
theorem sc_is_above_0 : FnScope ["weight"] ["weight"] (defScope s_is_above_0) := ⟨rfl, rfl, rfl, by decide +kernel, rfl, by decide +kernel, by decide +kernel⟩
theorem ok_is_above_0 (T : Txt K mg a) : FnOk P w K mg base CX0 5 a.a_is_above_0 a.d_is_above_0 ["weight"] (spAb0 a.C_Frac) := by
  refine T.fn_is_above_0.ok sc_is_above_0 (fun vs H Q E h => ?_) (fun cdv A outer s H vs Q E hr h => ?_)
  · obtain ⟨v, o, rfl, _⟩ := h
    rfl
  · obtain ⟨v, o, rfl, wv, wo, k⟩ := h
    refine ⟨_, (pss_one (ps_ret (pe_and (pe_cmpR op_notN (pv 0) pe_non (nomark _)) (pe_one (pe_cmpR op_gt (pe_fldK K (pe_call (ok_as_frac T) (hr.mono (by decide)) (by rfl) T.mg_as_frac T.fn_as_frac.kp T.b_as_frac .nil pass0 (pa_cons (pv 0) pa_nil))) pe_int (nomark _)))))), ?_⟩
    show (_ : TS) _ [some v] H
    walk_at "rd"
    cases o with
    | none =>
      have wv : v = .non := wv
      subst wv
      rw [if_neg (by decide)]
      exact k _ (Same.refl H)
    | some q =>
      obtain ⟨n, d⟩ := q
      obtain ⟨d0, wn, wd⟩ := wo n d rfl
      have nn : v ≠ .non := fun z => by
        subst z
        rcases wv with ⟨z, _⟩ | ⟨p, z, _⟩ <;> cases z
      rw [decide_eq_false nn, if_pos (by decide)]
      refine ⟨v, n, d, rfl, wv, wn, fun q H1 e1 fv => ?_⟩
      obtain ⟨dx, hq⟩ := fv
      refine ⟨q, rfl, _, dx, _, hq, T.cl_Frac, T.na_Frac_num, _, fq_num _ _, _, rfl, ?_⟩
      rw [decide_eq_decide.mpr (LN_pos d0)]
      exact k _ e1
/-! ### first_greatest -/
/-- the first greatest of things -/
def fg (ws : List Wt) (x : Nat) (s : List Nat) : Nat := s.foldl (fun b t => if wlt ws b t = true then t else b) x
theorem fg_mem {ws : List Wt} : ∀ {s : List Nat} {x : Nat}, fg ws x s = x ∨ fg ws x s ∈ s
  | [], x => .inl rfl
  | t :: s, x => by
    show fg ws (if wlt ws x t = true then t else x) s = x ∨ fg ws (if wlt ws x t = true then t else x) s ∈ t :: s
    rcases fg_mem (ws := ws) (s := s) (x := if wlt ws x t = true then t else x) with e | e
    · rw [e]
      by_cases c : wlt ws x t = true
      · rw [if_pos c]
        exact .inr List.mem_cons_self
      · rw [if_neg c]
        exact .inl rfl
    · exact .inr (List.mem_cons_of_mem _ e)
theorem fg_next {ws : List Wt} {x t i : Nat} {s : List Nat} (h : s[i]? = some t) : fg ws x (s.take (i + 1)) = if wlt ws (fg ws x (s.take i)) t = true then t else fg ws x (s.take i) := by
  unfold fg
  rw [List.take_add_one, h, List.foldl_append]
  rfl
def spFG (C : Addr) : Sp := fun vs H Q _ => ∃ (p q : Addr) (l : Bool) (ws : List Wt) (x : Nat) (s : List Nat), vs = [.ref p, .ref q] ∧ H p = some (.lst (iv (x :: s))) ∧ WsV C H l q ws ∧ (∀ g ∈ x :: s, g < ws.length ∧ posW ws g = true) ∧ s.length ≤ 6 ∧ ∀ H', Same H H' → Q (.int (fg ws x (x :: s) : Nat)) H'
theorem sc_first_greatest : FnScope ["things", "weights", "best", "thing"] ["things", "weights"] (defScope s_first_greatest) := ⟨rfl, rfl, rfl, by decide +kernel, rfl, by decide +kernel, by decide +kernel⟩
theorem ok_first_greatest (T : Txt K mg a) : FnOk P w K mg base CX0 5 a.a_first_greatest a.d_first_greatest ["things", "weights"] (spFG a.C_Frac) := by
  refine T.fn_first_greatest.ok sc_first_greatest (fun vs H Q E h => ?_) (fun cdv A outer s H vs Q E hr h => ?_)
  · obtain ⟨p, q, l, ws, x, s, rfl, _⟩ := h
    rfl
  · obtain ⟨p, q, l, ws, x, s', rfl, hp, W, hs, h6, k⟩ := h
    refine ⟨_, (pss_cons (ps_set (i := 2) sc_first_greatest.nd rfl (Or.inl rfl) (pe_ix Rd.ixH (pv 0) pe_int (fun _ _ => rfl)))
      (pss_cons (ps_for PassesOwn.never rfl (pi_list (pv 0)) (pg_name (i := 3) sc_first_greatest.nd rfl (Or.inl rfl))
        (pss_one (ps_if (pt_val (pe_meth (pe_call (ok_as_frac T) (hr.mono (by decide)) (by rfl) T.mg_as_frac T.fn_as_frac.kp T.b_as_frac .nil pass0 (pa_cons (pe_ix ixQ (pv 1) (pv 2) (fun _ _ => rfl)) pa_nil)) T.cl_Frac T.mt_Frac_is_below (ok_Frac_is_below T) (hr.mono (by decide)) T.b_Frac_is_below .nil pass0 (pa_cons (pe_call (ok_as_frac T) (hr.mono (by decide)) (by rfl) T.mg_as_frac T.fn_as_frac.kp T.b_as_frac .nil pass0 (pa_cons (pe_ix ixQ (pv 1) (pv 3) (fun _ _ => rfl)) pa_nil)) pa_nil))) (pss_one (ps_set (i := 2) sc_first_greatest.nd rfl (Or.inl rfl) (pv 3))) pss_nil)))
      (pss_one (ps_ret (pv 2))))), ?_⟩
    show (_ : TS) _ [some (V.ref p), some (V.ref q), none, none] H
    walk_at "rd"
    refine ⟨_, hp, _, Rd.at0, ⟨_, SqL.of hp⟩, ?_⟩
    refine Rd.loop_listC (xs := iv (x :: s')) (fun σ H' => ∃ o3, σ = [some (V.ref p), some (V.ref q), some (V.int (fg ws x (x :: s') : Nat)), o3] ∧ Same H H')
      (fun i σ H' => ∃ o3, σ = [some (V.ref p), some (V.ref q), some (V.int (fg ws x ((x :: s').take i) : Nat)), o3] ∧ Same H H')
      ⟨none, rfl, Same.refl _⟩ (fun i σ H' _ ⟨_, _, e⟩ => SqL.of (e _ _ hp)) ?_ (fun σ H' ⟨o3, q1, q2⟩ => ⟨o3, by rw [iv_len, List.take_length] at q1; exact q1, q2⟩) ?_
    · rintro bk hbk i y σ H1 hy ⟨o3, rfl, e1⟩
      obtain ⟨g, hg, rfl⟩ := at_iv hy
      have gm := hs g (List.mem_of_getElem? hg)
      have bm : fg ws x ((x :: s').take i) ∈ x :: s' := by
        rcases fg_mem (ws := ws) (x := x) (s := (x :: s').take i) with e | e
        · rw [e]; exact List.mem_cons_self
        · exact List.mem_of_mem_take e
      have nx := fg_next (ws := ws) (x := x) hg
      generalize fg ws x ((x :: s').take i) = b at bm nx ⊢
      rw [nx]
      have bs := hs b bm
      obtain ⟨vs, v1, a1, c1, w1, k1⟩ := (W.same e1).get bs.1
      obtain ⟨n1, d1, E1⟩ := pos_some bs.2
      obtain ⟨n2, d2, E2⟩ := pos_some gm.2
      rw [E1] at w1 k1
      obtain ⟨d10, wn1, wd1⟩ := k1 n1 d1 rfl
      walk_at "rd"
      refine ⟨q, l, vs, _, v1, rfl, rfl, a1, c1, v1, n1, d1, rfl, w1, wn1, fun q1 H2 e2 f1 => ?_⟩
      obtain ⟨vs2, v2, a2, c2, w2, k2⟩ := (W.same (e1.trans e2)).get gm.1
      rw [E2] at w2 k2
      obtain ⟨d20, wn2, wd2⟩ := k2 n2 d2 rfl
      obtain ⟨dx1, hq1⟩ := id f1
      refine ⟨q1, rfl, dx1, _, hq1, fq_no _ _ (by decide +kernel) (by decide +kernel), q, l, vs2, _, v2, rfl, rfl, a2, c2, v2, n2, d2, rfl, w2, wn2, fun q2 H3 e3 f2 => ?_⟩
      have lm : ∀ {n d : Int}, 0 < d → Wd n → Wd d → Mid (LN n d) ∧ Mid (LD n d) := fun {n d} h0 hn hd =>
        ⟨Nat.lt_of_le_of_lt (LN_le (by omega)) hn.mid, Nat.lt_of_le_of_lt (LD_le (by omega)) hd.mid⟩
      refine ⟨q1, q2, _, _, _, _, rfl, f1.same e3, f2, (lm d10 wn1 wd1).1, (lm d10 wn1 wd1).2, (lm d20 wn2 wd2).1, (lm d20 wn2 wd2).2, _, rfl, ?_⟩
      have e13 := (e1.trans e2).trans e3
      have key : decide (LN n1 d1 * LD n2 d2 < LN n2 d2 * LD n1 d1) = wlt ws b g := by
        unfold wlt
        rw [E1, E2]
        exact decide_eq_decide.mpr (low_lt d10 d20)
      rw [key]
      refine ite2 (fun h => ⟨by rw [if_pos h], e13⟩) (fun h => ⟨by rw [if_neg h], e13⟩)
    · rintro σ H1 ⟨o3, rfl, e1⟩
      walk_at "rd"
      exact k H1 e1
end

end K37
namespace K37
open PySem PySem.Spec PyProof.Rows L2 Own OwnSeq OwnSet OwnComb OwnSort OwnHot OwnExN OwnProj
local macro_rules | `(tactic| walk_at "rd") => `(tactic| simp only [tSeq, tAsg, tOp, tUn, tVar, gName, gSub, rIxL, rIxT, rSetL, tC, rI0, rI, rU, rEq, rNe, tCons, tNil, tCB, tLst, tTup, tIfS, tAnd, tOr, tNot, tAndV, tOrV, tNotV, tTest, tB, tIf, tRet, tDrop, tNext, tBreak, tCont, tCall, tCallS, L2.WE, tMakeS, rIsS, rIsB, tChain, gSeq, gRest, gCons, gNil, tFor_seq, tFor_enumS, tLc_seq, tLc_enumS, rAny, rAll, L2.tMeth, StX.tStar, rIn, tLstRg, tRg1, tRg2, rSetI, rSortedSet, rInDT, rInD, rNotInD, rEqD, rNeD, iComb, tFld, tMake, tMkO, sFld, tOst, tNever, tBits, clv, isB,
  Rd.tFor_rng1, Rd.tFor_rng2, Rd.tFor_list, Rd.tFor_tup, Rd.tLc_list, Rd.tLc_tup, Rd.tLc_rng1, Rd.LcTurn, tYes, wipe, Rd.rLenL, Rd.rLenT, Rd.rIntI, Rd.rIxH, rIxHT,  HO.tup.injEq, Rd.at0, Rd.at1, Rd.at2, Rd.at3, Rd.ixN40, Rd.ixN41, Rd.ixN42, Rd.ixN43, Rd.scal_ii, cxOf,
  List.length_cons, List.length_nil, List.length_map, List.map_cons, List.map_nil, upd_same, decide_eq_true_eq, decide_true, decide_false, if_true, if_false, Bool.false_eq_true, Bool.not_true, Bool.not_false, HO.lst.injEq, HO.ins.injEq, List.set_cons_zero, List.set_cons_succ, List.getElem?_cons_zero, List.getElem?_cons_succ, List.append_nil, List.nil_append, List.cons_append, Option.some.injEq, V.ref.injEq, V.int.injEq, V.bl.injEq, List.cons.injEq, exists_eq_left', exists_and_left, exists_eq_left, true_and, and_true, and_self, and_assoc, implies_true, reduceCtorEq, Nat.reduceAdd])

theorem bits_ors2 : ((List.range 7).all fun n => (allS n).all fun s => (List.range n).all fun k => (bit (mk s) k == s.contains k) && (s.contains k || decide (mk s ||| 2 ^ k = mk s + 2 ^ k)) && (s.contains k || decide ((bits (mk s + 2 ^ k)).length = s.length + 1 ∧ bits (mk s + 2 ^ k) ∈ allS n ∧ mk (bits (mk s + 2 ^ k)) = mk s + 2 ^ k))) = true := by decide +kernel
theorem bits_or2 {n : Nat} {s : List Nat} {k : Nat} (h : n ≤ 6) (hs : s ∈ allS n) (hk : k < n) : bit (mk s) k = s.contains k ∧ (s.contains k = false → mk s ||| 2 ^ k = mk s + 2 ^ k) ∧
    (s.contains k = false → (bits (mk s + 2 ^ k)).length = s.length + 1 ∧ bits (mk s + 2 ^ k) ∈ allS n ∧ mk (bits (mk s + 2 ^ k)) = mk s + 2 ^ k) := by
  have z := List.all_eq_true.mp (List.all_eq_true.mp (List.all_eq_true.mp bits_ors2 n (List.mem_range.mpr (by omega))) s hs) k (List.mem_range.mpr hk)
  obtain ⟨z12, z3⟩ := Bool.and_eq_true_iff.mp z
  obtain ⟨z1, z2⟩ := Bool.and_eq_true_iff.mp z12
  refine ⟨beq_iff_eq.mp z1, fun q => ?_, fun q => ?_⟩
  · rw [q, Bool.false_or] at z2
    exact of_decide_eq_true z2
  · rw [q, Bool.false_or] at z3
    exact of_decide_eq_true z3
/-! ### greedy, by reckoning -/
def cand (n : Nat) (S : List Bool) (ws : List Wt) (s : List Nat) : List Nat := (addL n S s).filter (posW ws)
def nxS (n : Nat) (S : List Bool) (ws : List Wt) (s : List Nat) : List Nat := match cand n S ws s with | [] => s | x :: r => bits (mk s + 2 ^ fg ws x (x :: r))
def grN (n : Nat) (S : List Bool) (ws : List Wt) : Nat → List Nat → List Nat
  | 0, s => s
  | k + 1, s => if cand n S ws s = [] then s else grN n S ws k (nxS n S ws s)
theorem cand_at {n : Nat} {S : List Bool} {ws : List Wt} {s : List Nat} {g : Nat} (h : g ∈ cand n S ws s) : g < n ∧ ¬ g ∈ s ∧ In S (mk s + 2 ^ g) = true ∧ posW ws g = true := by
  obtain ⟨h1, h2⟩ := List.mem_filter.mp h
  obtain ⟨h3, h4⟩ := List.mem_filter.mp h1
  obtain ⟨h5, h6⟩ := rest_mem.mp h3
  exact ⟨List.mem_range.mp h5, h6, h4, h2⟩
theorem fg_in {ws : List Wt} {x : Nat} {r : List Nat} : fg ws x (x :: r) ∈ x :: r := by
  rcases fg_mem (ws := ws) (x := x) (s := x :: r) with e | e
  · rw [e]; exact List.mem_cons_self
  · exact e
theorem nx_ok {n : Nat} {S : List Bool} {ws : List Wt} {s r : List Nat} {x : Nat} (h : n ≤ 6) (hs : s ∈ famL n S) (hc : cand n S ws s = x :: r) :
    nxS n S ws s ∈ famL n S ∧ (nxS n S ws s).length = s.length + 1 ∧ mk (nxS n S ws s) = mk s + 2 ^ fg ws x (x :: r) := by
  have m := fg_in (ws := ws) (x := x) (r := r)
  have e : nxS n S ws s = bits (mk s + 2 ^ fg ws x (x :: r)) := by unfold nxS; rw [hc]
  rw [e]
  generalize fg ws x (x :: r) = g at m e ⊢
  rw [← hc] at m
  obtain ⟨c1, c2, c3, c4⟩ := cand_at m
  obtain ⟨_, _, b3⟩ := bits_or2 h (famL_mem.mp hs).1 c1
  obtain ⟨d1, d2, d3⟩ := b3 (by simpa using c2)
  exact ⟨famL_mem.mpr ⟨d2, by rw [d3]; exact c3⟩, d1, d3⟩
theorem gr_stop {n : Nat} {S : List Bool} {ws : List Wt} {s : List Nat} (h : cand n S ws s = []) : ∀ k, grN n S ws k s = s
  | 0 => rfl
  | k + 1 => if_pos h
theorem gr_go {n : Nat} {S : List Bool} {ws : List Wt} {s r : List Nat} {x k : Nat} (h : cand n S ws s = x :: r) : grN n S ws (k + 1) s = grN n S ws k (nxS n S ws s) := if_neg (by rw [h]; exact List.cons_ne_nil _ _)
section
variable {P : Program} {w : World} {K : PySem.W.Frag} {mg : Str → Option Value} {base : Heap} {a : Ad}
/-! ### greedy_set -/
def spGre (CF C : Addr) : Sp := fun vs H Q _ => ∃ (f q : Addr) (l : Bool) (n : Nat) (S : List Bool) (ws : List Wt), vs = [.ref f, .ref q] ∧ FamV CF H f n S ∧ WsV C H l q ws ∧ ws.length = n ∧ ∀ r H', Same H H' → H' r = some (.tup (iv (grN n S ws 7 []))) → Q (.ref r) H'
theorem sc_greedy_set : FnScope ["family", "weights", "taken", "found", "thing"] ["family", "weights"] (defScope s_greedy_set) := ⟨rfl, rfl, rfl, by decide +kernel, rfl, by decide +kernel, by decide +kernel⟩
theorem ok_greedy_set (T : Txt K mg a) : FnOk P w K mg base CX0 6 a.a_greedy_set a.d_greedy_set ["family", "weights"] (spGre a.C_Family a.C_Frac) := by
  refine T.fn_greedy_set.ok sc_greedy_set (fun vs H Q E h => ?_) (fun cdv A outer s H vs Q E hr h => ?_)
  · obtain ⟨f, q, l, n, S, ws, rfl, _⟩ := h
    rfl
  · obtain ⟨f, q, l, n, S, ws, rfl, F, W, wl, k⟩ := h
    refine ⟨_, (pss_cons (ps_set (i := 2) sc_greedy_set.nd rfl (Or.inl rfl) (pe_tup pa_nil))
      (pss_cons (ps_setLc (i := 3) (own := [("thing", 4)]) (by rfl) sc_greedy_set.nd rfl rfl (sw_true rfl rfl rfl (by decide +kernel)) (pi_seq (pe_meth (pv 0) T.cl_Family T.mt_Family_addable (ok_Family_addable T) (hr.mono (by decide)) T.b_Family_addable .nil pass0 (pa_cons (pv 2) pa_nil))) (blkOk_by (own := [("thing", 4)]) (N := ["family", "weights", "taken", "found", "thing"]) (sc := defScope s_greedy_set) (by decide +kernel)) (fun _ _ _ _ _ => pg_name (i := 4) sc_greedy_set.nd rfl (Or.inl rfl)) (fun _ _ _ _ _ => pts_one (pt_val (pe_call (ok_is_above_0 T) (hr.mono (by decide)) (by rfl) T.mg_is_above_0 T.fn_is_above_0.kp T.b_is_above_0 .nil pass0 (pa_cons (pe_ix ixQ (pv 1) (pv 4) (fun _ _ => rfl)) pa_nil)))) (fun _ _ _ _ _ => (pv 4)))
      (pss_cons (ps_while PassesOwn.never (pt_cmpR op_gt (pe_callB (lenK K) (by rfl) T.no_len PySem.boot_len (pa_cons (pv 3) pa_nil)) pe_int (nomark _)) (pss_cons (ps_set (i := 2) sc_greedy_set.nd rfl (Or.inl rfl) (pe_call (ok_joined T) (hr.mono (by decide)) (by rfl) T.mg_joined T.fn_joined.kp T.b_joined .nil pass0 (pa_cons (pv 2) (pa_cons (pe_tup (pa_cons (pe_call (ok_first_greatest T) (hr.mono (by decide)) (by rfl) T.mg_first_greatest T.fn_first_greatest.kp T.b_first_greatest .nil pass0 (pa_cons (pv 3) (pa_cons (pv 1) pa_nil))) pa_nil)) pa_nil))))
        (pss_one (ps_setLc (i := 3) (own := [("thing", 4)]) (by rfl) sc_greedy_set.nd rfl rfl (sw_true rfl rfl rfl (by decide +kernel)) (pi_seq (pe_meth (pv 0) T.cl_Family T.mt_Family_addable (ok_Family_addable T) (hr.mono (by decide)) T.b_Family_addable .nil pass0 (pa_cons (pv 2) pa_nil))) (blkOk_by (own := [("thing", 4)]) (N := ["family", "weights", "taken", "found", "thing"]) (sc := defScope s_greedy_set) (by decide +kernel)) (fun _ _ _ _ _ => pg_name (i := 4) sc_greedy_set.nd rfl (Or.inl rfl)) (fun _ _ _ _ _ => pts_one (pt_val (pe_call (ok_is_above_0 T) (hr.mono (by decide)) (by rfl) T.mg_is_above_0 T.fn_is_above_0.kp T.b_is_above_0 .nil pass0 (pa_cons (pe_ix ixQ (pv 1) (pv 4) (fun _ _ => rfl)) pa_nil)))) (fun _ _ _ _ _ => (pv 4))))))
      (pss_one (ps_ret (pv 2)))))), ?_⟩
    show (_ : TS) _ [some (V.ref f), some (V.ref q), none, none, none] H
    have n6 := F.fam.n6
    -- the things that can be taken
    have pick : ∀ (s' : List Nat) (H2 : Hp) (r : Addr) (o2 o3 : Option V) (R : VK), Same H H2 → H2 r = some (sq false (iv (addL n S s'))) → (∀ d H3, Same H2 H3 → H3 d = some (.lst (iv (cand n S ws s'))) → R (.ref d) H3) →
        Rd.LcL (if false = true then Itl K r else Itt K r) (gName 4) (tB (tCall (spAb0 a.C_Frac) [] E0 (tCons (tOp rIxQ (tVar 1) (tVar 4)) tNil))) (tVar 4) [4] [some (V.ref f), some (V.ref q), o2, o3, none] H2 R := fun s' H2 r o2 o3 R e2 hr2 kk => by
      refine lcl_goes goes_seq (fun D i H5 => H2 D = none ∧ Same H2 H5 ∧ H5 D = some (.lst (iv (((addL n S s').take i).filter (posW ws))))) (fun D hD => ⟨hD, same_upd hD, upd_same⟩)
        (fun D i H5 _ h => h.2.1 _ _ hr2) (fun D i x H5 H5' hi ⟨n5, e5, a5⟩ ⟨eq5, hx⟩ => ?_) (fun D H5 _ ⟨n5, e5, a5⟩ => ?_)
      · subst eq5
        obtain ⟨g, hg, rfl⟩ := at_iv hx
        have gm := List.mem_of_getElem? hg
        have gn : g < n := List.mem_range.mp (rest_mem.mp (List.mem_filter.mp gm).1).1
        have al := add_len n S s'
        have fll := List.length_filter_le (posW ws) ((addL n S s').take i)
        rw [List.length_take] at fll
        obtain ⟨vs, v1, a1, c1, w1, k1⟩ := (W.same (e2.trans e5)).get (g := g) (by omega)
        walk_at "rd"
        refine ⟨q, l, vs, _, v1, rfl, rfl, a1, c1, v1, _, rfl, w1, k1, fun H6 e6 => ⟨_, rfl, ?_⟩⟩
        rw [List.take_add_one, hg, List.filter_append]
        refine ite2 (fun h => ⟨_, e6 _ _ a5, small (by rw [iv_len]; omega), n5, fun b o hb => (upd_ne (ne_of_none hb n5)).trans (e6 _ _ (e5 _ _ hb)), ?_⟩) (fun h => ⟨n5, e5.trans e6, ?_⟩)
        · rw [show (some g).toList = [g] from rfl, List.filter_cons_of_pos (p := posW ws) h]
          unfold iv
          rw [List.map_append]
          rfl
        · rw [show (some g).toList = [g] from rfl, List.filter_cons_of_neg (p := posW ws) h, List.filter_nil, List.append_nil]
          exact e6 _ _ a5
      · rw [iv_len, List.take_length] at a5
        exact kk D H5 e5 a5
    obtain ⟨dx, tp, ys, hf, htp, tv⟩ := F.ob
    refine cut (fun σ H' => ∃ t, σ = [some (V.ref f), some (V.ref q), some (V.ref t), none, none] ∧ Same H H' ∧ H' t = some (.tup (iv []))) (fun R hR => ?_) (fun σ H1 h => ?_)
    · walk_at "rd"
      exact ⟨Nat.zero_le _, fun t ht => hR _ _ ⟨t, rfl, same_upd ht, upd_same⟩⟩
    obtain ⟨t, rfl, e1, ht⟩ := h
    refine cut (fun σ H' => ∃ d, σ = [some (V.ref f), some (V.ref q), some (V.ref t), some (V.ref d), none] ∧ Same H H' ∧ H' t = some (.tup (iv [])) ∧ H' d = some (.lst (iv (cand n S ws [])))) (fun R hR => ?_) (fun σ H2 h => ?_)
    · walk_at "rd"
      refine ⟨dx, _, e1 _ _ hf, ff_no tp n (by decide +kernel) (by decide +kernel), f, t, false, n, S, [], rfl, F.same e1, ht, famL_mem.mpr ⟨nil_in n6, F.fam.zero⟩, fun r H2 _ e2 hr2 => ⟨r, rfl, false, _, hr2, pick [] H2 r _ _ _ (e1.trans e2) hr2 fun d H3 e3 hd => ?_⟩⟩
      exact hR _ _ ⟨d, rfl, (e1.trans e2).trans e3, e3 _ _ (e2 _ _ ht), hd⟩
    obtain ⟨d, rfl, e2, ht2, hd2⟩ := h
    refine cut (fun σ H' => ∃ t d, σ = [some (V.ref f), some (V.ref q), some (V.ref t), some (V.ref d), none] ∧ Same H H' ∧ H' t = some (.tup (iv (grN n S ws 7 [])))) (fun R hR => ?_) (fun σ H3 h => ?_)
    · refine ⟨fun m σ H' => ∃ t d s, m = 7 - s.length ∧ σ = [some (V.ref f), some (V.ref q), some (V.ref t), some (V.ref d), none] ∧ Same H H' ∧ H' t = some (.tup (iv s)) ∧ H' d = some (.lst (iv (cand n S ws s))) ∧ s ∈ famL n S ∧ grN n S ws (7 - s.length) s = grN n S ws 7 [], ⟨7, t, d, [], rfl, rfl, e2, ht2, hd2, famL_mem.mpr ⟨nil_in n6, F.fam.zero⟩, rfl⟩, ?_⟩
      rintro m σ H3 ⟨t, d, s', rfl, rfl, e3, ht3, hd3, sm, gr⟩
      walk_at "rd"
      refine ⟨_, .inl (SqL.of hd3), ?_⟩
      cases hc : cand n S ws s' with
      | nil =>
        rw [if_neg (by decide)]
        rw [gr_stop hc] at gr
        exact hR _ _ ⟨t, d, rfl, e3, by rw [← gr]; exact ht3⟩
      | cons x r =>
        rw [hc] at hd3
        obtain ⟨x1, x2, x3⟩ := nx_ok n6 sm hc
        have sl := (allS_at (famL_mem.mp sm).1 n6)
        have xl := (allS_at (famL_mem.mp x1).1 n6)
        have s6 : s'.length < 6 := by have := xl.2.2.2.1; omega
        rw [if_pos (by rw [iv_len, List.length_cons]; omega)]
        have cm : ∀ g ∈ x :: r, g < n ∧ ¬ g ∈ s' ∧ In S (mk s' + 2 ^ g) = true ∧ posW ws g = true := fun g hg => cand_at (hc ▸ hg)
        have cl : r.length + 1 ≤ n := by
          have y := Nat.le_trans (List.length_filter_le (posW ws) (addL n S s')) (add_len n S s')
          have y : (cand n S ws s').length ≤ n := y
          rw [hc] at y
          exact y
        have gm := cm _ (fg_in (ws := ws) (x := x) (r := r))
        refine ⟨fun σ' H' => ∃ t d, σ' = [some (V.ref f), some (V.ref q), some (V.ref t), some (V.ref d), none] ∧ Same H H' ∧ H' t = some (.tup (iv (nxS n S ws s'))) ∧ H' d = some (.lst (iv (cand n S ws (nxS n S ws s')))), fun σ' H' ⟨t, d, q1, q2, q3, q4⟩ => ⟨7 - (nxS n S ws s').length, by omega, t, d, _, rfl, q1, q2, q3, q4, x1, ?_⟩, ?_⟩
        · rw [← gr, x2, show 7 - s'.length = 7 - (s'.length + 1) + 1 by omega, gr_go hc]
        · refine ⟨d, q, l, ws, x, r, rfl, hd3, W.same e3, fun g hg => ⟨by rw [wl]; exact (cm g hg).1, (cm g hg).2.2.2⟩, by omega, fun H4 e4 => ⟨by decide, fun u hu => ?_⟩⟩
          generalize fg ws x (x :: r) = g at gm x3
          have e5 := same_upd (o := .tup [V.int (g : Nat)]) hu
          refine ⟨t, u, false, false, s', [g], rfl, e5 _ _ (e4 _ _ ht3), upd_same, by omega, by show 1 ≤ 6; decide, fun v us H6 v0 e6 pw mem hv => ?_⟩
          obtain ⟨j1, j2⟩ := join_at n6 (famL_mem.mp sm).1 gm.1 gm.2.1 pw fun x => by rw [mem, List.mem_singleton]
          have ue : us = nxS n S ws s' := by
            rw [← (allS_at j1 n6).1, j2, ← x3, xl.1]
          subst ue
          have e36 := (e4.trans e5).trans e6
          refine ⟨dx, _, e36 _ _ (e3 _ _ hf), ff_no tp n (by decide +kernel) (by decide +kernel), f, v, false, n, S, _, rfl, F.same (e3.trans e36), hv, x1, fun r7 H7 _ e7 hr7 => ⟨r7, rfl, false, _, hr7, pick _ H7 r7 _ _ _ ((e3.trans e36).trans e7) hr7 fun d8 H8 e8 hd8 => ?_⟩⟩
          exact ⟨v, d8, rfl, ((e3.trans e36).trans e7).trans e8, e8 _ _ (e7 _ _ hv), hd8⟩
    obtain ⟨t, d, rfl, e3, ht3⟩ := h
    walk_at "rd"
    exact k t H3 e3 ht3
end

end K37
namespace K37
open PySem PySem.Spec PyProof.Rows L2 Own OwnSeq OwnSet OwnComb OwnSort OwnHot OwnExN OwnProj
local macro_rules | `(tactic| walk_at "rd") => `(tactic| simp only [tSeq, tAsg, tOp, tUn, tVar, gName, gSub, rIxL, rIxT, rSetL, tC, rI0, rI, rU, rEq, rNe, tCons, tNil, tCB, tLst, tTup, tIfS, tAnd, tOr, tNot, tAndV, tOrV, tNotV, tTest, tB, tIf, tRet, tDrop, tNext, tBreak, tCont, tCall, tCallS, L2.WE, tMakeS, rIsS, rIsB, tChain, gSeq, gRest, gCons, gNil, tFor_seq, tFor_enumS, tLc_seq, tLc_enumS, rAny, rAll, L2.tMeth, StX.tStar, rIn, tLstRg, tRg1, tRg2, rSetI, rSortedSet, rInDT, rInD, rNotInD, rEqD, rNeD, iComb, tFld, tMake, tMkO, sFld, tOst, tNever, tBits, clv, isB,
  Rd.tFor_rng1, Rd.tFor_rng2, Rd.tFor_list, Rd.tFor_tup, Rd.tLc_list, Rd.tLc_tup, Rd.tLc_rng1, Rd.LcTurn, tYes, wipe, Rd.rLenL, Rd.rLenT, Rd.rIntI, Rd.rIxH, rIxHT,  HO.tup.injEq, Rd.at0, Rd.at1, Rd.at2, Rd.at3, Rd.ixN40, Rd.ixN41, Rd.ixN42, Rd.ixN43, Rd.scal_ii, cxOf,
  List.length_cons, List.length_nil, List.length_map, List.map_cons, List.map_nil, upd_same, decide_eq_true_eq, decide_true, decide_false, if_true, if_false, Bool.false_eq_true, Bool.not_true, Bool.not_false, HO.lst.injEq, HO.ins.injEq, List.set_cons_zero, List.set_cons_succ, List.getElem?_cons_zero, List.getElem?_cons_succ, List.append_nil, List.nil_append, List.cons_append, Option.some.injEq, V.ref.injEq, V.int.injEq, V.bl.injEq, List.cons.injEq, exists_eq_left', exists_and_left, exists_eq_left, true_and, and_true, and_self, and_assoc, implies_true, reduceCtorEq, Nat.reduceAdd])

theorem big_add {x y : Int} (hx : x.natAbs < 2 ^ 3800) (hy : y.natAbs < 2 ^ 3800) : Big (x + y) := by
  have e : (2 : Nat) ^ 3801 ≤ 2 ^ 4000 := Nat.pow_le_pow_right (by decide) (by decide)
  have e2 : (2 : Nat) ^ 3801 = 2 * 2 ^ 3800 := by rw [Nat.pow_succ, Nat.mul_comm]
  generalize (2 : Nat) ^ 3800 = A at *
  show Int.natAbs _ < _
  omega
theorem low_add {n1 d1 n2 d2 : Int} (h1 : d1 ≠ 0) (h2 : d2 ≠ 0) : LN (LN n1 d1 * LD n2 d2 + LN n2 d2 * LD n1 d1) (LD n1 d1 * LD n2 d2) = LN (n1 * d2 + n2 * d1) (d1 * d2) ∧ LD (LN n1 d1 * LD n2 d2 + LN n2 d2 * LD n1 d1) (LD n1 d1 * LD n2 d2) = LD (n1 * d2 + n2 * d1) (d1 * d2) := by
  have a1 := LN_eq (n := n1) h1
  have a2 := LD_eq (n := n1) h1
  have b1 := LN_eq (n := n2) h2
  have b2 := LD_eq (n := n2) h2
  refine low_mul (k := gS n1 d1 * gS n2 d2) (Int.mul_ne_zero (gS_ne h1) (gS_ne h2)) (Int.mul_ne_zero (Int.ne_of_gt (LD_pos h1)) (Int.ne_of_gt (LD_pos h2))) ?_ ?_
  all_goals
    generalize LN n1 d1 = x1 at *
    generalize LD n1 d1 = y1 at *
    generalize LN n2 d2 = x2 at *
    generalize LD n2 d2 = y2 at *
    generalize gS n1 d1 = g1 at *
    generalize gS n2 d2 = g2 at *
    subst a1 a2 b1 b2
    simp only [Int.mul_add, Int.mul_assoc, Int.mul_comm, Int.mul_left_comm]
/-! ### one scale for all -/
def ecS (e : Int) (o : Wt) : Int := match o with | none => e | some (_, d) => e * LD e d
def Ecan (ws : List Wt) : Int := ws.foldl ecS 1
structure ScOk (E : Int) (ws : List Wt) : Prop where
  pos : 0 < E
  ok : ∀ o ∈ ws, WOk o
  dvd : ∀ n d, some (n, d) ∈ ws → d ∣ E
  sm : E.natAbs < 2 ^ 841
theorem ec_next {ws : List Wt} {i : Nat} {o : Wt} (h : ws[i]? = some o) : Ecan (ws.take (i + 1)) = ecS (Ecan (ws.take i)) o := by
  unfold Ecan
  rw [List.take_add_one, h, List.foldl_append]
  rfl
theorem ec_at {ws : List Wt} (ok : ∀ o ∈ ws, WOk o) : ∀ i, i ≤ ws.length → 0 < Ecan (ws.take i) ∧ (∀ n d, some (n, d) ∈ ws.take i → d ∣ Ecan (ws.take i)) ∧ (Ecan (ws.take i)).natAbs < 2 ^ (1 + 140 * i)
  | 0, _ => ⟨by show (0 : Int) < 1; decide, fun n d h => (by cases h), by show (1 : Int).natAbs < 2 ^ 1; decide⟩
  | i + 1, hi => by
    obtain ⟨E0, Ed, Eb⟩ := ec_at ok i (by omega)
    have ew : ws[i]? = some (ws[i]'(by omega)) := List.getElem?_eq_getElem (by omega)
    have wo := ok _ (List.mem_of_getElem? ew)
    rw [ec_next ew]
    have tk : ws.take (i + 1) = ws.take i ++ [ws[i]'(by omega)] := by rw [List.take_add_one, ew]; rfl
    rw [tk]
    generalize ws[i]'(by omega) = o at wo
    generalize Ecan (ws.take i) = E' at E0 Ed Eb ⊢
    cases o with
    | none =>
      refine ⟨E0, fun n d h => ?_, Nat.lt_of_lt_of_le Eb (Nat.pow_le_pow_right (by decide) (by omega))⟩
      rcases List.mem_append.mp h with m | m
      · exact Ed n d m
      · cases List.mem_singleton.mp m
    | some q =>
      obtain ⟨n, d⟩ := q
      obtain ⟨d0, wn, wd⟩ := wo n d rfl
      show 0 < E' * LD E' d ∧ (∀ n' d', _ → d' ∣ E' * LD E' d) ∧ (E' * LD E' d).natAbs < _
      have lb : (LD E' d).natAbs < 2 ^ 140 := Nat.lt_of_le_of_lt (LD_le (by omega)) wd
      have l0 := LD_pos (n := E') (d := d) (by omega)
      refine ⟨Int.mul_pos E0 l0, fun n' d' h => ?_, ?_⟩
      · rcases List.mem_append.mp h with m | m
        · exact Int.dvd_mul_of_dvd_left (Ed n' d' m)
        · cases List.mem_singleton.mp m
          have z1 := LN_eq (n := E') (d := d) (by omega)
          have z2 := LD_eq (n := E') (d := d) (by omega)
          refine ⟨LN E' d, ?_⟩
          calc E' * LD E' d = (gS E' d * LN E' d) * LD E' d := by rw [← z1]
            _ = (gS E' d * LD E' d) * LN E' d := by simp only [Int.mul_assoc, Int.mul_comm, Int.mul_left_comm]
            _ = d * LN E' d := by rw [← z2]
      · rw [show 1 + 140 * (i + 1) = (1 + 140 * i) + 140 by omega]
        exact wide_lt Eb lb
theorem ec_ok {ws : List Wt} (ok : ∀ o ∈ ws, WOk o) (w6 : ws.length ≤ 6) : ScOk (Ecan ws) ws := by
  obtain ⟨a, b, c⟩ := ec_at ok ws.length (Nat.le_refl _)
  rw [List.take_length] at a b c
  exact ⟨a, ok, b, Nat.lt_of_lt_of_le c (Nat.pow_le_pow_right (by decide) (by omega))⟩
def scI (E : Int) (ws : List Wt) (g : Nat) : Int := match wt ws g with | none => 0 | some (n, d) => n * E.fdiv d
def ssum (E : Int) (ws : List Wt) (s : List Nat) : Int := (s.map (scI E ws)).sum
theorem fd_small {E d : Int} (hd : 0 < d) (h : d ∣ E) (b : E.natAbs < 2 ^ 841) : (E.fdiv d).natAbs < 2 ^ 841 := by
  obtain ⟨y, hy⟩ := h
  have : E.fdiv d = y := by rw [hy, Int.mul_fdiv_cancel_left _ (by omega)]
  rw [this]
  have z := abs_le_mul (g := d) (l := y) (by omega)
  rw [← hy] at z
  exact Nat.lt_of_le_of_lt z b
theorem wt_mem {ws : List Wt} {j : Nat} {n d : Int} (h : wt ws j = some (n, d)) : some (n, d) ∈ ws := by
  unfold wt at h
  cases e : ws[j]? with
  | none => rw [e] at h; cases h
  | some o =>
    rw [e] at h
    have h : o = some (n, d) := h
    subst h
    exact List.mem_of_getElem? e
theorem sc_small {E : Int} {ws : List Wt} (so : ScOk E ws) (g : Nat) : (scI E ws g).natAbs < 2 ^ 981 := by
  unfold scI
  cases e : wt ws g with
  | none => exact Nat.pow_pos (by decide)
  | some q =>
    obtain ⟨n, d⟩ := q
    obtain ⟨d0, wn, wd⟩ := so.ok _ (wt_mem e) n d rfl
    exact wide_lt wn (fd_small d0 (so.dvd n d (wt_mem e)) so.sm)
theorem ss_small {E : Int} {ws : List Wt} (so : ScOk E ws) : ∀ s : List Nat, (ssum E ws s).natAbs ≤ s.length * 2 ^ 981
  | [] => by show (0 : Int).natAbs ≤ _; exact Nat.zero_le _
  | g :: s => by
    have a := sc_small so g
    have b := ss_small so s
    have e : ssum E ws (g :: s) = scI E ws g + ssum E ws s := rfl
    rw [e, List.length_cons, Nat.succ_mul]
    generalize (2 : Nat) ^ 981 = M at *
    omega
theorem ss_mid {E : Int} {ws : List Wt} (so : ScOk E ws) {s : List Nat} (h : s.length ≤ 6) : Mid (ssum E ws s) := by
  refine Nat.lt_of_le_of_lt (Nat.le_trans (ss_small so s) (Nat.mul_le_mul_right _ h)) ?_
  decide +kernel
theorem ssum_app (E : Int) (ws : List Wt) (s : List Nat) (g : Nat) : ssum E ws (s ++ [g]) = ssum E ws s + scI E ws g := by
  unfold ssum
  rw [List.map_append, List.sum_append]
  show _ + (scI E ws g + 0) = _
  rw [Int.add_zero]
/-- one weight more -/
theorem sum_next {E S n d : Int} (hE : 0 < E) (hd : 0 < d) (h : d ∣ E) : LN (LN S E * LD n d + LN n d * LD S E) (LD S E * LD n d) = LN (S + n * E.fdiv d) E ∧ LD (LN S E * LD n d + LN n d * LD S E) (LD S E * LD n d) = LD (S + n * E.fdiv d) E := by
  obtain ⟨a, b⟩ := low_add (n1 := S) (d1 := E) (n2 := n) (d2 := d) (by omega) (by omega)
  rw [a, b]
  obtain ⟨y, hy⟩ := h
  have ey : E.fdiv d = y := by rw [hy, Int.mul_fdiv_cancel_left _ (by omega)]
  have e1 : S * d + n * E = d * (S + n * E.fdiv d) := by
    rw [ey, hy]
    simp only [Int.mul_add, Int.mul_comm, Int.mul_left_comm]
  rw [e1, Int.mul_comm E d]
  exact ⟨LN_mul (by omega) (by omega), LD_mul (by omega) (by omega)⟩
theorem low_zero {E : Int} (h : 0 < E) : LN 0 1 = LN 0 E ∧ LD 0 1 = LD 0 E := by
  have a := LN_mul (k := E) (n := 0) (d := 1) (by omega) (by decide)
  have b := LD_mul (k := E) (n := 0) (d := 1) (by omega) (by decide)
  rw [Int.mul_zero, Int.mul_one] at a b
  exact ⟨a.symm, b.symm⟩
theorem FrV.keep {C : Addr} {H H' : Hp} {p : Addr} {n d : Int} (e : ∀ q dx fs, H q = some (.ins C dx fs) → H' q = some (.ins C dx fs)) : FrV C H p n d → FrV C H' p n d := fun ⟨dx, h⟩ => ⟨dx, e _ _ _ h⟩
section
variable {P : Program} {w : World} {K : PySem.W.Frag} {mg : Str → Option Value} {base : Heap} {a : Ad}
/-! ### Frac + Frac -/
def spFAdd (C : Addr) : Sp := fun vs H Q _ => ∃ (p q : Addr) (n1 d1 n2 d2 : Int), vs = [.ref p, .ref q] ∧ FrV C H p n1 d1 ∧ FrV C H q n2 d2 ∧ d1 ≠ 0 ∧ d2 ≠ 0 ∧ Mid n1 ∧ Mid d1 ∧ Mid n2 ∧ Mid d2 ∧
  ∀ x H', Same H H' → FrV C H' x (LN (n1 * d2 + n2 * d1) (d1 * d2)) (LD (n1 * d2 + n2 * d1) (d1 * d2)) → Q (.ref x) H'
theorem sc_Frac_add : FnScope ["self", "other"] ["self", "other"] (defScope s_Frac_add) := ⟨rfl, rfl, rfl, by decide +kernel, rfl, by decide +kernel, by decide +kernel⟩
theorem ok_Frac_add (T : Txt K mg a) : FnOk P w K mg base CX0 4 a.a_Frac_add a.d_Frac_add ["self", "other"] (spFAdd a.C_Frac) := by
  refine T.fn_Frac_add.ok sc_Frac_add (fun vs H Q E h => ?_) (fun cdv A outer s H vs Q E hr h => ?_)
  · obtain ⟨p, q, n1, d1, n2, d2, rfl, _⟩ := h
    rfl
  · obtain ⟨p, q, n1, d1, n2, d2, rfl, f1, f2, z1, z2, m1, m2, m3, m4, k⟩ := h
    refine ⟨_, (pss_cons (ps_if (pt_not (pt_val (pe_callB (call_isFr T) (by rfl) T.no_isinstance (by decide +kernel) (pa_cons (pv 1) (pa_cons (pe_glob (v := .ref a.C_Frac) rfl T.mg_Frac rfl) pa_nil))))) (pss_one ps_never) pss_nil)
      (pss_one (ps_ret (pe_make T.mk_Frac (ok_Frac_init T) (hr.mono (by decide)) (by rfl) T.mg_Frac (b3 T) .nil pass0 (pa_cons (pe_op op_add (pe_op op_mulW (pe_fldK K (pv 0)) (pe_fldK K (pv 1))) (pe_op op_mulW (pe_fldK K (pv 1)) (pe_fldK K (pv 0)))) (pa_cons (pe_op op_mulW (pe_fldK K (pv 0)) (pe_fldK K (pv 1))) pa_nil)))))), ?_⟩
    show (_ : TS) _ [some (V.ref p), some (V.ref q)] H
    obtain ⟨dx, hp⟩ := id f1
    obtain ⟨dy, hq⟩ := id f2
    walk_at "rd"
    refine ⟨_, rfl, .inr (.inr ⟨q, dy, _, rfl, hq, true, rfl, ?_⟩)⟩
    rw [if_neg (by decide)]
    refine ⟨_, dx, _, hp, T.cl_Frac, T.na_Frac_num, _, fq_num _ _, _, dy, _, hq, T.cl_Frac, T.na_Frac_den, _, fq_den _ _, _, rfl, _, rfl, (mid_mul m1 m4).1, _, dy, _, hq, T.cl_Frac, T.na_Frac_num, _, fq_num _ _, _, dx, _, hp, T.cl_Frac, T.na_Frac_den, _, fq_den _ _, _, rfl, _, rfl, (mid_mul m3 m2).1, _, dx, _, hp, T.cl_Frac, T.na_Frac_den, _, fq_den _ _, _, dy, _, hq, T.cl_Frac, T.na_Frac_den, _, fq_den _ _, _, rfl, _, rfl, (mid_mul m2 m4).1, ?_⟩
    refine fun x dx x0 dx0 ne => ⟨x, dx, _, _, rfl, upd_same, Int.mul_ne_zero z1 z2, big_add (mid_mul m1 m4).2 (mid_mul m3 m2).2, big_of (mid_mul m2 m4).2, fun H2 h1 h2 => ?_⟩
    obtain ⟨fp, e2⟩ := frac_new x0 dx0 h1 h2
    exact ⟨rfl, k x H2 e2 fp⟩
/-! ### total -/
/-- fractions in a list, by things -/
def FrL (C : Addr) (H : Hp) (p : Addr) (ws : List Wt) (t : List Nat) : Prop := ∃ vs : List V, H p = some (.lst vs) ∧ vs.length = t.length ∧ ∀ (i : Nat) (v : V) (g : Nat), vs[i]? = some v → t[i]? = some g → ∃ q n d, v = .ref q ∧ wt ws g = some (n, d) ∧ FrV C H q (LN n d) (LD n d)
def spTot (C : Addr) : Sp := fun vs H Q _ => ∃ (p : Addr) (E : Int) (ws : List Wt) (t : List Nat), vs = [.ref p] ∧ FrL C H p ws t ∧ ScOk E ws ∧ t.length ≤ 6 ∧ ∀ x H', Same H H' → FrV C H' x (LN (ssum E ws t) E) (LD (ssum E ws t) E) → Q (.ref x) H'
theorem sc_total : FnScope ["fracs", "result", "frac"] ["fracs"] (defScope s_total) := ⟨rfl, rfl, rfl, by decide +kernel, rfl, by decide +kernel, by decide +kernel⟩
theorem ok_total (T : Txt K mg a) : FnOk P w K mg base CX0 5 a.a_total a.d_total ["fracs"] (spTot a.C_Frac) := by
  refine T.fn_total.ok sc_total (fun vs H Q E h => ?_) (fun cdv A outer s H vs Q E hr h => ?_)
  · obtain ⟨p, E', ws, t, rfl, _⟩ := h
    rfl
  · obtain ⟨p, E', ws, t, rfl, ⟨us, hp, ul, fr⟩, so, t6, k⟩ := h
    obtain ⟨b2d, b2v, b2b⟩ := b2 T
    refine ⟨_, (pss_cons (ps_set (i := 1) sc_total.nd rfl (Or.inl rfl) (pe_make T.mk_Frac (ok_Frac_init T) (hr.mono (by decide)) (by rfl) T.mg_Frac b2b b2v pass0 (pa_cons pe_int pa_nil)))
      (pss_cons (ps_for PassesOwn.never rfl (pi_list (pv 0)) (pg_name (i := 2) sc_total.nd rfl (Or.inl rfl))
        (pss_one (ps_set (i := 1) sc_total.nd rfl (Or.inl rfl) (pe_op (op_own (ok_Frac_add T) (hr.mono (by decide)) T.sf_Frac T.op_Frac_Add T.mt_Frac_add.fn T.b_Frac_add pass0) (pv 1) (pv 2)))))
      (pss_one (ps_ret (pv 1))))), ?_⟩
    show (_ : TS) _ [some (V.ref p), none, none] H
    walk_at "rd"
    refine fun x0 dx0 n0 m0 ne => ⟨x0, dx0, 0, 1, rfl, upd_same, by decide, by decide, by decide, fun H1 h1 h2 => ?_⟩
    obtain ⟨fp, e1⟩ := frac_new n0 m0 h1 h2
    refine ⟨rfl, ⟨_, SqL.of (e1 _ _ hp)⟩, ?_⟩
    refine Rd.loop_listC (xs := us) (fun σ H' => ∃ x o2, σ = [some (V.ref p), some (V.ref x), o2] ∧ Same H H' ∧ FrV a.C_Frac H' x (LN (ssum E' ws t) E') (LD (ssum E' ws t) E'))
      (fun i σ H' => ∃ x o2, σ = [some (V.ref p), some (V.ref x), o2] ∧ Same H H' ∧ FrV a.C_Frac H' x (LN (ssum E' ws (t.take i)) E') (LD (ssum E' ws (t.take i)) E'))
      ⟨x0, none, rfl, e1, by rw [show ssum E' ws (t.take 0) = 0 from rfl, ← (low_zero so.pos).1, ← (low_zero so.pos).2]; exact fp⟩ (fun i σ H' _ ⟨_, _, _, h, _⟩ => SqL.of (h _ _ hp)) ?_ (fun σ H' ⟨x, o2, q1, q2, q3⟩ => ⟨x, o2, q1, q2, by rw [ul, List.take_length] at q3; exact q3⟩) ?_
    · rintro bk hbk i y σ H2 hy ⟨x, o2, rfl, e2, fx⟩
      have il := (List.getElem?_eq_some_iff.mp hy).1
      have et : t[i]? = some (t[i]'(by omega)) := List.getElem?_eq_getElem (by omega)
      obtain ⟨q, n, d, rfl, ew, fq'⟩ := fr i y _ hy et
      obtain ⟨d0, wn, wd⟩ := so.ok _ (wt_mem ew) n d rfl
      have tk : t.take (i + 1) = t.take i ++ [t[i]'(by omega)] := by rw [List.take_add_one, et]; rfl
      rw [tk, ssum_app]
      have es : scI E' ws (t[i]'(by omega)) = n * E'.fdiv d := by unfold scI; rw [ew]
      rw [es]
      have ms := ss_mid so (s := t.take i) (by rw [List.length_take]; omega)
      generalize ssum E' ws (t.take i) = S at fx ms ⊢
      have fq2 := fq'.same e2
      have E0 := so.pos
      have mE : Mid E' := Nat.lt_of_lt_of_le so.sm (Nat.pow_le_pow_right (by decide) (by decide))
      obtain ⟨dx1, hx1⟩ := id fx
      obtain ⟨dx2, hx2⟩ := id fq2
      obtain ⟨s1, s2⟩ := sum_next (S := S) (n := n) E0 d0 (so.dvd n d (wt_mem ew))
      walk_at "rd"
      simp only [rOwn]
      refine ⟨x, q, dx1, dx2, _, _, rfl, rfl, hx1, hx2, x, q, _, _, _, _, rfl, fx, fq2, Int.ne_of_gt (LD_pos (by omega)), Int.ne_of_gt (LD_pos (by omega)), Nat.lt_of_le_of_lt (LN_le (by omega)) ms, Nat.lt_of_le_of_lt (LD_le (by omega)) mE, Nat.lt_of_le_of_lt (LN_le (by omega)) wn.mid, Nat.lt_of_le_of_lt (LD_le (by omega)) wd.mid, fun z H3 e3 fz => ?_⟩
      rw [s1, s2] at fz
      exact ⟨z, rfl, e2.trans e3, fz⟩
    · rintro σ H2 ⟨x, o2, rfl, e2, fx⟩
      walk_at "rd"
      exact k x H2 e2 fx
/-! ### set_weight -/
def spSW (C : Addr) : Sp := fun vs H Q _ => ∃ (q p : Addr) (l l' : Bool) (E : Int) (ws : List Wt) (t : List Nat), vs = [.ref q, .ref p] ∧ WsV C H l q ws ∧ H p = some (sq l' (iv t)) ∧ ScOk E ws ∧ t.length ≤ 6 ∧ (∀ g ∈ t, g < ws.length ∧ wt ws g ≠ none) ∧ ∀ x H', Same H H' → FrV C H' x (LN (ssum E ws t) E) (LD (ssum E ws t) E) → Q (.ref x) H'
theorem sc_set_weight : FnScope ["weights", "things", "thing"] ["weights", "things"] (defScope s_set_weight) := ⟨rfl, rfl, rfl, by decide +kernel, rfl, by decide +kernel, by decide +kernel⟩
theorem ok_set_weight (T : Txt K mg a) : FnOk P w K mg base CX0 6 a.a_set_weight a.d_set_weight ["weights", "things"] (spSW a.C_Frac) := by
  refine T.fn_set_weight.ok sc_set_weight (fun vs H Q E h => ?_) (fun cdv A outer s H vs Q E hr h => ?_)
  · obtain ⟨q, p, l, l', E', ws, t, rfl, _⟩ := h
    rfl
  · obtain ⟨q, p, l, l', E', ws, t, rfl, W, hp, so, t6, tok, k⟩ := h
    refine ⟨_, (pss_one (ps_ret (pe_call (ok_total T) (hr.mono (by decide)) (by rfl) T.mg_total T.fn_total.kp T.b_total .nil pass0 (pa_cons (pe_lc (own := [("thing", 2)]) (by rfl) sc_set_weight.nd (pi_seq (pv 1)) (blkOk_by (own := [("thing", 2)]) (N := ["weights", "things", "thing"]) (sc := defScope s_set_weight) (by decide +kernel)) (fun _ _ _ _ _ => pg_name (i := 2) sc_set_weight.nd rfl (Or.inl rfl)) (fun _ _ _ _ _ => pts_nil) (fun _ _ _ _ _ => (pe_call (ok_as_frac T) (hr.mono (by decide)) (by rfl) T.mg_as_frac T.fn_as_frac.kp T.b_as_frac .nil pass0 (pa_cons (pe_ix ixQ (pv 0) (pv 2) (fun _ _ => rfl)) pa_nil)))) pa_nil)))), ?_⟩
    show (_ : TS) _ [some (V.ref q), some (V.ref p), none] H
    walk_at "rd"
    refine ⟨l', _, hp, lcl_goes goes_seq (fun D i H5 => H D = none ∧ Same H H5 ∧ FrL a.C_Frac H5 D ws (t.take i)) (fun D hD => ⟨hD, same_upd hD, [], upd_same, rfl, fun i v g h => by cases h⟩) (fun D i H5 _ h => h.2.1 _ _ hp) (fun D i x H5 H5' hi ⟨n5, e5, us, a5, ul, fr⟩ ⟨eq5, hx⟩ => ?_) (fun D H5 _ ⟨n5, e5, fl⟩ => ?_)⟩
    · subst eq5
      obtain ⟨g, hg, rfl⟩ := at_iv hx
      rw [iv_len] at hi
      obtain ⟨gl, gn⟩ := tok g (List.mem_of_getElem? hg)
      obtain ⟨vs, v1, a1, c1, w1, k1⟩ := (W.same e5).get gl
      cases eo : wt ws g with
      | none => exact absurd eo gn
      | some nd =>
        obtain ⟨n, d⟩ := nd
        rw [eo] at w1 k1
        obtain ⟨d0, wn, wd⟩ := k1 n d rfl
        rw [List.length_take] at ul
        walk_at "rd"
        refine ⟨q, l, vs, _, v1, rfl, rfl, a1, c1, v1, n, d, rfl, w1, wn, fun u H6 e6 fu => ?_⟩
        have a6 := e6 _ _ a5
        have kp : ∀ z dx fs, H6 z = some (.ins a.C_Frac dx fs) → upd H6 D (.lst (us ++ [.ref u])) z = some (.ins a.C_Frac dx fs) := fun z dx fs e => (upd_ne fun y => by rw [y, a6] at e; cases e).trans e
        refine ⟨us, a6, small (by omega), n5, fun b o hb => (upd_ne (ne_of_none hb n5)).trans (e6 _ _ (e5 _ _ hb)), us ++ [.ref u], upd_same, by rw [List.length_append, List.length_take, ul]; show _ + 1 = _; omega, fun j v g' h1 h2 => ?_⟩
        rw [List.take_add_one, hg] at h2
        by_cases hj : j < us.length
        · rw [List.getElem?_append_left hj] at h1
          rw [List.getElem?_append_left (by rw [List.length_take]; omega)] at h2
          obtain ⟨q', n', d', x1, x2, x3⟩ := fr j v g' h1 h2
          exact ⟨q', n', d', x1, x2, (x3.same e6).keep kp⟩
        · rw [List.getElem?_append_right (by omega)] at h1
          rw [List.getElem?_append_right (by rw [List.length_take]; omega)] at h2
          have j0 : j - us.length = 0 := by
            have := (List.getElem?_eq_some_iff.mp h1).1
            rw [List.length_singleton] at this
            omega
          rw [j0] at h1
          rw [show j - (t.take i).length = 0 by rw [List.length_take]; omega] at h2
          cases Option.some.inj h1
          cases Option.some.inj h2
          exact ⟨u, n, d, rfl, eo, fu.keep kp⟩
    · rw [iv_len, List.take_length] at fl
      exact ⟨D, E', ws, t, rfl, fl, so, t6, fun x H6 e6 fx => k x H6 (e5.trans e6) fx⟩
end

end K37
namespace K37
open PySem PySem.Spec PyProof.Rows L2 Own OwnSeq OwnSet OwnComb OwnSort OwnHot OwnExN OwnProj
local macro_rules | `(tactic| walk_at "rd") => `(tactic| simp only [tSeq, tAsg, tOp, tUn, tVar, gName, gSub, rIxL, rIxT, rSetL, tC, rI0, rI, rU, rEq, rNe, tCons, tNil, tCB, tLst, tTup, tIfS, tAnd, tOr, tNot, tAndV, tOrV, tNotV, tTest, tB, tIf, tRet, tDrop, tNext, tBreak, tCont, tCall, tCallS, L2.WE, tMakeS, rIsS, rIsB, tChain, gSeq, gRest, gCons, gNil, tFor_seq, tFor_enumS, tLc_seq, tLc_enumS, rAny, rAll, L2.tMeth, StX.tStar, rIn, tLstRg, tRg1, tRg2, rSetI, rSortedSet, rInDT, rInD, rNotInD, rEqD, rNeD, iComb, tFld, tMake, tMkO, sFld, tOst, tNever, tBits, clv, isB,
  Rd.tFor_rng1, Rd.tFor_rng2, Rd.tFor_list, Rd.tFor_tup, Rd.tLc_list, Rd.tLc_tup, Rd.tLc_rng1, Rd.LcTurn, tYes, wipe, Rd.rLenL, Rd.rLenT, Rd.rIntI, Rd.rIxH, rIxHT,  HO.tup.injEq, Rd.at0, Rd.at1, Rd.at2, Rd.at3, Rd.ixN40, Rd.ixN41, Rd.ixN42, Rd.ixN43, Rd.scal_ii, cxOf,
  List.length_cons, List.length_nil, List.length_map, List.map_cons, List.map_nil, upd_same, decide_eq_true_eq, decide_true, decide_false, if_true, if_false, Bool.false_eq_true, Bool.not_true, Bool.not_false, HO.lst.injEq, HO.ins.injEq, List.set_cons_zero, List.set_cons_succ, List.getElem?_cons_zero, List.getElem?_cons_succ, List.append_nil, List.nil_append, List.cons_append, Option.some.injEq, V.ref.injEq, V.int.injEq, V.bl.injEq, List.cons.injEq, exists_eq_left', exists_and_left, exists_eq_left, true_and, and_true, and_self, and_assoc, implies_true, reduceCtorEq, Nat.reduceAdd])

/-! ### weights as the law draws them -/
def PV (H : Hp) (v : V) (o : Wt) : Prop := match o with
  | none => v = .non
  | some (n, d) => ∃ q, v = .ref q ∧ H q = some (.tup [.int n, .int d])
def GV (C : Addr) (H : Hp) (v : V) (o : Wt) (pl : Int) : Prop := match o with
  | none => v = .non
  | some (n, d) => if pl = 1 ∧ d = 1 then v = .int n else ∃ p, v = .ref p ∧ FrV C H p (LN n d) (LD n d)
theorem GV.wv {C : Addr} {H : Hp} {v : V} {o : Wt} {pl : Int} (h : GV C H v o pl) : WV C H v o := by
  cases o with
  | none => exact h
  | some q =>
    obtain ⟨n, d⟩ := q
    unfold GV at h
    dsimp only at h
    split at h
    · rename_i c
      exact .inl ⟨h, c.2⟩
    · exact .inr h
theorem GV.same {C : Addr} {H H' : Hp} {v : V} {o : Wt} {pl : Int} (e : Same H H') (h : GV C H v o pl) : GV C H' v o pl := by
  cases o with
  | none => exact h
  | some q =>
    obtain ⟨n, d⟩ := q
    unfold GV at h ⊢
    dsimp only at h ⊢
    split at h
    · rename_i c
      rw [if_pos c]
      exact h
    · rename_i c
      rw [if_neg c]
      obtain ⟨p, h1, h2⟩ := h
      exact ⟨p, h1, h2.same e⟩
theorem PV.keep {H H' : Hp} {v : V} {o : Wt} (e : ∀ q x, H q = some (.tup x) → H' q = some (.tup x)) (h : PV H v o) : PV H' v o := by
  cases o with
  | none => exact h
  | some q =>
    obtain ⟨q, h1, h2⟩ := h
    exact ⟨q, h1, e _ _ h2⟩
theorem But.tup {b c : Addr} {ns : List Int} {t : Nat} {H H' : Hp} (B : BoxAt H b c ns t) (e : But b H H') : ∀ q x, H q = some (.tup x) → H' q = some (.tup x) := fun q x h => e q _ (fun z => by
  obtain ⟨_, _, _, hb, _⟩ := B.ob
  rw [← z, h] at hb
  cases hb) h
/-- pairs in a list -/
structure PsV (H : Hp) (p : Addr) (ws : List Wt) : Prop where
  ok : ∀ o ∈ ws, WOk o
  ob : ∃ vs : List V, H p = some (.lst vs) ∧ vs.length = ws.length ∧ ∀ (i : Nat) (v : V) (o : Wt), vs[i]? = some v → ws[i]? = some o → PV H v o
theorem PsV.keep {H H' : Hp} {p : Addr} {ws : List Wt} (W : PsV H p ws) (e1 : ∀ vs, H p = some (.lst vs) → H' p = some (.lst vs)) (e : ∀ q x, H q = some (.tup x) → H' q = some (.tup x)) : PsV H' p ws :=
  let ⟨vs, a, b, c⟩ := W.ob
  ⟨W.ok, vs, e1 _ a, b, fun i v o h1 h2 => (c i v o h1 h2).keep e⟩
theorem PsV.same {H H' : Hp} {p : Addr} {ws : List Wt} (e : Same H H') (W : PsV H p ws) : PsV H' p ws := W.keep (fun _ h => e _ _ h) fun _ _ h => e _ _ h
theorem PsV.but {b c p : Addr} {ns : List Int} {t : Nat} {H H' : Hp} {ws : List Wt} (B : BoxAt H b c ns t) (n : p ≠ b) (e : But b H H') (W : PsV H p ws) : PsV H' p ws := W.keep (fun _ h => e _ _ n h) (e.tup B)
theorem PsV.get {H : Hp} {p : Addr} {ws : List Wt} (W : PsV H p ws) {g : Nat} (h : g < ws.length) : ∃ vs v, H p = some (.lst vs) ∧ vs.length = ws.length ∧ atI vs (g : Nat) = some v ∧ vs[g]? = some v ∧ PV H v (wt ws g) ∧ WOk (wt ws g) := by
  obtain ⟨vs, a, b, c⟩ := W.ob
  have e : ws[g]? = some ws[g] := List.getElem?_eq_getElem h
  have e2 : vs[g]? = some (vs[g]'(by omega)) := List.getElem?_eq_getElem (by omega)
  refine ⟨vs, _, a, b, atI_nat e2, e2, ?_, ?_⟩
  · have := c g _ _ e2 e
    unfold wt
    rw [e]
    exact this
  · unfold wt
    rw [e]
    exact W.ok _ (List.getElem_mem h)
section
variable {P : Program} {w : World} {K : PySem.W.Frag} {mg : Str → Option Value} {base : Heap} {a : Ad}
/-! ### _law_given -/
def spGiv (C : Addr) : Sp := fun vs H Q _ => ∃ (v : V) (pl : Int) (o : Wt), vs = [v, .int pl] ∧ PV H v o ∧ WOk o ∧ ∀ u H', Same H H' → GV C H' u o pl → Q u H'
theorem sc_law_given : FnScope ["pair", "plain"] ["pair", "plain"] (defScope s_law_given) := ⟨rfl, rfl, rfl, by decide +kernel, rfl, by decide +kernel, by decide +kernel⟩
theorem ok_law_given (T : Txt K mg a) : FnOk P w K mg base CX0 4 a.a_law_given a.d_law_given ["pair", "plain"] (spGiv a.C_Frac) := by
  refine T.fn_law_given.ok sc_law_given (fun vs H Q E h => ?_) (fun cdv A outer s H vs Q E hr h => ?_)
  · obtain ⟨v, pl, o, rfl, _⟩ := h
    rfl
  · obtain ⟨v, pl, o, rfl, pW, wo, k⟩ := h
    refine ⟨_, (pss_cons (ps_if (pt_cmpR op_isN (pv 0) pe_non (nomark _)) (pss_one (ps_ret pe_non)) pss_nil)
      (pss_cons (ps_if (PW.pt (pw_and (pt_cmpR op_eq (pv 1) pe_int (nomark _)) (pw_and1 (pt_cmpR op_eq (pe_ix ixHT (pv 0) pe_int (fun _ _ => rfl)) pe_int (nomark _))))) (pss_one (ps_ret (pe_ix ixHT (pv 0) pe_int (fun _ _ => rfl)))) pss_nil)
      (pss_one (ps_ret (pe_make T.mk_Frac (ok_Frac_init T) (hr.mono (by decide)) (by rfl) T.mg_Frac (b3 T) .nil pass0 (pa_cons (pe_ix ixHT (pv 0) pe_int (fun _ _ => rfl)) (pa_cons (pe_ix ixHT (pv 0) pe_int (fun _ _ => rfl)) pa_nil))))))), ?_⟩
    show (_ : TS) _ [some v, some (V.int pl)] H
    walk_at "rd"
    cases o with
    | none =>
      have pW : v = .non := pW
      subst pW
      rw [if_pos rfl]
      exact k _ _ (Same.refl H) rfl
    | some q =>
      obtain ⟨n, d⟩ := q
      obtain ⟨q, rfl, hq⟩ := pW
      obtain ⟨d0, wn, wd⟩ := wo n d rfl
      rw [if_neg (fun z => by cases z)]
      have mk' : ∀ x dx, H x = none → H dx = none → dx ≠ x → ¬ (pl = 1 ∧ d = 1) → spFrac a.C_Frac [V.ref x, V.int n, V.int d] (upd (upd H dx (HO.own x)) x (HO.ins a.C_Frac dx [])) (fun v H2 => v = V.non ∧ Q (V.ref x) H2) E0 := fun x dx hx hdx ne c =>
        ⟨x, dx, n, d, rfl, upd_same, by omega, wn.big, wd.big, fun H2 h1 h2 => by
          obtain ⟨fp, e2⟩ := frac_new hx hdx h1 h2
          exact ⟨rfl, k _ H2 e2 (by unfold GV; dsimp only; rw [if_neg c]; exact ⟨x, rfl, fp⟩)⟩⟩
      refine ite2 (fun h1 => ⟨q, rfl, _, hq, _, Rd.at1, rfl, ite2 (fun h2 => ⟨q, rfl, _, hq, _, Rd.at0, k _ _ (Same.refl H) ?_⟩) (fun h2 => ⟨q, rfl, _, hq, _, Rd.at0, q, rfl, _, hq, _, Rd.at1, fun x dx u1 u2 u3 => mk' x dx u1 u2 u3 fun z => h2 (by rw [z.2])⟩)⟩)
        (fun h1 => ⟨q, rfl, _, hq, _, Rd.at0, q, rfl, _, hq, _, Rd.at1, fun x dx u1 u2 u3 => mk' x dx u1 u2 u3 fun z => h1 z.1⟩)
      unfold GV
      dsimp only
      rw [if_pos ⟨h1, V.int.inj h2⟩]
/-! ### _law_weight -/
def spWei : Sp := fun vs H Q _ => ∃ (b c e : Addr) (ns : List Int) (t : Nat) (ws : List Wt), vs = [.ref b, .ref e] ∧ BoxAt H b c ns t ∧ t ≤ 80000 ∧ e ≠ b ∧ PsV H e ws ∧ ws.length ≤ 6 ∧ ∀ v o H', BoxAt H' b c ns (t + 20) → But b H H' → PV H' v o → WOk o → Q v H'
theorem sc_law_weight : FnScope ["feed", "earlier", "kind", "num", "den", "turn"] ["feed", "earlier"] (defScope s_law_weight) := ⟨rfl, rfl, rfl, by decide +kernel, rfl, by decide +kernel, by decide +kernel⟩
theorem ok_law_weight (T : Txt K mg a) : FnOk P w K mg base CX0 2 a.a_law_weight a.d_law_weight ["feed", "earlier"] spWei := by
  refine T.fn_law_weight.ok sc_law_weight (fun vs H Q E h => ?_) (fun cdv A outer s H vs Q E hr h => ?_)
  · obtain ⟨b, c, e, ns, t, ws, rfl, _⟩ := h
    rfl
  · obtain ⟨b, c, e, ns, t, ws, rfl, B, ht, ne, W, w6, k⟩ := h
    refine ⟨_, (pss_cons (ps_set (i := 2) sc_law_weight.nd rfl (Or.inl rfl) (pe_call (ok_law_draw T) (hr.mono (by decide)) (by rfl) T.mg_law_draw T.fn_law_draw.kp T.b_law_draw .nil pass0 (pa_cons (pv 0) (pa_cons pe_int pa_nil))))
      (pss_cons (ps_if (pt_cmpR op_eq (pv 2) pe_int (nomark _)) (pss_one (ps_ret pe_non)) pss_nil)
      (pss_cons (ps_if (pt_cmpR op_eq (pv 2) pe_int (nomark _)) (pss_one (ps_ret (pe_tup (pa_cons pe_int (pa_cons (pe_op op_add pe_int (pe_call (ok_law_draw T) (hr.mono (by decide)) (by rfl) T.mg_law_draw T.fn_law_draw.kp T.b_law_draw .nil pass0 (pa_cons (pv 0) (pa_cons pe_int pa_nil)))) pa_nil))))) pss_nil)
      (pss_cons (ps_if (PW.pt (pw_and (pt_cmpR op_lt (pv 2) pe_int (nomark _)) (pw_and1 (pt_cmpR op_gt (pe_callB (lenK K) (by rfl) T.no_len PySem.boot_len (pa_cons (pv 1) pa_nil)) pe_int (nomark _))))) (pss_one (ps_ret (pe_ix Rd.ixH (pv 1) (pe_call (ok_law_draw T) (hr.mono (by decide)) (by rfl) T.mg_law_draw T.fn_law_draw.kp T.b_law_draw .nil pass0 (pa_cons (pv 0) (pa_cons (pe_callB (lenK K) (by rfl) T.no_len PySem.boot_len (pa_cons (pv 1) pa_nil)) pa_nil))) (fun _ _ => rfl)))) pss_nil)
      (pss_cons (ps_if (pt_cmpR op_eq (pv 2) pe_int (nomark _)) (pss_one (ps_ret (pe_tup (pa_cons (pe_op op_sub (pe_un un_neg pe_int) (pe_call (ok_law_draw T) (hr.mono (by decide)) (by rfl) T.mg_law_draw T.fn_law_draw.kp T.b_law_draw .nil pass0 (pa_cons (pv 0) (pa_cons pe_int pa_nil)))) (pa_cons (pe_op op_add pe_int (pe_call (ok_law_draw T) (hr.mono (by decide)) (by rfl) T.mg_law_draw T.fn_law_draw.kp T.b_law_draw .nil pass0 (pa_cons (pv 0) (pa_cons pe_int pa_nil)))) pa_nil))))) pss_nil)
      (pss_cons (ps_if (pt_cmpR op_lt (pv 2) pe_int (nomark _)) (pss_one (ps_ret (pe_tup (pa_cons (pe_op op_add pe_int (pe_call (ok_law_draw T) (hr.mono (by decide)) (by rfl) T.mg_law_draw T.fn_law_draw.kp T.b_law_draw .nil pass0 (pa_cons (pv 0) (pa_cons pe_int pa_nil)))) (pa_cons pe_int pa_nil))))) pss_nil)
      (pss_cons (ps_if (pt_cmpR op_lt (pv 2) pe_int (nomark _)) (pss_one (ps_ret (pe_tup (pa_cons (pe_op op_add pe_int (pe_call (ok_law_draw T) (hr.mono (by decide)) (by rfl) T.mg_law_draw T.fn_law_draw.kp T.b_law_draw .nil pass0 (pa_cons (pv 0) (pa_cons pe_int pa_nil)))) (pa_cons (pe_op op_add pe_int (pe_call (ok_law_draw T) (hr.mono (by decide)) (by rfl) T.mg_law_draw T.fn_law_draw.kp T.b_law_draw .nil pass0 (pa_cons (pv 0) (pa_cons pe_int pa_nil)))) pa_nil))))) pss_nil)
      (pss_cons (ps_set (i := 3) sc_law_weight.nd rfl (Or.inl rfl) pe_int)
      (pss_cons (ps_set (i := 4) sc_law_weight.nd rfl (Or.inl rfl) pe_int)
      (pss_cons (ps_for PassesOwn.never rfl (pi_range1 (by rfl) T.no_range (pa_cons pe_int pa_nil)) (pg_name (i := 5) sc_law_weight.nd rfl (Or.inl rfl))
        (pss_cons (ps_set (i := 3) sc_law_weight.nd rfl (Or.inl rfl) (pe_op op_add (pe_op op_mul (pv 3) (pe_op op_pow pe_int pe_int)) (pe_call (ok_law_draw T) (hr.mono (by decide)) (by rfl) T.mg_law_draw T.fn_law_draw.kp T.b_law_draw .nil pass0 (pa_cons (pv 0) (pa_cons (pe_op op_pow pe_int pe_int) pa_nil)))))
        (pss_one (ps_set (i := 4) sc_law_weight.nd rfl (Or.inl rfl) (pe_op op_add (pe_op op_mul (pv 4) (pe_op op_pow pe_int pe_int)) (pe_call (ok_law_draw T) (hr.mono (by decide)) (by rfl) T.mg_law_draw T.fn_law_draw.kp T.b_law_draw .nil pass0 (pa_cons (pv 0) (pa_cons (pe_op op_pow pe_int pe_int) pa_nil))))))))
      (pss_cons (ps_set (i := 3) sc_law_weight.nd rfl (Or.inl rfl) (pe_op op_sub (pv 3) (pe_op op_mul (pe_op op_mul pe_int (pv 3)) (pe_call (ok_law_draw T) (hr.mono (by decide)) (by rfl) T.mg_law_draw T.fn_law_draw.kp T.b_law_draw .nil pass0 (pa_cons (pv 0) (pa_cons pe_int pa_nil))))))
      (pss_cons (ps_if (pt_cmpR op_eq (pv 2) pe_int (nomark _)) (pss_one (ps_ret (pe_tup (pa_cons (pv 3) (pa_cons pe_int pa_nil))))) pss_nil)
      (pss_one (ps_ret (pe_tup (pa_cons (pv 3) (pa_cons (pe_op op_add pe_int (pe_op op_mod (pe_callTy Rd.call_intI (by rfl) T.no_int (by decide +kernel) (pa_cons (pv 4) pa_nil)) (pe_op op_sub (pe_op op_pow pe_int pe_int) pe_int))) pa_nil))))))))))))))))), ?_⟩
    show (_ : TS) _ [some (V.ref b), some (V.ref e), none, none, none, none] H
    have put : ∀ (n d : Int) (H2 : Hp) (t' : Nat), BoxAt H2 b c ns t' → t' ≤ t + 20 → But b H H2 → 0 < d → Wd n → Wd d → 2 ≤ sizeLine ∧ ∀ (p : Addr), H2 p = none → Q (V.ref p) (upd H2 p (HO.tup [V.int n, V.int d])) := fun n d H2 t' B2 l2 e2 d0 wn wd =>
      ⟨by decide, fun p hp => k _ (some (n, d)) _ ((B2.same (same_upd hp)).le l2) (e2.trans (Same.but (same_upd hp))) ⟨p, rfl, upd_same⟩ fun n' d' z => by cases z; exact ⟨d0, wn, wd⟩⟩
    have sw : ∀ x : Int, -1000 < x → x < 1000 → Wd x := fun x h1 h2 => Nat.lt_of_lt_of_le (show x.natAbs < 2 ^ 10 by omega) (Nat.pow_le_pow_right (by decide) (by decide))
    refine cut (fun σ H' => ∃ kd : Nat, σ = [some (V.ref b), some (V.ref e), some (V.int kd), none, none, none] ∧ BoxAt H' b c ns (t + 1) ∧ But b H H') (fun R hR => ?_) (fun σ H1 h => ?_)
    · walk_at "rd"
      exact drw 12 B rfl (by decide) (by decide) (by omega) fun kd H1 dl B1 e1 => hR _ _ ⟨kd, rfl, B1, e1⟩
    obtain ⟨kd, rfl, B1, e1⟩ := h
    let G : L2.St → Hp → Prop := fun σ H' => σ = [some (V.ref b), some (V.ref e), some (V.int kd), none, none, none] ∧ H' = H1
    refine cut G (fun R hR => ?_) (fun σ H1' h => ?_)
    · walk_at "rd"
      exact ite2 (fun _ => k _ none H1 (B1.le (by omega)) e1 rfl fun _ _ z => by cases z) (fun _ => hR _ _ ⟨rfl, rfl⟩)
    obtain ⟨rfl, rfl⟩ := h
    refine cut G (fun R hR => ?_) (fun σ H1' h => ?_)
    · walk_at "rd"
      exact ite2 (fun _ => drw 3 B1 rfl (by decide) (by decide) (by omega) fun x H2 xl B2 e2 => ⟨_, rfl, put 0 _ H2 _ B2 (by omega) (e1.trans e2) (by omega) (sw _ (by decide) (by decide)) (sw _ (by omega) (by omega))⟩) (fun _ => hR _ _ ⟨rfl, rfl⟩)
    obtain ⟨rfl, rfl⟩ := h
    refine cut G (fun R hR => ?_) (fun σ H1' h => ?_)
    · walk_at "rd"
      refine ite2 (fun _ => ?_) (fun _ => hR _ _ ⟨rfl, rfl⟩)
      have W1 := W.but B ne e1
      obtain ⟨vs, v1, a1, l1, _⟩ : ∃ vs : List V, ∃ v1 : Nat, H1' e = some (.lst vs) ∧ vs.length = ws.length ∧ v1 = 0 := by
        obtain ⟨vs, x, y, _⟩ := W1.ob
        exact ⟨vs, 0, x, y, rfl⟩
      refine ⟨_, .inl (SqL.of a1), ite2 (fun h0 => ⟨_, .inl (SqL.of a1), ?_⟩) (fun _ => hR _ _ ⟨rfl, rfl⟩)⟩
      refine drw vs.length B1 rfl (by omega) (by omega) (by omega) fun x H2 xl B2 e2 => ?_
      obtain ⟨vs2, v2, a2, l2, i2, _, p2, k2⟩ := (W1.but B1 ne e2).get (g := x) (by omega)
      exact ⟨_, _, rfl, a2, _, i2, k _ _ _ (B2.le (by omega)) (e1.trans e2) p2 k2⟩
    obtain ⟨rfl, rfl⟩ := h
    refine cut G (fun R hR => ?_) (fun σ H1' h => ?_)
    · walk_at "rd"
      exact ite2 (fun _ => drw 30 B1 rfl (by decide) (by decide) (by omega) fun x H2 xl B2 e2 => ⟨_, rfl, drw 9 B2 rfl (by decide) (by decide) (by omega) fun y H3 yl B3 e3 => ⟨_, rfl, put _ _ H3 _ B3 (by omega) ((e1.trans e2).trans e3) (by omega) (sw _ (by omega) (by omega)) (sw _ (by omega) (by omega))⟩⟩) (fun _ => hR _ _ ⟨rfl, rfl⟩)
    obtain ⟨rfl, rfl⟩ := h
    refine cut G (fun R hR => ?_) (fun σ H1' h => ?_)
    · walk_at "rd"
      exact ite2 (fun _ => drw 5 B1 rfl (by decide) (by decide) (by omega) fun x H2 xl B2 e2 => ⟨_, rfl, put _ 1 H2 _ B2 (by omega) (e1.trans e2) (by omega) (sw _ (by omega) (by omega)) (sw _ (by omega) (by omega))⟩) (fun _ => hR _ _ ⟨rfl, rfl⟩)
    obtain ⟨rfl, rfl⟩ := h
    refine cut G (fun R hR => ?_) (fun σ H1' h => ?_)
    · walk_at "rd"
      exact ite2 (fun _ => drw 60 B1 rfl (by decide) (by decide) (by omega) fun x H2 xl B2 e2 => ⟨_, rfl, drw 12 B2 rfl (by decide) (by decide) (by omega) fun y H3 yl B3 e3 => ⟨_, rfl, put _ _ H3 _ B3 (by omega) ((e1.trans e2).trans e3) (by omega) (sw _ (by omega) (by omega)) (sw _ (by omega) (by omega))⟩⟩) (fun _ => hR _ _ ⟨rfl, rfl⟩)
    obtain ⟨rfl, rfl⟩ := h
    walk_at "rd"
    refine ⟨by decide, by decide, ?_⟩
    have p8 : (10 : Int) ^ (8 : Int).toNat = ((100000000 : Nat) : Int) := by decide
    refine Rd.loop_rngC (fun σ H' => ∃ (nu de : Nat) (o5 : Option V), σ = [some (V.ref b), some (V.ref e), some (V.int kd), some (V.int nu), some (V.int de), o5] ∧ nu < 100000000 ^ 5 ∧ de < 100000000 ^ 5 ∧ BoxAt H' b c ns (t + 11) ∧ But b H H')
      (fun i σ H' => ∃ (nu de : Nat) (o5 : Option V), σ = [some (V.ref b), some (V.ref e), some (V.int kd), some (V.int nu), some (V.int de), o5] ∧ nu < 100000000 ^ i ∧ de < 100000000 ^ i ∧ BoxAt H' b c ns (t + 1 + 2 * i) ∧ But b H H')
      ⟨0, 0, none, rfl, by decide, by decide, B1, e1⟩ ?_ (fun σ H' ⟨nu, de, o5, q1, q2, q3, q4, q5⟩ => ⟨nu, de, o5, q1, q2, q3, q4.le (by show _ + 2 * 5 ≤ _; omega), q5⟩) ?_
    · rintro bk hbk i σ H2 hi ⟨nu, de, o5, rfl, l1, l2, B2, e2⟩
      have hi : i < 5 := hi
      walk_at "rd"
      rw [p8]
      have cp : CPow 10 8 := ⟨by decide, by decide, by decide⟩
      have gr : ∀ {m x : Nat}, m < 100000000 ^ i → x < 100000000 → m * 100000000 + x < 100000000 ^ (i + 1) := fun {m x} h1 h2 => by
        rw [Nat.pow_succ]
        have := Nat.mul_le_mul_right 100000000 (Nat.succ_le_of_lt h1)
        omega
      refine ⟨cp, .inr ⟨by decide, by decide⟩, cp, drw 100000000 B2 rfl (by decide) (by decide) (by omega) fun x H3 xl B3 e3 => ⟨_, rfl, cp, .inr ⟨by decide, by decide⟩, cp, drw 100000000 B3 rfl (by decide) (by decide) (by omega) fun y H4 yl B4 e4 => ⟨_, rfl, nu * 100000000 + x, by omega, de * 100000000 + y, by omega, gr l1 xl, gr l2 yl, B4.le (by omega), (e2.trans e3).trans e4⟩⟩⟩
    · rintro σ H2 ⟨nu, de, o5, rfl, l1, l2, B2, e2⟩
      walk_at "rd"
      have b5 : 100000000 ^ 5 ≤ 2 ^ 140 := by decide +kernel
      have cp : CPow 10 40 := ⟨by decide, by decide, by decide⟩
      have m40 : (10 : Int) ^ Int.toNat 40 - 1 = ((10 ^ 40 - 1 : Nat) : Int) := by decide +kernel
      rw [m40]
      have M0 : 0 < 10 ^ 40 - 1 := by decide +kernel
      have M1 : 10 ^ 40 - 1 < 2 ^ 140 := by decide +kernel
      generalize 10 ^ 40 - 1 = M at M0 M1 ⊢
      refine ⟨.inl ⟨by decide, by decide⟩, drw 2 B2 rfl (by decide) (by decide) (by omega) fun x H3 xl B3 e3 => ⟨_, rfl, .inr ⟨by omega, by omega⟩, ?_⟩⟩
      have wn : Wd ((nu : Int) - 2 * nu * x) := by
        refine Nat.lt_of_le_of_lt ?_ (Nat.lt_of_lt_of_le l1 b5)
        have : x = 0 ∨ x = 1 := by omega
        rcases this with rfl | rfl
        · rw [Int.natCast_zero, Int.mul_zero]; omega
        · rw [Int.natCast_one, Int.mul_one]; omega
      refine ite2 (fun _ => put _ 1 H3 _ B3 (by omega) (e2.trans e3) (by decide) wn (sw _ (by decide) (by decide))) (fun _ => ⟨cp, by omega, put _ _ H3 _ B3 (by omega) (e2.trans e3) ?_ wn ?_⟩)
      · have := Int.emod_nonneg (de : Int) (show (M : Int) ≠ 0 by omega)
        omega
      · refine Nat.lt_of_le_of_lt ?_ M1
        have h1 := Int.emod_nonneg (de : Int) (show (M : Int) ≠ 0 by omega)
        have h2 := Int.emod_lt_of_pos (de : Int) (show (0 : Int) < M by omega)
        omega
end

end K37
namespace K37
open PySem PySem.Spec PyProof.Rows L2 Own OwnSeq OwnSet OwnComb OwnSort OwnHot OwnExN OwnProj
local macro_rules | `(tactic| walk_at "rd") => `(tactic| simp only [tSeq, tAsg, tOp, tUn, tVar, gName, gSub, rIxL, rIxT, rSetL, tC, rI0, rI, rU, rEq, rNe, tCons, tNil, tCB, tLst, tTup, tIfS, tAnd, tOr, tNot, tAndV, tOrV, tNotV, tTest, tB, tIf, tRet, tDrop, tNext, tBreak, tCont, tCall, tCallS, L2.WE, tMakeS, rIsS, rIsB, tChain, gSeq, gRest, gCons, gNil, tFor_seq, tFor_enumS, tLc_seq, tLc_enumS, rAny, rAll, L2.tMeth, StX.tStar, rIn, tLstRg, tRg1, tRg2, rSetI, rSortedSet, rInDT, rInD, rNotInD, rEqD, rNeD, iComb, tFld, tMake, tMkO, sFld, tOst, tNever, tBits, clv, isB,
  Rd.tFor_rng1, Rd.tFor_rng2, Rd.tFor_list, Rd.tFor_tup, Rd.tLc_list, Rd.tLc_tup, Rd.tLc_rng1, Rd.LcTurn, tYes, wipe, Rd.rLenL, Rd.rLenT, Rd.rIntI, Rd.rIxH, rIxHT,  HO.tup.injEq, Rd.at0, Rd.at1, Rd.at2, Rd.at3, Rd.ixN40, Rd.ixN41, Rd.ixN42, Rd.ixN43, Rd.scal_ii, cxOf,
  List.length_cons, List.length_nil, List.length_map, List.map_cons, List.map_nil, upd_same, decide_eq_true_eq, decide_true, decide_false, if_true, if_false, Bool.false_eq_true, Bool.not_true, Bool.not_false, HO.lst.injEq, HO.ins.injEq, List.set_cons_zero, List.set_cons_succ, List.getElem?_cons_zero, List.getElem?_cons_succ, List.append_nil, List.nil_append, List.cons_append, Option.some.injEq, V.ref.injEq, V.int.injEq, V.bl.injEq, List.cons.injEq, exists_eq_left', exists_and_left, exists_eq_left, true_and, and_true, and_self, and_assoc, implies_true, reduceCtorEq, Nat.reduceAdd])

section
variable {P : Program} {w : World} {K : PySem.W.Frag} {mg : Str → Option Value} {base : Heap} {a : Ad}
/-! ### _law_weights -/
def spWts : Sp := fun vs H Q _ => ∃ (b c : Addr) (ns : List Int) (t n : Nat), vs = [.ref b, .int n] ∧ BoxAt H b c ns t ∧ t ≤ 70000 ∧ n ≤ 6 ∧ ∀ e ws H', e ≠ b → PsV H' e ws → ws.length = n → BoxAt H' b c ns (t + 120) → But b H H' → Q (.ref e) H'
theorem sc_law_weights : FnScope ["feed", "size", "weights", "thing"] ["feed", "size"] (defScope s_law_weights) := ⟨rfl, rfl, rfl, by decide +kernel, rfl, by decide +kernel, by decide +kernel⟩
theorem ok_law_weights (T : Txt K mg a) : FnOk P w K mg base CX0 3 a.a_law_weights a.d_law_weights ["feed", "size"] spWts := by
  refine T.fn_law_weights.ok sc_law_weights (fun vs H Q E h => ?_) (fun cdv A outer s H vs Q E hr h => ?_)
  · obtain ⟨b, c, ns, t, n, rfl, _⟩ := h
    rfl
  · obtain ⟨b, c, ns, t, n, rfl, B, ht, n6, k⟩ := h
    refine ⟨_, (pss_cons (ps_set (i := 2) sc_law_weights.nd rfl (Or.inl rfl) (pe_lst pa_nil))
      (pss_cons (ps_for PassesOwn.never rfl (pi_range1 (by rfl) T.no_range (pa_cons (pv 1) pa_nil)) (pg_name (i := 3) sc_law_weights.nd rfl (Or.inl rfl))
        (pss_one (ps_expr (pe_bm PySem.F.plainAttrs_list PySem.F.slot_list_append PySem.F.type_list_append mt_append (pv 2) (pa_cons (pe_call (ok_law_weight T) (hr.mono (by decide)) (by rfl) T.mg_law_weight T.fn_law_weight.kp T.b_law_weight .nil pass0 (pa_cons (pv 0) (pa_cons (pv 2) pa_nil))) pa_nil)))))
      (pss_one (ps_ret (pv 2))))), ?_⟩
    show (_ : TS) _ [some (V.ref b), some (V.int n), none, none] H
    walk_at "rd"
    refine ⟨Nat.zero_le _, fun e he => ⟨by omega, by omega, ?_⟩⟩
    have ne := B.ne_new he
    have e0 := same_upd (o := .lst []) he
    rw [Int.toNat_natCast]
    refine Rd.loop_rngC (fun σ H' => ∃ (ws : List Wt) (o3 : Option V), σ = [some (V.ref b), some (V.int n), some (V.ref e), o3] ∧ PsV H' e ws ∧ ws.length = n ∧ BoxAt H' b c ns (t + 20 * n) ∧ But b H H')
      (fun i σ H' => ∃ (ws : List Wt) (o3 : Option V), σ = [some (V.ref b), some (V.int n), some (V.ref e), o3] ∧ PsV H' e ws ∧ ws.length = i ∧ BoxAt H' b c ns (t + 20 * i) ∧ But b H H')
      ⟨[], none, rfl, ⟨(fun _ h => by cases h), [], upd_same, rfl, fun i v o h => by cases h⟩, rfl, B.same e0, Same.but e0⟩ ?_ (fun _ _ z => z) ?_
    · rintro bk hbk i σ H2 hi ⟨ws, o3, rfl, W, wl, B2, e2⟩
      walk_at "rd"
      simp only [tBM, rAppend]
      walk_at "rd"
      obtain ⟨vs0, hv0, _⟩ := W.ob
      refine ⟨.inl ⟨rfl, _, SqL.of hv0⟩, b, c, e, ns, _, ws, rfl, B2, by omega, ne, W, by omega, fun v o H3 B3 e3 pW wo => ?_⟩
      obtain ⟨vs, hv, vl, pw⟩ := (W.but B2 ne e3).ob
      have ef : But b H (upd H3 e (.lst (vs ++ [v]))) := (e2.trans e3).updn he
      have tp : ∀ q x, H3 q = some (.tup x) → upd H3 e (.lst (vs ++ [v])) q = some (.tup x) := fun q x h => (upd_ne fun z => by rw [z, hv] at h; cases h).trans h
      refine ⟨vs, hv, small (by omega), ws ++ [o], ⟨fun o' ho => ?_, vs ++ [v], upd_same, by rw [List.length_append, List.length_append, vl]; rfl, fun j v' o' h1 h2 => ?_⟩, by rw [List.length_append, wl]; rfl, (B.upd B3 ne ef).le (by omega), ef⟩
      · rcases List.mem_append.mp ho with m | m
        · exact W.ok _ m
        · rw [List.mem_singleton.mp m]
          exact wo
      · by_cases hj : j < vs.length
        · rw [List.getElem?_append_left hj] at h1
          rw [List.getElem?_append_left (by omega)] at h2
          exact (pw j v' o' h1 h2).keep tp
        · rw [List.getElem?_append_right (by omega)] at h1 h2
          have j0 : j - vs.length = 0 := by
            have := (List.getElem?_eq_some_iff.mp h1).1
            rw [List.length_singleton] at this
            omega
          rw [j0] at h1
          rw [show j - ws.length = 0 by omega] at h2
          cases Option.some.inj h1
          cases Option.some.inj h2
          exact pW.keep tp
    · rintro σ H2 ⟨ws, o3, rfl, W, wl, B2, e2⟩
      walk_at "rd"
      exact k e ws H2 ne W wl (B2.le (by omega)) e2
/-- what is handed over, by what is drawn -/
structure HV (C : Addr) (H : Hp) (l : Bool) (p : Addr) (ws : List Wt) (pls : List Int) : Prop where
  ok : ∀ o ∈ ws, WOk o
  ob : ∃ vs : List V, H p = some (sq l vs) ∧ vs.length = ws.length ∧ pls.length = ws.length ∧ ∀ (i : Nat) (v : V) (o : Wt) (q : Int), vs[i]? = some v → ws[i]? = some o → pls[i]? = some q → GV C H v o q
theorem HV.same {C : Addr} {H H' : Hp} {l : Bool} {p : Addr} {ws : List Wt} {pls : List Int} (e : Same H H') (W : HV C H l p ws pls) : HV C H' l p ws pls :=
  let ⟨vs, a, b, b', c⟩ := W.ob
  ⟨W.ok, vs, e _ _ a, b, b', fun i v o q h1 h2 h3 => (c i v o q h1 h2 h3).same e⟩
theorem HV.ws {C : Addr} {H : Hp} {l : Bool} {p : Addr} {ws : List Wt} {pls : List Int} (W : HV C H l p ws pls) : WsV C H l p ws :=
  let ⟨vs, a, b, b', c⟩ := W.ob
  ⟨W.ok, vs, a, b, fun i v o h1 h2 => by
    have il := (List.getElem?_eq_some_iff.mp h2).1
    exact (c i v o (pls[i]'(by omega)) h1 h2 (List.getElem?_eq_getElem (by omega))).wv⟩
end

end K37
namespace K37
open PySem PySem.Spec PyProof.Rows L2 Own OwnSeq OwnSet OwnComb OwnSort OwnHot OwnExN OwnProj
local macro_rules | `(tactic| walk_at "rd") => `(tactic| simp only [tSeq, tAsg, tOp, tUn, tVar, gName, gSub, rIxL, rIxT, rSetL, tC, rI0, rI, rU, rEq, rNe, tCons, tNil, tCB, tLst, tTup, tIfS, tAnd, tOr, tNot, tAndV, tOrV, tNotV, tTest, tB, tIf, tRet, tDrop, tNext, tBreak, tCont, tCall, tCallS, L2.WE, tMakeS, rIsS, rIsB, tChain, gSeq, gRest, gCons, gNil, tFor_seq, tFor_enumS, tLc_seq, tLc_enumS, rAny, rAll, L2.tMeth, StX.tStar, rIn, tLstRg, tRg1, tRg2, rSetI, rSortedSet, rInDT, rInD, rNotInD, rEqD, rNeD, iComb, tFld, tMake, tMkO, sFld, tOst, tNever, tBits, clv, isB,
  Rd.tFor_rng1, Rd.tFor_rng2, Rd.tFor_list, Rd.tFor_tup, Rd.tLc_list, Rd.tLc_tup, Rd.tLc_rng1, Rd.LcTurn, tYes, wipe, Rd.rLenL, Rd.rLenT, Rd.rIntI, Rd.rIxH, rIxHT,  HO.tup.injEq, Rd.at0, Rd.at1, Rd.at2, Rd.at3, Rd.ixN40, Rd.ixN41, Rd.ixN42, Rd.ixN43, Rd.scal_ii, cxOf,
  List.length_cons, List.length_nil, List.length_map, List.map_cons, List.map_nil, upd_same, decide_eq_true_eq, decide_true, decide_false, if_true, if_false, Bool.false_eq_true, Bool.not_true, Bool.not_false, HO.lst.injEq, HO.ins.injEq, List.set_cons_zero, List.set_cons_succ, List.getElem?_cons_zero, List.getElem?_cons_succ, List.append_nil, List.nil_append, List.cons_append, Option.some.injEq, V.ref.injEq, V.int.injEq, V.bl.injEq, List.cons.injEq, exists_eq_left', exists_and_left, exists_eq_left, true_and, and_true, and_self, and_assoc, implies_true, reduceCtorEq, Nat.reduceAdd])

/-! ### weights on one scale -/
def scV (E : Int) (o : Wt) : V := match o with | none => .non | some (n, d) => .int (n * E.fdiv d)
theorem sc_pos {E n d : Int} (hE : 0 < E) (hd : 0 < d) (h : d ∣ E) : 0 < E.fdiv d := by
  obtain ⟨x, rfl⟩ := h
  rw [Int.mul_fdiv_cancel_left _ (by omega)]
  exact Int.pos_of_mul_pos_right hE hd
theorem sc_gt {E n d : Int} (hE : 0 < E) (hd : 0 < d) (h : d ∣ E) : 0 < n * E.fdiv d ↔ 0 < n := by
  have p := sc_pos (n := n) hE hd h
  exact ⟨fun z => Int.pos_of_mul_pos_left z p, fun z => Int.mul_pos z p⟩
theorem sc_lt {E n1 d1 n2 d2 : Int} (hE : 0 < E) (h1 : 0 < d1) (h2 : 0 < d2) (v1 : d1 ∣ E) (v2 : d2 ∣ E) : n1 * E.fdiv d1 < n2 * E.fdiv d2 ↔ n1 * d2 < n2 * d1 := by
  obtain ⟨x, hx⟩ := v1
  obtain ⟨y, hy⟩ := v2
  have ex : E.fdiv d1 = x := by rw [hx, Int.mul_fdiv_cancel_left _ (by omega)]
  have ey : E.fdiv d2 = y := by rw [hy, Int.mul_fdiv_cancel_left _ (by omega)]
  rw [ex, ey]
  have a1 : n1 * x * (d1 * d2) = n1 * d2 * E := by
    rw [hx]
    simp only [Int.mul_assoc, Int.mul_comm, Int.mul_left_comm]
  have a2 : n2 * y * (d1 * d2) = n2 * d1 * E := by
    rw [hy]
    simp only [Int.mul_assoc, Int.mul_comm, Int.mul_left_comm]
  have dd : 0 < d1 * d2 := Int.mul_pos h1 h2
  constructor
  · intro z
    have z := Int.mul_lt_mul_of_pos_right z dd
    rw [a1, a2] at z
    exact Int.lt_of_mul_lt_mul_right z (Int.le_of_lt hE)
  · intro z
    have z := Int.mul_lt_mul_of_pos_right z hE
    rw [← a1, ← a2] at z
    exact Int.lt_of_mul_lt_mul_right z (Int.le_of_lt dd)
section
variable {P : Program} {w : World} {K : PySem.W.Frag} {mg : Str → Option Value} {base : Heap} {a : Ad}
/-! ### _law_scaled -/
def spSca : Sp := fun vs H Q _ => ∃ (e : Addr) (ws : List Wt), vs = [.ref e] ∧ PsV H e ws ∧ ws.length ≤ 6 ∧ ∀ r H', Same H H' → H' r = some (.lst (ws.map (scV (Ecan ws)) ++ [.int (Ecan ws)])) → Q (.ref r) H'
theorem sc_law_scaled : FnScope ["weights", "each", "pair"] ["weights"] (defScope s_law_scaled) := ⟨rfl, rfl, rfl, by decide +kernel, rfl, by decide +kernel, by decide +kernel⟩
theorem ok_law_scaled (T : Txt K mg a) : FnOk P w K mg base CX0 2 a.a_law_scaled a.d_law_scaled ["weights"] spSca := by
  refine T.fn_law_scaled.ok sc_law_scaled (fun vs H Q E h => ?_) (fun cdv A outer s H vs Q E hr h => ?_)
  · obtain ⟨e, ws, rfl, _⟩ := h
    rfl
  · obtain ⟨e, ws, rfl, W, w6, k⟩ := h
    refine ⟨_, (pss_cons (ps_set (i := 1) sc_law_scaled.nd rfl (Or.inr rfl) pe_int)
      (pss_cons (ps_for PassesOwn.never rfl (pi_list (pv 0)) (pg_name (i := 2) sc_law_scaled.nd rfl (Or.inl rfl))
        (pss_one (ps_if (pt_cmpR op_notN (pv 2) pe_non (nomark _)) (pss_one (ps_set (i := 1) sc_law_scaled.nd rfl (Or.inr rfl) (pe_op op_mulW (pv 1) (pe_ix ixHT (pe_call (ok_law_low T) (hr.mono (by decide)) (by rfl) T.mg_law_low T.fn_law_low.kp T.b_law_low .nil pass0 (pa_cons (pv 1) (pa_cons (pe_ix ixHT (pv 2) pe_int (fun _ _ => rfl)) pa_nil))) pe_int (fun _ _ => rfl))))) pss_nil)))
      (pss_one (ps_ret (pe_op op_cat (pe_lc (own := [("pair", 2)]) (by rfl) sc_law_scaled.nd (pi_list (pv 0)) (blkOk_by (own := [("pair", 2)]) (N := ["weights", "each", "pair"]) (sc := defScope s_law_scaled) (by decide +kernel)) (fun _ _ _ _ _ => pg_name (i := 2) sc_law_scaled.nd rfl (Or.inl rfl)) (fun _ _ _ _ _ => pts_nil) (fun _ _ _ _ _ => (pe_ifExp (pt_cmpR op_isN (pv 2) pe_non (nomark _)) pe_non (pe_op op_mulW (pe_ix ixHT (pv 2) pe_int (fun _ _ => rfl)) (pe_op op_fdivWN (pv 1) (pe_ix ixHT (pv 2) pe_int (fun _ _ => rfl))))))) (pe_lst (pa_cons (pv 1) pa_nil))))))), ?_⟩
    show (_ : TS) _ [some (V.ref e), none, none] H
    obtain ⟨vs, hv, vl, pw⟩ := W.ob
    refine cut (fun σ H' => σ = [some (V.ref e), some (V.int 1), none] ∧ H' = H) (fun R hR => ?_) (fun σ H1 h => ?_)
    · walk_at "rd"
      exact hR _ _ ⟨rfl, rfl⟩
    obtain ⟨rfl, rfl⟩ := h
    refine cut (fun σ H' => ∃ o2, σ = [some (V.ref e), some (V.int (Ecan ws)), o2] ∧ Same H1 H') (fun R hR => ?_) (fun σ H2 h => ?_)
    · walk_at "rd"
      refine ⟨⟨_, SqL.of hv⟩, ?_⟩
      refine Rd.loop_listC (xs := vs) R
        (fun i σ H' => ∃ o2, σ = [some (V.ref e), some (V.int (Ecan (ws.take i))), o2] ∧ Same H1 H')
        ⟨none, rfl, Same.refl _⟩ (fun i σ H' _ ⟨_, _, h⟩ => SqL.of (h _ _ hv)) ?_ (fun σ H' ⟨o2, q1, q2⟩ => hR _ _ ⟨o2, by rw [vl, List.take_length] at q1; exact q1, q2⟩) (fun σ H' h => h)
      rintro bk hbk i x σ H2 hx ⟨o2, rfl, e2⟩
      have il := (List.getElem?_eq_some_iff.mp hx).1
      have ew : ws[i]? = some (ws[i]'(by omega)) := List.getElem?_eq_getElem (by omega)
      have pW := (pw i _ _ hx ew).keep fun _ _ h => e2 _ _ h
      have wo := W.ok _ (List.mem_of_getElem? ew)
      obtain ⟨E0, Ed, Eb⟩ := ec_at W.ok i (by omega)
      rw [ec_next ew]
      generalize ws[i]'(by omega) = o at ew pW wo
      generalize Ecan (ws.take i) = E' at E0 Ed Eb ⊢
      walk_at "rd"
      cases o with
      | none =>
        have pW : x = .non := pW
        subst pW
        rw [if_neg (by decide)]
        exact ⟨rfl, e2⟩
      | some q =>
        obtain ⟨n, d⟩ := q
        obtain ⟨q, rfl, hq⟩ := pW
        obtain ⟨d0, wn, wd⟩ := wo n d rfl
        rw [decide_eq_false (fun z => by cases z), if_pos (by decide)]
        have bE : Big E' := Nat.lt_of_lt_of_le Eb (Nat.pow_le_pow_right (by decide) (by omega))
        refine ⟨q, rfl, _, hq, _, Rd.at1, E', d, rfl, d0, bE, wd.big, fun u H3 u0 e3 hu => ⟨u, rfl, _, hu, _, Rd.at1, _, rfl, ?_⟩⟩
        have lb : (LD E' d).natAbs < 2 ^ 140 := Nat.lt_of_le_of_lt (LD_le (by omega)) wd
        exact ⟨wide_mul Eb lb (by omega) (by decide) (by omega), rfl, e2.trans e3⟩
    obtain ⟨o2, rfl, e2⟩ := h
    have so := ec_ok W.ok w6
    have Eb := so.sm
    generalize hE : Ecan ws = E' at so Eb ⊢
    walk_at "rd"
    refine ⟨⟨_, SqL.of (e2 _ _ hv)⟩, Rd.lcl_list (xs := vs) (fun D i H5 => H2 D = none ∧ Same H2 H5 ∧ H5 D = some (.lst ((ws.take i).map (scV E')))) (fun D hD => ⟨hD, same_upd hD, upd_same⟩) (fun D i H5 _ z => SqL.of (z.2.1 _ _ (e2 _ _ hv))) (fun D i x H5 hx ⟨n5, e5, a5⟩ => ?_) (fun D H5 _ ⟨n5, e5, a5⟩ => ?_)⟩
    · have il := (List.getElem?_eq_some_iff.mp hx).1
      have ew : ws[i]? = some (ws[i]'(by omega)) := List.getElem?_eq_getElem (by omega)
      have pW := (pw i _ _ hx ew).keep fun _ _ h => e5 _ _ (e2 _ _ h)
      have wo := W.ok _ (List.mem_of_getElem? ew)
      have om := List.mem_of_getElem? ew
      generalize ws[i]'(by omega) = o at ew pW wo om
      walk_at "rd"
      have put : ∀ v, v = scV E' o → ∃ acc, H5 D = some (HO.lst acc) ∧ acc.length < sizeLine ∧ H2 D = none ∧ Same H2 (upd H5 D (HO.lst (acc ++ [v]))) ∧ acc ++ [v] = (ws.take (i + 1)).map (scV E') := fun v e => by
        refine ⟨_, a5, small (by rw [List.length_map, List.length_take]; omega), n5, fun b o hb => (upd_ne (ne_of_none hb n5)).trans (e5 _ _ hb), ?_⟩
        rw [List.take_add_one, ew, List.map_append, e]
        rfl
      cases o with
      | none =>
        have pW : x = .non := pW
        subst pW
        rw [if_pos rfl]
        exact put _ rfl
      | some q =>
        obtain ⟨n, d⟩ := q
        obtain ⟨q, rfl, hq⟩ := pW
        obtain ⟨d0, wn, wd⟩ := wo n d rfl
        rw [if_neg (fun z => by cases z)]
        have fb := fd_small d0 (so.dvd n d om) Eb
        exact ⟨q, rfl, _, hq, _, Rd.at0, q, rfl, _, hq, _, Rd.at1, _, rfl, ⟨by omega, Nat.lt_of_lt_of_le (PySem.Flt.log2_lt_of (by decide) wd) (by decide)⟩, _, rfl, wide_mul wn fb (by decide) (by decide) (by decide), put _ rfl⟩
    · rw [vl, List.take_length] at a5
      refine ⟨by decide, fun u hu => ⟨D, u, _, _, rfl, rfl, (same_upd hu) _ _ a5, upd_same, small_le (by rw [List.length_map]; show _ + 1 ≤ 1000; omega), fun z hz => ?_⟩⟩
      refine k z _ (((e2.trans e5).trans (same_upd hu)).trans (same_upd hz)) ?_
      rw [hE]
      exact upd_same
end

end K37
namespace K37
open PySem PySem.Spec PyProof.Rows L2 Own OwnSeq OwnSet OwnComb OwnSort OwnHot OwnExN OwnProj
local macro_rules | `(tactic| walk_at "rd") => `(tactic| simp only [tSeq, tAsg, tOp, tUn, tVar, gName, gSub, rIxL, rIxT, rSetL, tC, rI0, rI, rU, rEq, rNe, tCons, tNil, tCB, tLst, tTup, tIfS, tAnd, tOr, tNot, tAndV, tOrV, tNotV, tTest, tB, tIf, tRet, tDrop, tNext, tBreak, tCont, tCall, tCallS, L2.WE, tMakeS, rIsS, rIsB, tChain, gSeq, gRest, gCons, gNil, tFor_seq, tFor_enumS, tLc_seq, tLc_enumS, rAny, rAll, L2.tMeth, StX.tStar, rIn, tLstRg, tRg1, tRg2, rSetI, rSortedSet, rInDT, rInD, rNotInD, rEqD, rNeD, iComb, tFld, tMake, tMkO, sFld, tOst, tNever, tBits, clv, isB,
  Rd.tFor_rng1, Rd.tFor_rng2, Rd.tFor_list, Rd.tFor_tup, Rd.tLc_list, Rd.tLc_tup, Rd.tLc_rng1, Rd.LcTurn, tYes, wipe, Rd.rLenL, Rd.rLenT, Rd.rIntI, Rd.rIxH, rIxHT,  HO.tup.injEq, Rd.at0, Rd.at1, Rd.at2, Rd.at3, Rd.ixN40, Rd.ixN41, Rd.ixN42, Rd.ixN43, Rd.scal_ii, cxOf,
  List.length_cons, List.length_nil, List.length_map, List.map_cons, List.map_nil, upd_same, decide_eq_true_eq, decide_true, decide_false, if_true, if_false, Bool.false_eq_true, Bool.not_true, Bool.not_false, HO.lst.injEq, HO.ins.injEq, List.set_cons_zero, List.set_cons_succ, List.getElem?_cons_zero, List.getElem?_cons_succ, List.append_nil, List.nil_append, List.cons_append, Option.some.injEq, V.ref.injEq, V.int.injEq, V.bl.injEq, List.cons.injEq, exists_eq_left', exists_and_left, exists_eq_left, true_and, and_true, and_self, and_assoc, implies_true, reduceCtorEq, Nat.reduceAdd])

/-! ### the heaviest set, by reckoning -/
def posL (ws : List Wt) (s : List Nat) : Bool := s.all (posW ws)
def hvT (E : Int) (ws : List Wt) (b s : List Nat) : List Nat := if (posL ws s && decide (ssum E ws b < ssum E ws s)) = true then s else b
def hvN (E : Int) (n : Nat) (S : List Bool) (ws : List Wt) (i : Nat) : List Nat := ((famL n S).take i).foldl (hvT E ws) []
theorem hv_next {E : Int} {n i : Nat} {S : List Bool} {ws : List Wt} {s : List Nat} (h : (famL n S)[i]? = some s) : hvN E n S ws (i + 1) = hvT E ws (hvN E n S ws i) s := by
  unfold hvN
  rw [List.take_add_one, h, List.foldl_append]
  rfl
theorem hv_at {E : Int} {n : Nat} {S : List Bool} {ws : List Wt} (F : Fam n S) : ∀ i, i ≤ (famL n S).length → hvN E n S ws i ∈ famL n S ∧ posL ws (hvN E n S ws i) = true ∧ 0 ≤ ssum E ws (hvN E n S ws i) ∧ ∀ s ∈ (famL n S).take i, posL ws s = true → ssum E ws s ≤ ssum E ws (hvN E n S ws i)
  | 0, _ => ⟨famL_mem.mpr ⟨nil_in F.n6, F.zero⟩, rfl, Int.le_refl _, fun s h => by cases h⟩
  | i + 1, hi => by
    obtain ⟨h1, h2, h3, h4⟩ := hv_at (E := E) (ws := ws) F i (by omega)
    have e : (famL n S)[i]? = some ((famL n S)[i]'(by omega)) := List.getElem?_eq_getElem (by omega)
    have m := List.mem_of_getElem? e
    have tk : (famL n S).take (i + 1) = (famL n S).take i ++ [(famL n S)[i]'(by omega)] := by rw [List.take_add_one, e]; rfl
    rw [hv_next e, tk]
    generalize (famL n S)[i]'(by omega) = u at m
    generalize hvN E n S ws i = b at *
    unfold hvT
    by_cases c : (posL ws u && decide (ssum E ws b < ssum E ws u)) = true
    · rw [if_pos c]
      obtain ⟨c1, c2⟩ := Bool.and_eq_true_iff.mp c
      have c2 := of_decide_eq_true c2
      refine ⟨m, c1, by omega, fun s hs ps => ?_⟩
      rcases List.mem_append.mp hs with x | x
      · have := h4 s x ps
        omega
      · rw [List.mem_singleton.mp x]
        exact Int.le_refl _
    · rw [if_neg c]
      refine ⟨h1, h2, h3, fun s hs ps => ?_⟩
      rcases List.mem_append.mp hs with x | x
      · exact h4 s x ps
      · have x := List.mem_singleton.mp x
        subst x
        rw [ps, Bool.true_and, decide_eq_true_eq] at c
        omega
section
variable {P : Program} {w : World} {K : PySem.W.Frag} {mg : Str → Option Value} {base : Heap} {a : Ad}
/-! ### heaviest_set -/
def spHv (CF C : Addr) : Sp := fun vs H Q _ => ∃ (f q : Addr) (l : Bool) (n : Nat) (S : List Bool) (ws : List Wt) (E : Int), vs = [.ref f, .ref q] ∧ FamV CF H f n S ∧ WsV C H l q ws ∧ ws.length = n ∧ ScOk E ws ∧ ∀ r H', Same H H' → H' r = some (.tup (iv (hvN E n S ws (famL n S).length))) → Q (.ref r) H'
theorem sc_heaviest_set : FnScope ["family", "weights", "best", "most", "held", "weight", "thing"] ["family", "weights"] (defScope s_heaviest_set) := ⟨rfl, rfl, rfl, by decide +kernel, rfl, by decide +kernel, by decide +kernel⟩
theorem ok_heaviest_set (T : Txt K mg a) : FnOk P w K mg base CX0 7 a.a_heaviest_set a.d_heaviest_set ["family", "weights"] (spHv a.C_Family a.C_Frac) := by
  refine T.fn_heaviest_set.ok sc_heaviest_set (fun vs H Q E h => ?_) (fun cdv A outer s H vs Q E hr h => ?_)
  · obtain ⟨f, q, l, n, S, ws, E', rfl, _⟩ := h
    rfl
  · obtain ⟨f, q, l, n, S, ws, E', rfl, F, W, wl, so, k⟩ := h
    obtain ⟨b2d, b2v, b2b⟩ := b2 T
    refine ⟨_, (pss_cons (ps_set (i := 2) sc_heaviest_set.nd rfl (Or.inl rfl) (pe_tup pa_nil))
      (pss_cons (ps_set (i := 3) sc_heaviest_set.nd rfl (Or.inl rfl) (pe_make T.mk_Frac (ok_Frac_init T) (hr.mono (by decide)) (by rfl) T.mg_Frac b2b b2v pass0 (pa_cons pe_int pa_nil)))
      (pss_cons (ps_for PassesOwn.never rfl (pi_seq (pe_fldK K (pv 0))) (pg_name (i := 4) sc_heaviest_set.nd rfl (Or.inl rfl))
        (pss_one (ps_if (pt_val (pe_callB (allK K) (by rfl) T.no_all (by decide +kernel) (pa_cons (pe_lc (own := [("thing", 6)]) (by rfl) sc_heaviest_set.nd (pi_seq (pv 4)) (blkOk_by (own := [("thing", 6)]) (N := ["family", "weights", "best", "most", "held", "weight", "thing"]) (sc := defScope s_heaviest_set) (by decide +kernel)) (fun _ _ _ _ _ => pg_name (i := 6) sc_heaviest_set.nd rfl (Or.inl rfl)) (fun _ _ _ _ _ => pts_nil) (fun _ _ _ _ _ => (pe_call (ok_is_above_0 T) (hr.mono (by decide)) (by rfl) T.mg_is_above_0 T.fn_is_above_0.kp T.b_is_above_0 .nil pass0 (pa_cons (pe_ix ixQ (pv 1) (pv 6) (fun _ _ => rfl)) pa_nil)))) pa_nil))) (pss_cons (ps_set (i := 5) sc_heaviest_set.nd rfl (Or.inl rfl) (pe_call (ok_set_weight T) (hr.mono (by decide)) (by rfl) T.mg_set_weight T.fn_set_weight.kp T.b_set_weight .nil pass0 (pa_cons (pv 1) (pa_cons (pv 4) pa_nil))))
          (pss_one (ps_if (pt_val (pe_meth (pv 3) T.cl_Frac T.mt_Frac_is_below (ok_Frac_is_below T) (hr.mono (by decide)) T.b_Frac_is_below .nil pass0 (pa_cons (pv 5) pa_nil))) (pss_cons (ps_set (i := 2) sc_heaviest_set.nd rfl (Or.inl rfl) (pv 4))
            (pss_one (ps_set (i := 3) sc_heaviest_set.nd rfl (Or.inl rfl) (pv 5)))) pss_nil))) pss_nil)))
      (pss_one (ps_ret (pv 2)))))), ?_⟩
    show (_ : TS) _ [some (V.ref f), some (V.ref q), none, none, none, none, none] H
    have n6 := F.fam.n6
    obtain ⟨dx, tp, ys, hf, htp, tv⟩ := F.ob
    have fl := famL_len (S := S) n6
    have yl := tv.len
    have mE : Mid E' := Nat.lt_of_lt_of_le so.sm (Nat.pow_le_pow_right (by decide) (by decide))
    have E0 := so.pos
    refine cut (fun σ H' => ∃ t, σ = [some (V.ref f), some (V.ref q), some (V.ref t), none, none, none, none] ∧ Same H H' ∧ H' t = some (.tup (iv []))) (fun R hR => ?_) (fun σ H1 h => ?_)
    · walk_at "rd"
      exact ⟨Nat.zero_le _, fun t ht => hR _ _ ⟨t, rfl, same_upd ht, upd_same⟩⟩
    obtain ⟨t, rfl, e1, ht⟩ := h
    refine cut (fun σ H' => ∃ m, σ = [some (V.ref f), some (V.ref q), some (V.ref t), some (V.ref m), none, none, none] ∧ Same H1 H' ∧ FrV a.C_Frac H' m (LN 0 1) (LD 0 1)) (fun R hR => ?_) (fun σ H2 h => ?_)
    · walk_at "rd"
      refine fun x0 dx0 n0 m0 ne => ⟨x0, dx0, 0, 1, rfl, upd_same, by decide, by decide, by decide, fun H2 h1 h2 => ?_⟩
      obtain ⟨fp, e2⟩ := frac_new n0 m0 h1 h2
      exact ⟨rfl, hR _ _ ⟨x0, rfl, e2, fp⟩⟩
    obtain ⟨m0, rfl, e2, fm⟩ := h
    walk_at "rd"
    have e02 := e1.trans e2
    refine ⟨_, dx, _, e02 _ _ hf, T.cl_Family, T.na_Family_sets, _, ff_sets tp n, tp, rfl, false, _, e02 _ _ htp, ?_⟩
    refine loop_goes (goes_seq (xs := ys)) (fun σ H' => ∃ t m o4 o5, σ = [some (V.ref f), some (V.ref q), some (V.ref t), some (V.ref m), o4, o5, none] ∧ Same H H' ∧ H' t = some (.tup (iv (hvN E' n S ws (famL n S).length))))
      (fun i σ H' => ∃ t m o4 o5, σ = [some (V.ref f), some (V.ref q), some (V.ref t), some (V.ref m), o4, o5, none] ∧ Same H H' ∧ H' t = some (.tup (iv (hvN E' n S ws i))) ∧ FrV a.C_Frac H' m (LN (ssum E' ws (hvN E' n S ws i)) E') (LD (ssum E' ws (hvN E' n S ws i)) E'))
      ⟨t, m0, none, none, rfl, e02, e2 _ _ ht, by rw [show ssum E' ws (hvN E' n S ws 0) = 0 from rfl, ← (low_zero E0).1, ← (low_zero E0).2]; exact fm⟩ (fun i σ H' _ ⟨_, _, _, _, _, h, _⟩ => h _ _ htp) ?_ (fun σ H' ⟨t, m, o4, o5, q1, q2, q3, _⟩ => ⟨t, m, o4, o5, q1, q2, by rw [yl] at q3; exact q3⟩) ?_
    · rintro bk hbk i x σ H3 H3' hi ⟨t, m, o4, o5, rfl, e3, ht3, fm3⟩ ⟨eq5, hx⟩
      subst eq5
      obtain ⟨s', hs, hq', rfl, hh⟩ := (tv.same e3).at hx
      have sm := List.mem_of_getElem? hs
      have sl := allS_at (famL_mem.mp sm).1 n6
      have s6 : s'.length ≤ 6 := Nat.le_trans sl.2.2.2.1 n6
      obtain ⟨v1, v2, v3, v4⟩ := hv_at (E := E') (ws := ws) F.fam i (by omega)
      have b6 : (hvN E' n S ws i).length ≤ 6 := Nat.le_trans (allS_at (famL_mem.mp v1).1 n6).2.2.2.1 n6
      rw [hv_next hs]
      generalize hvN E' n S ws i = b at *
      walk_at "rd"
      refine ⟨false, _, hh, lcl_goes goes_seq (fun D i H5 => H3' D = none ∧ Same H3' H5 ∧ H5 D = some (.lst (((s'.take i).map (posW ws)).map V.bl))) (fun D hD => ⟨hD, same_upd hD, upd_same⟩)
        (fun D i H5 _ h => h.2.1 _ _ hh) (fun D j x H5 H5' hj ⟨n5, e5, a5⟩ ⟨eq5, hx⟩ => ?_) (fun D H5 _ ⟨n5, e5, a5⟩ => ?_)⟩
      · subst eq5
        obtain ⟨g, hg, rfl⟩ := at_iv hx
        rw [iv_len] at hj
        have gn := sl.2.2.1 g (List.mem_of_getElem? hg)
        obtain ⟨vs, u1, a1, c1, w1, k1⟩ := (W.same (e3.trans e5)).get (g := g) (by omega)
        walk_at "rd"
        refine ⟨q, l, vs, _, u1, rfl, rfl, a1, c1, u1, _, rfl, w1, k1, fun H6 e6 => ⟨_, e6 _ _ a5, small (by rw [List.length_map, List.length_map, List.length_take]; omega), n5, fun b o hb => (upd_ne (ne_of_none hb n5)).trans (e6 _ _ (e5 _ _ hb)), ?_⟩⟩
        rw [List.take_add_one, hg, List.map_append, List.map_append]
        rfl
      · rw [iv_len, List.take_length] at a5
        refine ⟨D, rfl, _, SqL.of a5, ?_⟩
        rw [show (s'.map (posW ws)).all id = posL ws s' by rw [List.all_map]; rfl]
        have e35 := e3.trans e5
        refine ite2 (fun hp => ?_) (fun hp => ?_)
        · refine ⟨q, hq', l, false, E', ws, s', rfl, W.same e35, e5 _ _ hh, so, s6, fun g hg => ⟨by rw [wl]; exact sl.2.2.1 g hg, ?_⟩, fun x H6 e6 fx => ?_⟩
          · obtain ⟨n', d', e⟩ := pos_some (List.all_eq_true.mp hp g hg)
            rw [e]
            exact fun z => by cases z
          · have fm6 := (fm3.same e5).same e6
            obtain ⟨dm, hm⟩ := id fm6
            refine ⟨dm, _, hm, fq_no _ _ (by decide +kernel) (by decide +kernel), m, x, _, _, _, _, rfl, fm6, fx, Nat.lt_of_le_of_lt (LN_le (by omega)) (ss_mid so b6), Nat.lt_of_le_of_lt (LD_le (by omega)) mE, Nat.lt_of_le_of_lt (LN_le (by omega)) (ss_mid so s6), Nat.lt_of_le_of_lt (LD_le (by omega)) mE, _, rfl, ?_⟩
            have key : decide (LN (ssum E' ws b) E' * LD (ssum E' ws s') E' < LN (ssum E' ws s') E' * LD (ssum E' ws b) E') = decide (ssum E' ws b < ssum E' ws s') := by
              refine decide_eq_decide.mpr ((low_lt E0 E0).trans ?_)
              exact ⟨fun h => Int.lt_of_mul_lt_mul_right h (Int.le_of_lt E0), fun h => Int.mul_lt_mul_of_pos_right h E0⟩
            rw [key]
            unfold hvT
            rw [hp, Bool.true_and]
            refine ite2 (fun h => ?_) (fun h => ?_)
            · rw [if_pos h]
              exact ⟨x, rfl, e35.trans e6, e6 _ _ (e5 _ _ hh), fx⟩
            · rw [if_neg h]
              exact ⟨e35.trans e6, e6 _ _ (e5 _ _ ht3), fm6⟩
        · unfold hvT
          rw [Bool.eq_false_iff.mpr hp, Bool.false_and, if_neg (by decide)]
          exact ⟨e35, e5 _ _ ht3, fm3.same e5⟩
    · rintro σ H3 ⟨t, m, o4, o5, rfl, e3, ht3⟩
      walk_at "rd"
      exact k t H3 e3 ht3
end

end K37
namespace K37
open PySem PySem.Spec PyProof.Rows L2 Own OwnSeq OwnSet OwnComb OwnSort OwnHot OwnExN OwnProj
local macro_rules | `(tactic| walk_at "rd") => `(tactic| simp only [tSeq, tAsg, tOp, tUn, tVar, gName, gSub, rIxL, rIxT, rSetL, tC, rI0, rI, rU, rEq, rNe, tCons, tNil, tCB, tLst, tTup, tIfS, tAnd, tOr, tNot, tAndV, tOrV, tNotV, tTest, tB, tIf, tRet, tDrop, tNext, tBreak, tCont, tCall, tCallS, L2.WE, tMakeS, rIsS, rIsB, tChain, gSeq, gRest, gCons, gNil, tFor_seq, tFor_enumS, tLc_seq, tLc_enumS, rAny, rAll, L2.tMeth, StX.tStar, rIn, tLstRg, tRg1, tRg2, rSetI, rSortedSet, rInDT, rInD, rNotInD, rEqD, rNeD, iComb, tFld, tMake, tMkO, sFld, tOst, tNever, tBits, clv, isB,
  Rd.tFor_rng1, Rd.tFor_rng2, Rd.tFor_list, Rd.tFor_tup, Rd.tLc_list, Rd.tLc_tup, Rd.tLc_rng1, Rd.LcTurn, tYes, wipe, Rd.rLenL, Rd.rLenT, Rd.rIntI, Rd.rIxH, rIxHT,  HO.tup.injEq, Rd.at0, Rd.at1, Rd.at2, Rd.at3, Rd.ixN40, Rd.ixN41, Rd.ixN42, Rd.ixN43, Rd.scal_ii, cxOf,
  List.length_cons, List.length_nil, List.length_map, List.map_cons, List.map_nil, upd_same, decide_eq_true_eq, decide_true, decide_false, if_true, if_false, Bool.false_eq_true, Bool.not_true, Bool.not_false, HO.lst.injEq, HO.ins.injEq, List.set_cons_zero, List.set_cons_succ, List.getElem?_cons_zero, List.getElem?_cons_succ, List.append_nil, List.nil_append, List.cons_append, Option.some.injEq, V.ref.injEq, V.int.injEq, V.bl.injEq, List.cons.injEq, exists_eq_left', exists_and_left, exists_eq_left, true_and, and_true, and_self, and_assoc, implies_true, reduceCtorEq, Nat.reduceAdd])

theorem bits_eqs : ((List.range 7).all fun n => (allS n).all fun s => decide ((List.range n).filter (bit (mk s)) = s)) = true := by decide +kernel
theorem bits_eq {n : Nat} {s : List Nat} (h : n ≤ 6) (hs : s ∈ allS n) : (List.range n).filter (bit (mk s)) = s := of_decide_eq_true (List.all_eq_true.mp (List.all_eq_true.mp bits_eqs n (List.mem_range.mpr (by omega))) s hs)
theorem sc_at {ws : List Wt} {ex : List V} {E : Int} {j : Nat} (h : j < ws.length) : atI (ws.map (scV E) ++ ex) (j : Nat) = some (scV E (wt ws j)) := by
  refine atI_nat ?_
  have e : ws[j]? = some ws[j] := List.getElem?_eq_getElem h
  rw [List.getElem?_append_left (by rw [List.length_map]; exact h), List.getElem?_map]
  unfold wt
  rw [e]
  rfl
/-! ### the law's heaviest, by reckoning -/
def plusI (E : Int) (ws : List Wt) (g : Nat) : Int := if scI E ws g < 0 then 0 else scI E ws g
def psum (E : Int) (ws : List Wt) (s : List Nat) : Int := (s.map (plusI E ws)).sum
def bestP (E : Int) (n : Nat) (S : List Bool) (ws : List Wt) (j : Nat) : Int := ((famL n S).take j).foldl (fun b s => if b < psum E ws s then psum E ws s else b) 0
theorem bp_next {E : Int} {n j : Nat} {S : List Bool} {ws : List Wt} {s : List Nat} (h : (famL n S)[j]? = some s) : bestP E n S ws (j + 1) = if bestP E n S ws j < psum E ws s then psum E ws s else bestP E n S ws j := by
  unfold bestP
  rw [List.take_add_one, h, List.foldl_append]
  rfl
theorem bp_at {E : Int} {n : Nat} {S : List Bool} {ws : List Wt} {M : Int} (h0 : 0 ≤ M) (hM : ∀ s ∈ famL n S, psum E ws s ≤ M) : ∀ j, j ≤ (famL n S).length → bestP E n S ws j ≤ M ∧ ∀ s ∈ (famL n S).take j, psum E ws s ≤ bestP E n S ws j
  | 0, _ => ⟨h0, fun s h => by cases h⟩
  | j + 1, hj => by
    obtain ⟨h1, h2⟩ := bp_at h0 hM j (by omega)
    have e : (famL n S)[j]? = some ((famL n S)[j]'(by omega)) := List.getElem?_eq_getElem (by omega)
    have m := List.mem_of_getElem? e
    have tk : (famL n S).take (j + 1) = (famL n S).take j ++ [(famL n S)[j]'(by omega)] := by rw [List.take_add_one, e]; rfl
    rw [bp_next e, tk]
    generalize (famL n S)[j]'(by omega) = u at m
    generalize bestP E n S ws j = b at *
    have um := hM u m
    by_cases c : b < psum E ws u
    · rw [if_pos c]
      refine ⟨um, fun s hs => ?_⟩
      rcases List.mem_append.mp hs with x | x
      · have := h2 s x
        omega
      · rw [List.mem_singleton.mp x]
        exact Int.le_refl _
    · rw [if_neg c]
      refine ⟨h1, fun s hs => ?_⟩
      rcases List.mem_append.mp hs with x | x
      · exact h2 s x
      · rw [List.mem_singleton.mp x]
        omega
theorem sc_posI {E : Int} {ws : List Wt} (so : ScOk E ws) (g : Nat) : 0 < scI E ws g ↔ posW ws g = true := by
  unfold scI posW
  cases e : wt ws g with
  | none => exact ⟨fun h => absurd h (Int.lt_irrefl 0), fun h => by cases h⟩
  | some q =>
    obtain ⟨n, d⟩ := q
    obtain ⟨d0, _, _⟩ := so.ok _ (wt_mem e) n d rfl
    dsimp only
    rw [decide_eq_true_eq]
    exact sc_gt so.pos d0 (so.dvd n d (wt_mem e))
theorem psum_eq {E : Int} {ws : List Wt} (so : ScOk E ws) : ∀ s : List Nat, psum E ws s = ssum E ws (s.filter (posW ws))
  | [] => rfl
  | g :: s => by
    have ih := psum_eq so s
    have e : psum E ws (g :: s) = plusI E ws g + psum E ws s := rfl
    have p := sc_posI so g
    rw [e, ih]
    unfold plusI
    cases z : posW ws g with
    | true =>
      rw [List.filter_cons_of_pos z]
      have := p.mpr z
      rw [if_neg (by omega)]
      rfl
    | false =>
      rw [List.filter_cons_of_neg (by rw [z]; decide)]
      have : ¬ 0 < scI E ws g := fun y => by rw [p.mp y] at z; cases z
      have e0 : (if scI E ws g < 0 then (0 : Int) else scI E ws g) = 0 := by
        split
        · rfl
        · omega
      rw [e0, Int.zero_add]
theorem filt_pos {n : Nat} {S : List Bool} {ws : List Wt} {s : List Nat} (F : Fam n S) (hs : s ∈ famL n S) : s.filter (posW ws) ∈ famL n S := by
  obtain ⟨h1, h2⟩ := famL_mem.mp hs
  have e : s.filter (posW ws) = (List.range n).filter (fun g => posW ws g && s.contains g) := by rw [← List.filter_filter, filt_self F.n6 h1]
  have m : s.filter (posW ws) ∈ allS n := by
    rw [e]
    exact filt_in F.n6 _
  refine famL_mem.mpr ⟨m, F.down _ _ (sub_mk F.n6 m h1 ?_) h2⟩
  exact List.all_eq_true.mpr fun g hg => List.contains_iff_mem.mpr (List.mem_filter.mp hg).1
theorem heavy_eq {E : Int} {n : Nat} {S : List Bool} {ws : List Wt} (so : ScOk E ws) (F : Fam n S) : bestP E n S ws (famL n S).length = ssum E ws (hvN E n S ws (famL n S).length) := by
  obtain ⟨h1, h2, h3, h4⟩ := hv_at (E := E) (ws := ws) F _ (Nat.le_refl _)
  rw [List.take_length] at h4
  obtain ⟨b1, b2⟩ := bp_at (ws := ws) h3 (fun s hs => by
    rw [psum_eq so]
    exact h4 _ (filt_pos F hs) (List.all_eq_true.mpr fun g hg => (List.mem_filter.mp hg).2)) _ (Nat.le_refl _)
  rw [List.take_length] at b2
  have b3 := b2 _ h1
  rw [psum_eq so, List.filter_eq_self.mpr (fun g hg => List.all_eq_true.mp h2 g hg)] at b3
  omega
section
variable {P : Program} {w : World} {K : PySem.W.Frag} {mg : Str → Option Value} {base : Heap} {a : Ad}
/-! ### _law_heaviest -/
def spHL : Sp := fun vs H Q _ => ∃ (b p r : Addr) (n : Nat) (S : List Bool) (ws : List Wt) (E : Int) (ex : List V), vs = [.ref p, .int 0, .ref r] ∧ LFam b H p n S ∧ ScOk E ws ∧ H r = some (.lst (ws.map (scV E) ++ ex)) ∧ ws.length = n ∧ ∀ H', Same H H' → Q (.int (bestP E n S ws (famL n S).length)) H'
theorem sc_law_heaviest : FnScope ["family", "mask", "weights", "plus", "best", "one", "here", "k"] ["family", "mask", "weights"] (defScope s_law_heaviest) := ⟨rfl, rfl, rfl, by decide +kernel, rfl, by decide +kernel, by decide +kernel⟩
theorem ok_law_heaviest (T : Txt K mg a) : FnOk P w K mg base CX0 1 a.a_law_heaviest a.d_law_heaviest ["family", "mask", "weights"] spHL := by
  refine T.fn_law_heaviest.ok sc_law_heaviest (fun vs H Q E h => ?_) (fun cdv A outer s H vs Q E hr h => ?_)
  · obtain ⟨b, p, r, n, S, ws, E, ex, rfl, _⟩ := h
    rfl
  · obtain ⟨b, p, r, n, S, ws, E', ex, rfl, F, so, hr1, wl, k⟩ := h
    refine ⟨_, (pss_cons (ps_set (i := 3) sc_law_heaviest.nd rfl (Or.inr rfl) (pe_lc (own := [("k", 7)]) (by rfl) sc_law_heaviest.nd (pi_range1 (by rfl) T.no_range (pa_cons (pe_ix Rd.ixH (pv 0) pe_int (fun _ _ => rfl)) pa_nil)) (blkOk_by (own := [("k", 7)]) (N := ["family", "mask", "weights", "plus", "best", "one", "here", "k"]) (sc := defScope s_law_heaviest) (by decide +kernel)) (fun _ _ _ _ _ => pg_name (i := 7) sc_law_heaviest.nd rfl (Or.inl rfl)) (fun _ _ _ _ _ => pts_nil) (fun _ _ _ _ _ => (pe_ifExp (PW.pt (pw_or (pt_cmpR op_isN (pe_ix Rd.ixH (pv 2) (pv 7) (fun _ _ => rfl)) pe_non (nomark _)) (pw_or1 (pt_cmpR op_lt (pe_ix Rd.ixH (pv 2) (pv 7) (fun _ _ => rfl)) pe_int (nomark _))))) pe_int (pe_ix Rd.ixH (pv 2) (pv 7) (fun _ _ => rfl))))))
      (pss_cons (ps_set (i := 4) sc_law_heaviest.nd rfl (Or.inl rfl) pe_int)
      (pss_cons (ps_for PassesOwn.never rfl (pi_list (pe_ix Rd.ixH (pv 0) pe_int (fun _ _ => rfl))) (pg_name (i := 5) sc_law_heaviest.nd rfl (Or.inr rfl))
        (pss_one (ps_if (pt_cmpR op_eq (pe_op op_and (pv 5) (pv 1)) (pv 1) (nomark _)) (pss_cons (ps_set (i := 6) sc_law_heaviest.nd rfl (Or.inl rfl) (pe_callB (cr_sum rfl) (by rfl) T.no_sum (by decide +kernel) (pa_cons (pe_lc (own := [("k", 7)]) (by rfl) sc_law_heaviest.nd (pi_range1 (by rfl) T.no_range (pa_cons (pe_ix Rd.ixH (pv 0) pe_int (fun _ _ => rfl)) pa_nil)) (blkOk_by (own := [("k", 7)]) (N := ["family", "mask", "weights", "plus", "best", "one", "here", "k"]) (sc := defScope s_law_heaviest) (by decide +kernel)) (fun _ _ _ _ _ => pg_name (i := 7) sc_law_heaviest.nd rfl (Or.inl rfl)) (fun _ _ _ _ _ => pts_one (pt_cmpR op_eq (pe_op op_and (pe_op op_shr (pe_op op_sub (pv 5) (pv 1)) (pv 7)) pe_int) pe_int (nomark _))) (fun _ _ _ _ _ => (pe_ix Rd.ixH (pv 3) (pv 7) (fun _ _ => rfl)))) pa_nil)))
          (pss_one (ps_if (pt_cmpR op_gt (pv 6) (pv 4) (nomark _)) (pss_one (ps_set (i := 4) sc_law_heaviest.nd rfl (Or.inl rfl) (pv 6))) pss_nil))) pss_nil)))
      (pss_one (ps_ret (pv 4)))))), ?_⟩
    show (_ : TS) _ [some (V.ref p), some (V.int 0), some (V.ref r), none, none, none, none, none] H
    obtain ⟨q, o, _, _, hp, hq, ho⟩ := F.ob
    have n6 := F.fam.n6
    have ol : (ordL n S).length = (famL n S).length := by unfold ordL; rw [List.length_map]
    refine cut (fun σ H' => ∃ u, σ = [some (V.ref p), some (V.int 0), some (V.ref r), some (V.ref u), none, none, none, none] ∧ Same H H' ∧ H' u = some (.lst (((List.range n).map (plusI E' ws)).map V.int))) (fun R hR => ?_) (fun σ H1 h => ?_)
    · walk_at "rd"
      refine ⟨_, hp, _, Rd.at0, n, rfl, by omega, by omega, ?_⟩
      rw [Int.toNat_natCast]
      refine Rd.lcl_rng (fun D i H5 => H D = none ∧ Same H H5 ∧ H5 D = some (.lst (((List.range i).map (plusI E' ws)).map V.int))) (fun D hD => ⟨hD, same_upd hD, upd_same⟩) (fun D i H5 hi ⟨n5, e5, a5⟩ => ?_) (fun D H5 _ ⟨n5, e5, a5⟩ => ?_)
      · walk_at "rd"
        rw [show (0 : Int) + (i : Nat) = (i : Nat) from Int.zero_add _]
        have put : ∀ v, v = V.int (plusI E' ws i) → ∃ acc, H5 D = some (HO.lst acc) ∧ acc.length < sizeLine ∧ H D = none ∧ Same H (upd H5 D (HO.lst (acc ++ [v]))) ∧ acc ++ [v] = ((List.range (i + 1)).map (plusI E' ws)).map V.int := fun v e => by
          refine ⟨_, a5, small (by rw [List.length_map, List.length_map, List.length_range]; omega), n5, fun b o hb => (upd_ne (ne_of_none hb n5)).trans (e5 _ _ hb), ?_⟩
          rw [List.range_succ, List.map_append, List.map_append, e]
          rfl
        have sa := sc_at (ws := ws) (ex := ex) (E := E') (j := i) (by omega)
        have hr5 := e5 _ _ hr1
        refine ⟨_, hr5, _, sa, ?_⟩
        unfold plusI scI at put
        cases eo : wt ws i with
        | none =>
          rw [eo] at put
          rw [show scV E' none = V.non from rfl, if_pos rfl]
          exact put _ rfl
        | some nd =>
          obtain ⟨x, d⟩ := nd
          rw [eo] at put sa
          rw [show scV E' (some (x, d)) = V.int (x * E'.fdiv d) from rfl, if_neg (fun z => by cases z)]
          exact ⟨_, hr5, _, sa, _, rfl, ite2 (fun h => put _ (by dsimp only; rw [if_pos h])) (fun h => ⟨_, hr5, _, sa, put _ (by dsimp only; rw [if_neg h]; rfl)⟩)⟩
      · exact hR _ _ ⟨D, rfl, e5, a5⟩
    obtain ⟨u, rfl, e1, hu⟩ := h
    walk_at "rd"
    have ho1 := e1 _ _ ho
    refine ⟨_, e1 _ _ hp, _, Rd.at2, o, rfl, ⟨_, SqL.of ho1⟩, ?_⟩
    refine Rd.loop_listC (xs := iv (ordL n S)) (fun σ H' => ∃ o5 o6, σ = [some (V.ref p), some (V.int 0), some (V.ref r), some (V.ref u), some (V.int (bestP E' n S ws (famL n S).length)), o5, o6, none] ∧ Same H1 H')
      (fun i σ H' => ∃ o5 o6, σ = [some (V.ref p), some (V.int 0), some (V.ref r), some (V.ref u), some (V.int (bestP E' n S ws i)), o5, o6, none] ∧ Same H1 H')
      ⟨none, none, rfl, Same.refl _⟩ (fun i σ H' _ ⟨_, _, _, e⟩ => SqL.of (e _ _ ho1)) ?_ (fun σ H' ⟨o5, o6, q1, q2⟩ => ⟨o5, o6, by rw [iv_len, ol] at q1; exact q1, q2⟩) ?_
    · rintro bk hbk i x σ H2 hx ⟨o5, o6, rfl, e2⟩
      obtain ⟨g, hg, rfl⟩ := at_iv hx
      obtain ⟨s', hs, rfl, bs, sm⟩ := ord_at n6 hg
      have sA := (famL_mem.mp sm).1
      have e02 := e1.trans e2
      rw [bp_next hs]
      walk_at "rd"
      have m0 : Builtin.bitAnd ((mk s' : Nat) : Int) 0 = 0 := by
        have z := and_nat (x := mk s') (y := 0)
        rw [Nat.and_zero] at z
        exact z
      rw [if_pos m0]
      refine ⟨_, e02 _ _ hp, _, Rd.at0, n, rfl, by omega, by omega, ?_⟩
      rw [Int.toNat_natCast]
      refine Rd.lcl_rng (fun D j H5 => H2 D = none ∧ Same H2 H5 ∧ H5 D = some (.lst ((((List.range j).filter (bit (mk s'))).map (plusI E' ws)).map V.int))) (fun D hD => ⟨hD, same_upd hD, upd_same⟩) (fun D j H5 hj ⟨n5, e5, a5⟩ => ?_) (fun D H5 _ ⟨n5, e5, a5⟩ => ?_)
      · walk_at "rd"
        rw [show (0 : Int) + (j : Nat) = (j : Nat) from Int.zero_add _, Int.sub_zero]
        have jl : ((List.range j).filter (bit (mk s'))).length ≤ j := by
          have := List.length_filter_le (bit (mk s')) (List.range j)
          rwa [List.length_range] at this
        refine ⟨by omega, ?_⟩
        rw [List.range_succ, List.filter_append]
        refine ite2 (fun h => ⟨_, e5 _ _ (e2 _ _ hu), V.int (plusI E' ws j), atI_nat (by rw [List.getElem?_map, List.getElem?_map, List.getElem?_range hj]; rfl), _, a5, small (by rw [List.length_map, List.length_map]; omega), n5, fun b o hb => (upd_ne (ne_of_none hb n5)).trans (e5 _ _ hb), ?_⟩) (fun h => ⟨n5, e5, ?_⟩)
        · rw [bit_and] at h
          rw [List.filter_cons_of_pos h, List.filter_nil, List.map_append, List.map_append]
          rfl
        · rw [bit_and] at h
          rw [List.filter_cons_of_neg h, List.filter_nil, List.append_nil]
          exact a5
      · rw [bits_eq n6 sA] at a5
        refine ⟨D, _, rfl, SqL.of a5, ?_⟩
        refine ⟨_, rfl, ite2 (fun h => ⟨?_, e2.trans e5⟩) (fun h => ⟨?_, e2.trans e5⟩)⟩
        · rw [if_pos (show bestP E' n S ws i < psum E' ws s' from h)]
          rfl
        · rw [if_neg (show ¬ bestP E' n S ws i < psum E' ws s' from h)]
    · rintro σ H2 ⟨o5, o6, rfl, e2⟩
      walk_at "rd"
      exact k H2 (e1.trans e2)
/-! ### _law_sum -/
def spLS : Sp := fun vs H Q _ => ∃ (r : Addr) (n : Nat) (ws : List Wt) (E : Int) (s : List Nat) (ex : List V), vs = [.ref r, .int (mk s : Nat)] ∧ n ≤ 6 ∧ s ∈ allS n ∧ ws.length = n ∧ (∀ g ∈ s, wt ws g ≠ none) ∧ H r = some (.lst (ws.map (scV E) ++ ex)) ∧ ∀ H', Same H H' → Q (.int (ssum E ws s)) H'
theorem sc_law_sum : FnScope ["weights", "mask", "k"] ["weights", "mask"] (defScope s_law_sum) := ⟨rfl, rfl, rfl, by decide +kernel, rfl, by decide +kernel, by decide +kernel⟩
theorem ok_law_sum (T : Txt K mg a) : FnOk P w K mg base CX0 2 a.a_law_sum a.d_law_sum ["weights", "mask"] spLS := by
  refine T.fn_law_sum.ok sc_law_sum (fun vs H Q E h => ?_) (fun cdv A outer s H vs Q E hr h => ?_)
  · obtain ⟨r, n, ws, E, s, ex, rfl, _⟩ := h
    rfl
  · obtain ⟨r, n, ws, E', s', ex, rfl, n6, sA, wl, som, hr1, k⟩ := h
    refine ⟨_, (pss_one (ps_ret (pe_callB (cr_sum rfl) (by rfl) T.no_sum (by decide +kernel) (pa_cons (pe_lc (own := [("k", 2)]) (by rfl) sc_law_sum.nd (pi_seq (pe_call (ok_law_things T) (hr.mono (by decide)) (by rfl) T.mg_law_things T.fn_law_things.kp T.b_law_things .nil pass0 (pa_cons (pv 1) pa_nil))) (blkOk_by (own := [("k", 2)]) (N := ["weights", "mask", "k"]) (sc := defScope s_law_sum) (by decide +kernel)) (fun _ _ _ _ _ => pg_name (i := 2) sc_law_sum.nd rfl (Or.inl rfl)) (fun _ _ _ _ _ => pts_nil) (fun _ _ _ _ _ => (pe_ix Rd.ixH (pv 0) (pv 2) (fun _ _ => rfl)))) pa_nil)))), ?_⟩
    show (_ : TS) _ [some (V.ref r), some (V.int (mk s' : Nat)), none] H
    have sl := allS_at sA n6
    walk_at "rd"
    refine ⟨_, rfl, fun v H1 _ e1 hv => ?_⟩
    rw [sl.1] at hv
    refine ⟨v, rfl, false, _, hv, lcl_goes goes_seq (fun D i H5 => H1 D = none ∧ Same H1 H5 ∧ H5 D = some (.lst (((s'.take i).map (scI E' ws)).map V.int))) (fun D hD => ⟨hD, same_upd hD, upd_same⟩)
        (fun D i H5 _ h => h.2.1 _ _ hv) (fun D i x H5 H5' hi ⟨n5, e5, a5⟩ ⟨eq5, hx⟩ => ?_) (fun D H5 _ ⟨n5, e5, a5⟩ => ?_)⟩
    · subst eq5
      obtain ⟨g, hg, rfl⟩ := at_iv hx
      rw [iv_len] at hi
      have gm := List.mem_of_getElem? hg
      have gn := sl.2.2.1 g gm
      have s6 := sl.2.2.2.1
      walk_at "rd"
      refine ⟨_, e5 _ _ (e1 _ _ hr1), _, sc_at (by omega), _, a5, small (by rw [List.length_map, List.length_map, List.length_take]; omega), n5, fun b o hb => (upd_ne (ne_of_none hb n5)).trans (e5 _ _ hb), ?_⟩
      rw [List.take_add_one, hg, List.map_append, List.map_append]
      cases eo : wt ws g with
      | none => exact absurd eo (som g gm)
      | some nd =>
        have : scI E' ws g = nd.1 * E'.fdiv nd.2 := by unfold scI; rw [eo]
        show _ ++ [scV E' (some nd)] = _ ++ [V.int (scI E' ws g)]
        rw [this]
        rfl
    · rw [iv_len, List.take_length] at a5
      exact ⟨D, _, rfl, SqL.of a5, k _ (e1.trans e5)⟩
end

end K37
namespace K37
open PySem PySem.Spec PyProof.Rows L2 Own OwnSeq OwnSet OwnComb OwnSort OwnHot OwnExN OwnProj
local macro_rules | `(tactic| walk_at "rd") => `(tactic| simp only [tSeq, tAsg, tOp, tUn, tVar, gName, gSub, rIxL, rIxT, rSetL, tC, rI0, rI, rU, rEq, rNe, tCons, tNil, tCB, tLst, tTup, tIfS, tAnd, tOr, tNot, tAndV, tOrV, tNotV, tTest, tB, tIf, tRet, tDrop, tNext, tBreak, tCont, tCall, tCallS, L2.WE, tMakeS, rIsS, rIsB, tChain, gSeq, gRest, gCons, gNil, tFor_seq, tFor_enumS, tLc_seq, tLc_enumS, rAny, rAll, L2.tMeth, StX.tStar, rIn, tLstRg, tRg1, tRg2, rSetI, rSortedSet, rInDT, rInD, rNotInD, rEqD, rNeD, iComb, tFld, tMake, tMkO, sFld, tOst, tNever, tBits, clv, isB,
  Rd.tFor_rng1, Rd.tFor_rng2, Rd.tFor_list, Rd.tFor_tup, Rd.tLc_list, Rd.tLc_tup, Rd.tLc_rng1, Rd.LcTurn, tYes, wipe, Rd.rLenL, Rd.rLenT, Rd.rIntI, Rd.rIxH, rIxHT,  HO.tup.injEq, Rd.at0, Rd.at1, Rd.at2, Rd.at3, Rd.ixN40, Rd.ixN41, Rd.ixN42, Rd.ixN43, Rd.scal_ii, cxOf,
  List.length_cons, List.length_nil, List.length_map, List.map_cons, List.map_nil, upd_same, decide_eq_true_eq, decide_true, decide_false, if_true, if_false, Bool.false_eq_true, Bool.not_true, Bool.not_false, HO.lst.injEq, HO.ins.injEq, List.set_cons_zero, List.set_cons_succ, List.getElem?_cons_zero, List.getElem?_cons_succ, List.append_nil, List.nil_append, List.cons_append, Option.some.injEq, V.ref.injEq, V.int.injEq, V.bl.injEq, List.cons.injEq, exists_eq_left', exists_and_left, exists_eq_left, true_and, and_true, and_self, and_assoc, implies_true, reduceCtorEq, Nat.reduceAdd])

/-! ### the law's greedy, by reckoning -/
def cP (S : List Bool) (ws : List Wt) (s : List Nat) (k : Nat) : Bool := !s.contains k && In S (mk s + 2 ^ k) && posW ws k
def cJ (S : List Bool) (ws : List Wt) (s : List Nat) (j : Nat) : List Nat := (List.range j).filter (cP S ws s)
def bestV (ws : List Wt) (l : List Nat) : Int := match l with | [] => -1 | x :: r => (fg ws x (x :: r) : Nat)
theorem cJ_all {n : Nat} {S : List Bool} {ws : List Wt} {s : List Nat} : cJ S ws s n = cand n S ws s := by
  unfold cJ cand addL restL cP
  rw [List.filter_filter, List.filter_filter]
  refine List.filter_congr fun k _ => ?_
  cases s.contains k <;> cases In S (mk s + 2 ^ k) <;> cases posW ws k <;> rfl
theorem cJ_next {S : List Bool} {ws : List Wt} {s : List Nat} {j : Nat} : cJ S ws s (j + 1) = cJ S ws s j ++ (if cP S ws s j = true then [j] else []) := by
  unfold cJ
  rw [List.range_succ, List.filter_append]
  cases z : cP S ws s j with
  | true => rw [List.filter_cons_of_pos z]; rfl
  | false => rw [List.filter_cons_of_neg (by rw [z]; decide)]; rfl
theorem best_app {ws : List Wt} {x t : Nat} {r : List Nat} : bestV ws ((x :: r) ++ [t]) = ((if wlt ws (fg ws x (x :: r)) t = true then t else fg ws x (x :: r) : Nat) : Int) := by
  show ((fg ws x ((x :: r) ++ [t]) : Nat) : Int) = _
  unfold fg
  rw [List.foldl_append]
  rfl
theorem best_one {ws : List Wt} {t : Nat} : bestV ws [t] = (t : Int) := by
  show ((fg ws t [t] : Nat) : Int) = _
  unfold fg
  show (((if wlt ws t t = true then t else t) : Nat) : Int) = _
  rw [ite_self]
section
variable {P : Program} {w : World} {K : PySem.W.Frag} {mg : Str → Option Value} {base : Heap} {a : Ad}
/-! ### _law_greedy -/
def spLG : Sp := fun vs H Q _ => ∃ (b p r : Addr) (n : Nat) (S : List Bool) (ws : List Wt) (E : Int) (ex : List V), vs = [.ref p, .int 0, .ref r] ∧ LFam b H p n S ∧ ScOk E ws ∧ H r = some (.lst (ws.map (scV E) ++ ex)) ∧ ws.length = n ∧ Q (.int (mk (grN n S ws 7 []) : Nat)) H
theorem sc_law_greedy : FnScope ["family", "mask", "weights", "now", "turn", "best", "thing", "here"] ["family", "mask", "weights"] (defScope s_law_greedy) := ⟨rfl, rfl, rfl, by decide +kernel, rfl, by decide +kernel, by decide +kernel⟩
theorem ok_law_greedy (T : Txt K mg a) : FnOk P w K mg base CX0 1 a.a_law_greedy a.d_law_greedy ["family", "mask", "weights"] spLG := by
  refine T.fn_law_greedy.ok sc_law_greedy (fun vs H Q E h => ?_) (fun cdv A outer s H vs Q E hr h => ?_)
  · obtain ⟨b, p, r, n, S, ws, E, ex, rfl, _⟩ := h
    rfl
  · obtain ⟨b, p, r, n, S, ws, E', ex, rfl, F, so, hr1, wl, k⟩ := h
    refine ⟨_, (pss_cons (ps_set (i := 3) sc_law_greedy.nd rfl (Or.inl rfl) (pv 1))
      (pss_cons (ps_for PassesOwn.never rfl (pi_range1 (by rfl) T.no_range (pa_cons (pe_ix Rd.ixH (pv 0) pe_int (fun _ _ => rfl)) pa_nil)) (pg_name (i := 4) sc_law_greedy.nd rfl (Or.inl rfl))
        (pss_cons (ps_set (i := 5) sc_law_greedy.nd rfl (Or.inl rfl) (pe_un un_neg pe_int))
        (pss_cons (ps_for PassesOwn.never rfl (pi_range1 (by rfl) T.no_range (pa_cons (pe_ix Rd.ixH (pv 0) pe_int (fun _ _ => rfl)) pa_nil)) (pg_name (i := 6) sc_law_greedy.nd rfl (Or.inl rfl))
          (pss_cons (ps_set (i := 7) sc_law_greedy.nd rfl (Or.inl rfl) (pe_ix Rd.ixH (pv 2) (pv 6) (fun _ _ => rfl)))
          (pss_one (ps_if (PW.pt (pw_and (pt_cmpR op_eq (pe_op op_and (pe_op op_shr (pv 3) (pv 6)) pe_int) pe_int (nomark _)) (pw_and (pt_cmpR op_notN (pv 7) pe_non (nomark _)) (pw_and (pt_cmpR op_gt (pv 7) pe_int (nomark _)) (pw_and1 (pt_val (pe_ix Rd.ixH (pe_ix Rd.ixH (pv 0) pe_int (fun _ _ => rfl)) (pe_op op_or (pv 3) (pe_op op_shl pe_int (pv 6))) (fun _ _ => rfl)))))))) (pss_one (ps_if (PW.pt (pw_or (pt_cmpR op_lt (pv 5) pe_int (nomark _)) (pw_or1 (pt_cmpR op_gt (pv 7) (pe_ix Rd.ixH (pv 2) (pv 5) (fun _ _ => rfl)) (nomark _))))) (pss_one (ps_set (i := 5) sc_law_greedy.nd rfl (Or.inl rfl) (pv 6))) pss_nil)) pss_nil))))
        (pss_cons (ps_if (pt_cmpR op_lt (pv 5) pe_int (nomark _)) (pss_one (ps_ret (pv 3))) pss_nil)
        (pss_one (ps_set (i := 3) sc_law_greedy.nd rfl (Or.inl rfl) (pe_op op_or (pv 3) (pe_op op_shl pe_int (pv 5)))))))))
      (pss_one (ps_ret (pv 3))))), ?_⟩
    show (_ : TS) _ [some (V.ref p), some (V.int 0), some (V.ref r), none, none, none, none, none] H
    obtain ⟨q, o, _, _, hp, hq, _⟩ := F.ob
    have n6 := F.fam.n6
    walk_at "rd"
    refine ⟨_, hp, _, Rd.at0, n, rfl, by omega, by omega, ?_⟩
    rw [Int.toNat_natCast]
    refine Rd.loop_rngC (fun σ H' => ∃ o4 o5 o6 o7, σ = [some (V.ref p), some (V.int 0), some (V.ref r), some (V.int (mk (grN n S ws 7 []) : Nat)), o4, o5, o6, o7] ∧ H' = H)
      (fun i σ H' => ∃ s' o4 o5 o6 o7, σ = [some (V.ref p), some (V.int 0), some (V.ref r), some (V.int (mk s' : Nat)), o4, o5, o6, o7] ∧ H' = H ∧ s' ∈ famL n S ∧ s'.length = i ∧ grN n S ws (7 - i) s' = grN n S ws 7 [])
      ⟨[], none, none, none, none, rfl, rfl, famL_mem.mpr ⟨nil_in n6, F.fam.zero⟩, rfl, rfl⟩ ?_ ?_ ?_
    · rintro bk hbk i σ H1 hi ⟨s', o4, o5, o6, o7, rfl, rfl, sm, sl, gr⟩
      have sA := (famL_mem.mp sm).1
      walk_at "rd"
      refine ⟨_, hp, _, Rd.at0, n, rfl, by omega, by omega, ?_⟩
      rw [Int.toNat_natCast]
      refine Rd.loop_rngC (fun σ H' => ∃ o6 o7, σ = [some (V.ref p), some (V.int 0), some (V.ref r), some (V.int (mk s' : Nat)), some (V.int (0 + (i : Nat))), some (V.int (bestV ws (cand n S ws s'))), o6, o7] ∧ H' = H1)
        (fun j σ H' => ∃ o6 o7, σ = [some (V.ref p), some (V.int 0), some (V.ref r), some (V.int (mk s' : Nat)), some (V.int (0 + (i : Nat))), some (V.int (bestV ws (cJ S ws s' j))), o6, o7] ∧ H' = H1)
        ⟨_, _, rfl, rfl⟩ ?_ (fun σ H' ⟨o6, o7, q1, q2⟩ => ⟨o6, o7, by rw [cJ_all] at q1; exact q1, q2⟩) ?_
      · rintro bk2 hbk2 j σ H2 hj ⟨o6, o7, rfl, rfl⟩
        walk_at "rd"
        rw [show (0 : Int) + (j : Nat) = (j : Nat) from Int.zero_add _]
        have sk : cP S ws s' j = false → bestV ws (cJ S ws s' j) = bestV ws (cJ S ws s' (j + 1)) := fun z => by rw [cJ_next, z, if_neg (by decide), List.append_nil]
        obtain ⟨b1, b2, _⟩ := bits_or2 n6 sA hj
        refine ⟨_, hr1, _, sc_at (by omega), by omega, ite2 (fun h1 => ?_) (fun h1 => ⟨sk ?_, _, rfl⟩)⟩
        · have c0 : s'.contains j = false := by rw [← b1]; exact (bit_and0 _ _).mp h1
          cases eo : wt ws j with
          | none =>
            rw [show scV E' none = V.non from rfl, if_neg (by decide)]
            refine ⟨sk ?_, _, rfl⟩
            unfold cP posW
            rw [eo, Bool.and_false]
          | some nd =>
            obtain ⟨x, d⟩ := nd
            have om := wt_mem eo
            obtain ⟨d0, _, _⟩ := so.ok _ om x d rfl
            have dv := so.dvd x d om
            rw [show scV E' (some (x, d)) = V.int (x * E'.fdiv d) from rfl, decide_eq_false (fun z => by cases z), if_pos (by decide)]
            have pj : posW ws j = decide (0 < x) := by unfold posW; rw [eo]
            refine ⟨_, rfl, ite2 (fun h2 => ⟨_, hp, _, Rd.at1, cpw (by omega), q, rfl, _, hq, V.bl (In S (mk s' ||| 2 ^ j)), ?_, _, rfl, ite2 (fun h3 => ?_) (fun h3 => ⟨sk ?_, _, rfl⟩)⟩) (fun h2 => ⟨sk ?_, _, rfl⟩)⟩
            · rw [pow_cast, or_nat]
              exact in_bool (by rw [F.fam.len]; exact or_lt n6 (allS_at sA n6).2.1 hj)
            · have cp : cP S ws s' j = true := by
                unfold cP
                rw [c0, ← b2 c0, h3, pj, decide_eq_true ((sc_gt so.pos d0 dv).mp h2)]
                rfl
              have nx := cJ_next (S := S) (ws := ws) (s := s') (j := j)
              rw [cp, if_pos rfl] at nx
              have pm : ∀ g ∈ cJ S ws s' j, posW ws g = true ∧ g < n := fun g hg => by
                obtain ⟨m1, m2⟩ := List.mem_filter.mp hg
                unfold cP at m2
                exact ⟨(Bool.and_eq_true_iff.mp m2).2, Nat.lt_trans (List.mem_range.mp m1) hj⟩
              rw [nx]
              cases ec : cJ S ws s' j with
              | nil =>
                rw [if_pos (show bestV ws [] < 0 from (by decide : (-1 : Int) < 0)), List.nil_append, best_one]
                exact ⟨rfl, _, rfl⟩
              | cons y l =>
                rw [ec] at pm
                have gm := pm _ (fg_in (ws := ws) (x := y) (r := l))
                rw [best_app, show bestV ws (y :: l) = ((fg ws y (y :: l) : Nat) : Int) from rfl]
                generalize fg ws y (y :: l) = g at gm ⊢
                obtain ⟨x2, dd2, eg⟩ := pos_some gm.1
                have om2 := wt_mem eg
                obtain ⟨d20, _, _⟩ := so.ok _ om2 x2 dd2 rfl
                have key : (x2 * E'.fdiv dd2 < x * E'.fdiv d) ↔ wlt ws g j = true := by
                  unfold wlt
                  rw [eg, eo, decide_eq_true_eq]
                  exact sc_lt so.pos d20 d0 (so.dvd _ _ om2) dv
                rw [if_neg (by omega)]
                refine ⟨_, hr1, _, sc_at (j := g) (by omega), _, rfl, x2 * E'.fdiv dd2, by rw [eg]; rfl, ite2 (fun h4 => ⟨?_, _, rfl⟩) (fun h4 => ⟨?_, _, rfl⟩)⟩
                · rw [if_pos (key.mp h4)]
                · rw [if_neg (fun z => h4 (key.mpr z))]
            · unfold cP
              rw [c0, ← b2 c0, Bool.eq_false_iff.mpr h3]
              rfl
            · unfold cP
              rw [pj, decide_eq_false (fun z => h2 ((sc_gt so.pos d0 dv).mpr z)), Bool.and_false]
        · have c1 : s'.contains j = true := by
            rw [← b1]
            cases z : bit (mk s') j with
            | true => rfl
            | false => exact absurd ((bit_and0 _ _).mpr z) h1
          unfold cP
          rw [c1]
          rfl
      · rintro σ H2 ⟨o6, o7, rfl, rfl⟩
        walk_at "rd"
        cases hc : cand n S ws s' with
        | nil =>
          rw [if_pos (show bestV ws [] < 0 from (by decide : (-1 : Int) < 0))]
          rw [gr_stop hc] at gr
          rw [gr]
          exact k
        | cons x l =>
          obtain ⟨x1, x2, x3⟩ := nx_ok n6 sm hc
          have gm := cand_at (hc ▸ fg_in (ws := ws) (x := x) (r := l) : fg ws x (x :: l) ∈ cand n S ws s')
          rw [show bestV ws (x :: l) = ((fg ws x (x :: l) : Nat) : Int) from rfl, if_neg (by omega)]
          have xl := (allS_at (famL_mem.mp x1).1 n6).2.2.2.1
          refine ⟨cpw (by omega), nxS n S ws s', ?_, x1, by omega, ?_⟩
          · obtain ⟨_, b2, _⟩ := bits_or2 n6 sA gm.1
            rw [pow_cast, or_nat, b2 (by simpa using gm.2.1), x3]
          · rw [← gr, show 7 - i = 7 - (i + 1) + 1 by omega, gr_go hc]
    · rintro σ H1 ⟨s', o4, o5, o6, o7, q1, q2, sm, sl, gr⟩
      refine ⟨o4, o5, o6, o7, ?_, q2⟩
      have : cand n S ws s' = [] := by
        cases hc : cand n S ws s' with
        | nil => rfl
        | cons x l =>
          obtain ⟨x1, x2, x3⟩ := nx_ok n6 sm hc
          have xl := (allS_at (famL_mem.mp x1).1 n6).2.2.2.1
          omega
      rw [← gr, gr_stop this]
      exact q1
    · rintro σ H1 ⟨o4, o5, o6, o7, rfl, rfl⟩
      walk_at "rd"
      exact k
end

end K37
namespace K37
open PySem PySem.Spec PyProof.Rows L2 Own OwnSeq OwnSet OwnComb OwnSort OwnHot OwnExN OwnProj
local macro_rules | `(tactic| walk_at "rd") => `(tactic| simp only [tSeq, tAsg, tOp, tUn, tVar, gName, gSub, rIxL, rIxT, rSetL, tC, rI0, rI, rU, rEq, rNe, tCons, tNil, tCB, tLst, tTup, tIfS, tAnd, tOr, tNot, tAndV, tOrV, tNotV, tTest, tB, tIf, tRet, tDrop, tNext, tBreak, tCont, tCall, tCallS, L2.WE, tMakeS, rIsS, rIsB, tChain, gSeq, gRest, gCons, gNil, tFor_seq, tFor_enumS, tLc_seq, tLc_enumS, rAny, rAll, L2.tMeth, StX.tStar, rIn, tLstRg, tRg1, tRg2, rSetI, rSortedSet, rInDT, rInD, rNotInD, rEqD, rNeD, iComb, tFld, tMake, tMkO, sFld, tOst, tNever, tBits, clv, isB,
  Rd.tFor_rng1, Rd.tFor_rng2, Rd.tFor_list, Rd.tFor_tup, Rd.tLc_list, Rd.tLc_tup, Rd.tLc_rng1, Rd.LcTurn, tYes, wipe, Rd.rLenL, Rd.rLenT, Rd.rIntI, Rd.rIxH, rIxHT,  HO.tup.injEq, Rd.at0, Rd.at1, Rd.at2, Rd.at3, Rd.ixN40, Rd.ixN41, Rd.ixN42, Rd.ixN43, Rd.scal_ii, cxOf,
  List.length_cons, List.length_nil, List.length_map, List.map_cons, List.map_nil, upd_same, decide_eq_true_eq, decide_true, decide_false, if_true, if_false, Bool.false_eq_true, Bool.not_true, Bool.not_false, HO.lst.injEq, HO.ins.injEq, List.set_cons_zero, List.set_cons_succ, List.getElem?_cons_zero, List.getElem?_cons_succ, List.append_nil, List.nil_append, List.cons_append, Option.some.injEq, V.ref.injEq, V.int.injEq, V.bl.injEq, List.cons.injEq, exists_eq_left', exists_and_left, exists_eq_left, true_and, and_true, and_self, and_assoc, implies_true, reduceCtorEq, Nat.reduceAdd])

/-! ### sets and what is added -/
theorem or_sub {a b c : Nat} (h : Sub a b) : Sub (a ||| c) (b ||| c) := by
  unfold Sub at *
  refine Nat.eq_of_testBit_eq fun i => ?_
  have z := congrArg (Nat.testBit · i) h
  simp only [Nat.testBit_and, Nat.testBit_or] at z ⊢
  revert z
  cases a.testBit i <;> cases b.testBit i <;> cases c.testBit i <;> decide
theorem sub_of {n : Nat} {s u : List Nat} (h : n ≤ 6) (hs : s ∈ allS n) (hu : u ∈ allS n) (z : ∀ g ∈ s, g ∈ u) : Sub (mk s) (mk u) :=
  sub_mk h hs hu (List.all_eq_true.mpr fun g hg => List.contains_iff_mem.mpr (z g hg))
theorem filt_all {n : Nat} {s : List Nat} (h : n ≤ 6) (hs : s ∈ allS n) (p : Nat → Bool) : s.filter p ∈ allS n := by
  have e : s.filter p = (List.range n).filter (fun g => p g && s.contains g) := by rw [← List.filter_filter, filt_self h hs]
  rw [e]
  exact filt_in h _
theorem filt_fam {n : Nat} {S : List Bool} {s : List Nat} (F : Fam n S) (hs : s ∈ famL n S) (p : Nat → Bool) : s.filter p ∈ famL n S := by
  obtain ⟨h1, h2⟩ := famL_mem.mp hs
  have m := filt_all F.n6 h1 p
  exact famL_mem.mpr ⟨m, F.down _ _ (sub_of F.n6 m h1 fun g hg => (List.mem_filter.mp hg).1) h2⟩
/-- what can be added to more can be added to less -/
theorem add_down {n g : Nat} {S : List Bool} {s u : List Nat} (F : Fam n S) (hs : s ∈ allS n) (hu : u ∈ allS n) (su : ∀ x ∈ s, x ∈ u) (hg : g < n) (ng : ¬ g ∈ u) (h : In S (mk u + 2 ^ g) = true) : In S (mk s + 2 ^ g) = true := by
  have n6 := F.n6
  obtain ⟨_, b2, _⟩ := bits_or2 n6 hu hg
  obtain ⟨_, c2, _⟩ := bits_or2 n6 hs hg
  rw [← b2 (by simpa using ng)] at h
  rw [← c2 (by simpa using fun z => ng (su g z))]
  exact F.down _ _ (or_sub (sub_of n6 hs hu su)) h
/-! ### greedy takes the greatest -/
section
variable {E : Int} {ws : List Wt} (so : ScOk E ws)
include so
theorem wlt_iff {a b : Nat} (ha : wt ws a ≠ none) (hb : wt ws b ≠ none) : wlt ws a b = true ↔ scI E ws a < scI E ws b := by
  unfold wlt scI
  cases ea : wt ws a with
  | none => exact absurd ea ha
  | some p =>
    cases eb : wt ws b with
    | none => exact absurd eb hb
    | some q =>
      obtain ⟨n1, d1⟩ := p
      obtain ⟨n2, d2⟩ := q
      obtain ⟨d10, _, _⟩ := so.ok _ (wt_mem ea) n1 d1 rfl
      obtain ⟨d20, _, _⟩ := so.ok _ (wt_mem eb) n2 d2 rfl
      dsimp only
      rw [decide_eq_true_eq]
      exact (sc_lt so.pos d10 d20 (so.dvd _ _ (wt_mem ea)) (so.dvd _ _ (wt_mem eb))).symm
theorem fg_max : ∀ (s : List Nat) (x : Nat), wt ws x ≠ none → (∀ t ∈ s, wt ws t ≠ none) → scI E ws x ≤ scI E ws (fg ws x s) ∧ ∀ t ∈ s, scI E ws t ≤ scI E ws (fg ws x s)
  | [], x, _, _ => ⟨Int.le_refl _, fun t h => by cases h⟩
  | t :: s, x, hx, hs => by
    have ht := hs t List.mem_cons_self
    have w := wlt_iff (a := x) (b := t) so hx ht
    have e : fg ws x (t :: s) = fg ws (if wlt ws x t = true then t else x) s := rfl
    rw [e]
    by_cases c : wlt ws x t = true
    · rw [if_pos c]
      obtain ⟨a, b⟩ := fg_max s t ht fun u hu => hs u (List.mem_cons_of_mem _ hu)
      have := w.mp c
      refine ⟨by omega, fun u hu => ?_⟩
      rcases List.mem_cons.mp hu with rfl | hu
      · exact a
      · exact b u hu
    · rw [if_neg c]
      obtain ⟨a, b⟩ := fg_max s x hx fun u hu => hs u (List.mem_cons_of_mem _ hu)
      have : ¬ scI E ws x < scI E ws t := fun z => c (w.mpr z)
      refine ⟨a, fun u hu => ?_⟩
      rcases List.mem_cons.mp hu with rfl | hu
      · omega
      · exact b u hu
/-- what has been taken outweighs what can still be taken; what can't be added can't be added to the weightier part -/
structure Good (E : Int) (n : Nat) (S : List Bool) (ws : List Wt) (s : List Nat) : Prop where
  fam : s ∈ famL n S
  pos : posL ws s = true
  ord : ∀ g ∈ cand n S ws s, ∀ y ∈ s, scI E ws g ≤ scI E ws y
  not : ∀ g, g < n → ¬ g ∈ s → posW ws g = true → In S (mk s + 2 ^ g) = false → In S (mk (s.filter fun y => decide (scI E ws g ≤ scI E ws y)) + 2 ^ g) = false
theorem cand_of {n g : Nat} {S : List Bool} {s : List Nat} (h1 : g < n) (h2 : ¬ g ∈ s) (h3 : In S (mk s + 2 ^ g) = true) (h4 : posW ws g = true) : g ∈ cand n S ws s :=
  List.mem_filter.mpr ⟨List.mem_filter.mpr ⟨rest_mem.mpr ⟨List.mem_range.mpr h1, h2⟩, h3⟩, h4⟩
theorem good_next {n x : Nat} {S : List Bool} {s r : List Nat} (F : Fam n S) (G : Good E n S ws s) (hc : cand n S ws s = x :: r) : Good E n S ws (nxS n S ws s) := by
  have n6 := F.n6
  obtain ⟨x1, x2, x3⟩ := nx_ok n6 G.fam hc
  have sA := (famL_mem.mp G.fam).1
  have uA := (famL_mem.mp x1).1
  have cm : ∀ g ∈ x :: r, g < n ∧ ¬ g ∈ s ∧ In S (mk s + 2 ^ g) = true ∧ posW ws g = true := fun g hg => cand_at (hc ▸ hg)
  have some' : ∀ g, posW ws g = true → wt ws g ≠ none := fun g h => by
    obtain ⟨_, _, e⟩ := pos_some h
    rw [e]
    exact fun z => by cases z
  have mx := fg_max so (x :: r) x (some' x (cm x List.mem_cons_self).2.2.2) fun t ht => some' t (cm t ht).2.2.2
  have gm := cm _ (fg_in (ws := ws) (x := x) (r := r))
  have mem : ∀ y, y ∈ nxS n S ws s ↔ y ∈ s ∨ y = fg ws x (x :: r) := fun y => by
    by_cases yn : y < n
    · have b1 := (bits_or2 n6 uA yn).1
      have b2 := (bits_or2 n6 sA yn).1
      obtain ⟨_, o2, _⟩ := bits_or2 n6 sA gm.1
      have o2 := o2 (by simpa using gm.2.1)
      rw [x3, ← o2] at b1
      have t1 : bit (mk s ||| 2 ^ fg ws x (x :: r)) y = (bit (mk s) y || decide (y = fg ws x (x :: r))) := by
        rw [show ∀ m k, bit m k = Nat.testBit m k from fun m k => (Nat.testBit_eq_decide_div_mod_eq).symm, show ∀ m k, bit m k = Nat.testBit m k from fun m k => (Nat.testBit_eq_decide_div_mod_eq).symm, Nat.testBit_or, Nat.testBit_two_pow]
        congr 1
        exact decide_eq_decide.mpr eq_comm
      rw [t1, b2] at b1
      have c1 : (nxS n S ws s).contains y = true ↔ y ∈ nxS n S ws s := List.contains_iff_mem
      have c2 : s.contains y = true ↔ y ∈ s := List.contains_iff_mem
      rw [← c1, ← b1, Bool.or_eq_true, c2, decide_eq_true_eq]
    · have := allS_at uA n6
      have := allS_at sA n6
      refine ⟨fun z => absurd ((allS_at uA n6).2.2.1 y z) yn, fun z => ?_⟩
      rcases z with z | z
      · exact absurd ((allS_at sA n6).2.2.1 y z) yn
      · exact absurd (z ▸ gm.1) yn
  generalize fg ws x (x :: r) = f at mx gm mem
  have up : ∀ y ∈ s, y ∈ nxS n S ws s := fun y hy => (mem y).mpr (.inl hy)
  have back : ∀ g, g < n → ¬ g ∈ nxS n S ws s → In S (mk (nxS n S ws s) + 2 ^ g) = true → posW ws g = true → g ∈ x :: r := fun g h1 h2 h3 h4 => by
    rw [← hc]
    exact cand_of so h1 (fun z => h2 (up g z)) (add_down F sA uA up h1 h2 h3) h4
  refine ⟨x1, List.all_eq_true.mpr fun y hy => ?_, fun g hg y hy => ?_, fun g h1 h2 h3 h4 => ?_⟩
  · rcases (mem y).mp hy with z | z
    · exact List.all_eq_true.mp G.pos y z
    · rw [z]; exact gm.2.2.2
  · obtain ⟨c1, c2, c3, c4⟩ := cand_at hg
    have gc := back g c1 c2 c3 c4
    rcases (mem y).mp hy with z | z
    · exact G.ord g (hc ▸ gc) y z
    · rw [z]
      exact mx.2 g gc
  · have fA := filt_all n6 uA (fun y => decide (scI E ws g ≤ scI E ws y))
    cases z : In S (mk s + 2 ^ g) with
    | true =>
      have gc : g ∈ x :: r := hc ▸ cand_of so h1 (fun z => h2 (up g z)) z h3
      have e : (nxS n S ws s).filter (fun y => decide (scI E ws g ≤ scI E ws y)) = nxS n S ws s := List.filter_eq_self.mpr fun y hy => by
        rcases (mem y).mp hy with q | q
        · exact decide_eq_true (G.ord g (hc ▸ gc) y q)
        · rw [q]
          exact decide_eq_true (mx.2 g gc)
      rw [e]
      exact h4
    | false =>
      have old := G.not g h1 (fun z => h2 (up g z)) h3 z
      cases q : In S (mk ((nxS n S ws s).filter fun y => decide (scI E ws g ≤ scI E ws y)) + 2 ^ g) with
      | false => rfl
      | true =>
        have := add_down (g := g) F (filt_all n6 sA (fun y => decide (scI E ws g ≤ scI E ws y))) fA (fun y hy => by
          obtain ⟨a, b⟩ := List.mem_filter.mp hy
          exact List.mem_filter.mpr ⟨up y a, b⟩) h1 (fun z => h2 (List.mem_filter.mp z).1) q
        rw [old] at this
        cases this
theorem good_gr {n : Nat} {S : List Bool} (F : Fam n S) : ∀ (k : Nat) {s : List Nat}, Good E n S ws s → 7 ≤ k + s.length → Good E n S ws (grN n S ws k s) ∧ cand n S ws (grN n S ws k s) = []
  | 0, s, G, h => by
    have := (allS_at (famL_mem.mp G.fam).1 F.n6).2.2.2.1
    have := F.n6
    omega
  | k + 1, s, G, h => by
    cases hc : cand n S ws s with
    | nil =>
      rw [gr_stop hc]
      exact ⟨G, hc⟩
    | cons x r =>
      rw [gr_go hc]
      have := (nx_ok F.n6 G.fam hc).2.1
      exact good_gr F k (good_next so F G hc) (by omega)
theorem gr_good {n : Nat} {S : List Bool} (F : Fam n S) : Good E n S ws (grN n S ws 7 []) ∧ cand n S ws (grN n S ws 7 []) = [] :=
  good_gr so F 7 ⟨famL_mem.mpr ⟨nil_in F.n6, F.zero⟩, rfl, (fun g _ y h => by cases h), fun g h1 h2 h3 h4 => h4⟩ (Nat.le_refl _)
/-- the part of what greedy takes that weighs so much is not to be enlarged by what weighs so much -/
theorem gr_full {n : Nat} {S : List Bool} {τ : Int} (F : Fam n S) (h : 0 < τ) :
    (grN n S ws 7 []).filter (fun g => decide (τ ≤ scI E ws g)) ∈ fuL n S ((List.range n).filter fun g => decide (τ ≤ scI E ws g)) := by
  obtain ⟨G, hc⟩ := gr_good so F
  have n6 := F.n6
  generalize grN n S ws 7 [] = s at G hc ⊢
  have sA := (famL_mem.mp G.fam).1
  have xF := filt_fam F G.fam (fun g => decide (τ ≤ scI E ws g))
  have xA := (famL_mem.mp xF).1
  refine List.mem_filter.mpr ⟨List.mem_filter.mpr ⟨xF, List.all_eq_true.mpr fun g hg => List.contains_iff_mem.mpr ?_⟩, ?_⟩
  · obtain ⟨a, b⟩ := List.mem_filter.mp hg
    exact List.mem_filter.mpr ⟨List.mem_range.mpr ((allS_at sA n6).2.2.1 g a), b⟩
  · cases z : metL (addL n S (s.filter fun g => decide (τ ≤ scI E ws g))) ((List.range n).filter fun g => decide (τ ≤ scI E ws g)) with
    | false => rfl
    | true =>
      exfalso
      obtain ⟨g, hg, gt⟩ := List.any_eq_true.mp z
      obtain ⟨g1, g2⟩ := List.mem_filter.mp hg
      obtain ⟨g3, g4⟩ := rest_mem.mp g1
      have gn := List.mem_range.mp g3
      have gw : decide (τ ≤ scI E ws g) = true := (List.mem_filter.mp (List.contains_iff_mem.mp gt)).2
      have gs : ¬ g ∈ s := fun q => g4 (List.mem_filter.mpr ⟨q, gw⟩)
      have gw := of_decide_eq_true gw
      have gp : posW ws g = true := (sc_posI so g).mp (by omega)
      have no : In S (mk s + 2 ^ g) = false := by
        cases q : In S (mk s + 2 ^ g) with
        | false => rfl
        | true =>
          have := cand_of so gn gs q gp
          rw [hc] at this
          cases this
      have no2 := G.not g gn gs gp no
      have := add_down (g := g) F (filt_all n6 sA (fun y => decide (scI E ws g ≤ scI E ws y))) xA (fun y hy => by
        obtain ⟨a, b⟩ := List.mem_filter.mp hy
        have b := of_decide_eq_true b
        exact List.mem_filter.mpr ⟨a, decide_eq_true (by omega)⟩) gn g4 g2
      rw [no2] at this
      cases this
end
/-! ### layers -/
def lay1 (v : Int) : Nat → Int
  | 0 => 0
  | m + 1 => lay1 v m + (if ((m + 1 : Nat) : Int) ≤ v then 1 else 0)
theorem lay1_eq {v : Int} (h : 0 ≤ v) : ∀ m : Nat, lay1 v m = if v ≤ m then v else m
  | 0 => by
    unfold lay1
    split <;> omega
  | m + 1 => by
    unfold lay1
    rw [lay1_eq h m]
    split <;> split <;> split <;> omega
def cnt (w : Nat → Int) (s : List Nat) (τ : Int) : Nat := (s.filter fun g => decide (τ ≤ w g)).length
def lay (w : Nat → Int) (s : List Nat) : Nat → Int
  | 0 => 0
  | m + 1 => lay w s m + (cnt w s ((m + 1 : Nat) : Int) : Nat)
theorem lay_nil (w : Nat → Int) : ∀ m, lay w [] m = 0
  | 0 => rfl
  | m + 1 => by
    show lay w [] m + ((0 : Nat) : Int) = 0
    rw [lay_nil w m]
    rfl
theorem lay_cons (w : Nat → Int) (g : Nat) (s : List Nat) : ∀ m, lay w (g :: s) m = lay1 (w g) m + lay w s m
  | 0 => rfl
  | m + 1 => by
    have c : (cnt w (g :: s) ((m + 1 : Nat) : Int) : Int) = (if ((m + 1 : Nat) : Int) ≤ w g then 1 else 0) + (cnt w s ((m + 1 : Nat) : Int) : Nat) := by
      unfold cnt
      by_cases z : ((m + 1 : Nat) : Int) ≤ w g
      · rw [List.filter_cons_of_pos (p := fun g => decide (((m + 1 : Nat) : Int) ≤ w g)) (decide_eq_true z), if_pos z, List.length_cons]
        omega
      · rw [List.filter_cons_of_neg (p := fun g => decide (((m + 1 : Nat) : Int) ≤ w g)) (by rw [decide_eq_false z]; decide), if_neg z]
        omega
    show lay w (g :: s) m + (cnt w (g :: s) ((m + 1 : Nat) : Int) : Nat) = (lay1 (w g) m + _) + (lay w s m + _)
    rw [lay_cons w g s m, c]
    omega
theorem lay_sum (w : Nat → Int) {M : Nat} : ∀ s : List Nat, (∀ g ∈ s, 0 ≤ w g ∧ w g ≤ M) → lay w s M = (s.map w).sum
  | [], _ => lay_nil w M
  | g :: s, h => by
    obtain ⟨a, b⟩ := h g List.mem_cons_self
    rw [lay_cons, lay_sum w s (fun x hx => h x (List.mem_cons_of_mem _ hx)), lay1_eq a, if_pos b]
    rfl
theorem lay_le {w : Nat → Int} {s u : List Nat} {P Q : Int} (h : ∀ τ : Int, 0 < τ → P * (cnt w u τ : Nat) ≤ (cnt w s τ : Nat) * Q) : ∀ m, P * lay w u m ≤ lay w s m * Q
  | 0 => by show P * 0 ≤ 0 * Q; rw [Int.mul_zero, Int.zero_mul]; exact Int.le_refl _
  | m + 1 => by
    have a := lay_le h m
    have b := h ((m + 1 : Nat) : Int) (by omega)
    show P * (lay w u m + _) ≤ (lay w s m + _) * Q
    rw [Int.mul_add, Int.add_mul]
    exact Int.add_le_add a b
/-! ### greedy against any set -/
theorem sm_least {n : Nat} {S : List Bool} {t u : List Nat} (F : Fam n S) (hu : u ∈ fuL n S t) : (smL n S t).length ≤ u.length := by
  have st := (((allS_strict F.n6).filter (fun s => In S (mk s))).filter (fun s => subL s t)).filter (fun s => !metL (addL n S s) t)
  have st : (fuL n S t).Pairwise fun s t => leS s t = true ∧ leS t s = false ∧ s.length ≤ t.length := st
  unfold smL
  cases e : fuL n S t with
  | nil => rw [e] at hu; cases hu
  | cons x l =>
    rw [e] at hu st
    cases st with
    | cons h _ =>
      rcases List.mem_cons.mp hu with rfl | m
      · exact Nat.le_refl _
      · exact (h u m).2.2
theorem greedy_ge {E : Int} {n : Nat} {S : List Bool} {ws : List Wt} {O : List Nat} {P Q : Int} (so : ScOk E ws) (F : Fam n S) (hO : O ∈ famL n S) (pO : posL ws O = true) (hP : 0 ≤ P) (hQ : 0 ≤ Q)
    (hq : ∀ t ∈ allS n, P * ((lgL n S t).length : Nat) ≤ ((smL n S t).length : Nat) * Q) : P * ssum E ws O ≤ ssum E ws (grN n S ws 7 []) * Q := by
  obtain ⟨G, _⟩ := gr_good so F
  obtain ⟨M, hM⟩ : ∃ M : Nat, ∀ g, scI E ws g ≤ M := ⟨2 ^ 981, fun g => by
    have := sc_small so g
    generalize (2 : Nat) ^ 981 = B at *
    omega⟩
  have pp : ∀ s : List Nat, posL ws s = true → ∀ g ∈ s, 0 ≤ scI E ws g ∧ scI E ws g ≤ M := fun s h g hg => ⟨Int.le_of_lt ((sc_posI so g).mpr (List.all_eq_true.mp h g hg)), hM g⟩
  have key := lay_le (w := scI E ws) (s := grN n S ws 7 []) (u := O) (P := P) (Q := Q) (fun τ hτ => ?_) M
  · rw [lay_sum _ _ (pp _ pO), lay_sum _ _ (pp _ G.pos)] at key
    exact key
  · have tA : (List.range n).filter (fun g => decide (τ ≤ scI E ws g)) ∈ allS n := filt_in F.n6 _
    have a := sm_least F (gr_full so F hτ)
    have oF := filt_fam F hO (fun g => decide (τ ≤ scI E ws g))
    have b := lg_most (t := (List.range n).filter fun g => decide (τ ≤ scI E ws g)) F (u := O.filter fun g => decide (τ ≤ scI E ws g)) (List.mem_filter.mpr ⟨oF, List.all_eq_true.mpr fun g hg => List.contains_iff_mem.mpr (by
      obtain ⟨x, y⟩ := List.mem_filter.mp hg
      exact List.mem_filter.mpr ⟨List.mem_range.mpr ((allS_at (famL_mem.mp hO).1 F.n6).2.2.1 g x), y⟩)⟩)
    have c := hq _ tA
    show P * ((O.filter fun g => decide (τ ≤ scI E ws g)).length : Nat) ≤ (((grN n S ws 7 []).filter fun g => decide (τ ≤ scI E ws g)).length : Nat) * Q
    refine Int.le_trans (Int.mul_le_mul_of_nonneg_left (Int.ofNat_le.mpr b) hP) (Int.le_trans c (Int.mul_le_mul_of_nonneg_right (Int.ofNat_le.mpr a) hQ))

end K37
namespace K37
open PySem PySem.Spec PyProof.Rows L2 Own OwnSeq OwnSet OwnComb OwnSort OwnHot OwnExN OwnProj
local macro_rules | `(tactic| walk_at "rd") => `(tactic| simp only [tSeq, tAsg, tOp, tUn, tVar, gName, gSub, rIxL, rIxT, rSetL, tC, rI0, rI, rU, rEq, rNe, tCons, tNil, tCB, tLst, tTup, tIfS, tAnd, tOr, tNot, tAndV, tOrV, tNotV, tTest, tB, tIf, tRet, tDrop, tNext, tBreak, tCont, tCall, tCallS, L2.WE, tMakeS, rIsS, rIsB, tChain, gSeq, gRest, gCons, gNil, tFor_seq, tFor_enumS, tLc_seq, tLc_enumS, rAny, rAll, L2.tMeth, StX.tStar, rIn, tLstRg, tRg1, tRg2, rSetI, rSortedSet, rInDT, rInD, rNotInD, rEqD, rNeD, iComb, tFld, tMake, tMkO, sFld, tOst, tNever, tBits, clv, isB,
  Rd.tFor_rng1, Rd.tFor_rng2, Rd.tFor_list, Rd.tFor_tup, Rd.tLc_list, Rd.tLc_tup, Rd.tLc_rng1, Rd.LcTurn, tYes, wipe, Rd.rLenL, Rd.rLenT, Rd.rIntI, Rd.rIxH, rIxHT,  HO.tup.injEq, Rd.at0, Rd.at1, Rd.at2, Rd.at3, Rd.ixN40, Rd.ixN41, Rd.ixN42, Rd.ixN43, Rd.scal_ii, cxOf,
  List.length_cons, List.length_nil, List.length_map, List.map_cons, List.map_nil, upd_same, decide_eq_true_eq, decide_true, decide_false, if_true, if_false, Bool.false_eq_true, Bool.not_true, Bool.not_false, HO.lst.injEq, HO.ins.injEq, List.set_cons_zero, List.set_cons_succ, List.getElem?_cons_zero, List.getElem?_cons_succ, List.append_nil, List.nil_append, List.cons_append, Option.some.injEq, V.ref.injEq, V.int.injEq, V.bl.injEq, List.cons.injEq, exists_eq_left', exists_and_left, exists_eq_left, true_and, and_true, and_self, and_assoc, implies_true, reduceCtorEq, Nat.reduceAdd])

/-! ### the quotient is the least share -/
theorem q_min {n : Nat} {S : List Bool} : ∀ i, i ≤ (allS n).length → (qRes n S i = none → ∀ t ∈ (allS n).take i, lgL n S t = []) ∧ ∀ q, qRes n S i = some q → ∀ t ∈ (allS n).take i, q.2.1.length * (lgL n S t).length ≤ (smL n S t).length * q.2.2.length
  | 0, _ => ⟨(fun _ t h => by cases h), (fun q h => by cases h)⟩
  | i + 1, hi => by
    obtain ⟨a, b⟩ := q_min (n := n) (S := S) i (by omega)
    have e : (allS n)[i]? = some ((allS n)[i]'(by omega)) := List.getElem?_eq_getElem (by omega)
    have tk : (allS n).take (i + 1) = (allS n).take i ++ [(allS n)[i]'(by omega)] := by rw [List.take_add_one, e]; rfl
    have ok := q_ok (n := n) (S := S) i (by omega)
    rw [q_next e, tk]
    generalize (allS n)[i]'(by omega) = u
    unfold qTurn
    by_cases l0 : lgL n S u = []
    · rw [if_pos l0]
      refine ⟨fun h t ht => ?_, fun q h t ht => ?_⟩
      · rcases List.mem_append.mp ht with x | x
        · exact a h t x
        · rw [List.mem_singleton.mp x]; exact l0
      · rcases List.mem_append.mp ht with x | x
        · exact b q h t x
        · rw [List.mem_singleton.mp x, l0]; exact Nat.zero_le _
    · rw [if_neg l0]
      cases eo : qRes n S i with
      | none =>
        refine ⟨(fun h => by cases h), fun q h t ht => ?_⟩
        cases Option.some.inj h
        rcases List.mem_append.mp ht with x | x
        · rw [a eo t x]; exact Nat.zero_le _
        · rw [List.mem_singleton.mp x]
          exact Nat.le_refl _
      | some q0 =>
        obtain ⟨k1, k2, k3, k4⟩ := ok q0 eo
        have p0 : 0 < q0.2.2.length := List.length_pos_iff.mpr k4
        dsimp only
        by_cases c : (smL n S u).length * q0.2.2.length < q0.2.1.length * (lgL n S u).length
        · rw [if_pos c]
          refine ⟨fun h => (by cases h), fun q h t ht => ?_⟩
          cases Option.some.inj h
          show (smL n S u).length * (lgL n S t).length ≤ (smL n S t).length * (lgL n S u).length
          rcases List.mem_append.mp ht with x | x
          · have y := b q0 eo t x
            refine Nat.le_of_mul_le_mul_right (c := q0.2.2.length) ?_ p0
            calc (smL n S u).length * (lgL n S t).length * q0.2.2.length = (smL n S u).length * q0.2.2.length * (lgL n S t).length := by rw [Nat.mul_right_comm]
              _ ≤ q0.2.1.length * (lgL n S u).length * (lgL n S t).length := Nat.mul_le_mul_right _ (Nat.le_of_lt c)
              _ = q0.2.1.length * (lgL n S t).length * (lgL n S u).length := by rw [Nat.mul_right_comm]
              _ ≤ (smL n S t).length * q0.2.2.length * (lgL n S u).length := Nat.mul_le_mul_right _ y
              _ = _ := by rw [Nat.mul_right_comm]
          · rw [List.mem_singleton.mp x]
            exact Nat.le_refl _
        · rw [if_neg c]
          refine ⟨fun h => (by cases h), fun q h t ht => ?_⟩
          cases Option.some.inj h
          rcases List.mem_append.mp ht with x | x
          · exact b q0 eo t x
          · rw [List.mem_singleton.mp x]
            omega
/-- the share that is returned: P / Q -/
def shP (o : Option Q3) : Int := LN (fr o).1 (fr o).2
def shQ (o : Option Q3) : Int := LD (fr o).1 (fr o).2
theorem sh_at {n : Nat} {S : List Bool} (o : Option Q3) (h : ∀ q, o = some q → 0 < q.2.2.length) : ∃ g : Int, 0 < g ∧ (fr o).1 = g * shP o ∧ (fr o).2 = g * shQ o ∧ 0 < (fr o).2 := by
  have d : 0 < (fr o).2 := by
    cases o with
    | none => exact (by decide : (0 : Int) < 1)
    | some q =>
      have := h q rfl
      show (0 : Int) < (q.2.2.length : Nat)
      omega
  exact ⟨_, gS_pos d, LN_eq (by omega), LD_eq (by omega), d⟩
theorem sh_rate {n : Nat} {S : List Bool} (F : Fam n S) : 0 ≤ shP (qRes n S (allS n).length) ∧ 0 < shQ (qRes n S (allS n).length) ∧ ∀ t ∈ allS n, shP (qRes n S (allS n).length) * ((lgL n S t).length : Nat) ≤ ((smL n S t).length : Nat) * shQ (qRes n S (allS n).length) := by
  obtain ⟨a, b⟩ := q_min (n := n) (S := S) _ (Nat.le_refl _)
  have ok := q_ok (n := n) (S := S) _ (Nat.le_refl _)
  rw [List.take_length] at a b
  obtain ⟨g, g0, e1, e2, d⟩ := sh_at (n := n) (S := S) (qRes n S (allS n).length) fun q h => List.length_pos_iff.mpr (ok q h).2.2.2
  have n0 : 0 ≤ (fr (qRes n S (allS n).length)).1 := by
    cases qRes n S (allS n).length with
    | none => exact (by decide : (0 : Int) ≤ 1)
    | some q => exact Int.natCast_nonneg _
  have Q0 : 0 < shQ (qRes n S (allS n).length) := by rw [e2] at d; exact Int.pos_of_mul_pos_right d g0
  have P0 : 0 ≤ shP (qRes n S (allS n).length) := by
    rw [e1] at n0
    exact Int.nonneg_of_mul_nonneg_right n0 g0
  refine ⟨P0, Q0, fun t ht => ?_⟩
  refine Int.le_of_mul_le_mul_left (a := g) ?_ g0
  rw [← Int.mul_assoc, ← e1, Int.mul_left_comm, ← e2]
  cases eo : qRes n S (allS n).length with
  | none =>
    rw [a eo t ht]
    show (1 : Int) * 0 ≤ _ * 1
    omega
  | some q =>
    have z := b q eo t ht
    show ((q.2.1.length : Nat) : Int) * ((lgL n S t).length : Nat) ≤ ((smL n S t).length : Nat) * ((q.2.2.length : Nat) : Int)
    rw [← Int.natCast_mul, ← Int.natCast_mul]
    exact Int.ofNat_le.mpr z
/-! ### a share of one: no fault -/
/-- a set, and one by one greater that shares none of what can be added -/
def Faulty (n : Nat) (S : List Bool) : Prop := ∃ s ∈ famL n S, ∃ u ∈ famL n S, u.length = s.length + 1 ∧ metL (addL n S s) u = false
theorem lg_in {n : Nat} {S : List Bool} {t : List Nat} (F : Fam n S) : lgL n S t ∈ famL n S ∧ ∀ g ∈ lgL n S t, g ∈ t := by
  obtain ⟨a, b⟩ := List.mem_filter.mp (lg_mem (t := t) F)
  exact ⟨a, fun g hg => List.contains_iff_mem.mp (List.all_eq_true.mp b g hg)⟩
theorem sm_in {n : Nat} {S : List Bool} {t : List Nat} (F : Fam n S) (ht : t ∈ allS n) : smL n S t ∈ famL n S ∧ (∀ g ∈ smL n S t, g ∈ t) ∧ metL (addL n S (smL n S t)) t = false := by
  obtain ⟨a, b⟩ := List.mem_filter.mp (sm_mem F ht)
  obtain ⟨c, d⟩ := List.mem_filter.mp a
  refine ⟨c, fun g hg => List.contains_iff_mem.mp (List.all_eq_true.mp d g hg), ?_⟩
  cases z : metL (addL n S (smL n S t)) t with
  | false => rfl
  | true => rw [z] at b; cases b
theorem met_false {s t : List Nat} : metL s t = false ↔ ∀ g ∈ s, ¬ g ∈ t := by
  constructor
  · intro h g hg ht
    have : metL s t = true := List.any_eq_true.mpr ⟨g, hg, List.contains_iff_mem.mpr ht⟩
    rw [h] at this
    cases this
  · intro h
    cases z : metL s t with
    | false => rfl
    | true =>
      obtain ⟨g, hg, gt⟩ := List.any_eq_true.mp z
      exact absurd (List.contains_iff_mem.mp gt) (h g hg)
/-- so many of a set's things, as a set of the family -/
theorem part_len : ∀ (s : List Nat) (m : Nat), s.Nodup → m ≤ s.length → ∃ p : Nat → Bool, (s.filter p).length = m
  | [], m, _, h => ⟨fun _ => false, by show 0 = m; have : ([] : List Nat).length = 0 := rfl; omega⟩
  | g :: s, 0, _, _ => ⟨fun _ => false, by rw [List.filter_eq_nil_iff.mpr fun _ _ h => by cases h]; rfl⟩
  | g :: s, m + 1, nd, h => by
    cases nd with
    | cons ng nd =>
      obtain ⟨p, hp⟩ := part_len s m nd (by rw [List.length_cons] at h; omega)
      refine ⟨fun x => decide (x = g) || p x, ?_⟩
      rw [List.filter_cons_of_pos (by rw [decide_eq_true rfl]; rfl), List.length_cons, List.filter_congr (q := p) fun x hx => by
        rw [decide_eq_false (fun e => ng x hx e.symm), Bool.false_or], hp]
theorem no_fault {n : Nat} {S : List Bool} (F : Fam n S) : (shP (qRes n S (allS n).length) = shQ (qRes n S (allS n).length)) ↔ ¬ Faulty n S := by
  obtain ⟨a, b⟩ := q_min (n := n) (S := S) _ (Nat.le_refl _)
  have ok := q_ok (n := n) (S := S) _ (Nat.le_refl _)
  rw [List.take_length] at a b
  obtain ⟨g, g0, e1, e2, d⟩ := sh_at (n := n) (S := S) (qRes n S (allS n).length) fun q h => List.length_pos_iff.mpr (ok q h).2.2.2
  have eqv : (shP (qRes n S (allS n).length) = shQ (qRes n S (allS n).length)) ↔ (fr (qRes n S (allS n).length)).1 = (fr (qRes n S (allS n).length)).2 := by
    rw [e1, e2]
    exact ⟨fun h => by rw [h], fun h => Int.eq_of_mul_eq_mul_left (by omega) h⟩
  rw [eqv]
  have n6 := F.n6
  constructor
  · rintro e ⟨s, hs, u, hu, ul, mt⟩
    have sA := (famL_mem.mp hs).1
    have uA := (famL_mem.mp hu).1
    have tA : (List.range n).filter (fun g => s.contains g || u.contains g) ∈ allS n := filt_in n6 _
    have tm : ∀ g, g ∈ (List.range n).filter (fun g => s.contains g || u.contains g) ↔ g ∈ s ∨ g ∈ u := fun g => by
      rw [List.mem_filter, Bool.or_eq_true, List.contains_iff_mem, List.contains_iff_mem, List.mem_range]
      refine ⟨fun z => z.2, fun z => ⟨?_, z⟩⟩
      rcases z with z | z
      · exact (allS_at sA n6).2.2.1 g z
      · exact (allS_at uA n6).2.2.1 g z
    generalize (List.range n).filter (fun g => s.contains g || u.contains g) = t at tA tm
    have sF : s ∈ fuL n S t := by
      refine List.mem_filter.mpr ⟨List.mem_filter.mpr ⟨hs, List.all_eq_true.mpr fun g hg => List.contains_iff_mem.mpr ((tm g).mpr (.inl hg))⟩, ?_⟩
      rw [met_false.mpr fun g hg ht => ?_]
      · rfl
      · rcases (tm g).mp ht with z | z
        · exact (rest_mem.mp (List.mem_filter.mp hg).1).2 z
        · exact met_false.mp mt g hg z
    have uI : u ∈ inL n S t := List.mem_filter.mpr ⟨hu, List.all_eq_true.mpr fun g hg => List.contains_iff_mem.mpr ((tm g).mpr (.inr hg))⟩
    have x1 := sm_least F sF
    have x2 := lg_most F uI
    cases eo : qRes n S (allS n).length with
    | none =>
      have := a eo t tA
      rw [this] at x2
      have : ([] : List Nat).length = 0 := rfl
      omega
    | some q =>
      rw [eo] at e
      have e : ((q.2.1.length : Nat) : Int) = ((q.2.2.length : Nat) : Int) := e
      have y := b q eo t tA
      have p0 : 0 < q.2.2.length := List.length_pos_iff.mpr (ok q eo).2.2.2
      rw [show q.2.1.length = q.2.2.length by omega, Nat.mul_comm] at y
      have := Nat.le_of_mul_le_mul_right y p0
      omega
  · intro nf
    cases eo : qRes n S (allS n).length with
    | none => rfl
    | some q =>
      obtain ⟨k1, k2, k3, k4⟩ := ok q eo
      show ((q.2.1.length : Nat) : Int) = ((q.2.2.length : Nat) : Int)
      rw [k2, k3]
      have l1 := lg_most F (List.mem_filter.mp (sm_mem F k1)).1
      rcases Nat.lt_or_eq_of_le l1 with lt | eq
      · exfalso
        obtain ⟨s1, s2, s3⟩ := sm_in F k1
        obtain ⟨g1, g2⟩ := lg_in (t := q.1) F
        have nd := (asc_pw (allS_at (famL_mem.mp g1).1 n6).2.2.2.2).imp Nat.ne_of_lt
        obtain ⟨p, hp⟩ := part_len (lgL n S q.1) ((smL n S q.1).length + 1) nd (by omega)
        exact nf ⟨_, s1, _, filt_fam F g1 p, hp, met_false.mpr fun g hg ht => met_false.mp s3 g hg (g2 g (List.mem_filter.mp ht).1)⟩
      · rw [eq]
theorem sh_range {n : Nat} {S : List Bool} (F : Fam n S) : 1 ≤ shP (qRes n S (allS n).length) ∧ shP (qRes n S (allS n).length) ≤ shQ (qRes n S (allS n).length) := by
  have ok := q_ok (n := n) (S := S) _ (Nat.le_refl _)
  obtain ⟨g, g0, e1, e2, d⟩ := sh_at (n := n) (S := S) (qRes n S (allS n).length) fun q h => List.length_pos_iff.mpr (ok q h).2.2.2
  have z : 0 < (fr (qRes n S (allS n).length)).1 ∧ (fr (qRes n S (allS n).length)).1 ≤ (fr (qRes n S (allS n).length)).2 := by
    cases eo : qRes n S (allS n).length with
    | none => exact ⟨by decide, by decide⟩
    | some q =>
      obtain ⟨k1, k2, k3, k4⟩ := ok q eo
      show 0 < ((q.2.1.length : Nat) : Int) ∧ ((q.2.1.length : Nat) : Int) ≤ ((q.2.2.length : Nat) : Int)
      rw [k2, k3]
      have l1 := lg_most F (List.mem_filter.mp (sm_mem F k1)).1
      refine ⟨?_, Int.ofNat_le.mpr l1⟩
      cases em : smL n S q.1 with
      | cons x l => show (0 : Int) < ((l.length + 1 : Nat) : Int); omega
      | nil =>
        exfalso
        obtain ⟨s1, s2, s3⟩ := sm_in F k1
        obtain ⟨g1, g2⟩ := lg_in (t := q.1) F
        rw [k3] at k4
        cases el : lgL n S q.1 with
        | nil => exact k4 el
        | cons y l =>
          rw [el] at g1 g2
          have yn := (allS_at (famL_mem.mp g1).1 F.n6).2.2.1 y List.mem_cons_self
          rw [em] at s3
          have f1 := filt_fam F g1 (fun x => decide (x = y))
          have nd := (asc_pw (allS_at (famL_mem.mp g1).1 F.n6).2.2.2.2).imp Nat.ne_of_lt
          have e : (y :: l).filter (fun x => decide (x = y)) = [y] := by
            rw [List.filter_cons_of_pos (p := fun x => decide (x = y)) (decide_eq_true rfl), List.filter_eq_nil_iff.mpr fun x hx => ?_]
            cases nd with
            | cons nd _ => rw [decide_eq_false (fun z => nd x hx z.symm)]; decide
          rw [e] at f1
          refine met_false.mp s3 y (List.mem_filter.mpr ⟨rest_mem.mpr ⟨List.mem_range.mpr yn, fun h => by cases h⟩, ?_⟩) (g2 y List.mem_cons_self)
          have := (famL_mem.mp f1).2
          show In S (0 + 2 ^ y) = true
          rw [Nat.zero_add]
          exact this
  rw [e1] at z
  rw [e2] at z
  refine ⟨?_, Int.le_of_mul_le_mul_left z.2 g0⟩
  have := Int.pos_of_mul_pos_right z.1 g0
  omega

end K37
namespace K37
open PySem PySem.Spec PyProof.Rows L2 Own OwnSeq OwnSet OwnComb OwnSort OwnHot OwnExN OwnProj
local macro_rules | `(tactic| walk_at "rd") => `(tactic| simp only [tSeq, tAsg, tOp, tUn, tVar, gName, gSub, rIxL, rIxT, rSetL, tC, rI0, rI, rU, rEq, rNe, tCons, tNil, tCB, tLst, tTup, tIfS, tAnd, tOr, tNot, tAndV, tOrV, tNotV, tTest, tB, tIf, tRet, tDrop, tNext, tBreak, tCont, tCall, tCallS, L2.WE, tMakeS, rIsS, rIsB, tChain, gSeq, gRest, gCons, gNil, tFor_seq, tFor_enumS, tLc_seq, tLc_enumS, rAny, rAll, L2.tMeth, StX.tStar, rIn, tLstRg, tRg1, tRg2, rSetI, rSortedSet, rInDT, rInD, rNotInD, rEqD, rNeD, iComb, tFld, tMake, tMkO, sFld, tOst, tNever, tBits, clv, isB,
  Rd.tFor_rng1, Rd.tFor_rng2, Rd.tFor_list, Rd.tFor_tup, Rd.tLc_list, Rd.tLc_tup, Rd.tLc_rng1, Rd.LcTurn, tYes, wipe, Rd.rLenL, Rd.rLenT, Rd.rIntI, Rd.rIxH, rIxHT,  HO.tup.injEq, Rd.at0, Rd.at1, Rd.at2, Rd.at3, Rd.ixN40, Rd.ixN41, Rd.ixN42, Rd.ixN43, Rd.scal_ii, cxOf,
  List.length_cons, List.length_nil, List.length_map, List.map_cons, List.map_nil, upd_same, decide_eq_true_eq, decide_true, decide_false, if_true, if_false, Bool.false_eq_true, Bool.not_true, Bool.not_false, HO.lst.injEq, HO.ins.injEq, List.set_cons_zero, List.set_cons_succ, List.getElem?_cons_zero, List.getElem?_cons_succ, List.append_nil, List.nil_append, List.cons_append, Option.some.injEq, V.ref.injEq, V.int.injEq, V.bl.injEq, List.cons.injEq, exists_eq_left', exists_and_left, exists_eq_left, true_and, and_true, and_self, and_assoc, implies_true, reduceCtorEq, Nat.reduceAdd])

/-! ### the weights at which the share is nearly met -/
def tw (m : Nat) (T s : List Nat) (k : Nat) : Int := (m : Int) * (if k ∈ T then 1 else 0) + (if k ∈ s then 1 else 0)
def tws (n m : Nat) (T s : List Nat) : List Wt := (List.range n).map fun k => some (tw m T s k, 1)
theorem tw_at {n m k : Nat} {T s : List Nat} (h : k < n) : wt (tws n m T s) k = some (tw m T s k, 1) := by
  unfold wt tws
  rw [List.getElem?_map, List.getElem?_range h]
  rfl
theorem tw_sc {n m k : Nat} {T s : List Nat} (h : k < n) : scI 1 (tws n m T s) k = tw m T s k := by
  unfold scI
  rw [tw_at h]
  show tw m T s k * (1 : Int).fdiv 1 = _
  rw [show (1 : Int).fdiv 1 = 1 from by decide, Int.mul_one]
theorem tw_le (m : Nat) (T s : List Nat) (k : Nat) : 0 ≤ tw m T s k ∧ tw m T s k ≤ m + 1 := by
  unfold tw
  split <;> split <;> omega
theorem tw_len (n m : Nat) (T s : List Nat) : (tws n m T s).length = n := by
  unfold tws
  rw [List.length_map, List.length_range]
theorem tw_ok {n m : Nat} {T s : List Nat} (h : m ≤ 100000) : ScOk 1 (tws n m T s) := by
  refine ⟨by decide, fun o ho => ?_, fun n' d' h => ?_, by decide⟩
  · obtain ⟨k, _, rfl⟩ := List.mem_map.mp ho
    intro n' d' e
    cases e
    obtain ⟨a, b⟩ := tw_le m T s k
    exact ⟨by decide, Nat.lt_of_lt_of_le (show (tw m T s k).natAbs < 2 ^ 20 by have : 2 ^ 20 = 1048576 := rfl; omega) (Nat.pow_le_pow_right (by decide) (by decide)), by decide⟩
  · obtain ⟨k, _, e⟩ := List.mem_map.mp h
    cases e
    exact Int.dvd_refl 1
theorem mem_plus {n : Nat} {s : List Nat} {g : Nat} (h : n ≤ 6) (hs : s ∈ allS n) (hg : g < n) (ns : ¬ g ∈ s) : bits (mk s + 2 ^ g) ∈ allS n ∧ mk (bits (mk s + 2 ^ g)) = mk s + 2 ^ g ∧ ∀ y, y ∈ bits (mk s + 2 ^ g) ↔ y ∈ s ∨ y = g := by
  have y := List.all_eq_true.mp (List.all_eq_true.mp (List.all_eq_true.mp join_all n (List.mem_range.mpr (by omega))) s hs) g (List.mem_range.mpr hg)
  unfold joinB at y
  rw [show s.contains g = false by simpa using ns] at y
  simp only [Bool.false_or, Bool.and_eq_true, decide_eq_true_eq] at y
  obtain ⟨⟨y1, y2⟩, y3⟩ := y
  refine ⟨y1, y2, fun x => ?_⟩
  by_cases x6 : x < 6
  · have z := beq_iff_eq.mp (List.all_eq_true.mp y3 x (List.mem_range.mpr x6))
    rw [← List.contains_iff_mem (as := bits _), z]
    simp
  · refine ⟨fun k => absurd (List.mem_range.mp (List.mem_filter.mp k).1) x6, fun k => ?_⟩
    rcases k with k | k
    · have := (allS_at hs h).2.2.1 x k
      omega
    · omega
theorem tight_set {n m : Nat} {S : List Bool} {T s : List Nat} (F : Fam n S) (m1 : 1 ≤ m) (m2 : m ≤ 100000) (hs : s ∈ famL n S) (hT : T ∈ allS n) (sT : ∀ g ∈ s, g ∈ T) (mx : metL (addL n S s) T = false) : grN n S (tws n m T s) 7 [] = s := by
  have so := tw_ok (n := n) (T := T) (s := s) m2
  obtain ⟨G, hc⟩ := gr_good so F
  have n6 := F.n6
  have sA := (famL_mem.mp hs).1
  have full := gr_full (τ := (m : Int) + 1) so F (by omega)
  generalize grN n S (tws n m T s) 7 [] = u at G hc full ⊢
  have uA := (famL_mem.mp G.fam).1
  have un := (allS_at uA n6).2.2.1
  have sn := (allS_at sA n6).2.2.1
  have inS : ∀ g, g < n → ((m : Int) + 1 ≤ scI 1 (tws n m T s) g ↔ g ∈ s) := fun g hg => by
    rw [tw_sc hg]
    unfold tw
    constructor
    · intro h
      by_cases z : g ∈ s
      · exact z
      · rw [if_neg z] at h
        split at h <;> omega
    · intro h
      rw [if_pos h, if_pos (sT g h)]
      omega
  have inT : ∀ g ∈ u, g ∈ T := fun g hg => by
    have p := (sc_posI so g).mpr (List.all_eq_true.mp G.pos g hg)
    rw [tw_sc (un g hg)] at p
    unfold tw at p
    by_cases z : g ∈ T
    · exact z
    · rw [if_neg z, if_neg (fun y => z (sT g y))] at p
      omega
  obtain ⟨f1, f2⟩ := List.mem_filter.mp full
  obtain ⟨f3, f4⟩ := List.mem_filter.mp f1
  have f2 : metL (addL n S (u.filter fun g => decide ((m : Int) + 1 ≤ scI 1 (tws n m T s) g))) ((List.range n).filter fun g => decide ((m : Int) + 1 ≤ scI 1 (tws n m T s) g)) = false := by
    cases z : metL (addL n S (u.filter fun g => decide ((m : Int) + 1 ≤ scI 1 (tws n m T s) g))) ((List.range n).filter fun g => decide ((m : Int) + 1 ≤ scI 1 (tws n m T s) g)) with
    | false => rfl
    | true => rw [z] at f2; cases f2
  have xA := (famL_mem.mp f3).1
  have xs : ∀ g, g ∈ u.filter (fun g => decide ((m : Int) + 1 ≤ scI 1 (tws n m T s) g)) → g ∈ s := fun g hg => by
    obtain ⟨a, b⟩ := List.mem_filter.mp hg
    exact (inS g (un g a)).mp (of_decide_eq_true b)
  have su : ∀ g ∈ s, g ∈ u := fun g hg => by
    have gn := sn g hg
    by_cases z : g ∈ u
    · exact z
    · exfalso
      have nx : ¬ g ∈ u.filter (fun g => decide ((m : Int) + 1 ≤ scI 1 (tws n m T s) g)) := fun y => z (List.mem_filter.mp y).1
      have ad : In S (mk (u.filter fun g => decide ((m : Int) + 1 ≤ scI 1 (tws n m T s) g)) + 2 ^ g) = true := by
        obtain ⟨b4, b5, b6⟩ := mem_plus n6 xA gn nx
        rw [← b5]
        refine F.down _ _ (sub_of n6 b4 sA fun y hy => ?_) (famL_mem.mp hs).2
        rcases (b6 y).mp hy with q | q
        · exact xs y q
        · rw [q]; exact hg
      exact met_false.mp f2 g (List.mem_filter.mpr ⟨rest_mem.mpr ⟨List.mem_range.mpr gn, nx⟩, ad⟩) (List.mem_filter.mpr ⟨List.mem_range.mpr gn, decide_eq_true ((inS g gn).mpr hg)⟩)
  refine asc_ext (asc_pw (allS_at uA n6).2.2.2.2) (asc_pw (allS_at sA n6).2.2.2.2) fun g => ⟨fun hg => ?_, su g⟩
  by_cases z : g ∈ s
  · exact z
  · exfalso
    have gn := un g hg
    obtain ⟨b4, b5, b6⟩ := mem_plus n6 sA gn z
    have ad : In S (mk s + 2 ^ g) = true := by
      rw [← b5]
      refine F.down _ _ (sub_of n6 b4 uA fun y hy => ?_) (famL_mem.mp G.fam).2
      rcases (b6 y).mp hy with q | q
      · exact su y q
      · rw [q]; exact hg
    exact met_false.mp mx g (List.mem_filter.mpr ⟨rest_mem.mpr ⟨List.mem_range.mpr gn, z⟩, ad⟩) (inT g hg)
theorem tw_sum {n m : Nat} {T s : List Nat} (c : Int) : ∀ u : List Nat, (∀ g ∈ u, g < n ∧ tw m T s g = c) → ssum 1 (tws n m T s) u = c * (u.length : Nat)
  | [], _ => by show (0 : Int) = c * 0; rw [Int.mul_zero]
  | g :: u, h => by
    obtain ⟨a, b⟩ := h g List.mem_cons_self
    have e : ssum 1 (tws n m T s) (g :: u) = scI 1 (tws n m T s) g + ssum 1 (tws n m T s) u := rfl
    rw [e, tw_sc a, b, tw_sum c u fun x hx => h x (List.mem_cons_of_mem _ hx), List.length_cons, Int.natCast_succ, Int.mul_add, Int.mul_one, Int.add_comm]
theorem tw_more {n m : Nat} {T s : List Nat} (c : Int) : ∀ u : List Nat, (∀ g ∈ u, g < n ∧ c ≤ tw m T s g) → c * (u.length : Nat) ≤ ssum 1 (tws n m T s) u
  | [], _ => by show c * 0 ≤ (0 : Int); rw [Int.mul_zero]; exact Int.le_refl _
  | g :: u, h => by
    obtain ⟨a, b⟩ := h g List.mem_cons_self
    have e : ssum 1 (tws n m T s) (g :: u) = scI 1 (tws n m T s) g + ssum 1 (tws n m T s) u := rfl
    have z := tw_more c u fun x hx => h x (List.mem_cons_of_mem _ hx)
    rw [e, tw_sc a, List.length_cons, Int.natCast_succ, Int.mul_add, Int.mul_one]
    omega
/-- what is asked of the nearly tight weights -/
theorem tight_le {n m : Nat} {S : List Bool} (F : Fam n S) (m1 : 1 ≤ m) (m2 : m ≤ 100000) (o : Option Q3) (ho : o = qRes n S (allS n).length) :
    grN n S (tws n m (q3 o).1 (q3 o).2.1) 7 [] = (q3 o).2.1 ∧
    ssum 1 (tws n m (q3 o).1 (q3 o).2.1) (q3 o).2.1 * m * shQ o ≤ ((m : Int) + 1) * shP o * bestP 1 n S (tws n m (q3 o).1 (q3 o).2.1) (famL n S).length := by
  have n6 := F.n6
  have ok := q_ok (n := n) (S := S) _ (Nat.le_refl _)
  rw [← ho] at ok
  have so := tw_ok (n := n) (T := (q3 o).1) (s := (q3 o).2.1) m2
  have hb := heavy_eq so F
  obtain ⟨v1, v2, v3, v4⟩ := hv_at (E := 1) (ws := tws n m (q3 o).1 (q3 o).2.1) F _ (Nat.le_refl _)
  rw [List.take_length] at v4
  rw [hb]
  obtain ⟨P1, _⟩ := sh_range F
  rw [← ho] at P1
  cases o with
  | none =>
    refine ⟨tight_set F m1 m2 (famL_mem.mpr ⟨nil_in n6, F.zero⟩) (nil_in n6) (fun g h => by cases h) (met_false.mpr fun g _ h => by cases h), ?_⟩
    show (0 : Int) * m * _ ≤ _
    rw [Int.zero_mul, Int.zero_mul]
    exact Int.mul_nonneg (Int.mul_nonneg (by omega) (by omega)) v3
  | some q =>
    obtain ⟨k1, k2, k3, k4⟩ := ok q rfl
    obtain ⟨s1, s2, s3⟩ := sm_in F k1
    obtain ⟨g1, g2⟩ := lg_in (t := q.1) F
    rw [← k2] at s1 s2 s3
    rw [← k3] at g1 g2
    have e1 : (q3 (some q)).1 = q.1 := rfl
    have e2 : (q3 (some q)).2.1 = q.2.1 := rfl
    rw [e1, e2] at *
    refine ⟨tight_set F m1 m2 s1 k1 s2 s3, ?_⟩
    have sn := (allS_at (famL_mem.mp s1).1 n6).2.2.1
    have gn := (allS_at (famL_mem.mp g1).1 n6).2.2.1
    have x1 := tw_sum (n := n) (m := m) (T := q.1) (s := q.2.1) ((m : Int) + 1) q.2.1 fun g hg => ⟨sn g hg, by unfold tw; rw [if_pos (s2 g hg), if_pos hg]; omega⟩
    have x2 := tw_more (n := n) (m := m) (T := q.1) (s := q.2.1) (m : Int) q.2.2 fun g hg => ⟨gn g hg, by unfold tw; rw [if_pos (g2 g hg)]; split <;> omega⟩
    have x3 := v4 q.2.2 g1 (List.all_eq_true.mpr fun g hg => (sc_posI so g).mp (by rw [tw_sc (gn g hg)]; show 0 < tw m q.1 q.2.1 g; unfold tw; rw [if_pos (g2 g hg)]; split <;> omega))
    obtain ⟨g, g0, y1, y2, d⟩ := sh_at (n := n) (S := S) (some q) fun q' h => by cases h; exact List.length_pos_iff.mpr k4
    have y1 : ((q.2.1.length : Nat) : Int) = g * shP (some q) := y1
    have y2 : ((q.2.2.length : Nat) : Int) = g * shQ (some q) := y2
    rw [x1]
    have cr : ((q.2.1.length : Nat) : Int) * shQ (some q) = shP (some q) * ((q.2.2.length : Nat) : Int) := by
      rw [y1, y2]
      simp only [Int.mul_assoc, Int.mul_comm, Int.mul_left_comm]
    have le := Int.le_trans x2 x3
    calc ((m : Int) + 1) * ((q.2.1.length : Nat) : Int) * m * shQ (some q) = ((m : Int) + 1) * (m * (((q.2.1.length : Nat) : Int) * shQ (some q))) := by simp only [Int.mul_assoc, Int.mul_comm, Int.mul_left_comm]
      _ = ((m : Int) + 1) * (m * (shP (some q) * ((q.2.2.length : Nat) : Int))) := by rw [cr]
      _ = ((m : Int) + 1) * shP (some q) * (m * ((q.2.2.length : Nat) : Int)) := by simp only [Int.mul_assoc, Int.mul_comm, Int.mul_left_comm]
      _ ≤ _ := Int.mul_le_mul_of_nonneg_left le (Int.mul_nonneg (by omega) (by omega))

end K37
namespace K37
open PySem PySem.Spec PyProof.Rows L2 Own OwnSeq OwnSet OwnComb OwnSort OwnHot OwnExN OwnProj
local macro_rules | `(tactic| walk_at "rd") => `(tactic| simp only [tSeq, tAsg, tOp, tUn, tVar, gName, gSub, rIxL, rIxT, rSetL, tC, rI0, rI, rU, rEq, rNe, tCons, tNil, tCB, tLst, tTup, tIfS, tAnd, tOr, tNot, tAndV, tOrV, tNotV, tTest, tB, tIf, tRet, tDrop, tNext, tBreak, tCont, tCall, tCallS, L2.WE, tMakeS, rIsS, rIsB, tChain, gSeq, gRest, gCons, gNil, tFor_seq, tFor_enumS, tLc_seq, tLc_enumS, rAny, rAll, L2.tMeth, StX.tStar, rIn, tLstRg, tRg1, tRg2, rSetI, rSortedSet, rInDT, rInD, rNotInD, rEqD, rNeD, iComb, tFld, tMake, tMkO, sFld, tOst, tNever, tBits, clv, isB,
  Rd.tFor_rng1, Rd.tFor_rng2, Rd.tFor_list, Rd.tFor_tup, Rd.tLc_list, Rd.tLc_tup, Rd.tLc_rng1, Rd.LcTurn, tYes, wipe, Rd.rLenL, Rd.rLenT, Rd.rIntI, Rd.rIxH, rIxHT,  HO.tup.injEq, Rd.at0, Rd.at1, Rd.at2, Rd.at3, Rd.ixN40, Rd.ixN41, Rd.ixN42, Rd.ixN43, Rd.scal_ii, cxOf,
  List.length_cons, List.length_nil, List.length_map, List.map_cons, List.map_nil, upd_same, decide_eq_true_eq, decide_true, decide_false, if_true, if_false, Bool.false_eq_true, Bool.not_true, Bool.not_false, HO.lst.injEq, HO.ins.injEq, List.set_cons_zero, List.set_cons_succ, List.getElem?_cons_zero, List.getElem?_cons_succ, List.append_nil, List.nil_append, List.cons_append, Option.some.injEq, V.ref.injEq, V.int.injEq, V.bl.injEq, List.cons.injEq, exists_eq_left', exists_and_left, exists_eq_left, true_and, and_true, and_self, and_assoc, implies_true, reduceCtorEq, Nat.reduceAdd])

section
variable {P : Program} {w : World} {K : PySem.W.Frag} {mg : Str → Option Value} {base : Heap} {a : Ad}
/-! ### _law_fault -/
def spFlt : Sp := fun vs H Q _ => ∃ (b p : Addr) (n : Nat) (S : List Bool), vs = [.ref p] ∧ LFam b H p n S ∧ (∀ v H', Same H H' → ((v = .non ∧ ¬ Faulty n S) ∨ ((∃ r, v = .ref r) ∧ Faulty n S)) → Q v H')
theorem sc_law_fault : FnScope ["family", "small", "adds", "many", "large"] ["family"] (defScope s_law_fault) := ⟨rfl, rfl, rfl, by decide +kernel, rfl, by decide +kernel, by decide +kernel⟩
theorem ok_law_fault (T : Txt K mg a) : FnOk P w K mg base CX0 2 a.a_law_fault a.d_law_fault ["family"] spFlt := by
  refine T.fn_law_fault.ok sc_law_fault (fun vs H Q E h => ?_) (fun cdv A outer s H vs Q E hr h => ?_)
  · obtain ⟨b, p, n, S, rfl, _⟩ := h
    rfl
  · obtain ⟨b, p, n, S, rfl, F, k⟩ := h
    refine ⟨_, (pss_cons (ps_for PassesOwn.never rfl (pi_list (pe_ix Rd.ixH (pv 0) pe_int (fun _ _ => rfl))) (pg_name (i := 1) sc_law_fault.nd rfl (Or.inl rfl))
        (pss_cons (ps_set (i := 2) sc_law_fault.nd rfl (Or.inl rfl) (pe_call (ok_law_adds T) (hr.mono (by decide)) (by rfl) T.mg_law_adds T.fn_law_adds.kp T.b_law_adds .nil pass0 (pa_cons (pv 0) (pa_cons (pv 1) pa_nil))))
        (pss_cons (ps_set (i := 3) sc_law_fault.nd rfl (Or.inl rfl) (pe_op op_add (pe_callB (lenK K) (by rfl) T.no_len PySem.boot_len (pa_cons (pe_call (ok_law_things T) (hr.mono (by decide)) (by rfl) T.mg_law_things T.fn_law_things.kp T.b_law_things .nil pass0 (pa_cons (pv 1) pa_nil)) pa_nil)) pe_int))
        (pss_one (ps_for PassesOwn.never rfl (pi_list (pe_ix Rd.ixH (pv 0) pe_int (fun _ _ => rfl))) (pg_name (i := 4) sc_law_fault.nd rfl (Or.inl rfl))
          (pss_one (ps_if (PW.pt (pw_and (pt_cmpR op_eq (pe_op op_and (pv 4) (pv 2)) pe_int (nomark _)) (pw_and1 (pt_cmpR op_eq (pe_callB (lenK K) (by rfl) T.no_len PySem.boot_len (pa_cons (pe_call (ok_law_things T) (hr.mono (by decide)) (by rfl) T.mg_law_things T.fn_law_things.kp T.b_law_things .nil pass0 (pa_cons (pv 4) pa_nil)) pa_nil)) (pv 3) (nomark _))))) (pss_one (ps_ret (pe_tup (pa_cons (pe_call (ok_law_things T) (hr.mono (by decide)) (by rfl) T.mg_law_things T.fn_law_things.kp T.b_law_things .nil pass0 (pa_cons (pv 1) pa_nil)) (pa_cons (pe_call (ok_law_things T) (hr.mono (by decide)) (by rfl) T.mg_law_things T.fn_law_things.kp T.b_law_things .nil pass0 (pa_cons (pv 4) pa_nil)) pa_nil))))) pss_nil)))))))
      (pss_one (ps_ret pe_non))), ?_⟩
    show (_ : TS) _ [some (V.ref p), none, none, none, none] H
    obtain ⟨q, o, nq, no, hp, hq, ho⟩ := F.ob
    have n6 := F.fam.n6
    have ol : (ordL n S).length = (famL n S).length := by unfold ordL; rw [List.length_map]
    walk_at "rd"
    refine ⟨_, hp, _, Rd.at2, o, rfl, ⟨_, SqL.of ho⟩, ?_⟩
    refine Rd.loop_listC (xs := iv (ordL n S)) (fun σ H' => ∃ o1 o2 o3 o4, σ = [some (V.ref p), o1, o2, o3, o4] ∧ Same H H' ∧ ¬ Faulty n S)
      (fun i σ H' => ∃ o1 o2 o3 o4, σ = [some (V.ref p), o1, o2, o3, o4] ∧ Same H H' ∧ ∀ s ∈ (famL n S).take i, ∀ u ∈ famL n S, u.length = s.length + 1 → metL (addL n S s) u = true)
      ⟨none, none, none, none, rfl, Same.refl _, fun s h => by cases h⟩ (fun i σ H' _ ⟨_, _, _, _, _, e, _⟩ => SqL.of (e _ _ ho)) ?_ (fun σ H' ⟨o1, o2, o3, o4, q1, q2, q3⟩ => ⟨o1, o2, o3, o4, q1, q2, fun ⟨s, hs, u, hu, ul, mt⟩ => by
        rw [iv_len, ol, List.take_length] at q3
        rw [q3 s hs u hu ul] at mt
        cases mt⟩) ?_
    · rintro bk hbk i x σ H1 hx ⟨o1, o2, o3, o4, rfl, e1, done⟩
      obtain ⟨g, hg, rfl⟩ := at_iv hx
      obtain ⟨s', hs, rfl, bs, sm⟩ := ord_at n6 hg
      have sA := (famL_mem.mp sm).1
      have sl := allS_at sA n6
      walk_at "rd"
      refine ⟨b, p, n, mk s', S, rfl, F.but (Same.but e1), sl.2.1, fun H2 e2 => ?_⟩
      rw [adds_eq n6 sA]
      refine ⟨_, rfl, fun v H3 _ e3 hv => ⟨v, rfl, _, .inr (SqT.of hv), ?_⟩⟩
      rw [sl.1, iv_len]
      have e03 := (e1.trans e2).trans e3
      refine ⟨_, e03 _ _ hp, _, Rd.at2, o, rfl, ⟨_, SqL.of (e03 _ _ ho)⟩, ?_⟩
      refine Rd.loop_listC (xs := iv (ordL n S)) (fun σ H' => ∃ o4, σ = [some (V.ref p), some (V.int (mk s' : Nat)), some (V.int (mk (addL n S s') : Nat)), some (V.int ((s'.length : Int) + 1)), o4] ∧ Same H H' ∧ ∀ u ∈ famL n S, u.length = s'.length + 1 → metL (addL n S s') u = true)
        (fun j σ H' => ∃ o4, σ = [some (V.ref p), some (V.int (mk s' : Nat)), some (V.int (mk (addL n S s') : Nat)), some (V.int ((s'.length : Int) + 1)), o4] ∧ Same H H' ∧ ∀ u ∈ (famL n S).take j, u.length = s'.length + 1 → metL (addL n S s') u = true)
        ⟨_, rfl, e03, fun u h => by cases h⟩ (fun j σ H' _ ⟨_, _, e, _⟩ => SqL.of (e _ _ ho)) ?_ (fun σ H' ⟨o4, q1, q2, q3⟩ => ⟨o4, q1, q2, by rw [iv_len, ol, List.take_length] at q3; exact q3⟩) ?_
      · rintro bk2 hbk2 j y σ H4 hy ⟨o4, rfl, e4, fnd⟩
        obtain ⟨g, hg, rfl⟩ := at_iv hy
        obtain ⟨u, hu, rfl, bu, um⟩ := ord_at n6 hg
        have uA := (famL_mem.mp um).1
        have ul := allS_at uA n6
        have nx : ∀ H5, Same H H5 → (u.length = s'.length + 1 → metL (addL n S s') u = true) → Same H H5 ∧ ∀ u ∈ (famL n S).take (j + 1), u.length = s'.length + 1 → metL (addL n S s') u = true := fun H5 e5 h => ⟨e5, fun z hz => by
          rw [List.take_add_one, hu] at hz
          rcases List.mem_append.mp hz with m | m
          · exact fnd z m
          · rw [List.mem_singleton.mp m]; exact h⟩
        have c2 : (Builtin.bitAnd ((mk u : Nat) : Int) ((mk (addL n S s') : Nat) : Int) = 0) ↔ metL (addL n S s') u = false := by
          have m := met_eq n6 (add_in (S := S) (s := s') n6) uA
          rw [and_nat, Nat.and_comm]
          constructor
          · intro z
            have z : mk (addL n S s') &&& mk u = 0 := by omega
            rw [decide_eq_true z] at m
            cases e : metL (addL n S s') u with
            | false => rfl
            | true => rw [e] at m; cases m
          · intro z
            rw [z] at m
            rw [of_decide_eq_true m]
            rfl
        walk_at "rd"
        refine ite2 (fun h1 => ⟨_, rfl, fun v5 H5 _ e5 hv5 => ⟨v5, rfl, _, .inr (SqT.of hv5), ?_⟩⟩) (fun h1 => nx _ e4 (fun _ => ?_))
        · rw [ul.1, iv_len]
          exact ite2 (fun h2 => ⟨_, rfl, fun v6 H6 _ e6 _ => ⟨_, rfl, fun v7 H7 _ e7 _ => ⟨by decide, fun p9 hp9 => k _ _ ((((e4.trans e5).trans e6).trans e7).trans (same_upd hp9)) (.inr ⟨⟨p9, rfl⟩, s', sm, u, um, by omega, c2.mp h1⟩)⟩⟩⟩) (fun h2 => nx H5 (e4.trans e5) (fun h => absurd h (by omega)))
        · cases e : metL (addL n S s') u with
          | true => rfl
          | false => exact absurd (c2.mpr e) h1
      · rintro σ H4 ⟨o4, rfl, e4, fnd⟩
        walk_at "rd"
        refine ⟨e4, fun z hz => ?_⟩
        rw [List.take_add_one, hs] at hz
        rcases List.mem_append.mp hz with m | m
        · exact done z m
        · rw [List.mem_singleton.mp m]; exact fnd
    · rintro σ H1 ⟨o1, o2, o3, o4, rfl, e1, nf⟩
      walk_at "rd"
      exact k _ H1 e1 (.inl ⟨rfl, nf⟩)
/-! ### _law_weighs -/
def spWgh : Sp := fun vs H Q _ => ∃ (b v p r : Addr) (n : Nat) (S : List Bool) (ws : List Wt) (E : Int) (s : List Nat) (ex : List V), vs = [.ref v, .ref p, .ref r] ∧ LFam b H p n S ∧ H v = some (.tup (iv s)) ∧ s ∈ famL n S ∧ ws.length = n ∧ (∀ g ∈ s, wt ws g ≠ none) ∧ H r = some (.lst (ws.map (scV E) ++ ex)) ∧ ∀ H', Same H H' → Q (.int (ssum E ws s)) H'
theorem sc_law_weighs : FnScope ["found", "family", "weights", "mask", "thing"] ["found", "family", "weights"] (defScope s_law_weighs) := ⟨rfl, rfl, rfl, by decide +kernel, rfl, by decide +kernel, by decide +kernel⟩
theorem ok_law_weighs (T : Txt K mg a) : FnOk P w K mg base CX0 3 a.a_law_weighs a.d_law_weighs ["found", "family", "weights"] spWgh := by
  refine T.fn_law_weighs.ok sc_law_weighs (fun vs H Q E h => ?_) (fun cdv A outer s H vs Q E hr h => ?_)
  · obtain ⟨b, v, p, r, n, S, ws, E, s, ex, rfl, _⟩ := h
    rfl
  · obtain ⟨b, v, p, r, n, S, ws, E', t, ex, rfl, F, hv, ts, wl, som, hr1, k⟩ := h
    refine ⟨_, (pss_cons (ps_set (i := 3) sc_law_weighs.nd rfl (Or.inl rfl) (pe_call (ok_law_mask T) (hr.mono (by decide)) (by rfl) T.mg_law_mask T.fn_law_mask.kp T.b_law_mask .nil pass0 (pa_cons (pv 0) (pa_cons (pe_ix Rd.ixH (pv 1) pe_int (fun _ _ => rfl)) pa_nil))))
      (pss_cons (ps_if (PW.pt (pw_or (pt_cmpR op_lt (pv 3) pe_int (nomark _)) (pw_or1 (pt_not (pt_val (pe_ix Rd.ixH (pe_ix Rd.ixH (pv 1) pe_int (fun _ _ => rfl)) (pv 3) (fun _ _ => rfl))))))) (pss_one (ps_ret pe_non)) pss_nil)
      (pss_cons (ps_for PassesOwn.never rfl (pi_seq (pe_call (ok_law_things T) (hr.mono (by decide)) (by rfl) T.mg_law_things T.fn_law_things.kp T.b_law_things .nil pass0 (pa_cons (pv 3) pa_nil))) (pg_name (i := 4) sc_law_weighs.nd rfl (Or.inl rfl))
        (pss_one (ps_if (pt_cmpR op_isN (pe_ix Rd.ixH (pv 2) (pv 4) (fun _ _ => rfl)) pe_non (nomark _)) (pss_one (ps_ret pe_non)) pss_nil)))
      (pss_one (ps_ret (pe_call (ok_law_sum T) (hr.mono (by decide)) (by rfl) T.mg_law_sum T.fn_law_sum.kp T.b_law_sum .nil pass0 (pa_cons (pv 2) (pa_cons (pv 3) pa_nil)))))))), ?_⟩
    show (_ : TS) _ [some (V.ref v), some (V.ref p), some (V.ref r), none, none] H
    obtain ⟨q, o, nq, no, hp, hq, ho⟩ := F.ob
    have n6 := F.fam.n6
    have gA := famL_mem.mp ts
    have tl := allS_at gA.1 n6
    walk_at "rd"
    refine ⟨_, hp, _, Rd.at0, v, n, t, rfl, hv, n6, gA.1, fun H1 e1 => ?_⟩
    refine ⟨_, rfl, ?_⟩
    rw [if_neg (by omega)]
    refine ⟨_, e1 _ _ hp, _, Rd.at1, q, rfl, _, _, rfl, e1 _ _ hq, _, in_bool (by rw [F.fam.len]; exact tl.2.1), _, rfl, ?_⟩
    rw [gA.2, if_neg (by decide)]
    refine ⟨_, rfl, fun u H2 _ e2 hu => ?_⟩
    rw [tl.1] at hu
    have e12 := e1.trans e2
    have hr2 := e12 _ _ hr1
    refine ⟨u, rfl, false, _, hu, loop_goes (goes_seq (xs := iv t)) (fun σ H' => ∃ o4, σ = [some (V.ref v), some (V.ref p), some (V.ref r), some (V.int (mk t : Nat)), o4] ∧ H' = H2) (fun i σ H' => ∃ o4, σ = [some (V.ref v), some (V.ref p), some (V.ref r), some (V.int (mk t : Nat)), o4] ∧ H' = H2)
      ⟨none, rfl, rfl⟩ (fun i σ H' _ ⟨_, _, e⟩ => by rw [e]; exact hu) ?_ (fun _ _ h => h) ?_⟩
    · rintro bk hbk i x σ H3 H3' hi ⟨o4, rfl, rfl⟩ ⟨eq5, hx⟩
      subst eq5
      obtain ⟨g, hg, rfl⟩ := at_iv hx
      have gm := List.mem_of_getElem? hg
      have gn := tl.2.2.1 g gm
      have sa := sc_at (ws := ws) (ex := ex) (E := E') (j := g) (by omega)
      walk_at "rd"
      refine ⟨_, hr2, _, sa, ?_⟩
      cases eo : wt ws g with
      | none => exact absurd eo (som g gm)
      | some nd =>
        rw [show scV E' (some nd) = V.int (nd.1 * E'.fdiv nd.2) from rfl, if_neg (fun z => by cases z)]
        exact ⟨_, rfl⟩
    · rintro σ H3 ⟨o4, rfl, rfl⟩
      walk_at "rd"
      exact ⟨r, n, ws, E', t, ex, rfl, n6, gA.1, wl, som, hr2, fun H4 e4 => k H4 (e12.trans e4)⟩
end

end K37
namespace K37
open PySem PySem.Spec PyProof.Rows L2 Own OwnSeq OwnSet OwnComb OwnSort OwnHot OwnExN OwnProj
local macro_rules | `(tactic| walk_at "rd") => `(tactic| simp only [tSeq, tAsg, tOp, tUn, tVar, gName, gSub, rIxL, rIxT, rSetL, tC, rI0, rI, rU, rEq, rNe, tCons, tNil, tCB, tLst, tTup, tIfS, tAnd, tOr, tNot, tAndV, tOrV, tNotV, tTest, tB, tIf, tRet, tDrop, tNext, tBreak, tCont, tCall, tCallS, L2.WE, tMakeS, rIsS, rIsB, tChain, gSeq, gRest, gCons, gNil, tFor_seq, tFor_enumS, tLc_seq, tLc_enumS, rAny, rAll, L2.tMeth, StX.tStar, rIn, tLstRg, tRg1, tRg2, rSetI, rSortedSet, rInDT, rInD, rNotInD, rEqD, rNeD, iComb, tFld, tMake, tMkO, sFld, tOst, tNever, tBits, clv, isB,
  Rd.tFor_rng1, Rd.tFor_rng2, Rd.tFor_list, Rd.tFor_tup, Rd.tLc_list, Rd.tLc_tup, Rd.tLc_rng1, Rd.LcTurn, tYes, wipe, Rd.rLenL, Rd.rLenT, Rd.rIntI, Rd.rIxH, rIxHT,  HO.tup.injEq, Rd.at0, Rd.at1, Rd.at2, Rd.at3, Rd.ixN40, Rd.ixN41, Rd.ixN42, Rd.ixN43, Rd.scal_ii, cxOf,
  List.length_cons, List.length_nil, List.length_map, List.map_cons, List.map_nil, upd_same, decide_eq_true_eq, decide_true, decide_false, if_true, if_false, Bool.false_eq_true, Bool.not_true, Bool.not_false, HO.lst.injEq, HO.ins.injEq, List.set_cons_zero, List.set_cons_succ, List.getElem?_cons_zero, List.getElem?_cons_succ, List.append_nil, List.nil_append, List.cons_append, Option.some.injEq, V.ref.injEq, V.int.injEq, V.bl.injEq, List.cons.injEq, exists_eq_left', exists_and_left, exists_eq_left, true_and, and_true, and_self, and_assoc, implies_true, reduceCtorEq, Nat.reduceAdd])

/-- weights handed over, one after the other, all plain where they can be -/
structure HL (C : Addr) (H : Hp) (D : Addr) (ws : List Wt) (pls : List Int) (i : Nat) : Prop where
  ob : ∃ vs : List V, H D = some (.lst vs) ∧ vs.length = i ∧ ∀ (j : Nat) (v : V) (o : Wt) (q : Int), vs[j]? = some v → ws[j]? = some o → pls[j]? = some q → GV C H v o q
theorem GV.keep {C : Addr} {H H' : Hp} {v : V} {o : Wt} {pl : Int} (e : ∀ q dx fs, H q = some (.ins C dx fs) → H' q = some (.ins C dx fs)) (h : GV C H v o pl) : GV C H' v o pl := by
  cases o with
  | none => exact h
  | some q =>
    obtain ⟨n, d⟩ := q
    unfold GV at h ⊢
    dsimp only at h ⊢
    split at h
    · rename_i c
      rw [if_pos c]
      exact h
    · rename_i c
      rw [if_neg c]
      obtain ⟨p, h1, dx, h2⟩ := h
      exact ⟨p, h1, dx, e _ _ _ h2⟩
theorem HL.push {C : Addr} {H : Hp} {D : Addr} {ws : List Wt} {pls : List Int} {i : Nat} {u : V} {o : Wt} {q : Int} {vs : List V} (h : H D = some (.lst vs)) (vl : vs.length = i) (g : ∀ (j : Nat) (v : V) (o : Wt) (q : Int), vs[j]? = some v → ws[j]? = some o → pls[j]? = some q → GV C H v o q)
    (hw : ws[i]? = some o) (hp : pls[i]? = some q) (gu : GV C H u o q) : HL C (upd H D (.lst (vs ++ [u]))) D ws pls (i + 1) := by
  have kp : ∀ q dx fs, H q = some (.ins C dx fs) → upd H D (.lst (vs ++ [u])) q = some (.ins C dx fs) := fun q dx fs e => (upd_ne fun z => by rw [z, h] at e; cases e).trans e
  refine ⟨vs ++ [u], upd_same, by rw [List.length_append, vl]; rfl, fun j v o' q' h1 h2 h3 => ?_⟩
  by_cases hj : j < vs.length
  · rw [List.getElem?_append_left hj] at h1
    exact (g j v o' q' h1 h2 h3).keep kp
  · rw [List.getElem?_append_right (by omega)] at h1
    have j0 : j - vs.length = 0 := by
      have := (List.getElem?_eq_some_iff.mp h1).1
      rw [List.length_singleton] at this
      omega
    rw [j0] at h1
    cases Option.some.inj h1
    have e : j = i := by omega
    subst e
    rw [hw] at h2
    rw [hp] at h3
    cases Option.some.inj h2
    cases Option.some.inj h3
    exact gu.keep kp
theorem sh_small {n : Nat} {S : List Bool} : shQ (qRes n S (allS n).length) ≤ 6 ∨ ¬ n ≤ 6 := by
  by_cases n6 : n ≤ 6
  · refine .inl ?_
    have ok := q_ok (n := n) (S := S) _ (Nat.le_refl _)
    have z : (fr (qRes n S (allS n).length)).2 ≤ 6 ∧ 0 < (fr (qRes n S (allS n).length)).2 := by
      cases eo : qRes n S (allS n).length with
      | none => exact ⟨by decide, by decide⟩
      | some q =>
        obtain ⟨k1, k2, k3, k4⟩ := ok q eo
        show ((q.2.2.length : Nat) : Int) ≤ 6 ∧ 0 < ((q.2.2.length : Nat) : Int)
        have p0 : 0 < q.2.2.length := List.length_pos_iff.mpr k4
        have : q.2.2.length ≤ 6 := by
          rw [k3]
          unfold lgL
          rcases List.eq_nil_or_concat (inL n S q.1) with e | ⟨l, v, e⟩
          · rw [e]; exact Nat.zero_le _
          · have m : v ∈ inL n S q.1 := by rw [e, List.concat_eq_append]; exact List.mem_append_right _ List.mem_cons_self
            rw [e, List.concat_eq_append, List.getLastD_eq_getLast?, List.getLast?_append]
            exact Nat.le_trans (allS_at (famL_mem.mp (List.mem_filter.mp m).1).1 n6).2.2.2.1 n6
        omega
    have y := LD_le (n := (fr (qRes n S (allS n).length)).1) (d := (fr (qRes n S (allS n).length)).2) (by omega)
    unfold shQ
    omega
  · exact .inr n6
theorem nn {p : Prop} {i : Decidable p} (h : p) : ¬ (!@decide p i) = true := by
  rw [decide_eq_true h]
  decide
section
variable {P : Program} {w : World} {K : PySem.W.Frag} {mg : Str → Option Value} {base : Heap} {a : Ad}
/-! ### _law_at_least -/
def spAtl (CF C : Addr) : Sp := fun vs H Q _ => ∃ (b g p e sh : Addr) (n : Nat) (S : List Bool) (ws : List Wt), vs = [.ref g, .ref p, .ref e, .ref sh] ∧ FamV CF H g n S ∧ LFam b H p n S ∧ PsV H e ws ∧ ws.length = n ∧ FrV C H sh (shP (qRes n S (allS n).length)) (shQ (qRes n S (allS n).length)) ∧ ∀ H', Same H H' → Q (.bl true) H'
theorem sc_law_at_least : FnScope ["program", "family", "weights", "share", "scaled", "handed", "least", "most", "pair"] ["program", "family", "weights", "share"] (defScope s_law_at_least) := ⟨rfl, rfl, rfl, by decide +kernel, rfl, by decide +kernel, by decide +kernel⟩
theorem ok_law_at_least (T : Txt K mg a) : FnOk P w K mg base CX0 8 a.a_law_at_least a.d_law_at_least ["program", "family", "weights", "share"] (spAtl a.C_Family a.C_Frac) := by
  refine T.fn_law_at_least.ok sc_law_at_least (fun vs H Q E h => ?_) (fun cdv A outer s H vs Q E hr h => ?_)
  · obtain ⟨b, g, p, e, sh, n, S, ws, rfl, _⟩ := h
    rfl
  · obtain ⟨b, g, p, e, sh, n, S, ws, rfl, G, F, W, wl, fs, k⟩ := h
    refine ⟨_, (pss_cons (ps_set (i := 4) sc_law_at_least.nd rfl (Or.inl rfl) (pe_call (ok_law_scaled T) (hr.mono (by decide)) (by rfl) T.mg_law_scaled T.fn_law_scaled.kp T.b_law_scaled .nil pass0 (pa_cons (pv 2) pa_nil)))
      (pss_cons (ps_setLc (i := 5) (own := [("pair", 8)]) (by rfl) sc_law_at_least.nd rfl rfl (sw_true rfl rfl rfl (by decide +kernel)) (pi_list (pv 2)) (blkOk_by (own := [("pair", 8)]) (N := ["program", "family", "weights", "share", "scaled", "handed", "least", "most", "pair"]) (sc := defScope s_law_at_least) (by decide +kernel)) (fun _ _ _ _ _ => pg_name (i := 8) sc_law_at_least.nd rfl (Or.inl rfl)) (fun _ _ _ _ _ => pts_nil) (fun _ _ _ _ _ => (pe_call (ok_law_given T) (hr.mono (by decide)) (by rfl) T.mg_law_given T.fn_law_given.kp T.b_law_given .nil pass0 (pa_cons (pv 8) (pa_cons pe_int pa_nil)))))
      (pss_cons (ps_set (i := 6) sc_law_at_least.nd rfl (Or.inl rfl) (pe_call (ok_law_weighs T) (hr.mono (by decide)) (by rfl) T.mg_law_weighs T.fn_law_weighs.kp T.b_law_weighs .nil pass0 (pa_cons (pe_call (ok_greedy_set T) (hr.mono (by decide)) (by rfl) T.mg_greedy_set T.fn_greedy_set.kp T.b_greedy_set .nil pass0 (pa_cons (pv 0) (pa_cons (pv 5) pa_nil))) (pa_cons (pv 1) (pa_cons (pv 4) pa_nil)))))
      (pss_cons (ps_set (i := 7) sc_law_at_least.nd rfl (Or.inl rfl) (pe_call (ok_law_weighs T) (hr.mono (by decide)) (by rfl) T.mg_law_weighs T.fn_law_weighs.kp T.b_law_weighs .nil pass0 (pa_cons (pe_call (ok_heaviest_set T) (hr.mono (by decide)) (by rfl) T.mg_heaviest_set T.fn_heaviest_set.kp T.b_heaviest_set .nil pass0 (pa_cons (pv 0) (pa_cons (pv 5) pa_nil))) (pa_cons (pv 1) (pa_cons (pv 4) pa_nil)))))
      (pss_cons (ps_if (PW.pt (pw_or (pt_cmpR op_isN (pv 6) pe_non (nomark _)) (pw_or (pt_cmpR op_isN (pv 7) pe_non (nomark _)) (pw_or1 (pt_cmpR op_ne (pv 7) (pe_call (ok_law_heaviest T) (hr.mono (by decide)) (by rfl) T.mg_law_heaviest T.fn_law_heaviest.kp T.b_law_heaviest .nil pass0 (pa_cons (pv 1) (pa_cons pe_int (pa_cons (pv 4) pa_nil)))) (nomark _)))))) (pss_one (ps_ret pe_bl)) pss_nil)
      (pss_cons (ps_if (pt_cmpR op_lt (pe_op op_mul (pe_call (ok_law_sum T) (hr.mono (by decide)) (by rfl) T.mg_law_sum T.fn_law_sum.kp T.b_law_sum .nil pass0 (pa_cons (pv 4) (pa_cons (pe_call (ok_law_greedy T) (hr.mono (by decide)) (by rfl) T.mg_law_greedy T.fn_law_greedy.kp T.b_law_greedy .nil pass0 (pa_cons (pv 1) (pa_cons pe_int (pa_cons (pv 4) pa_nil)))) pa_nil))) (pe_fldK K (pv 3))) (pe_op op_mul (pv 7) (pe_fldK K (pv 3))) (nomark _)) (pss_one (ps_ret pe_bl)) pss_nil)
      (pss_one (ps_ret (pe_and (pe_cmpR op_ge (pe_op op_mul (pv 6) (pe_fldK K (pv 3))) (pe_op op_mul (pv 7) (pe_fldK K (pv 3))) (nomark _)) (pe_one (pe_cmpR op_le (pv 6) (pv 7) (nomark _)))))))))))), ?_⟩
    show (_ : TS) _ [some (V.ref g), some (V.ref p), some (V.ref e), some (V.ref sh), none, none, none, none, none] H
    have n6 := F.fam.n6
    have so := ec_ok W.ok (by omega : ws.length ≤ 6)
    refine cut (fun σ H' => ∃ r, σ = [some (V.ref g), some (V.ref p), some (V.ref e), some (V.ref sh), some (V.ref r), none, none, none, none] ∧ Same H H' ∧ H' r = some (.lst (ws.map (scV (Ecan ws)) ++ [.int (Ecan ws)]))) (fun R hR => ?_) (fun σ H1 h => ?_)
    · walk_at "rd"
      exact ⟨e, ws, rfl, W, by omega, fun r H13 e13 hr13 => hR _ _ ⟨r, rfl, e13, hr13⟩⟩
    obtain ⟨r, rfl, e1, hr1⟩ := h
    have G := G.same e1
    have F := F.but (Same.but e1)
    have W := W.same e1
    have fs := fs.same e1
    refine cut (fun σ H' => ∃ ha, σ = [some (V.ref g), some (V.ref p), some (V.ref e), some (V.ref sh), some (V.ref r), some (V.ref ha), none, none, none] ∧ Same H1 H' ∧ WsV a.C_Frac H' true ha ws) (fun R hR => ?_) (fun σ H2 h => ?_)
    · walk_at "rd"
      obtain ⟨vs2, hv2, vl2, pw2⟩ := W.ob
      refine ⟨⟨_, SqL.of hv2⟩, ?_⟩
      refine Rd.lcl_list (xs := vs2) (fun D2 i H12 => H1 D2 = none ∧ Same H1 H12 ∧ HL a.C_Frac H12 D2 ws (List.replicate n 1) i) (fun D2 hD2 => ⟨hD2, same_upd hD2, [], upd_same, rfl, fun j v o q h => by cases h⟩) (fun D2 i H12 _ z => SqL.of (z.2.1 _ _ hv2)) (fun D2 i x H12 hx ⟨n5, e5, ts, a5, tl, gt⟩ => ?_) (fun D2 H17 _ ⟨n5, e17, ts, a12, tl, gt⟩ => ?_)
      · have il := (List.getElem?_eq_some_iff.mp hx).1
        have e2 : ws[i]? = some (ws[i]'(by omega)) := List.getElem?_eq_getElem (by omega)
        have p1 := pw2 i _ _ hx e2
        have wo := W.ok _ (List.mem_of_getElem? e2)
        walk_at "rd"
        refine ⟨_, _, _, rfl, p1.keep fun _ _ h => e5 _ _ h, wo, fun u H6 e6 gu6 => ?_⟩
        exact ⟨ts, e6 _ _ a5, small (by omega), n5, fun b o hb => (upd_ne (ne_of_none hb n5)).trans (e6 _ _ (e5 _ _ hb)), HL.push (e6 _ _ a5) tl (fun j v o q h1 h2 h3 => (gt j v o q h1 h2 h3).same e6) e2 (by rw [List.getElem?_replicate, if_pos (by omega)]) gu6⟩
      · have HV2 : HV a.C_Frac H17 true D2 ws (List.replicate n 1) := ⟨W.ok, ts, a12, by omega, by rw [List.length_replicate, wl], gt⟩
        exact hR _ _ ⟨D2, rfl, e17, HV2.ws⟩
    obtain ⟨ha, rfl, e2, HW⟩ := h
    have G := G.same e2
    have F := F.but (Same.but e2)
    have fs := fs.same e2
    have hr1 := e2 _ _ hr1
    obtain ⟨Gd, _⟩ := gr_good so F.fam
    obtain ⟨v1, v2, v3, v4⟩ := hv_at (E := Ecan ws) (ws := ws) F.fam _ (Nat.le_refl _)
    rw [List.take_length] at v4
    have hb := heavy_eq so F.fam
    obtain ⟨P0, Q0, rate⟩ := sh_rate F.fam
    obtain ⟨P1, PQ⟩ := sh_range F.fam
    have Q6 : shQ (qRes n S (allS n).length) ≤ 6 := (sh_small (n := n) (S := S)).resolve_right fun z => z n6
    have main := greedy_ge so F.fam v1 v2 P0 (Int.le_of_lt Q0) rate
    have less := v4 _ Gd.fam Gd.pos
    have some' : ∀ {s : List Nat}, posL ws s = true → ∀ g ∈ s, wt ws g ≠ none := fun h g hg => by
      obtain ⟨_, _, e⟩ := pos_some (List.all_eq_true.mp h g hg)
      rw [e]
      exact fun z => by cases z
    walk_at "rd"
    generalize hG : grN n S ws 7 [] = gs at Gd main less
    generalize hV : hvN (Ecan ws) n S ws (famL n S).length = vs at v1 v2 v3 v4 main less hb
    refine ⟨g, ha, true, n, S, ws, rfl, G, HW, wl, fun r1 H3 e3 h1 => ?_⟩
    rw [hG] at h1
    refine ⟨b, r1, p, r, n, S, ws, Ecan ws, gs, _, rfl, F.but (Same.but e3), h1, Gd.fam, wl, some' Gd.pos, e3 _ _ hr1, fun H4 e4 => ?_⟩
    have e34 := e3.trans e4
    refine ⟨g, ha, true, n, S, ws, Ecan ws, rfl, G.same e34, HW.same e34, wl, so, fun r2 H5 e5 h2 => ?_⟩
    rw [hV] at h2
    have e35 := e34.trans e5
    refine ⟨b, r2, p, r, n, S, ws, Ecan ws, vs, _, rfl, F.but (Same.but e35), h2, v1, wl, some' v2, e35 _ _ hr1, fun H6 e6 => ?_⟩
    have e36 := e35.trans e6
    dsimp only
    rw [if_neg (fun z => by cases z), if_neg (fun z => by cases z)]
    refine ⟨b, p, r, n, S, ws, Ecan ws, _, rfl, F.but (Same.but e36), so, e36 _ _ hr1, wl, fun H7 e7 => ⟨rfl, ?_⟩⟩
    have e37 := e36.trans e7
    rw [if_neg (nn (congrArg V.int hb.symm))]
    refine ⟨b, p, r, n, S, ws, Ecan ws, _, rfl, F.but (Same.but e37), so, e37 _ _ hr1, wl, ?_⟩
    rw [hG]
    refine ⟨r, n, ws, Ecan ws, gs, _, rfl, n6, (famL_mem.mp Gd.fam).1, wl, some' Gd.pos, e37 _ _ hr1, fun H8 e8 => ?_⟩
    have e38 := e37.trans e8
    obtain ⟨dx, hsh⟩ := fs.same e38
    have sP : CMul (ssum (Ecan ws) ws vs) (shP (qRes n S (allS n).length)) := .inr ⟨by omega, by omega⟩
    have sQ : CMul (ssum (Ecan ws) ws gs) (shQ (qRes n S (allS n).length)) := .inr ⟨by omega, by omega⟩
    rw [Int.mul_comm] at main
    refine ⟨_, dx, _, hsh, T.cl_Frac, T.na_Frac_den, _, fq_den _ _, _, rfl, _, rfl, sQ, _, dx, _, hsh, T.cl_Frac, T.na_Frac_num, _, fq_num _ _, _, rfl, _, rfl, sP, ?_⟩
    rw [if_neg (by omega)]
    refine ⟨_, dx, _, hsh, T.cl_Frac, T.na_Frac_den, _, fq_den _ _, _, rfl, _, rfl, sQ, _, dx, _, hsh, T.cl_Frac, T.na_Frac_num, _, fq_num _ _, _, rfl, _, rfl, sP, ?_⟩
    rw [if_pos main]
    exact ⟨_, rfl, _, rfl, by rw [decide_eq_true less]; exact k H8 ((e1.trans e2).trans e38)⟩
end

end K37
namespace K37
open PySem PySem.Spec PyProof.Rows L2 Own OwnSeq OwnSet OwnComb OwnSort OwnHot OwnExN OwnProj
local macro_rules | `(tactic| walk_at "rd") => `(tactic| simp only [tSeq, tAsg, tOp, tUn, tVar, gName, gSub, rIxL, rIxT, rSetL, tC, rI0, rI, rU, rEq, rNe, tCons, tNil, tCB, tLst, tTup, tIfS, tAnd, tOr, tNot, tAndV, tOrV, tNotV, tTest, tB, tIf, tRet, tDrop, tNext, tBreak, tCont, tCall, tCallS, L2.WE, tMakeS, rIsS, rIsB, tChain, gSeq, gRest, gCons, gNil, tFor_seq, tFor_enumS, tLc_seq, tLc_enumS, rAny, rAll, L2.tMeth, StX.tStar, rIn, tLstRg, tRg1, tRg2, rSetI, rSortedSet, rInDT, rInD, rNotInD, rEqD, rNeD, iComb, tFld, tMake, tMkO, sFld, tOst, tNever, tBits, clv, isB,
  Rd.tFor_rng1, Rd.tFor_rng2, Rd.tFor_list, Rd.tFor_tup, Rd.tLc_list, Rd.tLc_tup, Rd.tLc_rng1, Rd.LcTurn, tYes, wipe, Rd.rLenL, Rd.rLenT, Rd.rIntI, Rd.rIxH, rIxHT,  HO.tup.injEq, Rd.at0, Rd.at1, Rd.at2, Rd.at3, Rd.ixN40, Rd.ixN41, Rd.ixN42, Rd.ixN43, Rd.scal_ii, cxOf,
  List.length_cons, List.length_nil, List.length_map, List.map_cons, List.map_nil, upd_same, decide_eq_true_eq, decide_true, decide_false, if_true, if_false, Bool.false_eq_true, Bool.not_true, Bool.not_false, HO.lst.injEq, HO.ins.injEq, List.set_cons_zero, List.set_cons_succ, List.getElem?_cons_zero, List.getElem?_cons_succ, List.append_nil, List.nil_append, List.cons_append, Option.some.injEq, V.ref.injEq, V.int.injEq, V.bl.injEq, List.cons.injEq, exists_eq_left', exists_and_left, exists_eq_left, true_and, and_true, and_self, and_assoc, implies_true, reduceCtorEq, Nat.reduceAdd])

theorem bit_val (m k : Nat) : Builtin.bitAnd ((m : Int) / 2 ^ (k : Int).toNat) 1 = if bit m k = true then 1 else 0 := by
  have e : (1 : Int) = ((1 : Nat) : Int) := rfl
  rw [shr_mod, e, and_nat, Nat.and_one_is_mod]
  unfold bit
  by_cases h : m / 2 ^ k % 2 = 1
  · rw [if_pos (decide_eq_true h), h]
  · rw [if_neg (by rw [decide_eq_false h]; decide), show m / 2 ^ k % 2 = 0 by omega]
    rfl
theorem ifc {T : List Nat} {i : Nat} : (if T.contains i = true then (1 : Int) else 0) = if i ∈ T then 1 else 0 := by
  by_cases z : i ∈ T
  · rw [if_pos z, if_pos (List.contains_iff_mem.mpr z)]
  · rw [if_neg z, if_neg (fun y => z (List.contains_iff_mem.mp y))]
section
variable {P : Program} {w : World} {K : PySem.W.Frag} {mg : Str → Option Value} {base : Heap} {a : Ad}
/-! ### _law_tight -/
def spTig (CF C : Addr) : Sp := fun vs H Q _ => ∃ (b g p r : Addr) (n m : Nat) (S : List Bool), vs = [.ref g, .ref p, .ref r, .int m] ∧ FamV CF H g n S ∧ LFam b H p n S ∧ QAt C H r (qRes n S (allS n).length) ∧ 1 ≤ m ∧ m ≤ 10000 ∧ ∀ H', Same H H' → Q (.bl true) H'
theorem sc_law_tight : FnScope ["program", "family", "found", "many", "small", "things", "weights", "least", "k"] ["program", "family", "found", "many"] (defScope s_law_tight) := ⟨rfl, rfl, rfl, by decide +kernel, rfl, by decide +kernel, by decide +kernel⟩
theorem ok_law_tight (T : Txt K mg a) : FnOk P w K mg base CX0 8 a.a_law_tight a.d_law_tight ["program", "family", "found", "many"] (spTig a.C_Family a.C_Frac) := by
  refine T.fn_law_tight.ok sc_law_tight (fun vs H Q E h => ?_) (fun cdv A outer s H vs Q E hr h => ?_)
  · obtain ⟨b, g, p, r, n, m, S, rfl, _⟩ := h
    rfl
  · obtain ⟨b, g, p, r, n, m, S, rfl, G, F, qa, m1, m2, k⟩ := h
    refine ⟨_, (pss_cons (ps_set (i := 4) sc_law_tight.nd rfl (Or.inr rfl) (pe_call (ok_law_mask T) (hr.mono (by decide)) (by rfl) T.mg_law_mask T.fn_law_mask.kp T.b_law_mask .nil pass0 (pa_cons (pe_ix ixHT (pv 2) pe_int (fun _ _ => rfl)) (pa_cons (pe_ix Rd.ixH (pv 1) pe_int (fun _ _ => rfl)) pa_nil))))
      (pss_cons (ps_set (i := 5) sc_law_tight.nd rfl (Or.inr rfl) (pe_call (ok_law_mask T) (hr.mono (by decide)) (by rfl) T.mg_law_mask T.fn_law_mask.kp T.b_law_mask .nil pass0 (pa_cons (pe_ix ixHT (pv 2) pe_int (fun _ _ => rfl)) (pa_cons (pe_ix Rd.ixH (pv 1) pe_int (fun _ _ => rfl)) pa_nil))))
      (pss_cons (ps_if (PW.pt (pw_or (pt_cmpR op_lt (pv 4) pe_int (nomark _)) (pw_or (pt_cmpR op_lt (pv 5) pe_int (nomark _)) (pw_or1 (pt_cmpR op_ne (pe_op op_and (pv 4) (pv 5)) (pv 4) (nomark _)))))) (pss_one (ps_ret pe_bl)) pss_nil)
      (pss_cons (ps_setLc (i := 6) (own := [("k", 8)]) (by rfl) sc_law_tight.nd rfl rfl (sw_true rfl rfl rfl (by decide +kernel)) (pi_range1 (by rfl) T.no_range (pa_cons (pe_ix Rd.ixH (pv 1) pe_int (fun _ _ => rfl)) pa_nil)) (blkOk_by (own := [("k", 8)]) (N := ["program", "family", "found", "many", "small", "things", "weights", "least", "k"]) (sc := defScope s_law_tight) (by decide +kernel)) (fun _ _ _ _ _ => pg_name (i := 8) sc_law_tight.nd rfl (Or.inl rfl)) (fun _ _ _ _ _ => pts_nil) (fun _ _ _ _ _ => (pe_op op_add (pe_op op_mul (pv 3) (pe_op op_and (pe_op op_shr (pv 5) (pv 8)) pe_int)) (pe_op op_and (pe_op op_shr (pv 4) (pv 8)) pe_int))))
      (pss_cons (ps_set (i := 7) sc_law_tight.nd rfl (Or.inl rfl) (pe_call (ok_law_weighs T) (hr.mono (by decide)) (by rfl) T.mg_law_weighs T.fn_law_weighs.kp T.b_law_weighs .nil pass0 (pa_cons (pe_call (ok_greedy_set T) (hr.mono (by decide)) (by rfl) T.mg_greedy_set T.fn_greedy_set.kp T.b_greedy_set .nil pass0 (pa_cons (pv 0) (pa_cons (pv 6) pa_nil))) (pa_cons (pv 1) (pa_cons (pv 6) pa_nil)))))
      (pss_cons (ps_if (PW.pt (pw_or (pt_cmpR op_isN (pv 7) pe_non (nomark _)) (pw_or1 (pt_cmpR op_ne (pe_call (ok_law_sum T) (hr.mono (by decide)) (by rfl) T.mg_law_sum T.fn_law_sum.kp T.b_law_sum .nil pass0 (pa_cons (pv 6) (pa_cons (pe_call (ok_law_greedy T) (hr.mono (by decide)) (by rfl) T.mg_law_greedy T.fn_law_greedy.kp T.b_law_greedy .nil pass0 (pa_cons (pv 1) (pa_cons pe_int (pa_cons (pv 6) pa_nil)))) pa_nil))) (pv 7) (nomark _))))) (pss_one (ps_ret pe_bl)) pss_nil)
      (pss_one (ps_ret (pe_cmpR op_le (pe_op op_mul (pe_op op_mul (pv 7) (pv 3)) (pe_fldK K (pe_ix ixHT (pv 2) pe_int (fun _ _ => rfl)))) (pe_op op_mul (pe_op op_mul (pe_op op_add (pv 3) pe_int) (pe_fldK K (pe_ix ixHT (pv 2) pe_int (fun _ _ => rfl)))) (pe_call (ok_law_heaviest T) (hr.mono (by decide)) (by rfl) T.mg_law_heaviest T.fn_law_heaviest.kp T.b_law_heaviest .nil pass0 (pa_cons (pv 1) (pa_cons pe_int (pa_cons (pv 6) pa_nil))))) (nomark _)))))))))), ?_⟩
    show (_ : TS) _ [some (V.ref g), some (V.ref p), some (V.ref r), some (V.int m), none, none, none, none, none] H
    have n6 := F.fam.n6
    obtain ⟨t1, t2⟩ := tight_le F.fam m1 (by omega) _ rfl
    have ok := q_ok (n := n) (S := S) _ (Nat.le_refl _)
    have lists : (q3 (qRes n S (allS n).length)).1 ∈ allS n ∧ (q3 (qRes n S (allS n).length)).2.1 ∈ famL n S ∧ ∀ g ∈ (q3 (qRes n S (allS n).length)).2.1, g ∈ (q3 (qRes n S (allS n).length)).1 := by
      cases eo : qRes n S (allS n).length with
      | none => exact ⟨nil_in n6, famL_mem.mpr ⟨nil_in n6, F.fam.zero⟩, fun g h => by cases h⟩
      | some q =>
        obtain ⟨k1, k2, k3, k4⟩ := ok q eo
        obtain ⟨s1, s2, s3⟩ := sm_in F.fam k1
        rw [← k2] at s1 s2
        exact ⟨k1, s1, s2⟩
    obtain ⟨P1, PQ⟩ := sh_range F.fam
    have Q6 : shQ (qRes n S (allS n).length) ≤ 6 := (sh_small (n := n) (S := S)).resolve_right fun z => z n6
    obtain ⟨fa, x, y, z, h1, fv, h3, h4, h5⟩ := qa
    have fv : FrV a.C_Frac H fa (shP (qRes n S (allS n).length)) (shQ (qRes n S (allS n).length)) := fv
    generalize shP (qRes n S (allS n).length) = sP at t2 P1 PQ fv
    generalize shQ (qRes n S (allS n).length) = sQ at t2 PQ Q6 fv
    generalize (q3 (qRes n S (allS n).length)).1 = Tt at t1 t2 lists h3
    generalize (q3 (qRes n S (allS n).length)).2.1 = sm at t1 t2 lists h4
    obtain ⟨TA, sF, sT⟩ := lists
    have sA := (famL_mem.mp sF).1
    have so := tw_ok (n := n) (T := Tt) (s := sm) (m := m) (by omega)
    have wl := tw_len n m Tt sm
    have wsome : ∀ g ∈ sm, wt (tws n m Tt sm) g ≠ none := fun g hg => by
      rw [tw_at ((allS_at sA n6).2.2.1 g hg)]
      exact fun z => by cases z
    obtain ⟨q, o, nq, no, hp, hq, ho⟩ := F.ob
    refine cut (fun σ H' => σ = [some (V.ref g), some (V.ref p), some (V.ref r), some (V.int m), some (V.int (mk sm : Nat)), none, none, none, none] ∧ Same H H') (fun R hR => ?_) (fun σ H1 h => ?_)
    · walk_at "rd"
      exact ⟨_, h1, _, Rd.at2, _, hp, _, Rd.at0, y, n, sm, rfl, h4, n6, sA, fun H1 e1 => hR _ _ ⟨rfl, e1⟩⟩
    obtain ⟨rfl, e1⟩ := h
    refine cut (fun σ H' => σ = [some (V.ref g), some (V.ref p), some (V.ref r), some (V.int m), some (V.int (mk sm : Nat)), some (V.int (mk Tt : Nat)), none, none, none] ∧ Same H H') (fun R hR => ?_) (fun σ H2 h => ?_)
    · walk_at "rd"
      exact ⟨_, e1 _ _ h1, _, Rd.at1, _, e1 _ _ hp, _, Rd.at0, x, n, Tt, rfl, e1 _ _ h3, n6, TA, fun H2 e2 => hR _ _ ⟨rfl, e1.trans e2⟩⟩
    obtain ⟨rfl, e2⟩ := h
    refine cut (fun σ H' => σ = [some (V.ref g), some (V.ref p), some (V.ref r), some (V.int m), some (V.int (mk sm : Nat)), some (V.int (mk Tt : Nat)), none, none, none] ∧ H' = H2) (fun R hR => ?_) (fun σ H3 h => ?_)
    · walk_at "rd"
      rw [if_neg (by omega), if_neg (by omega), if_neg (nn (sub_iff.mpr (sub_of n6 sA TA sT)))]
      exact hR _ _ ⟨rfl, rfl⟩
    obtain ⟨rfl, rfl⟩ := h
    refine cut (fun σ H' => ∃ wa, σ = [some (V.ref g), some (V.ref p), some (V.ref r), some (V.int m), some (V.int (mk sm : Nat)), some (V.int (mk Tt : Nat)), some (V.ref wa), none, none] ∧ Same H H' ∧ H' wa = some (.lst ((tws n m Tt sm).map (scV 1) ++ []))) (fun R hR => ?_) (fun σ H4 h => ?_)
    · walk_at "rd"
      refine ⟨_, e2 _ _ hp, _, Rd.at0, n, rfl, by omega, by omega, ?_⟩
      rw [Int.toNat_natCast]
      refine Rd.lcl_rng (fun D i H5 => H3 D = none ∧ Same H3 H5 ∧ H5 D = some (.lst (((List.range i).map (tw m Tt sm)).map V.int))) (fun D hD => ⟨hD, same_upd hD, upd_same⟩) (fun D i H5 hi ⟨n5, e5, a5⟩ => ?_) (fun D H5 _ ⟨n5, e5, a5⟩ => ?_)
      · walk_at "rd"
        rw [show (0 : Int) + (i : Nat) = (i : Nat) from Int.zero_add _]
        rw [bit_val, bit_val, (bits_or2 n6 TA hi).1, (bits_or2 n6 sA hi).1, ifc, ifc]
        have ci : ∀ z : Nat → Prop, True := fun _ => trivial
        refine ⟨by omega, .inl ⟨by omega, by omega⟩, by omega, _, a5, small (by rw [List.length_map, List.length_map, List.length_range]; omega), n5, fun b o hb => (upd_ne (ne_of_none hb n5)).trans (e5 _ _ hb), ?_⟩
        rw [List.range_succ, List.map_append, List.map_append]
        rfl
      · refine hR _ _ ⟨D, rfl, e2.trans e5, ?_⟩
        rw [a5, List.append_nil]
        unfold tws
        rw [List.map_map, List.map_map]
        congr 2
        refine List.map_congr_left fun k _ => ?_
        show V.int (tw m Tt sm k) = V.int (tw m Tt sm k * (1 : Int).fdiv 1)
        rw [show (1 : Int).fdiv 1 = 1 from by decide, Int.mul_one]
    obtain ⟨wa, rfl, e4, hwa⟩ := h
    have WW : WsV a.C_Frac H4 true wa (tws n m Tt sm) := by
      refine ⟨so.ok, _, hwa, by rw [List.append_nil, List.length_map], fun i v o h1 h2 => ?_⟩
      rw [List.append_nil, List.getElem?_map, h2] at h1
      cases Option.some.inj h1
      obtain ⟨k, _, rfl⟩ := List.mem_map.mp (List.mem_of_getElem? h2)
      refine .inl ⟨?_, rfl⟩
      show V.int (tw m Tt sm k * (1 : Int).fdiv 1) = V.int (tw m Tt sm k)
      rw [show (1 : Int).fdiv 1 = 1 from by decide, Int.mul_one]
    walk_at "rd"
    refine ⟨g, wa, true, n, S, _, rfl, G.same e4, WW, wl, fun r1 H5 e5 hr1 => ?_⟩
    rw [t1] at hr1
    have e45 := e4.trans e5
    refine ⟨b, r1, p, wa, n, S, _, 1, sm, _, rfl, F.but (Same.but e45), hr1, sF, wl, wsome, e5 _ _ hwa, fun H6 e6 => ?_⟩
    have e46 := e45.trans e6
    dsimp only
    rw [if_neg (fun z => by cases z)]
    refine ⟨b, p, wa, n, S, _, 1, _, rfl, F.but (Same.but e46), so, e6 _ _ (e5 _ _ hwa), wl, ?_⟩
    rw [t1]
    refine ⟨wa, n, _, 1, sm, _, rfl, n6, sA, wl, wsome, e6 _ _ (e5 _ _ hwa), fun H7 e7 => ?_⟩
    have e47 := e46.trans e7
    dsimp only
    refine ⟨rfl, ?_⟩
    rw [if_neg (nn rfl)]
    obtain ⟨dx, hfa⟩ := fv.same e47
    have mP : ((m : Int) + 1) * sP ≤ ((m : Int) + 1) * 6 := Int.mul_le_mul_of_nonneg_left (by omega) (by omega)
    have mP0 : 0 ≤ ((m : Int) + 1) * sP := Int.mul_nonneg (by omega) (by omega)
    refine ⟨_, rfl, .inr ⟨by omega, by omega⟩, _, e47 _ _ h1, _, Rd.at0, fa, rfl, _, dx, _, hfa, T.cl_Frac, T.na_Frac_den, _, fq_den _ _, _, rfl, .inr ⟨by omega, by omega⟩, _, e47 _ _ h1, _, Rd.at0, fa, rfl, _, dx, _, hfa, T.cl_Frac, T.na_Frac_num, _, fq_num _ _, _, rfl, .inr ⟨by omega, by omega⟩, b, p, wa, n, S, _, 1, _, rfl, F.but (Same.but e47), so, e7 _ _ (e6 _ _ (e5 _ _ hwa)), wl, fun H8 e8 => ⟨_, rfl, .inl ⟨by omega, by omega⟩, ?_⟩⟩
    rw [decide_eq_true t2]
    exact k H8 (e47.trans e8)
end

end K37
namespace K37
open PySem PySem.Spec PyProof.Rows L2 Own OwnSeq OwnSet OwnComb OwnSort OwnHot OwnExN OwnProj
local macro_rules | `(tactic| walk_at "rd") => `(tactic| simp only [tSeq, tAsg, tOp, tUn, tVar, gName, gSub, rIxL, rIxT, rSetL, tC, rI0, rI, rU, rEq, rNe, tCons, tNil, tCB, tLst, tTup, tIfS, tAnd, tOr, tNot, tAndV, tOrV, tNotV, tTest, tB, tIf, tRet, tDrop, tNext, tBreak, tCont, tCall, tCallS, L2.WE, tMakeS, rIsS, rIsB, tChain, gSeq, gRest, gCons, gNil, tFor_seq, tFor_enumS, tLc_seq, tLc_enumS, rAny, rAll, L2.tMeth, StX.tStar, rIn, tLstRg, tRg1, tRg2, rSetI, rSortedSet, rInDT, rInD, rNotInD, rEqD, rNeD, iComb, tFld, tMake, tMkO, sFld, tOst, tNever, tBits, clv, isB,
  Rd.tFor_rng1, Rd.tFor_rng2, Rd.tFor_list, Rd.tFor_tup, Rd.tLc_list, Rd.tLc_tup, Rd.tLc_rng1, Rd.LcTurn, tYes, wipe, Rd.rLenL, Rd.rLenT, Rd.rIntI, Rd.rIxH, rIxHT,  HO.tup.injEq, Rd.at0, Rd.at1, Rd.at2, Rd.at3, Rd.ixN40, Rd.ixN41, Rd.ixN42, Rd.ixN43, Rd.scal_ii, cxOf,
  List.length_cons, List.length_nil, List.length_map, List.map_cons, List.map_nil, upd_same, decide_eq_true_eq, decide_true, decide_false, if_true, if_false, Bool.false_eq_true, Bool.not_true, Bool.not_false, HO.lst.injEq, HO.ins.injEq, List.set_cons_zero, List.set_cons_succ, List.getElem?_cons_zero, List.getElem?_cons_succ, List.append_nil, List.nil_append, List.cons_append, Option.some.injEq, V.ref.injEq, V.int.injEq, V.bl.injEq, List.cons.injEq, exists_eq_left', exists_and_left, exists_eq_left, true_and, and_true, and_self, and_assoc, implies_true, reduceCtorEq, Nat.reduceAdd])

theorem FamV.but {C b c : Addr} {ns : List Int} {t : Nat} {H H' : Hp} {f : Addr} {n : Nat} {S : List Bool} (F : FamV C H f n S) (B : BoxAt H b c ns t) (e : But b H H') : FamV C H' f n S := by
  obtain ⟨dx, tp, ys, h1, h2, h3⟩ := F.ob
  obtain ⟨_, _, _, hb, _⟩ := B.ob
  refine ⟨F.fam, dx, tp, ys, e _ _ (fun z => by rw [z, hb] at h1; cases h1) h1, e.tup B _ _ h2, Tups.keep (e.tup B) h3⟩
theorem FrV.but {C b c : Addr} {ns : List Int} {t : Nat} {H H' : Hp} {p : Addr} {n d : Int} (F : FrV C H p n d) (B : BoxAt H b c ns t) (e : But b H H') : FrV C H' p n d := by
  obtain ⟨dx, h1⟩ := F
  obtain ⟨_, _, _, hb, _⟩ := B.ob
  exact ⟨dx, e _ _ (fun z => by rw [z, hb] at h1; cases h1) h1⟩
theorem QAt.but {C b c : Addr} {ns : List Int} {t : Nat} {H H' : Hp} {r : Addr} {o : Option Q3} (q : QAt C H r o) (B : BoxAt H b c ns t) (e : But b H H') : QAt C H' r o := by
  obtain ⟨p, x, y, z, h1, h2, h3, h4, h5⟩ := q
  exact ⟨p, x, y, z, e.tup B _ _ h1, h2.but B e, e.tup B _ _ h3, e.tup B _ _ h4, e.tup B _ _ h5⟩
section
variable {P : Program} {w : World} {K : PySem.W.Frag} {mg : Str → Option Value} {base : Heap} {a : Ad}
/-! ### _law_asked -/
def spAsk (K : PySem.W.Frag) : Sp := fun vs H Q _ => ∃ (s : Addr) (ns : List Int), vs = [.ref s] ∧ SqL K H s (ns.map V.int) ∧ ns.length ≤ 63 ∧ ∀ H', Q (.bl true) H'
theorem sc_law_asked : FnScope ["script", "feed", "size", "family", "program", "found", "share", "turn"] ["script"] (defScope s_law_asked) := ⟨rfl, rfl, rfl, by decide +kernel, rfl, by decide +kernel, by decide +kernel⟩
theorem ok_law_asked (T : Txt K mg a) : FnOk P w K mg base CX0 9 a.a_law_asked a.d_law_asked ["script"] (spAsk K) := by
  refine T.fn_law_asked.ok sc_law_asked (fun vs H Q E h => ?_) (fun cdv A outer s H vs Q E hr h => ?_)
  · obtain ⟨p, ns, rfl, _⟩ := h
    rfl
  · obtain ⟨p, ns, rfl, hs, hl, k⟩ := h
    refine ⟨_, (pss_cons (ps_set (i := 1) sc_law_asked.nd rfl (Or.inl rfl) (pe_lst (pa_cons (pe_callTy call_list_of (by rfl) T.no_list (by decide +kernel) (pa_cons (pv 0) pa_nil)) (pa_cons pe_int (pa_cons pe_int (pa_cons pe_int pa_nil))))))
      (pss_cons (ps_set (i := 2) sc_law_asked.nd rfl (Or.inl rfl) (pe_call (ok_law_size T) (hr.mono (by decide)) (by rfl) T.mg_law_size T.fn_law_size.kp T.b_law_size .nil pass0 (pa_cons (pv 1) (pa_cons pe_int pa_nil))))
      (pss_cons (ps_set (i := 3) sc_law_asked.nd rfl (Or.inl rfl) (pe_call (ok_law_family T) (hr.mono (by decide)) (by rfl) T.mg_law_family T.fn_law_family.kp T.b_law_family .nil pass0 (pa_cons (pv 1) (pa_cons (pv 2) pa_nil))))
      (pss_cons (ps_set (i := 4) sc_law_asked.nd rfl (Or.inl rfl) (pe_call (ok_law_told T) (hr.mono (by decide)) (by rfl) T.mg_law_told T.fn_law_told.kp T.b_law_told .nil pass0 (pa_cons (pv 3) (pa_cons (pe_call (ok_law_draw T) (hr.mono (by decide)) (by rfl) T.mg_law_draw T.fn_law_draw.kp T.b_law_draw .nil pass0 (pa_cons (pv 1) (pa_cons pe_int pa_nil))) pa_nil))))
      (pss_cons (ps_set (i := 5) sc_law_asked.nd rfl (Or.inl rfl) (pe_call (ok_quotient T) (hr.mono (by decide)) (by rfl) T.mg_quotient T.fn_quotient.kp T.b_quotient .nil pass0 (pa_cons (pv 4) pa_nil)))
      (pss_cons (ps_if (PW.pt (pw_or (pt_not (pt_val (pe_callB (call_isB .tup) (by rfl) T.no_isinstance (by decide +kernel) (pa_cons (pv 5) (pa_cons (pe_bltn (v := .ty "tuple") (u := .type "tuple") (by rfl) T.no_tuple (by decide +kernel) rfl) pa_nil))))) (pw_or (pt_cmpR op_ne (pe_callB (lenK K) (by rfl) T.no_len PySem.boot_len (pa_cons (pv 5) pa_nil)) pe_int (nomark _)) (pw_or1 (pt_not (pt_val (pe_callB (call_isFr T) (by rfl) T.no_isinstance (by decide +kernel) (pa_cons (pe_ix ixHT (pv 5) pe_int (fun _ _ => rfl)) (pa_cons (pe_glob (v := .ref a.C_Frac) rfl T.mg_Frac rfl) pa_nil))))))))) (pss_one (ps_ret pe_bl)) pss_nil)
      (pss_cons (ps_set (i := 6) sc_law_asked.nd rfl (Or.inl rfl) (pe_ix ixHT (pv 5) pe_int (fun _ _ => rfl)))
      (pss_cons (ps_if (PW.pt (pw_or (pt_not (pt_val (pe_call (ok_law_whole T) (hr.mono (by decide)) (by rfl) T.mg_law_whole T.fn_law_whole.kp T.b_law_whole .nil pass0 (pa_cons (pe_fldK K (pv 6)) pa_nil)))) (pw_or (pt_not (pt_val (pe_call (ok_law_whole T) (hr.mono (by decide)) (by rfl) T.mg_law_whole T.fn_law_whole.kp T.b_law_whole .nil pass0 (pa_cons (pe_fldK K (pv 6)) pa_nil)))) (pw_or (pt_cmpR op_lt (pe_fldK K (pv 6)) pe_int (nomark _)) (pw_or1 (pt_cmpR op_lt (pe_fldK K (pv 6)) (pe_fldK K (pv 6)) (nomark _))))))) (pss_one (ps_ret pe_bl)) pss_nil)
      (pss_cons (ps_if (pt_cmpR op_ne (pe_cmpR op_eq (pe_fldK K (pv 6)) (pe_fldK K (pv 6)) (nomark _)) (pe_cmpR op_isN (pe_call (ok_law_fault T) (hr.mono (by decide)) (by rfl) T.mg_law_fault T.fn_law_fault.kp T.b_law_fault .nil pass0 (pa_cons (pv 3) pa_nil)) pe_non (nomark _)) (nomark _)) (pss_one (ps_ret pe_bl)) pss_nil)
      (pss_cons (ps_for PassesOwn.never rfl (pi_range1 (by rfl) T.no_range (pa_cons pe_int pa_nil)) (pg_name (i := 7) sc_law_asked.nd rfl (Or.inl rfl))
        (pss_one (ps_if (pt_not (pt_val (pe_call (ok_law_at_least T) (hr.mono (by decide)) (by rfl) T.mg_law_at_least T.fn_law_at_least.kp T.b_law_at_least .nil pass0 (pa_cons (pv 4) (pa_cons (pv 3) (pa_cons (pe_call (ok_law_weights T) (hr.mono (by decide)) (by rfl) T.mg_law_weights T.fn_law_weights.kp T.b_law_weights .nil pass0 (pa_cons (pv 1) (pa_cons (pv 2) pa_nil))) (pa_cons (pv 6) pa_nil))))))) (pss_one (ps_ret pe_bl)) pss_nil)))
      (pss_one (ps_ret (pe_call (ok_law_tight T) (hr.mono (by decide)) (by rfl) T.mg_law_tight T.fn_law_tight.kp T.b_law_tight .nil pass0 (pa_cons (pv 4) (pa_cons (pv 3) (pa_cons (pv 5) (pa_cons (pe_op op_add pe_int (pe_call (ok_law_draw T) (hr.mono (by decide)) (by rfl) T.mg_law_draw T.fn_law_draw.kp T.b_law_draw .nil pass0 (pa_cons (pv 1) (pa_cons pe_int pa_nil)))) pa_nil))))))))))))))))), ?_⟩
    show (_ : TS) _ [some (V.ref p), none, none, none, none, none, none, none] H
    refine cut (fun σ H' => ∃ b c, σ = [some (V.ref p), some (V.ref b), none, none, none, none, none, none] ∧ BoxAt H' b c ns 0) (fun R hR => ?_) (fun σ H1 h => ?_)
    · walk_at "rd"
      refine ⟨_, .inl hs, fun c hc => ⟨by decide, fun b hb => ?_⟩⟩
      have eb := same_upd (o := .lst [V.ref c, V.int 0, V.int 0, V.int 0]) hb
      exact hR _ _ ⟨b, c, rfl, ⟨(fun z => by rw [← z, upd_same] at hb; cases hb), hl, ⟨0, 0, 0, upd_same, by decide, by decide, by decide, by decide⟩, eb _ _ upd_same⟩⟩
    obtain ⟨b, c, rfl, B1⟩ := h
    refine cut (fun σ H' => ∃ n : Nat, σ = [some (V.ref p), some (V.ref b), some (V.int n), none, none, none, none, none] ∧ BoxAt H' b c ns 10 ∧ 1 ≤ n ∧ n ≤ 6) (fun R hR => ?_) (fun σ H2 h => ?_)
    · walk_at "rd"
      exact ⟨b, c, ns, 0, 6, rfl, B1, by decide, by decide, by decide, fun n H2 n1 n6 B2 e2 => hR _ _ ⟨n, rfl, B2.le (by decide), n1, n6⟩⟩
    obtain ⟨n, rfl, B2, n1, n6⟩ := h
    refine cut (fun σ H' => ∃ f1 S1, σ = [some (V.ref p), some (V.ref b), some (V.int n), some (V.ref f1), none, none, none, none] ∧ BoxAt H' b c ns 70 ∧ LFam b H' f1 n S1) (fun R hR => ?_) (fun σ H3 h => ?_)
    · walk_at "rd"
      exact ⟨b, c, ns, _, n, rfl, B2, by decide, n1, n6, fun f S H3 f0 F B3 e3 => hR _ _ ⟨f, S, rfl, B3.le (by decide), F⟩⟩
    obtain ⟨f1, S1, rfl, B3, F1⟩ := h
    refine cut (fun σ H' => ∃ g1, σ = [some (V.ref p), some (V.ref b), some (V.int n), some (V.ref f1), some (V.ref g1), none, none, none] ∧ BoxAt H' b c ns 71 ∧ LFam b H' f1 n S1 ∧ FamV a.C_Family H' g1 n S1) (fun R hR => ?_) (fun σ H4 h => ?_)
    · walk_at "rd"
      exact drw 2 B3 rfl (by decide) (by decide) (by decide) fun fo H4 _ B4 e4 => ⟨b, f1, n, S1, fo, rfl, F1.but e4, fun g1 H5 _ e5 G1 => hR _ _ ⟨g1, rfl, B4.same e5, (F1.but e4).but (Same.but e5), G1⟩⟩
    obtain ⟨g1, rfl, B4, F1, G1⟩ := h
    refine cut (fun σ H' => ∃ fa, σ = [some (V.ref p), some (V.ref b), some (V.int n), some (V.ref f1), some (V.ref g1), some (V.ref fa), none, none] ∧ BoxAt H' b c ns 71 ∧ LFam b H' f1 n S1 ∧ FamV a.C_Family H' g1 n S1 ∧ QAt a.C_Frac H' fa (qRes n S1 (allS n).length)) (fun R hR => ?_) (fun σ H5 h => ?_)
    · walk_at "rd"
      exact ⟨g1, n, S1, rfl, G1, fun r H5 e5 Q5 => hR _ _ ⟨r, rfl, B4.same e5, F1.but (Same.but e5), G1.same e5, Q5⟩⟩
    obtain ⟨fa, rfl, B5, F1, G1, Q5⟩ := h
    obtain ⟨P1, PQ⟩ := sh_range F1.fam
    have nf := no_fault F1.fam
    obtain ⟨pa, x, y, z, h1, fv, h3, h4, h5⟩ := id Q5
    have fv : FrV a.C_Frac H5 pa (shP (qRes n S1 (allS n).length)) (shQ (qRes n S1 (allS n).length)) := fv
    obtain ⟨dx, hpa⟩ := id fv
    let σ0 : L2.St := [some (V.ref p), some (V.ref b), some (V.int n), some (V.ref f1), some (V.ref g1), some (V.ref fa), none, none]
    refine cut (fun σ H' => σ = [some (V.ref p), some (V.ref b), some (V.int n), some (V.ref f1), some (V.ref g1), some (V.ref fa), none, none] ∧ H' = H5) (fun R hR => ?_) (fun σ H6 h => ?_)
    · walk_at "rd"
      refine ⟨.tup, .tup h1, ?_⟩
      rw [if_neg (by decide)]
      refine ⟨_, .inr (SqT.of h1), ?_⟩
      have len4 : [V.ref pa, V.ref x, V.ref y, V.ref z].length = 4 := rfl
      rw [len4, if_neg (by decide)]
      refine ⟨_, h1, _, Rd.at0, _, rfl, .inr (.inr ⟨pa, dx, _, rfl, hpa, true, rfl, ?_⟩)⟩
      rw [if_neg (by decide)]
      exact hR _ _ ⟨rfl, rfl⟩
    obtain ⟨rfl, rfl⟩ := h
    refine cut (fun σ H' => σ = [some (V.ref p), some (V.ref b), some (V.int n), some (V.ref f1), some (V.ref g1), some (V.ref fa), some (V.ref pa), none] ∧ H' = H6) (fun R hR => ?_) (fun σ H7 h => ?_)
    · walk_at "rd"
      exact ⟨_, h1, _, Rd.at0, hR _ _ ⟨rfl, rfl⟩⟩
    obtain ⟨rfl, rfl⟩ := h
    refine cut (fun σ H' => σ = [some (V.ref p), some (V.ref b), some (V.int n), some (V.ref f1), some (V.ref g1), some (V.ref fa), some (V.ref pa), none] ∧ H' = H7) (fun R hR => ?_) (fun σ H8 h => ?_)
    · walk_at "rd"
      refine ⟨_, dx, _, hpa, T.cl_Frac, T.na_Frac_num, _, fq_num _ _, _, rfl, true, rfl, ?_⟩
      rw [if_neg (by decide)]
      refine ⟨_, dx, _, hpa, T.cl_Frac, T.na_Frac_den, _, fq_den _ _, _, rfl, true, rfl, ?_⟩
      rw [if_neg (by decide)]
      refine ⟨_, dx, _, hpa, T.cl_Frac, T.na_Frac_num, _, fq_num _ _, _, rfl, ?_⟩
      rw [if_neg (by show ¬ shP _ < 1; omega)]
      refine ⟨_, dx, _, hpa, T.cl_Frac, T.na_Frac_den, _, fq_den _ _, _, dx, _, hpa, T.cl_Frac, T.na_Frac_num, _, fq_num _ _, _, rfl, _, rfl, ?_⟩
      rw [if_neg (by show ¬ shQ _ < shP _; omega)]
      exact hR _ _ ⟨rfl, rfl⟩
    obtain ⟨rfl, rfl⟩ := h
    refine cut (fun σ H' => σ = [some (V.ref p), some (V.ref b), some (V.int n), some (V.ref f1), some (V.ref g1), some (V.ref fa), some (V.ref pa), none] ∧ Same H8 H') (fun R hR => ?_) (fun σ H9 h => ?_)
    · walk_at "rd"
      refine ⟨_, dx, _, hpa, T.cl_Frac, T.na_Frac_num, _, fq_num _ _, _, dx, _, hpa, T.cl_Frac, T.na_Frac_den, _, fq_den _ _, rfl, b, f1, n, S1, rfl, F1, fun v H9 e9 hv => ⟨rfl, ?_⟩⟩
      have key : decide (V.int (shP (qRes n S1 (allS n).length)) = V.int (shQ (qRes n S1 (allS n).length))) = decide (v = .non) := by
        rcases hv with ⟨rfl, h⟩ | ⟨⟨r, rfl⟩, h⟩
        · rw [decide_eq_true (congrArg V.int (nf.mpr h)), decide_eq_true rfl]
        · rw [decide_eq_false (fun z => nf.mp (V.int.inj z) h), decide_eq_false (fun z => by cases z)]
      rw [if_neg (nn key)]
      exact hR _ _ ⟨rfl, e9⟩
    obtain ⟨rfl, e9⟩ := h
    have F1 := F1.but (Same.but e9)
    have G1 := G1.same e9
    have Q5 := Q5.same e9
    have fv := fv.same e9
    have B5 := B5.same e9
    walk_at "rd"
    refine ⟨by decide, by decide, ?_⟩
    refine Rd.loop_rngC (fun σ H' => ∃ o7, σ = [some (V.ref p), some (V.ref b), some (V.int n), some (V.ref f1), some (V.ref g1), some (V.ref fa), some (V.ref pa), o7] ∧ BoxAt H' b c ns 1000 ∧ LFam b H' f1 n S1 ∧ FamV a.C_Family H' g1 n S1 ∧ QAt a.C_Frac H' fa (qRes n S1 (allS n).length))
      (fun i σ H' => ∃ o7, σ = [some (V.ref p), some (V.ref b), some (V.int n), some (V.ref f1), some (V.ref g1), some (V.ref fa), some (V.ref pa), o7] ∧ BoxAt H' b c ns (100 + 130 * i) ∧ LFam b H' f1 n S1 ∧ FamV a.C_Family H' g1 n S1 ∧ QAt a.C_Frac H' fa (qRes n S1 (allS n).length) ∧ FrV a.C_Frac H' pa (shP (qRes n S1 (allS n).length)) (shQ (qRes n S1 (allS n).length)))
      ⟨none, rfl, B5.le (by decide), F1, G1, Q5, fv⟩ ?_ (fun σ H' ⟨o7, q1, q2, q3, q4, q5, _⟩ => ⟨o7, q1, q2.le (by decide), q3, q4, q5⟩) ?_
    · rintro bk hbk i σ H10 hi ⟨o7, rfl, B, F, G, QQ, f⟩
      have hi : i < 3 := hi
      walk_at "rd"
      refine ⟨b, c, ns, _, n, rfl, B, by omega, n6, fun e ws H11 ne W wl B11 e11 => ?_⟩
      refine ⟨b, g1, f1, e, pa, n, S1, ws, rfl, G.but B e11, F.but e11, W, wl, f.but B e11, fun H12 e12 => ⟨true, rfl, ?_⟩⟩
      rw [if_neg (by decide)]
      exact ⟨(B11.same e12).le (by omega), (F.but e11).but (Same.but e12), (G.but B e11).same e12, (QQ.but B e11).same e12, (f.but B e11).same e12⟩
    · rintro σ H10 ⟨o7, rfl, B, F, G, QQ⟩
      walk_at "rd"
      refine drw 9998 B rfl (by decide) (by decide) (by decide) fun d H11 dl B11 e11 => ⟨_, rfl, ?_⟩
      rw [show (1 : Int) + (d : Int) = ((1 + d : Nat) : Int) by omega]
      exact ⟨b, g1, f1, fa, n, 1 + d, S1, rfl, G.but B e11, F.but e11, QQ.but B e11, by omega, by omega, fun H12 _ => k H12⟩
/-! ### law -/
def spLaw (K : PySem.W.Frag) : Sp := fun vs H Q _ => ∃ (a : Addr) (ns : List Int), vs = [.ref a] ∧ SqL K H a (ns.map V.int) ∧ ns.length ≤ 63 ∧ ∀ H', Q (.bl true) H'
theorem sc_law : FnScope ["script"] ["script"] (defScope s_law) := ⟨rfl, rfl, rfl, by decide +kernel, rfl, by decide +kernel, by decide +kernel⟩
theorem ok_law (T : Txt K mg a) : FnOk P w K mg base CX0 10 a.a_law a.d_law ["script"] (spLaw K) := by
  refine T.fn_law.ok sc_law (fun vs H Q E h => ?_) (fun cdv A outer s H vs Q E hr h => ?_)
  · obtain ⟨p, ns, rfl, _⟩ := h
    rfl
  · obtain ⟨p0, ns, rfl, hs, hl, k⟩ := h
    refine ⟨_, (pss_one (ps_try_thru0 (pss_one (ps_ret (pe_call (ok_law_asked T) (hr.mono (by decide)) (by rfl) T.mg_law_asked T.fn_law_asked.kp T.b_law_asked .nil pass0 (pa_cons (pv 0) pa_nil)))))), ?_⟩
    show (_ : TS) _ [some (V.ref p0)] H
    walk_at "rd"
    exact ⟨p0, ns, rfl, hs, hl, k⟩
end

end K37
namespace K37
open PySem PySem.Spec PyProof.Rows L2
theorem kit_self {K : PySem.W.Frag} {C : Addr} : PySem.W.kitOne K (.ref C) (.ref C) = some true := by
  unfold PySem.W.kitOne
  rw [if_pos (beq_self_eq_true _)]
theorem kit_own {K : PySem.W.Frag} {C : Addr} {t : String} {b : Bool} (h1 : PySem.W.isClsIn K C = true) (h2 : PySem.W.typeIn K (.ref C) = some (.type "type")) (h3 : PySem.W.subIn K (.type t) (.ref C) = some b) : PySem.W.kitOne K (.type t) (.ref C) = some b := by
  have e : (PySem.W.clsIn K C).isSome = true := h1
  unfold PySem.W.kitOne PySem.W.kitCls
  rw [if_neg (fun q => by cases beq_iff_eq.mp q)]
  simp only [e, h2, h3]
  rfl
theorem kit_bi {K : PySem.W.Frag} {C : Addr} {t : String} {b : Bool} (h : PySem.W.subIn K (.ref C) (.type t) = some b) (h1 : PySem.W.kitMeta t = true) : PySem.W.kitOne K (.ref C) (.type t) = some b := by
  unfold PySem.W.kitOne PySem.W.kitCls
  rw [if_neg (fun q => by cases beq_iff_eq.mp q)]
  simp only [h1, if_true, h]
theorem exm_of {K : PySem.W.Frag} {E S : Addr} {b : Bool} (h1 : PySem.W.subIn K (.ref S) (.type "BaseException") = some true) (h2 : PySem.W.isClsIn K S = true) (h3 : PySem.W.typeIn K (.ref S) = some (.type "type")) (h4 : PySem.W.subIn K (.ref E) (.ref S) = some b) :
    PySem.W.exmOne K (.ref E) (.ref S) = some b := by
  have e : (PySem.W.clsIn K S).isSome = true := h2
  unfold PySem.W.exmOne PySem.W.kitCls
  simp only [h1, e, h3, h4]
  rfl
theorem exm_self {K : PySem.W.Frag} {S : Addr} (h1 : PySem.W.subIn K (.ref S) (.type "BaseException") = some true) (h2 : PySem.W.isClsIn K S = true) (h3 : PySem.W.typeIn K (.ref S) = some (.type "type")) (h4 : PySem.W.subIn K (.ref S) (.ref S) = some true) :
    PySem.W.exmOne K (.ref S) (.ref S) = some true := by
  have e : (PySem.W.clsIn K S).isSome = true := h2
  unfold PySem.W.exmOne PySem.W.kitCls
  simp only [h1, e, h3, h4]
  rfl
theorem txt_mk {K : PySem.W.Frag} {h : Heap} {mg : Str → Option Value} {C_Frac C_Family a_is_whole a_is_within a_is_ascending a_Frac_init a_Frac_add a_Frac_is_below a_as_frac a_total a_parts_of a_all_sets a_is_part a_touches a_joined a_rest_of a_is_above_0 a_first_greatest a_greedy_set a_heaviest_set a_set_weight a_quotient a_clean_sets a_closed_sets a_Family_init a_Family_addable a_law_draw a_law_low a_law_whole a_law_things a_law_order a_law_by_tops a_law_by_classes a_law_by_words a_law_size a_law_odd a_law_family a_law_adds a_law_fault a_law_told a_law_given a_law_weight a_law_weights a_law_scaled a_law_greedy a_law_heaviest a_law_sum a_law_mask a_law_weighs a_law_at_least a_law_tight a_law_asked a_law : Addr} (X : K.In h) (G : h.Ns mainGlobals mg)
    {od_is_whole an_is_whole od_is_within an_is_within od_is_ascending an_is_ascending od_Frac_init an_Frac_init od_Frac_add an_Frac_add od_Frac_is_below an_Frac_is_below od_as_frac an_as_frac od_total an_total od_parts_of an_parts_of od_all_sets an_all_sets od_is_part an_is_part od_touches an_touches od_joined an_joined od_rest_of an_rest_of od_is_above_0 an_is_above_0 od_first_greatest an_first_greatest od_greedy_set an_greedy_set od_heaviest_set an_heaviest_set od_set_weight an_set_weight od_quotient an_quotient od_clean_sets an_clean_sets od_closed_sets an_closed_sets od_Family_init an_Family_init od_Family_addable an_Family_addable od_law_draw an_law_draw od_law_low an_law_low od_law_whole an_law_whole od_law_things an_law_things od_law_order an_law_order od_law_by_tops an_law_by_tops od_law_by_classes an_law_by_classes od_law_by_words an_law_by_words od_law_size an_law_size od_law_odd an_law_odd od_law_family an_law_family od_law_adds an_law_adds od_law_fault an_law_fault od_law_told an_law_told od_law_given an_law_given od_law_weight an_law_weight od_law_weights an_law_weights od_law_scaled an_law_scaled od_law_greedy an_law_greedy od_law_heaviest an_law_heaviest od_law_sum an_law_sum od_law_mask an_law_mask od_law_weighs an_law_weighs od_law_at_least an_law_at_least od_law_tight an_law_tight od_law_asked an_law_asked od_law an_law : Option Addr} {sl_is_whole sl_is_within sl_is_ascending sl_Frac_init sl_Frac_add sl_Frac_is_below sl_as_frac sl_total sl_parts_of sl_all_sets sl_is_part sl_touches sl_joined sl_rest_of sl_is_above_0 sl_first_greatest sl_greedy_set sl_heaviest_set sl_set_weight sl_quotient sl_clean_sets sl_closed_sets sl_Family_init sl_Family_addable sl_law_draw sl_law_low sl_law_whole sl_law_things sl_law_order sl_law_by_tops sl_law_by_classes sl_law_by_words sl_law_size sl_law_odd sl_law_family sl_law_adds sl_law_fault sl_law_told sl_law_given sl_law_weight sl_law_weights sl_law_scaled sl_law_greedy sl_law_heaviest sl_law_sum sl_law_mask sl_law_weighs sl_law_at_least sl_law_tight sl_law_asked sl_law : Array (Option Value)} {oc_is_whole kV_is_whole dc_is_whole pm_is_whole cd_is_whole ct_is_whole oc_is_within kV_is_within dc_is_within pm_is_within cd_is_within ct_is_within oc_is_ascending kV_is_ascending dc_is_ascending pm_is_ascending cd_is_ascending ct_is_ascending oc_Frac_init kV_Frac_init dc_Frac_init pm_Frac_init cd_Frac_init ct_Frac_init oc_Frac_add kV_Frac_add dc_Frac_add pm_Frac_add cd_Frac_add ct_Frac_add oc_Frac_is_below kV_Frac_is_below dc_Frac_is_below pm_Frac_is_below cd_Frac_is_below ct_Frac_is_below oc_as_frac kV_as_frac dc_as_frac pm_as_frac cd_as_frac ct_as_frac oc_total kV_total dc_total pm_total cd_total ct_total oc_parts_of kV_parts_of dc_parts_of pm_parts_of cd_parts_of ct_parts_of oc_all_sets kV_all_sets dc_all_sets pm_all_sets cd_all_sets ct_all_sets oc_is_part kV_is_part dc_is_part pm_is_part cd_is_part ct_is_part oc_touches kV_touches dc_touches pm_touches cd_touches ct_touches oc_joined kV_joined dc_joined pm_joined cd_joined ct_joined oc_rest_of kV_rest_of dc_rest_of pm_rest_of cd_rest_of ct_rest_of oc_is_above_0 kV_is_above_0 dc_is_above_0 pm_is_above_0 cd_is_above_0 ct_is_above_0 oc_first_greatest kV_first_greatest dc_first_greatest pm_first_greatest cd_first_greatest ct_first_greatest oc_greedy_set kV_greedy_set dc_greedy_set pm_greedy_set cd_greedy_set ct_greedy_set oc_heaviest_set kV_heaviest_set dc_heaviest_set pm_heaviest_set cd_heaviest_set ct_heaviest_set oc_set_weight kV_set_weight dc_set_weight pm_set_weight cd_set_weight ct_set_weight oc_quotient kV_quotient dc_quotient pm_quotient cd_quotient ct_quotient oc_clean_sets kV_clean_sets dc_clean_sets pm_clean_sets cd_clean_sets ct_clean_sets oc_closed_sets kV_closed_sets dc_closed_sets pm_closed_sets cd_closed_sets ct_closed_sets oc_Family_init kV_Family_init dc_Family_init pm_Family_init cd_Family_init ct_Family_init oc_Family_addable kV_Family_addable dc_Family_addable pm_Family_addable cd_Family_addable ct_Family_addable oc_law_draw kV_law_draw dc_law_draw pm_law_draw cd_law_draw ct_law_draw oc_law_low kV_law_low dc_law_low pm_law_low cd_law_low ct_law_low oc_law_whole kV_law_whole dc_law_whole pm_law_whole cd_law_whole ct_law_whole oc_law_things kV_law_things dc_law_things pm_law_things cd_law_things ct_law_things oc_law_order kV_law_order dc_law_order pm_law_order cd_law_order ct_law_order oc_law_by_tops kV_law_by_tops dc_law_by_tops pm_law_by_tops cd_law_by_tops ct_law_by_tops oc_law_by_classes kV_law_by_classes dc_law_by_classes pm_law_by_classes cd_law_by_classes ct_law_by_classes oc_law_by_words kV_law_by_words dc_law_by_words pm_law_by_words cd_law_by_words ct_law_by_words oc_law_size kV_law_size dc_law_size pm_law_size cd_law_size ct_law_size oc_law_odd kV_law_odd dc_law_odd pm_law_odd cd_law_odd ct_law_odd oc_law_family kV_law_family dc_law_family pm_law_family cd_law_family ct_law_family oc_law_adds kV_law_adds dc_law_adds pm_law_adds cd_law_adds ct_law_adds oc_law_fault kV_law_fault dc_law_fault pm_law_fault cd_law_fault ct_law_fault oc_law_told kV_law_told dc_law_told pm_law_told cd_law_told ct_law_told oc_law_given kV_law_given dc_law_given pm_law_given cd_law_given ct_law_given oc_law_weight kV_law_weight dc_law_weight pm_law_weight cd_law_weight ct_law_weight oc_law_weights kV_law_weights dc_law_weights pm_law_weights cd_law_weights ct_law_weights oc_law_scaled kV_law_scaled dc_law_scaled pm_law_scaled cd_law_scaled ct_law_scaled oc_law_greedy kV_law_greedy dc_law_greedy pm_law_greedy cd_law_greedy ct_law_greedy oc_law_heaviest kV_law_heaviest dc_law_heaviest pm_law_heaviest cd_law_heaviest ct_law_heaviest oc_law_sum kV_law_sum dc_law_sum pm_law_sum cd_law_sum ct_law_sum oc_law_mask kV_law_mask dc_law_mask pm_law_mask cd_law_mask ct_law_mask oc_law_weighs kV_law_weighs dc_law_weighs pm_law_weighs cd_law_weighs ct_law_weighs oc_law_at_least kV_law_at_least dc_law_at_least pm_law_at_least cd_law_at_least ct_law_at_least oc_law_tight kV_law_tight dc_law_tight pm_law_tight cd_law_tight ct_law_tight oc_law_asked kV_law_asked dc_law_asked pm_law_asked cd_law_asked ct_law_asked oc_law kV_law dc_law pm_law cd_law ct_law : Value}
    {T_Frac_init : Addr} {o_Frac_init : Obj} {m_Frac_init : Nat} {tk0_Frac_init : Tok}
    {t_MOST_THINGS : Tok}
    (hC_Frac : PySem.W.nsIn K mainGlobals "Frac" = some (some (.ref C_Frac)))
    (hC_Family : PySem.W.nsIn K mainGlobals "Family" = some (some (.ref C_Family)))
    (pg_Frac : PySem.W.plainGet K C_Frac Str.empty = true)
    (hd_Frac : PySem.W.hasDictIn K C_Frac = true)
    (po_Frac : PySem.W.plainOver K C_Frac = true)
    (sa_Frac : PySem.W.findIn K (.ref C_Frac) "__setattr__" = some (some (.builtin "object.__setattr__")))
    (mk_Frac : PySem.W.makesIn K C_Frac = true)
    (kc_Frac : PySem.W.keepIn K (.ref C_Frac) = true)
    (na_Frac_num : PySem.W.findIn K (.ref C_Frac) "num" = some none)
    (na_Frac_den : PySem.W.findIn K (.ref C_Frac) "den" = some none)
    (cg_Frac : PySem.W.findIn K (.ref C_Frac) "__class__" = some (some (.builtin "object.__class__")))
    (mr_Frac : PySem.W.mroIn K C_Frac (.type "object") = some true)
    (sf_Frac : PySem.W.selfFirst K C_Frac = true)
    (pg_Family : PySem.W.plainGet K C_Family Str.empty = true)
    (hd_Family : PySem.W.hasDictIn K C_Family = true)
    (po_Family : PySem.W.plainOver K C_Family = true)
    (sa_Family : PySem.W.findIn K (.ref C_Family) "__setattr__" = some (some (.builtin "object.__setattr__")))
    (mk_Family : PySem.W.makesIn K C_Family = true)
    (kc_Family : PySem.W.keepIn K (.ref C_Family) = true)
    (na_Family_sets : PySem.W.findIn K (.ref C_Family) "sets" = some none)
    (na_Family_size : PySem.W.findIn K (.ref C_Family) "size" = some none)
    (cg_Family : PySem.W.findIn K (.ref C_Family) "__class__" = some (some (.builtin "object.__class__")))
    (mr_Family : PySem.W.mroIn K C_Family (.type "object") = some true)
    (cget : PySem.W.specialIn K (.builtin "object.__class__") "__get__" = some (some (.builtin "getset_descriptor.__get__")))
    (ctk : PySem.W.takesIn K (.builtin "object.__class__") = some true)
    (n_is_whole : PySem.W.nsIn K mainGlobals "is_whole" = some (some (.ref a_is_whole)))
    (l_is_whole : K.lookup a_is_whole = some ⟨oc_is_whole, od_is_whole, .func (PySem.W.fnOf "is_whole" "is_whole" (defArgs s_is_whole) (defBody s_is_whole) (defScope s_is_whole) .none kV_is_whole dc_is_whole pm_is_whole an_is_whole cd_is_whole ct_is_whole), sl_is_whole⟩)
    (c_is_whole : PySem.W.codeIn K cd_is_whole "is_whole" = true)
    (k_is_whole : PySem.W.keepIn K (.ref a_is_whole) = true)
    (n_is_within : PySem.W.nsIn K mainGlobals "is_within" = some (some (.ref a_is_within)))
    (l_is_within : K.lookup a_is_within = some ⟨oc_is_within, od_is_within, .func (PySem.W.fnOf "is_within" "is_within" (defArgs s_is_within) (defBody s_is_within) (defScope s_is_within) .none kV_is_within dc_is_within pm_is_within an_is_within cd_is_within ct_is_within), sl_is_within⟩)
    (c_is_within : PySem.W.codeIn K cd_is_within "is_within" = true)
    (k_is_within : PySem.W.keepIn K (.ref a_is_within) = true)
    (n_is_ascending : PySem.W.nsIn K mainGlobals "is_ascending" = some (some (.ref a_is_ascending)))
    (l_is_ascending : K.lookup a_is_ascending = some ⟨oc_is_ascending, od_is_ascending, .func (PySem.W.fnOf "is_ascending" "is_ascending" (defArgs s_is_ascending) (defBody s_is_ascending) (defScope s_is_ascending) .none kV_is_ascending dc_is_ascending pm_is_ascending an_is_ascending cd_is_ascending ct_is_ascending), sl_is_ascending⟩)
    (c_is_ascending : PySem.W.codeIn K cd_is_ascending "is_ascending" = true)
    (k_is_ascending : PySem.W.keepIn K (.ref a_is_ascending) = true)
    (f_Frac_init : PySem.W.findIn K (.ref C_Frac) "__init__" = some (some (.ref a_Frac_init)))
    (i_Frac_init : PySem.W.isFn K (.ref a_Frac_init) = true)
    (l_Frac_init : K.lookup a_Frac_init = some ⟨oc_Frac_init, od_Frac_init, .func (PySem.W.fnOf "__init__" "Frac.__init__" (defArgs s_Frac_init) (defBody s_Frac_init) (defScope s_Frac_init) (.ref T_Frac_init) kV_Frac_init dc_Frac_init pm_Frac_init an_Frac_init cd_Frac_init ct_Frac_init), sl_Frac_init⟩)
    (c_Frac_init : PySem.W.codeIn K cd_Frac_init "Frac.__init__" = true)
    (k_Frac_init : PySem.W.keepIn K (.ref a_Frac_init) = true)
    (t_Frac_init : K.lookup T_Frac_init = some o_Frac_init)
    (u_Frac_init : o_Frac_init.data = .seq [Value.int 1 tk0_Frac_init].toArray m_Frac_init)
    (f_Frac_add : PySem.W.findIn K (.ref C_Frac) "__add__" = some (some (.ref a_Frac_add)))
    (i_Frac_add : PySem.W.isFn K (.ref a_Frac_add) = true)
    (l_Frac_add : K.lookup a_Frac_add = some ⟨oc_Frac_add, od_Frac_add, .func (PySem.W.fnOf "__add__" "Frac.__add__" (defArgs s_Frac_add) (defBody s_Frac_add) (defScope s_Frac_add) .none kV_Frac_add dc_Frac_add pm_Frac_add an_Frac_add cd_Frac_add ct_Frac_add), sl_Frac_add⟩)
    (c_Frac_add : PySem.W.codeIn K cd_Frac_add "Frac.__add__" = true)
    (k_Frac_add : PySem.W.keepIn K (.ref a_Frac_add) = true)
    (f_Frac_is_below : PySem.W.findIn K (.ref C_Frac) "is_below" = some (some (.ref a_Frac_is_below)))
    (i_Frac_is_below : PySem.W.isFn K (.ref a_Frac_is_below) = true)
    (l_Frac_is_below : K.lookup a_Frac_is_below = some ⟨oc_Frac_is_below, od_Frac_is_below, .func (PySem.W.fnOf "is_below" "Frac.is_below" (defArgs s_Frac_is_below) (defBody s_Frac_is_below) (defScope s_Frac_is_below) .none kV_Frac_is_below dc_Frac_is_below pm_Frac_is_below an_Frac_is_below cd_Frac_is_below ct_Frac_is_below), sl_Frac_is_below⟩)
    (c_Frac_is_below : PySem.W.codeIn K cd_Frac_is_below "Frac.is_below" = true)
    (k_Frac_is_below : PySem.W.keepIn K (.ref a_Frac_is_below) = true)
    (n_as_frac : PySem.W.nsIn K mainGlobals "as_frac" = some (some (.ref a_as_frac)))
    (l_as_frac : K.lookup a_as_frac = some ⟨oc_as_frac, od_as_frac, .func (PySem.W.fnOf "as_frac" "as_frac" (defArgs s_as_frac) (defBody s_as_frac) (defScope s_as_frac) .none kV_as_frac dc_as_frac pm_as_frac an_as_frac cd_as_frac ct_as_frac), sl_as_frac⟩)
    (c_as_frac : PySem.W.codeIn K cd_as_frac "as_frac" = true)
    (k_as_frac : PySem.W.keepIn K (.ref a_as_frac) = true)
    (n_total : PySem.W.nsIn K mainGlobals "total" = some (some (.ref a_total)))
    (l_total : K.lookup a_total = some ⟨oc_total, od_total, .func (PySem.W.fnOf "total" "total" (defArgs s_total) (defBody s_total) (defScope s_total) .none kV_total dc_total pm_total an_total cd_total ct_total), sl_total⟩)
    (c_total : PySem.W.codeIn K cd_total "total" = true)
    (k_total : PySem.W.keepIn K (.ref a_total) = true)
    (n_parts_of : PySem.W.nsIn K mainGlobals "parts_of" = some (some (.ref a_parts_of)))
    (l_parts_of : K.lookup a_parts_of = some ⟨oc_parts_of, od_parts_of, .func (PySem.W.fnOf "parts_of" "parts_of" (defArgs s_parts_of) (defBody s_parts_of) (defScope s_parts_of) .none kV_parts_of dc_parts_of pm_parts_of an_parts_of cd_parts_of ct_parts_of), sl_parts_of⟩)
    (c_parts_of : PySem.W.codeIn K cd_parts_of "parts_of" = true)
    (k_parts_of : PySem.W.keepIn K (.ref a_parts_of) = true)
    (n_all_sets : PySem.W.nsIn K mainGlobals "all_sets" = some (some (.ref a_all_sets)))
    (l_all_sets : K.lookup a_all_sets = some ⟨oc_all_sets, od_all_sets, .func (PySem.W.fnOf "all_sets" "all_sets" (defArgs s_all_sets) (defBody s_all_sets) (defScope s_all_sets) .none kV_all_sets dc_all_sets pm_all_sets an_all_sets cd_all_sets ct_all_sets), sl_all_sets⟩)
    (c_all_sets : PySem.W.codeIn K cd_all_sets "all_sets" = true)
    (k_all_sets : PySem.W.keepIn K (.ref a_all_sets) = true)
    (n_is_part : PySem.W.nsIn K mainGlobals "is_part" = some (some (.ref a_is_part)))
    (l_is_part : K.lookup a_is_part = some ⟨oc_is_part, od_is_part, .func (PySem.W.fnOf "is_part" "is_part" (defArgs s_is_part) (defBody s_is_part) (defScope s_is_part) .none kV_is_part dc_is_part pm_is_part an_is_part cd_is_part ct_is_part), sl_is_part⟩)
    (c_is_part : PySem.W.codeIn K cd_is_part "is_part" = true)
    (k_is_part : PySem.W.keepIn K (.ref a_is_part) = true)
    (n_touches : PySem.W.nsIn K mainGlobals "touches" = some (some (.ref a_touches)))
    (l_touches : K.lookup a_touches = some ⟨oc_touches, od_touches, .func (PySem.W.fnOf "touches" "touches" (defArgs s_touches) (defBody s_touches) (defScope s_touches) .none kV_touches dc_touches pm_touches an_touches cd_touches ct_touches), sl_touches⟩)
    (c_touches : PySem.W.codeIn K cd_touches "touches" = true)
    (k_touches : PySem.W.keepIn K (.ref a_touches) = true)
    (n_joined : PySem.W.nsIn K mainGlobals "joined" = some (some (.ref a_joined)))
    (l_joined : K.lookup a_joined = some ⟨oc_joined, od_joined, .func (PySem.W.fnOf "joined" "joined" (defArgs s_joined) (defBody s_joined) (defScope s_joined) .none kV_joined dc_joined pm_joined an_joined cd_joined ct_joined), sl_joined⟩)
    (c_joined : PySem.W.codeIn K cd_joined "joined" = true)
    (k_joined : PySem.W.keepIn K (.ref a_joined) = true)
    (n_rest_of : PySem.W.nsIn K mainGlobals "rest_of" = some (some (.ref a_rest_of)))
    (l_rest_of : K.lookup a_rest_of = some ⟨oc_rest_of, od_rest_of, .func (PySem.W.fnOf "rest_of" "rest_of" (defArgs s_rest_of) (defBody s_rest_of) (defScope s_rest_of) .none kV_rest_of dc_rest_of pm_rest_of an_rest_of cd_rest_of ct_rest_of), sl_rest_of⟩)
    (c_rest_of : PySem.W.codeIn K cd_rest_of "rest_of" = true)
    (k_rest_of : PySem.W.keepIn K (.ref a_rest_of) = true)
    (n_is_above_0 : PySem.W.nsIn K mainGlobals "is_above_0" = some (some (.ref a_is_above_0)))
    (l_is_above_0 : K.lookup a_is_above_0 = some ⟨oc_is_above_0, od_is_above_0, .func (PySem.W.fnOf "is_above_0" "is_above_0" (defArgs s_is_above_0) (defBody s_is_above_0) (defScope s_is_above_0) .none kV_is_above_0 dc_is_above_0 pm_is_above_0 an_is_above_0 cd_is_above_0 ct_is_above_0), sl_is_above_0⟩)
    (c_is_above_0 : PySem.W.codeIn K cd_is_above_0 "is_above_0" = true)
    (k_is_above_0 : PySem.W.keepIn K (.ref a_is_above_0) = true)
    (n_first_greatest : PySem.W.nsIn K mainGlobals "first_greatest" = some (some (.ref a_first_greatest)))
    (l_first_greatest : K.lookup a_first_greatest = some ⟨oc_first_greatest, od_first_greatest, .func (PySem.W.fnOf "first_greatest" "first_greatest" (defArgs s_first_greatest) (defBody s_first_greatest) (defScope s_first_greatest) .none kV_first_greatest dc_first_greatest pm_first_greatest an_first_greatest cd_first_greatest ct_first_greatest), sl_first_greatest⟩)
    (c_first_greatest : PySem.W.codeIn K cd_first_greatest "first_greatest" = true)
    (k_first_greatest : PySem.W.keepIn K (.ref a_first_greatest) = true)
    (n_greedy_set : PySem.W.nsIn K mainGlobals "greedy_set" = some (some (.ref a_greedy_set)))
    (l_greedy_set : K.lookup a_greedy_set = some ⟨oc_greedy_set, od_greedy_set, .func (PySem.W.fnOf "greedy_set" "greedy_set" (defArgs s_greedy_set) (defBody s_greedy_set) (defScope s_greedy_set) .none kV_greedy_set dc_greedy_set pm_greedy_set an_greedy_set cd_greedy_set ct_greedy_set), sl_greedy_set⟩)
    (c_greedy_set : PySem.W.codeIn K cd_greedy_set "greedy_set" = true)
    (k_greedy_set : PySem.W.keepIn K (.ref a_greedy_set) = true)
    (n_heaviest_set : PySem.W.nsIn K mainGlobals "heaviest_set" = some (some (.ref a_heaviest_set)))
    (l_heaviest_set : K.lookup a_heaviest_set = some ⟨oc_heaviest_set, od_heaviest_set, .func (PySem.W.fnOf "heaviest_set" "heaviest_set" (defArgs s_heaviest_set) (defBody s_heaviest_set) (defScope s_heaviest_set) .none kV_heaviest_set dc_heaviest_set pm_heaviest_set an_heaviest_set cd_heaviest_set ct_heaviest_set), sl_heaviest_set⟩)
    (c_heaviest_set : PySem.W.codeIn K cd_heaviest_set "heaviest_set" = true)
    (k_heaviest_set : PySem.W.keepIn K (.ref a_heaviest_set) = true)
    (n_set_weight : PySem.W.nsIn K mainGlobals "set_weight" = some (some (.ref a_set_weight)))
    (l_set_weight : K.lookup a_set_weight = some ⟨oc_set_weight, od_set_weight, .func (PySem.W.fnOf "set_weight" "set_weight" (defArgs s_set_weight) (defBody s_set_weight) (defScope s_set_weight) .none kV_set_weight dc_set_weight pm_set_weight an_set_weight cd_set_weight ct_set_weight), sl_set_weight⟩)
    (c_set_weight : PySem.W.codeIn K cd_set_weight "set_weight" = true)
    (k_set_weight : PySem.W.keepIn K (.ref a_set_weight) = true)
    (n_quotient : PySem.W.nsIn K mainGlobals "quotient" = some (some (.ref a_quotient)))
    (l_quotient : K.lookup a_quotient = some ⟨oc_quotient, od_quotient, .func (PySem.W.fnOf "quotient" "quotient" (defArgs s_quotient) (defBody s_quotient) (defScope s_quotient) .none kV_quotient dc_quotient pm_quotient an_quotient cd_quotient ct_quotient), sl_quotient⟩)
    (c_quotient : PySem.W.codeIn K cd_quotient "quotient" = true)
    (k_quotient : PySem.W.keepIn K (.ref a_quotient) = true)
    (n_clean_sets : PySem.W.nsIn K mainGlobals "clean_sets" = some (some (.ref a_clean_sets)))
    (l_clean_sets : K.lookup a_clean_sets = some ⟨oc_clean_sets, od_clean_sets, .func (PySem.W.fnOf "clean_sets" "clean_sets" (defArgs s_clean_sets) (defBody s_clean_sets) (defScope s_clean_sets) .none kV_clean_sets dc_clean_sets pm_clean_sets an_clean_sets cd_clean_sets ct_clean_sets), sl_clean_sets⟩)
    (c_clean_sets : PySem.W.codeIn K cd_clean_sets "clean_sets" = true)
    (k_clean_sets : PySem.W.keepIn K (.ref a_clean_sets) = true)
    (n_closed_sets : PySem.W.nsIn K mainGlobals "closed_sets" = some (some (.ref a_closed_sets)))
    (l_closed_sets : K.lookup a_closed_sets = some ⟨oc_closed_sets, od_closed_sets, .func (PySem.W.fnOf "closed_sets" "closed_sets" (defArgs s_closed_sets) (defBody s_closed_sets) (defScope s_closed_sets) .none kV_closed_sets dc_closed_sets pm_closed_sets an_closed_sets cd_closed_sets ct_closed_sets), sl_closed_sets⟩)
    (c_closed_sets : PySem.W.codeIn K cd_closed_sets "closed_sets" = true)
    (k_closed_sets : PySem.W.keepIn K (.ref a_closed_sets) = true)
    (f_Family_init : PySem.W.findIn K (.ref C_Family) "__init__" = some (some (.ref a_Family_init)))
    (i_Family_init : PySem.W.isFn K (.ref a_Family_init) = true)
    (l_Family_init : K.lookup a_Family_init = some ⟨oc_Family_init, od_Family_init, .func (PySem.W.fnOf "__init__" "Family.__init__" (defArgs s_Family_init) (defBody s_Family_init) (defScope s_Family_init) .none kV_Family_init dc_Family_init pm_Family_init an_Family_init cd_Family_init ct_Family_init), sl_Family_init⟩)
    (c_Family_init : PySem.W.codeIn K cd_Family_init "Family.__init__" = true)
    (k_Family_init : PySem.W.keepIn K (.ref a_Family_init) = true)
    (f_Family_addable : PySem.W.findIn K (.ref C_Family) "addable" = some (some (.ref a_Family_addable)))
    (i_Family_addable : PySem.W.isFn K (.ref a_Family_addable) = true)
    (l_Family_addable : K.lookup a_Family_addable = some ⟨oc_Family_addable, od_Family_addable, .func (PySem.W.fnOf "addable" "Family.addable" (defArgs s_Family_addable) (defBody s_Family_addable) (defScope s_Family_addable) .none kV_Family_addable dc_Family_addable pm_Family_addable an_Family_addable cd_Family_addable ct_Family_addable), sl_Family_addable⟩)
    (c_Family_addable : PySem.W.codeIn K cd_Family_addable "Family.addable" = true)
    (k_Family_addable : PySem.W.keepIn K (.ref a_Family_addable) = true)
    (n_law_draw : PySem.W.nsIn K mainGlobals "_law_draw" = some (some (.ref a_law_draw)))
    (l_law_draw : K.lookup a_law_draw = some ⟨oc_law_draw, od_law_draw, .func (PySem.W.fnOf "_law_draw" "_law_draw" (defArgs s_law_draw) (defBody s_law_draw) (defScope s_law_draw) .none kV_law_draw dc_law_draw pm_law_draw an_law_draw cd_law_draw ct_law_draw), sl_law_draw⟩)
    (c_law_draw : PySem.W.codeIn K cd_law_draw "_law_draw" = true)
    (k_law_draw : PySem.W.keepIn K (.ref a_law_draw) = true)
    (n_law_low : PySem.W.nsIn K mainGlobals "_law_low" = some (some (.ref a_law_low)))
    (l_law_low : K.lookup a_law_low = some ⟨oc_law_low, od_law_low, .func (PySem.W.fnOf "_law_low" "_law_low" (defArgs s_law_low) (defBody s_law_low) (defScope s_law_low) .none kV_law_low dc_law_low pm_law_low an_law_low cd_law_low ct_law_low), sl_law_low⟩)
    (c_law_low : PySem.W.codeIn K cd_law_low "_law_low" = true)
    (k_law_low : PySem.W.keepIn K (.ref a_law_low) = true)
    (n_law_whole : PySem.W.nsIn K mainGlobals "_law_whole" = some (some (.ref a_law_whole)))
    (l_law_whole : K.lookup a_law_whole = some ⟨oc_law_whole, od_law_whole, .func (PySem.W.fnOf "_law_whole" "_law_whole" (defArgs s_law_whole) (defBody s_law_whole) (defScope s_law_whole) .none kV_law_whole dc_law_whole pm_law_whole an_law_whole cd_law_whole ct_law_whole), sl_law_whole⟩)
    (c_law_whole : PySem.W.codeIn K cd_law_whole "_law_whole" = true)
    (k_law_whole : PySem.W.keepIn K (.ref a_law_whole) = true)
    (n_law_things : PySem.W.nsIn K mainGlobals "_law_things" = some (some (.ref a_law_things)))
    (l_law_things : K.lookup a_law_things = some ⟨oc_law_things, od_law_things, .func (PySem.W.fnOf "_law_things" "_law_things" (defArgs s_law_things) (defBody s_law_things) (defScope s_law_things) .none kV_law_things dc_law_things pm_law_things an_law_things cd_law_things ct_law_things), sl_law_things⟩)
    (c_law_things : PySem.W.codeIn K cd_law_things "_law_things" = true)
    (k_law_things : PySem.W.keepIn K (.ref a_law_things) = true)
    (n_law_order : PySem.W.nsIn K mainGlobals "_law_order" = some (some (.ref a_law_order)))
    (l_law_order : K.lookup a_law_order = some ⟨oc_law_order, od_law_order, .func (PySem.W.fnOf "_law_order" "_law_order" (defArgs s_law_order) (defBody s_law_order) (defScope s_law_order) .none kV_law_order dc_law_order pm_law_order an_law_order cd_law_order ct_law_order), sl_law_order⟩)
    (c_law_order : PySem.W.codeIn K cd_law_order "_law_order" = true)
    (k_law_order : PySem.W.keepIn K (.ref a_law_order) = true)
    (n_law_by_tops : PySem.W.nsIn K mainGlobals "_law_by_tops" = some (some (.ref a_law_by_tops)))
    (l_law_by_tops : K.lookup a_law_by_tops = some ⟨oc_law_by_tops, od_law_by_tops, .func (PySem.W.fnOf "_law_by_tops" "_law_by_tops" (defArgs s_law_by_tops) (defBody s_law_by_tops) (defScope s_law_by_tops) .none kV_law_by_tops dc_law_by_tops pm_law_by_tops an_law_by_tops cd_law_by_tops ct_law_by_tops), sl_law_by_tops⟩)
    (c_law_by_tops : PySem.W.codeIn K cd_law_by_tops "_law_by_tops" = true)
    (k_law_by_tops : PySem.W.keepIn K (.ref a_law_by_tops) = true)
    (n_law_by_classes : PySem.W.nsIn K mainGlobals "_law_by_classes" = some (some (.ref a_law_by_classes)))
    (l_law_by_classes : K.lookup a_law_by_classes = some ⟨oc_law_by_classes, od_law_by_classes, .func (PySem.W.fnOf "_law_by_classes" "_law_by_classes" (defArgs s_law_by_classes) (defBody s_law_by_classes) (defScope s_law_by_classes) .none kV_law_by_classes dc_law_by_classes pm_law_by_classes an_law_by_classes cd_law_by_classes ct_law_by_classes), sl_law_by_classes⟩)
    (c_law_by_classes : PySem.W.codeIn K cd_law_by_classes "_law_by_classes" = true)
    (k_law_by_classes : PySem.W.keepIn K (.ref a_law_by_classes) = true)
    (n_law_by_words : PySem.W.nsIn K mainGlobals "_law_by_words" = some (some (.ref a_law_by_words)))
    (l_law_by_words : K.lookup a_law_by_words = some ⟨oc_law_by_words, od_law_by_words, .func (PySem.W.fnOf "_law_by_words" "_law_by_words" (defArgs s_law_by_words) (defBody s_law_by_words) (defScope s_law_by_words) .none kV_law_by_words dc_law_by_words pm_law_by_words an_law_by_words cd_law_by_words ct_law_by_words), sl_law_by_words⟩)
    (c_law_by_words : PySem.W.codeIn K cd_law_by_words "_law_by_words" = true)
    (k_law_by_words : PySem.W.keepIn K (.ref a_law_by_words) = true)
    (n_law_size : PySem.W.nsIn K mainGlobals "_law_size" = some (some (.ref a_law_size)))
    (l_law_size : K.lookup a_law_size = some ⟨oc_law_size, od_law_size, .func (PySem.W.fnOf "_law_size" "_law_size" (defArgs s_law_size) (defBody s_law_size) (defScope s_law_size) .none kV_law_size dc_law_size pm_law_size an_law_size cd_law_size ct_law_size), sl_law_size⟩)
    (c_law_size : PySem.W.codeIn K cd_law_size "_law_size" = true)
    (k_law_size : PySem.W.keepIn K (.ref a_law_size) = true)
    (n_law_odd : PySem.W.nsIn K mainGlobals "_law_odd" = some (some (.ref a_law_odd)))
    (l_law_odd : K.lookup a_law_odd = some ⟨oc_law_odd, od_law_odd, .func (PySem.W.fnOf "_law_odd" "_law_odd" (defArgs s_law_odd) (defBody s_law_odd) (defScope s_law_odd) .none kV_law_odd dc_law_odd pm_law_odd an_law_odd cd_law_odd ct_law_odd), sl_law_odd⟩)
    (c_law_odd : PySem.W.codeIn K cd_law_odd "_law_odd" = true)
    (k_law_odd : PySem.W.keepIn K (.ref a_law_odd) = true)
    (n_law_family : PySem.W.nsIn K mainGlobals "_law_family" = some (some (.ref a_law_family)))
    (l_law_family : K.lookup a_law_family = some ⟨oc_law_family, od_law_family, .func (PySem.W.fnOf "_law_family" "_law_family" (defArgs s_law_family) (defBody s_law_family) (defScope s_law_family) .none kV_law_family dc_law_family pm_law_family an_law_family cd_law_family ct_law_family), sl_law_family⟩)
    (c_law_family : PySem.W.codeIn K cd_law_family "_law_family" = true)
    (k_law_family : PySem.W.keepIn K (.ref a_law_family) = true)
    (n_law_adds : PySem.W.nsIn K mainGlobals "_law_adds" = some (some (.ref a_law_adds)))
    (l_law_adds : K.lookup a_law_adds = some ⟨oc_law_adds, od_law_adds, .func (PySem.W.fnOf "_law_adds" "_law_adds" (defArgs s_law_adds) (defBody s_law_adds) (defScope s_law_adds) .none kV_law_adds dc_law_adds pm_law_adds an_law_adds cd_law_adds ct_law_adds), sl_law_adds⟩)
    (c_law_adds : PySem.W.codeIn K cd_law_adds "_law_adds" = true)
    (k_law_adds : PySem.W.keepIn K (.ref a_law_adds) = true)
    (n_law_fault : PySem.W.nsIn K mainGlobals "_law_fault" = some (some (.ref a_law_fault)))
    (l_law_fault : K.lookup a_law_fault = some ⟨oc_law_fault, od_law_fault, .func (PySem.W.fnOf "_law_fault" "_law_fault" (defArgs s_law_fault) (defBody s_law_fault) (defScope s_law_fault) .none kV_law_fault dc_law_fault pm_law_fault an_law_fault cd_law_fault ct_law_fault), sl_law_fault⟩)
    (c_law_fault : PySem.W.codeIn K cd_law_fault "_law_fault" = true)
    (k_law_fault : PySem.W.keepIn K (.ref a_law_fault) = true)
    (n_law_told : PySem.W.nsIn K mainGlobals "_law_told" = some (some (.ref a_law_told)))
    (l_law_told : K.lookup a_law_told = some ⟨oc_law_told, od_law_told, .func (PySem.W.fnOf "_law_told" "_law_told" (defArgs s_law_told) (defBody s_law_told) (defScope s_law_told) .none kV_law_told dc_law_told pm_law_told an_law_told cd_law_told ct_law_told), sl_law_told⟩)
    (c_law_told : PySem.W.codeIn K cd_law_told "_law_told" = true)
    (k_law_told : PySem.W.keepIn K (.ref a_law_told) = true)
    (n_law_given : PySem.W.nsIn K mainGlobals "_law_given" = some (some (.ref a_law_given)))
    (l_law_given : K.lookup a_law_given = some ⟨oc_law_given, od_law_given, .func (PySem.W.fnOf "_law_given" "_law_given" (defArgs s_law_given) (defBody s_law_given) (defScope s_law_given) .none kV_law_given dc_law_given pm_law_given an_law_given cd_law_given ct_law_given), sl_law_given⟩)
    (c_law_given : PySem.W.codeIn K cd_law_given "_law_given" = true)
    (k_law_given : PySem.W.keepIn K (.ref a_law_given) = true)
    (n_law_weight : PySem.W.nsIn K mainGlobals "_law_weight" = some (some (.ref a_law_weight)))
    (l_law_weight : K.lookup a_law_weight = some ⟨oc_law_weight, od_law_weight, .func (PySem.W.fnOf "_law_weight" "_law_weight" (defArgs s_law_weight) (defBody s_law_weight) (defScope s_law_weight) .none kV_law_weight dc_law_weight pm_law_weight an_law_weight cd_law_weight ct_law_weight), sl_law_weight⟩)
    (c_law_weight : PySem.W.codeIn K cd_law_weight "_law_weight" = true)
    (k_law_weight : PySem.W.keepIn K (.ref a_law_weight) = true)
    (n_law_weights : PySem.W.nsIn K mainGlobals "_law_weights" = some (some (.ref a_law_weights)))
    (l_law_weights : K.lookup a_law_weights = some ⟨oc_law_weights, od_law_weights, .func (PySem.W.fnOf "_law_weights" "_law_weights" (defArgs s_law_weights) (defBody s_law_weights) (defScope s_law_weights) .none kV_law_weights dc_law_weights pm_law_weights an_law_weights cd_law_weights ct_law_weights), sl_law_weights⟩)
    (c_law_weights : PySem.W.codeIn K cd_law_weights "_law_weights" = true)
    (k_law_weights : PySem.W.keepIn K (.ref a_law_weights) = true)
    (n_law_scaled : PySem.W.nsIn K mainGlobals "_law_scaled" = some (some (.ref a_law_scaled)))
    (l_law_scaled : K.lookup a_law_scaled = some ⟨oc_law_scaled, od_law_scaled, .func (PySem.W.fnOf "_law_scaled" "_law_scaled" (defArgs s_law_scaled) (defBody s_law_scaled) (defScope s_law_scaled) .none kV_law_scaled dc_law_scaled pm_law_scaled an_law_scaled cd_law_scaled ct_law_scaled), sl_law_scaled⟩)
    (c_law_scaled : PySem.W.codeIn K cd_law_scaled "_law_scaled" = true)
    (k_law_scaled : PySem.W.keepIn K (.ref a_law_scaled) = true)
    (n_law_greedy : PySem.W.nsIn K mainGlobals "_law_greedy" = some (some (.ref a_law_greedy)))
    (l_law_greedy : K.lookup a_law_greedy = some ⟨oc_law_greedy, od_law_greedy, .func (PySem.W.fnOf "_law_greedy" "_law_greedy" (defArgs s_law_greedy) (defBody s_law_greedy) (defScope s_law_greedy) .none kV_law_greedy dc_law_greedy pm_law_greedy an_law_greedy cd_law_greedy ct_law_greedy), sl_law_greedy⟩)
    (c_law_greedy : PySem.W.codeIn K cd_law_greedy "_law_greedy" = true)
    (k_law_greedy : PySem.W.keepIn K (.ref a_law_greedy) = true)
    (n_law_heaviest : PySem.W.nsIn K mainGlobals "_law_heaviest" = some (some (.ref a_law_heaviest)))
    (l_law_heaviest : K.lookup a_law_heaviest = some ⟨oc_law_heaviest, od_law_heaviest, .func (PySem.W.fnOf "_law_heaviest" "_law_heaviest" (defArgs s_law_heaviest) (defBody s_law_heaviest) (defScope s_law_heaviest) .none kV_law_heaviest dc_law_heaviest pm_law_heaviest an_law_heaviest cd_law_heaviest ct_law_heaviest), sl_law_heaviest⟩)
    (c_law_heaviest : PySem.W.codeIn K cd_law_heaviest "_law_heaviest" = true)
    (k_law_heaviest : PySem.W.keepIn K (.ref a_law_heaviest) = true)
    (n_law_sum : PySem.W.nsIn K mainGlobals "_law_sum" = some (some (.ref a_law_sum)))
    (l_law_sum : K.lookup a_law_sum = some ⟨oc_law_sum, od_law_sum, .func (PySem.W.fnOf "_law_sum" "_law_sum" (defArgs s_law_sum) (defBody s_law_sum) (defScope s_law_sum) .none kV_law_sum dc_law_sum pm_law_sum an_law_sum cd_law_sum ct_law_sum), sl_law_sum⟩)
    (c_law_sum : PySem.W.codeIn K cd_law_sum "_law_sum" = true)
    (k_law_sum : PySem.W.keepIn K (.ref a_law_sum) = true)
    (n_law_mask : PySem.W.nsIn K mainGlobals "_law_mask" = some (some (.ref a_law_mask)))
    (l_law_mask : K.lookup a_law_mask = some ⟨oc_law_mask, od_law_mask, .func (PySem.W.fnOf "_law_mask" "_law_mask" (defArgs s_law_mask) (defBody s_law_mask) (defScope s_law_mask) .none kV_law_mask dc_law_mask pm_law_mask an_law_mask cd_law_mask ct_law_mask), sl_law_mask⟩)
    (c_law_mask : PySem.W.codeIn K cd_law_mask "_law_mask" = true)
    (k_law_mask : PySem.W.keepIn K (.ref a_law_mask) = true)
    (n_law_weighs : PySem.W.nsIn K mainGlobals "_law_weighs" = some (some (.ref a_law_weighs)))
    (l_law_weighs : K.lookup a_law_weighs = some ⟨oc_law_weighs, od_law_weighs, .func (PySem.W.fnOf "_law_weighs" "_law_weighs" (defArgs s_law_weighs) (defBody s_law_weighs) (defScope s_law_weighs) .none kV_law_weighs dc_law_weighs pm_law_weighs an_law_weighs cd_law_weighs ct_law_weighs), sl_law_weighs⟩)
    (c_law_weighs : PySem.W.codeIn K cd_law_weighs "_law_weighs" = true)
    (k_law_weighs : PySem.W.keepIn K (.ref a_law_weighs) = true)
    (n_law_at_least : PySem.W.nsIn K mainGlobals "_law_at_least" = some (some (.ref a_law_at_least)))
    (l_law_at_least : K.lookup a_law_at_least = some ⟨oc_law_at_least, od_law_at_least, .func (PySem.W.fnOf "_law_at_least" "_law_at_least" (defArgs s_law_at_least) (defBody s_law_at_least) (defScope s_law_at_least) .none kV_law_at_least dc_law_at_least pm_law_at_least an_law_at_least cd_law_at_least ct_law_at_least), sl_law_at_least⟩)
    (c_law_at_least : PySem.W.codeIn K cd_law_at_least "_law_at_least" = true)
    (k_law_at_least : PySem.W.keepIn K (.ref a_law_at_least) = true)
    (n_law_tight : PySem.W.nsIn K mainGlobals "_law_tight" = some (some (.ref a_law_tight)))
    (l_law_tight : K.lookup a_law_tight = some ⟨oc_law_tight, od_law_tight, .func (PySem.W.fnOf "_law_tight" "_law_tight" (defArgs s_law_tight) (defBody s_law_tight) (defScope s_law_tight) .none kV_law_tight dc_law_tight pm_law_tight an_law_tight cd_law_tight ct_law_tight), sl_law_tight⟩)
    (c_law_tight : PySem.W.codeIn K cd_law_tight "_law_tight" = true)
    (k_law_tight : PySem.W.keepIn K (.ref a_law_tight) = true)
    (n_law_asked : PySem.W.nsIn K mainGlobals "_law_asked" = some (some (.ref a_law_asked)))
    (l_law_asked : K.lookup a_law_asked = some ⟨oc_law_asked, od_law_asked, .func (PySem.W.fnOf "_law_asked" "_law_asked" (defArgs s_law_asked) (defBody s_law_asked) (defScope s_law_asked) .none kV_law_asked dc_law_asked pm_law_asked an_law_asked cd_law_asked ct_law_asked), sl_law_asked⟩)
    (c_law_asked : PySem.W.codeIn K cd_law_asked "_law_asked" = true)
    (k_law_asked : PySem.W.keepIn K (.ref a_law_asked) = true)
    (n_law : PySem.W.nsIn K mainGlobals "law" = some (some (.ref a_law)))
    (l_law : K.lookup a_law = some ⟨oc_law, od_law, .func (PySem.W.fnOf "law" "law" (defArgs s_law) (defBody s_law) (defScope s_law) .none kV_law dc_law pm_law an_law cd_law ct_law), sl_law⟩)
    (c_law : PySem.W.codeIn K cd_law "law" = true)
    (k_law : PySem.W.keepIn K (.ref a_law) = true)
    (z_isinstance : PySem.W.nsIn K mainGlobals "isinstance" = some none)
    (z_int : PySem.W.nsIn K mainGlobals "int" = some none)
    (z_bool : PySem.W.nsIn K mainGlobals "bool" = some none)
    (z_range : PySem.W.nsIn K mainGlobals "range" = some none)
    (z_len : PySem.W.nsIn K mainGlobals "len" = some none)
    (z_abs : PySem.W.nsIn K mainGlobals "abs" = some none)
    (z_list : PySem.W.nsIn K mainGlobals "list" = some none)
    (z_tuple : PySem.W.nsIn K mainGlobals "tuple" = some none)
    (z_enumerate : PySem.W.nsIn K mainGlobals "enumerate" = some none)
    (z_any : PySem.W.nsIn K mainGlobals "any" = some none)
    (z_all : PySem.W.nsIn K mainGlobals "all" = some none)
    (z_sum : PySem.W.nsIn K mainGlobals "sum" = some none)
    (z_sorted : PySem.W.nsIn K mainGlobals "sorted" = some none)
    (z_set : PySem.W.nsIn K mainGlobals "set" = some none)
    (z_reversed : PySem.W.nsIn K mainGlobals "reversed" = some none)
    (v_MOST_THINGS : PySem.W.nsIn K mainGlobals "MOST_THINGS" = some (some (.int 6 t_MOST_THINGS)))
    (v_combinations : PySem.W.nsIn K mainGlobals "combinations" = some (some (.type "itertools.combinations")))
    (v_gcd : PySem.W.nsIn K mainGlobals "gcd" = some (some (.builtin "math.gcd")))
    (is_Frac : PySem.W.isClsIn K C_Frac = true)
    (ty_Frac : PySem.W.typeIn K (.ref C_Frac) = some (.type "type"))
    (is_Family : PySem.W.isClsIn K C_Family = true)
    (ty_Family : PySem.W.typeIn K (.ref C_Family) = some (.type "type"))
    (sb_F_list : PySem.W.subIn K (.ref C_Frac) (.type "list") = some false)
    (sb_F_tuple : PySem.W.subIn K (.ref C_Frac) (.type "tuple") = some false)
    (sb_int_F : PySem.W.subIn K (.type "int") (.ref C_Frac) = some false)
    (sb_none_F : PySem.W.subIn K (.type "NoneType") (.ref C_Frac) = some false)
    : Txt K mg ⟨C_Frac, C_Family, a_is_whole, a_is_within, a_is_ascending, a_Frac_init, a_Frac_add, a_Frac_is_below, a_as_frac, a_total, a_parts_of, a_all_sets, a_is_part, a_touches, a_joined, a_rest_of, a_is_above_0, a_first_greatest, a_greedy_set, a_heaviest_set, a_set_weight, a_quotient, a_clean_sets, a_closed_sets, a_Family_init, a_Family_addable, a_law_draw, a_law_low, a_law_whole, a_law_things, a_law_order, a_law_by_tops, a_law_by_classes, a_law_by_words, a_law_size, a_law_odd, a_law_family, a_law_adds, a_law_fault, a_law_told, a_law_given, a_law_weight, a_law_weights, a_law_scaled, a_law_greedy, a_law_heaviest, a_law_sum, a_law_mask, a_law_weighs, a_law_at_least, a_law_tight, a_law_asked, a_law, PySem.W.fnOf "is_whole" "is_whole" (defArgs s_is_whole) (defBody s_is_whole) (defScope s_is_whole) .none kV_is_whole dc_is_whole pm_is_whole an_is_whole cd_is_whole ct_is_whole, PySem.W.fnOf "is_within" "is_within" (defArgs s_is_within) (defBody s_is_within) (defScope s_is_within) .none kV_is_within dc_is_within pm_is_within an_is_within cd_is_within ct_is_within, PySem.W.fnOf "is_ascending" "is_ascending" (defArgs s_is_ascending) (defBody s_is_ascending) (defScope s_is_ascending) .none kV_is_ascending dc_is_ascending pm_is_ascending an_is_ascending cd_is_ascending ct_is_ascending, PySem.W.fnOf "__init__" "Frac.__init__" (defArgs s_Frac_init) (defBody s_Frac_init) (defScope s_Frac_init) (.ref T_Frac_init) kV_Frac_init dc_Frac_init pm_Frac_init an_Frac_init cd_Frac_init ct_Frac_init, PySem.W.fnOf "__add__" "Frac.__add__" (defArgs s_Frac_add) (defBody s_Frac_add) (defScope s_Frac_add) .none kV_Frac_add dc_Frac_add pm_Frac_add an_Frac_add cd_Frac_add ct_Frac_add, PySem.W.fnOf "is_below" "Frac.is_below" (defArgs s_Frac_is_below) (defBody s_Frac_is_below) (defScope s_Frac_is_below) .none kV_Frac_is_below dc_Frac_is_below pm_Frac_is_below an_Frac_is_below cd_Frac_is_below ct_Frac_is_below, PySem.W.fnOf "as_frac" "as_frac" (defArgs s_as_frac) (defBody s_as_frac) (defScope s_as_frac) .none kV_as_frac dc_as_frac pm_as_frac an_as_frac cd_as_frac ct_as_frac, PySem.W.fnOf "total" "total" (defArgs s_total) (defBody s_total) (defScope s_total) .none kV_total dc_total pm_total an_total cd_total ct_total, PySem.W.fnOf "parts_of" "parts_of" (defArgs s_parts_of) (defBody s_parts_of) (defScope s_parts_of) .none kV_parts_of dc_parts_of pm_parts_of an_parts_of cd_parts_of ct_parts_of, PySem.W.fnOf "all_sets" "all_sets" (defArgs s_all_sets) (defBody s_all_sets) (defScope s_all_sets) .none kV_all_sets dc_all_sets pm_all_sets an_all_sets cd_all_sets ct_all_sets, PySem.W.fnOf "is_part" "is_part" (defArgs s_is_part) (defBody s_is_part) (defScope s_is_part) .none kV_is_part dc_is_part pm_is_part an_is_part cd_is_part ct_is_part, PySem.W.fnOf "touches" "touches" (defArgs s_touches) (defBody s_touches) (defScope s_touches) .none kV_touches dc_touches pm_touches an_touches cd_touches ct_touches, PySem.W.fnOf "joined" "joined" (defArgs s_joined) (defBody s_joined) (defScope s_joined) .none kV_joined dc_joined pm_joined an_joined cd_joined ct_joined, PySem.W.fnOf "rest_of" "rest_of" (defArgs s_rest_of) (defBody s_rest_of) (defScope s_rest_of) .none kV_rest_of dc_rest_of pm_rest_of an_rest_of cd_rest_of ct_rest_of, PySem.W.fnOf "is_above_0" "is_above_0" (defArgs s_is_above_0) (defBody s_is_above_0) (defScope s_is_above_0) .none kV_is_above_0 dc_is_above_0 pm_is_above_0 an_is_above_0 cd_is_above_0 ct_is_above_0, PySem.W.fnOf "first_greatest" "first_greatest" (defArgs s_first_greatest) (defBody s_first_greatest) (defScope s_first_greatest) .none kV_first_greatest dc_first_greatest pm_first_greatest an_first_greatest cd_first_greatest ct_first_greatest, PySem.W.fnOf "greedy_set" "greedy_set" (defArgs s_greedy_set) (defBody s_greedy_set) (defScope s_greedy_set) .none kV_greedy_set dc_greedy_set pm_greedy_set an_greedy_set cd_greedy_set ct_greedy_set, PySem.W.fnOf "heaviest_set" "heaviest_set" (defArgs s_heaviest_set) (defBody s_heaviest_set) (defScope s_heaviest_set) .none kV_heaviest_set dc_heaviest_set pm_heaviest_set an_heaviest_set cd_heaviest_set ct_heaviest_set, PySem.W.fnOf "set_weight" "set_weight" (defArgs s_set_weight) (defBody s_set_weight) (defScope s_set_weight) .none kV_set_weight dc_set_weight pm_set_weight an_set_weight cd_set_weight ct_set_weight, PySem.W.fnOf "quotient" "quotient" (defArgs s_quotient) (defBody s_quotient) (defScope s_quotient) .none kV_quotient dc_quotient pm_quotient an_quotient cd_quotient ct_quotient, PySem.W.fnOf "clean_sets" "clean_sets" (defArgs s_clean_sets) (defBody s_clean_sets) (defScope s_clean_sets) .none kV_clean_sets dc_clean_sets pm_clean_sets an_clean_sets cd_clean_sets ct_clean_sets, PySem.W.fnOf "closed_sets" "closed_sets" (defArgs s_closed_sets) (defBody s_closed_sets) (defScope s_closed_sets) .none kV_closed_sets dc_closed_sets pm_closed_sets an_closed_sets cd_closed_sets ct_closed_sets, PySem.W.fnOf "__init__" "Family.__init__" (defArgs s_Family_init) (defBody s_Family_init) (defScope s_Family_init) .none kV_Family_init dc_Family_init pm_Family_init an_Family_init cd_Family_init ct_Family_init, PySem.W.fnOf "addable" "Family.addable" (defArgs s_Family_addable) (defBody s_Family_addable) (defScope s_Family_addable) .none kV_Family_addable dc_Family_addable pm_Family_addable an_Family_addable cd_Family_addable ct_Family_addable, PySem.W.fnOf "_law_draw" "_law_draw" (defArgs s_law_draw) (defBody s_law_draw) (defScope s_law_draw) .none kV_law_draw dc_law_draw pm_law_draw an_law_draw cd_law_draw ct_law_draw, PySem.W.fnOf "_law_low" "_law_low" (defArgs s_law_low) (defBody s_law_low) (defScope s_law_low) .none kV_law_low dc_law_low pm_law_low an_law_low cd_law_low ct_law_low, PySem.W.fnOf "_law_whole" "_law_whole" (defArgs s_law_whole) (defBody s_law_whole) (defScope s_law_whole) .none kV_law_whole dc_law_whole pm_law_whole an_law_whole cd_law_whole ct_law_whole, PySem.W.fnOf "_law_things" "_law_things" (defArgs s_law_things) (defBody s_law_things) (defScope s_law_things) .none kV_law_things dc_law_things pm_law_things an_law_things cd_law_things ct_law_things, PySem.W.fnOf "_law_order" "_law_order" (defArgs s_law_order) (defBody s_law_order) (defScope s_law_order) .none kV_law_order dc_law_order pm_law_order an_law_order cd_law_order ct_law_order, PySem.W.fnOf "_law_by_tops" "_law_by_tops" (defArgs s_law_by_tops) (defBody s_law_by_tops) (defScope s_law_by_tops) .none kV_law_by_tops dc_law_by_tops pm_law_by_tops an_law_by_tops cd_law_by_tops ct_law_by_tops, PySem.W.fnOf "_law_by_classes" "_law_by_classes" (defArgs s_law_by_classes) (defBody s_law_by_classes) (defScope s_law_by_classes) .none kV_law_by_classes dc_law_by_classes pm_law_by_classes an_law_by_classes cd_law_by_classes ct_law_by_classes, PySem.W.fnOf "_law_by_words" "_law_by_words" (defArgs s_law_by_words) (defBody s_law_by_words) (defScope s_law_by_words) .none kV_law_by_words dc_law_by_words pm_law_by_words an_law_by_words cd_law_by_words ct_law_by_words, PySem.W.fnOf "_law_size" "_law_size" (defArgs s_law_size) (defBody s_law_size) (defScope s_law_size) .none kV_law_size dc_law_size pm_law_size an_law_size cd_law_size ct_law_size, PySem.W.fnOf "_law_odd" "_law_odd" (defArgs s_law_odd) (defBody s_law_odd) (defScope s_law_odd) .none kV_law_odd dc_law_odd pm_law_odd an_law_odd cd_law_odd ct_law_odd, PySem.W.fnOf "_law_family" "_law_family" (defArgs s_law_family) (defBody s_law_family) (defScope s_law_family) .none kV_law_family dc_law_family pm_law_family an_law_family cd_law_family ct_law_family, PySem.W.fnOf "_law_adds" "_law_adds" (defArgs s_law_adds) (defBody s_law_adds) (defScope s_law_adds) .none kV_law_adds dc_law_adds pm_law_adds an_law_adds cd_law_adds ct_law_adds, PySem.W.fnOf "_law_fault" "_law_fault" (defArgs s_law_fault) (defBody s_law_fault) (defScope s_law_fault) .none kV_law_fault dc_law_fault pm_law_fault an_law_fault cd_law_fault ct_law_fault, PySem.W.fnOf "_law_told" "_law_told" (defArgs s_law_told) (defBody s_law_told) (defScope s_law_told) .none kV_law_told dc_law_told pm_law_told an_law_told cd_law_told ct_law_told, PySem.W.fnOf "_law_given" "_law_given" (defArgs s_law_given) (defBody s_law_given) (defScope s_law_given) .none kV_law_given dc_law_given pm_law_given an_law_given cd_law_given ct_law_given, PySem.W.fnOf "_law_weight" "_law_weight" (defArgs s_law_weight) (defBody s_law_weight) (defScope s_law_weight) .none kV_law_weight dc_law_weight pm_law_weight an_law_weight cd_law_weight ct_law_weight, PySem.W.fnOf "_law_weights" "_law_weights" (defArgs s_law_weights) (defBody s_law_weights) (defScope s_law_weights) .none kV_law_weights dc_law_weights pm_law_weights an_law_weights cd_law_weights ct_law_weights, PySem.W.fnOf "_law_scaled" "_law_scaled" (defArgs s_law_scaled) (defBody s_law_scaled) (defScope s_law_scaled) .none kV_law_scaled dc_law_scaled pm_law_scaled an_law_scaled cd_law_scaled ct_law_scaled, PySem.W.fnOf "_law_greedy" "_law_greedy" (defArgs s_law_greedy) (defBody s_law_greedy) (defScope s_law_greedy) .none kV_law_greedy dc_law_greedy pm_law_greedy an_law_greedy cd_law_greedy ct_law_greedy, PySem.W.fnOf "_law_heaviest" "_law_heaviest" (defArgs s_law_heaviest) (defBody s_law_heaviest) (defScope s_law_heaviest) .none kV_law_heaviest dc_law_heaviest pm_law_heaviest an_law_heaviest cd_law_heaviest ct_law_heaviest, PySem.W.fnOf "_law_sum" "_law_sum" (defArgs s_law_sum) (defBody s_law_sum) (defScope s_law_sum) .none kV_law_sum dc_law_sum pm_law_sum an_law_sum cd_law_sum ct_law_sum, PySem.W.fnOf "_law_mask" "_law_mask" (defArgs s_law_mask) (defBody s_law_mask) (defScope s_law_mask) .none kV_law_mask dc_law_mask pm_law_mask an_law_mask cd_law_mask ct_law_mask, PySem.W.fnOf "_law_weighs" "_law_weighs" (defArgs s_law_weighs) (defBody s_law_weighs) (defScope s_law_weighs) .none kV_law_weighs dc_law_weighs pm_law_weighs an_law_weighs cd_law_weighs ct_law_weighs, PySem.W.fnOf "_law_at_least" "_law_at_least" (defArgs s_law_at_least) (defBody s_law_at_least) (defScope s_law_at_least) .none kV_law_at_least dc_law_at_least pm_law_at_least an_law_at_least cd_law_at_least ct_law_at_least, PySem.W.fnOf "_law_tight" "_law_tight" (defArgs s_law_tight) (defBody s_law_tight) (defScope s_law_tight) .none kV_law_tight dc_law_tight pm_law_tight an_law_tight cd_law_tight ct_law_tight, PySem.W.fnOf "_law_asked" "_law_asked" (defArgs s_law_asked) (defBody s_law_asked) (defScope s_law_asked) .none kV_law_asked dc_law_asked pm_law_asked an_law_asked cd_law_asked ct_law_asked, PySem.W.fnOf "law" "law" (defArgs s_law) (defBody s_law) (defScope s_law) .none kV_law dc_law pm_law an_law cd_law ct_law⟩ :=
  { mg_Frac := PySem.W.mg_of X G hC_Frac
    mg_Family := PySem.W.mg_of X G hC_Family
    cl_Frac := ⟨pg_Frac, hd_Frac, po_Frac, sa_Frac⟩
    na_Frac_num := na_Frac_num
    na_Frac_den := na_Frac_den
    cg_Frac := cg_Frac
    mr_Frac := mr_Frac
    sf_Frac := sf_Frac
    cl_Family := ⟨pg_Family, hd_Family, po_Family, sa_Family⟩
    na_Family_sets := na_Family_sets
    na_Family_size := na_Family_size
    cg_Family := cg_Family
    mr_Family := mr_Family
    cget := cget
    ctk := ctk
    mg_is_whole := PySem.W.mg_of X G n_is_whole
    fn_is_whole := fun_mk (st := s_is_whole) l_is_whole c_is_whole k_is_whole
    b_is_whole := (fun_mk (st := s_is_whole) l_is_whole c_is_whole k_is_whole).binds (ps := ["value"]) fun _ _ _ _ _ _ us hl => match us, hl with | [_], _ => rfl
    mg_is_within := PySem.W.mg_of X G n_is_within
    fn_is_within := fun_mk (st := s_is_within) l_is_within c_is_within k_is_within
    b_is_within := (fun_mk (st := s_is_within) l_is_within c_is_within k_is_within).binds (ps := ["value", "least", "most"]) fun _ _ _ _ _ _ us hl => match us, hl with | [_, _, _], _ => rfl
    mg_is_ascending := PySem.W.mg_of X G n_is_ascending
    fn_is_ascending := fun_mk (st := s_is_ascending) l_is_ascending c_is_ascending k_is_ascending
    b_is_ascending := (fun_mk (st := s_is_ascending) l_is_ascending c_is_ascending k_is_ascending).binds (ps := ["value", "size"]) fun _ _ _ _ _ _ us hl => match us, hl with | [_, _], _ => rfl
    fn_Frac_init := ⟨⟨_, _, _, _, _, _, _, _, _, _, rfl, l_Frac_init, c_Frac_init, .inr ⟨by simp, T_Frac_init, _, _, _, rfl, t_Frac_init, u_Frac_init, .cons ⟨_, rfl⟩ (.nil)⟩, .inl rfl⟩, k_Frac_init⟩
    mt_Frac_init := ⟨f_Frac_init, i_Frac_init, k_Frac_init⟩
    fn_Frac_add := fun_mk (st := s_Frac_add) l_Frac_add c_Frac_add k_Frac_add
    b_Frac_add := (fun_mk (st := s_Frac_add) l_Frac_add c_Frac_add k_Frac_add).binds (ps := ["self", "other"]) fun _ _ _ _ _ _ us hl => match us, hl with | [_, _], _ => rfl
    mt_Frac_add := ⟨f_Frac_add, i_Frac_add, k_Frac_add⟩
    fn_Frac_is_below := fun_mk (st := s_Frac_is_below) l_Frac_is_below c_Frac_is_below k_Frac_is_below
    b_Frac_is_below := (fun_mk (st := s_Frac_is_below) l_Frac_is_below c_Frac_is_below k_Frac_is_below).binds (ps := ["self", "other"]) fun _ _ _ _ _ _ us hl => match us, hl with | [_, _], _ => rfl
    mt_Frac_is_below := ⟨f_Frac_is_below, i_Frac_is_below, k_Frac_is_below⟩
    mg_as_frac := PySem.W.mg_of X G n_as_frac
    fn_as_frac := fun_mk (st := s_as_frac) l_as_frac c_as_frac k_as_frac
    b_as_frac := (fun_mk (st := s_as_frac) l_as_frac c_as_frac k_as_frac).binds (ps := ["value"]) fun _ _ _ _ _ _ us hl => match us, hl with | [_], _ => rfl
    mg_total := PySem.W.mg_of X G n_total
    fn_total := fun_mk (st := s_total) l_total c_total k_total
    b_total := (fun_mk (st := s_total) l_total c_total k_total).binds (ps := ["fracs"]) fun _ _ _ _ _ _ us hl => match us, hl with | [_], _ => rfl
    mg_parts_of := PySem.W.mg_of X G n_parts_of
    fn_parts_of := fun_mk (st := s_parts_of) l_parts_of c_parts_of k_parts_of
    b_parts_of := (fun_mk (st := s_parts_of) l_parts_of c_parts_of k_parts_of).binds (ps := ["things"]) fun _ _ _ _ _ _ us hl => match us, hl with | [_], _ => rfl
    mg_all_sets := PySem.W.mg_of X G n_all_sets
    fn_all_sets := fun_mk (st := s_all_sets) l_all_sets c_all_sets k_all_sets
    b_all_sets := (fun_mk (st := s_all_sets) l_all_sets c_all_sets k_all_sets).binds (ps := ["size"]) fun _ _ _ _ _ _ us hl => match us, hl with | [_], _ => rfl
    mg_is_part := PySem.W.mg_of X G n_is_part
    fn_is_part := fun_mk (st := s_is_part) l_is_part c_is_part k_is_part
    b_is_part := (fun_mk (st := s_is_part) l_is_part c_is_part k_is_part).binds (ps := ["part", "things"]) fun _ _ _ _ _ _ us hl => match us, hl with | [_, _], _ => rfl
    mg_touches := PySem.W.mg_of X G n_touches
    fn_touches := fun_mk (st := s_touches) l_touches c_touches k_touches
    b_touches := (fun_mk (st := s_touches) l_touches c_touches k_touches).binds (ps := ["one", "other"]) fun _ _ _ _ _ _ us hl => match us, hl with | [_, _], _ => rfl
    mg_joined := PySem.W.mg_of X G n_joined
    fn_joined := fun_mk (st := s_joined) l_joined c_joined k_joined
    b_joined := (fun_mk (st := s_joined) l_joined c_joined k_joined).binds (ps := ["one", "other"]) fun _ _ _ _ _ _ us hl => match us, hl with | [_, _], _ => rfl
    mg_rest_of := PySem.W.mg_of X G n_rest_of
    fn_rest_of := fun_mk (st := s_rest_of) l_rest_of c_rest_of k_rest_of
    b_rest_of := (fun_mk (st := s_rest_of) l_rest_of c_rest_of k_rest_of).binds (ps := ["things", "out"]) fun _ _ _ _ _ _ us hl => match us, hl with | [_, _], _ => rfl
    mg_is_above_0 := PySem.W.mg_of X G n_is_above_0
    fn_is_above_0 := fun_mk (st := s_is_above_0) l_is_above_0 c_is_above_0 k_is_above_0
    b_is_above_0 := (fun_mk (st := s_is_above_0) l_is_above_0 c_is_above_0 k_is_above_0).binds (ps := ["weight"]) fun _ _ _ _ _ _ us hl => match us, hl with | [_], _ => rfl
    mg_first_greatest := PySem.W.mg_of X G n_first_greatest
    fn_first_greatest := fun_mk (st := s_first_greatest) l_first_greatest c_first_greatest k_first_greatest
    b_first_greatest := (fun_mk (st := s_first_greatest) l_first_greatest c_first_greatest k_first_greatest).binds (ps := ["things", "weights"]) fun _ _ _ _ _ _ us hl => match us, hl with | [_, _], _ => rfl
    mg_greedy_set := PySem.W.mg_of X G n_greedy_set
    fn_greedy_set := fun_mk (st := s_greedy_set) l_greedy_set c_greedy_set k_greedy_set
    b_greedy_set := (fun_mk (st := s_greedy_set) l_greedy_set c_greedy_set k_greedy_set).binds (ps := ["family", "weights"]) fun _ _ _ _ _ _ us hl => match us, hl with | [_, _], _ => rfl
    mg_heaviest_set := PySem.W.mg_of X G n_heaviest_set
    fn_heaviest_set := fun_mk (st := s_heaviest_set) l_heaviest_set c_heaviest_set k_heaviest_set
    b_heaviest_set := (fun_mk (st := s_heaviest_set) l_heaviest_set c_heaviest_set k_heaviest_set).binds (ps := ["family", "weights"]) fun _ _ _ _ _ _ us hl => match us, hl with | [_, _], _ => rfl
    mg_set_weight := PySem.W.mg_of X G n_set_weight
    fn_set_weight := fun_mk (st := s_set_weight) l_set_weight c_set_weight k_set_weight
    b_set_weight := (fun_mk (st := s_set_weight) l_set_weight c_set_weight k_set_weight).binds (ps := ["weights", "things"]) fun _ _ _ _ _ _ us hl => match us, hl with | [_, _], _ => rfl
    mg_quotient := PySem.W.mg_of X G n_quotient
    fn_quotient := fun_mk (st := s_quotient) l_quotient c_quotient k_quotient
    b_quotient := (fun_mk (st := s_quotient) l_quotient c_quotient k_quotient).binds (ps := ["family"]) fun _ _ _ _ _ _ us hl => match us, hl with | [_], _ => rfl
    mg_clean_sets := PySem.W.mg_of X G n_clean_sets
    fn_clean_sets := fun_mk (st := s_clean_sets) l_clean_sets c_clean_sets k_clean_sets
    b_clean_sets := (fun_mk (st := s_clean_sets) l_clean_sets c_clean_sets k_clean_sets).binds (ps := ["size", "sets"]) fun _ _ _ _ _ _ us hl => match us, hl with | [_, _], _ => rfl
    mg_closed_sets := PySem.W.mg_of X G n_closed_sets
    fn_closed_sets := fun_mk (st := s_closed_sets) l_closed_sets c_closed_sets k_closed_sets
    b_closed_sets := (fun_mk (st := s_closed_sets) l_closed_sets c_closed_sets k_closed_sets).binds (ps := ["size", "sets"]) fun _ _ _ _ _ _ us hl => match us, hl with | [_, _], _ => rfl
    fn_Family_init := fun_mk (st := s_Family_init) l_Family_init c_Family_init k_Family_init
    b_Family_init := (fun_mk (st := s_Family_init) l_Family_init c_Family_init k_Family_init).binds (ps := ["self", "size", "sets"]) fun _ _ _ _ _ _ us hl => match us, hl with | [_, _, _], _ => rfl
    mt_Family_init := ⟨f_Family_init, i_Family_init, k_Family_init⟩
    fn_Family_addable := fun_mk (st := s_Family_addable) l_Family_addable c_Family_addable k_Family_addable
    b_Family_addable := (fun_mk (st := s_Family_addable) l_Family_addable c_Family_addable k_Family_addable).binds (ps := ["self", "taken"]) fun _ _ _ _ _ _ us hl => match us, hl with | [_, _], _ => rfl
    mt_Family_addable := ⟨f_Family_addable, i_Family_addable, k_Family_addable⟩
    mg_law_draw := PySem.W.mg_of X G n_law_draw
    fn_law_draw := fun_mk (st := s_law_draw) l_law_draw c_law_draw k_law_draw
    b_law_draw := (fun_mk (st := s_law_draw) l_law_draw c_law_draw k_law_draw).binds (ps := ["feed", "many"]) fun _ _ _ _ _ _ us hl => match us, hl with | [_, _], _ => rfl
    mg_law_low := PySem.W.mg_of X G n_law_low
    fn_law_low := fun_mk (st := s_law_low) l_law_low c_law_low k_law_low
    b_law_low := (fun_mk (st := s_law_low) l_law_low c_law_low k_law_low).binds (ps := ["num", "den"]) fun _ _ _ _ _ _ us hl => match us, hl with | [_, _], _ => rfl
    mg_law_whole := PySem.W.mg_of X G n_law_whole
    fn_law_whole := fun_mk (st := s_law_whole) l_law_whole c_law_whole k_law_whole
    b_law_whole := (fun_mk (st := s_law_whole) l_law_whole c_law_whole k_law_whole).binds (ps := ["found"]) fun _ _ _ _ _ _ us hl => match us, hl with | [_], _ => rfl
    mg_law_things := PySem.W.mg_of X G n_law_things
    fn_law_things := fun_mk (st := s_law_things) l_law_things c_law_things k_law_things
    b_law_things := (fun_mk (st := s_law_things) l_law_things c_law_things k_law_things).binds (ps := ["mask"]) fun _ _ _ _ _ _ us hl => match us, hl with | [_], _ => rfl
    mg_law_order := PySem.W.mg_of X G n_law_order
    fn_law_order := fun_mk (st := s_law_order) l_law_order c_law_order k_law_order
    b_law_order := (fun_mk (st := s_law_order) l_law_order c_law_order k_law_order).binds (ps := ["size", "inside"]) fun _ _ _ _ _ _ us hl => match us, hl with | [_, _], _ => rfl
    mg_law_by_tops := PySem.W.mg_of X G n_law_by_tops
    fn_law_by_tops := fun_mk (st := s_law_by_tops) l_law_by_tops c_law_by_tops k_law_by_tops
    b_law_by_tops := (fun_mk (st := s_law_by_tops) l_law_by_tops c_law_by_tops k_law_by_tops).binds (ps := ["feed", "size"]) fun _ _ _ _ _ _ us hl => match us, hl with | [_, _], _ => rfl
    mg_law_by_classes := PySem.W.mg_of X G n_law_by_classes
    fn_law_by_classes := fun_mk (st := s_law_by_classes) l_law_by_classes c_law_by_classes k_law_by_classes
    b_law_by_classes := (fun_mk (st := s_law_by_classes) l_law_by_classes c_law_by_classes k_law_by_classes).binds (ps := ["feed", "size"]) fun _ _ _ _ _ _ us hl => match us, hl with | [_, _], _ => rfl
    mg_law_by_words := PySem.W.mg_of X G n_law_by_words
    fn_law_by_words := fun_mk (st := s_law_by_words) l_law_by_words c_law_by_words k_law_by_words
    b_law_by_words := (fun_mk (st := s_law_by_words) l_law_by_words c_law_by_words k_law_by_words).binds (ps := ["feed", "size"]) fun _ _ _ _ _ _ us hl => match us, hl with | [_, _], _ => rfl
    mg_law_size := PySem.W.mg_of X G n_law_size
    fn_law_size := fun_mk (st := s_law_size) l_law_size c_law_size k_law_size
    b_law_size := (fun_mk (st := s_law_size) l_law_size c_law_size k_law_size).binds (ps := ["feed", "most"]) fun _ _ _ _ _ _ us hl => match us, hl with | [_, _], _ => rfl
    mg_law_odd := PySem.W.mg_of X G n_law_odd
    fn_law_odd := fun_mk (st := s_law_odd) l_law_odd c_law_odd k_law_odd
    b_law_odd := (fun_mk (st := s_law_odd) l_law_odd c_law_odd k_law_odd).binds (ps := ["feed", "size"]) fun _ _ _ _ _ _ us hl => match us, hl with | [_, _], _ => rfl
    mg_law_family := PySem.W.mg_of X G n_law_family
    fn_law_family := fun_mk (st := s_law_family) l_law_family c_law_family k_law_family
    b_law_family := (fun_mk (st := s_law_family) l_law_family c_law_family k_law_family).binds (ps := ["feed", "size"]) fun _ _ _ _ _ _ us hl => match us, hl with | [_, _], _ => rfl
    mg_law_adds := PySem.W.mg_of X G n_law_adds
    fn_law_adds := fun_mk (st := s_law_adds) l_law_adds c_law_adds k_law_adds
    b_law_adds := (fun_mk (st := s_law_adds) l_law_adds c_law_adds k_law_adds).binds (ps := ["family", "mask"]) fun _ _ _ _ _ _ us hl => match us, hl with | [_, _], _ => rfl
    mg_law_fault := PySem.W.mg_of X G n_law_fault
    fn_law_fault := fun_mk (st := s_law_fault) l_law_fault c_law_fault k_law_fault
    b_law_fault := (fun_mk (st := s_law_fault) l_law_fault c_law_fault k_law_fault).binds (ps := ["family"]) fun _ _ _ _ _ _ us hl => match us, hl with | [_], _ => rfl
    mg_law_told := PySem.W.mg_of X G n_law_told
    fn_law_told := fun_mk (st := s_law_told) l_law_told c_law_told k_law_told
    b_law_told := (fun_mk (st := s_law_told) l_law_told c_law_told k_law_told).binds (ps := ["family", "form"]) fun _ _ _ _ _ _ us hl => match us, hl with | [_, _], _ => rfl
    mg_law_given := PySem.W.mg_of X G n_law_given
    fn_law_given := fun_mk (st := s_law_given) l_law_given c_law_given k_law_given
    b_law_given := (fun_mk (st := s_law_given) l_law_given c_law_given k_law_given).binds (ps := ["pair", "plain"]) fun _ _ _ _ _ _ us hl => match us, hl with | [_, _], _ => rfl
    mg_law_weight := PySem.W.mg_of X G n_law_weight
    fn_law_weight := fun_mk (st := s_law_weight) l_law_weight c_law_weight k_law_weight
    b_law_weight := (fun_mk (st := s_law_weight) l_law_weight c_law_weight k_law_weight).binds (ps := ["feed", "earlier"]) fun _ _ _ _ _ _ us hl => match us, hl with | [_, _], _ => rfl
    mg_law_weights := PySem.W.mg_of X G n_law_weights
    fn_law_weights := fun_mk (st := s_law_weights) l_law_weights c_law_weights k_law_weights
    b_law_weights := (fun_mk (st := s_law_weights) l_law_weights c_law_weights k_law_weights).binds (ps := ["feed", "size"]) fun _ _ _ _ _ _ us hl => match us, hl with | [_, _], _ => rfl
    mg_law_scaled := PySem.W.mg_of X G n_law_scaled
    fn_law_scaled := fun_mk (st := s_law_scaled) l_law_scaled c_law_scaled k_law_scaled
    b_law_scaled := (fun_mk (st := s_law_scaled) l_law_scaled c_law_scaled k_law_scaled).binds (ps := ["weights"]) fun _ _ _ _ _ _ us hl => match us, hl with | [_], _ => rfl
    mg_law_greedy := PySem.W.mg_of X G n_law_greedy
    fn_law_greedy := fun_mk (st := s_law_greedy) l_law_greedy c_law_greedy k_law_greedy
    b_law_greedy := (fun_mk (st := s_law_greedy) l_law_greedy c_law_greedy k_law_greedy).binds (ps := ["family", "mask", "weights"]) fun _ _ _ _ _ _ us hl => match us, hl with | [_, _, _], _ => rfl
    mg_law_heaviest := PySem.W.mg_of X G n_law_heaviest
    fn_law_heaviest := fun_mk (st := s_law_heaviest) l_law_heaviest c_law_heaviest k_law_heaviest
    b_law_heaviest := (fun_mk (st := s_law_heaviest) l_law_heaviest c_law_heaviest k_law_heaviest).binds (ps := ["family", "mask", "weights"]) fun _ _ _ _ _ _ us hl => match us, hl with | [_, _, _], _ => rfl
    mg_law_sum := PySem.W.mg_of X G n_law_sum
    fn_law_sum := fun_mk (st := s_law_sum) l_law_sum c_law_sum k_law_sum
    b_law_sum := (fun_mk (st := s_law_sum) l_law_sum c_law_sum k_law_sum).binds (ps := ["weights", "mask"]) fun _ _ _ _ _ _ us hl => match us, hl with | [_, _], _ => rfl
    mg_law_mask := PySem.W.mg_of X G n_law_mask
    fn_law_mask := fun_mk (st := s_law_mask) l_law_mask c_law_mask k_law_mask
    b_law_mask := (fun_mk (st := s_law_mask) l_law_mask c_law_mask k_law_mask).binds (ps := ["found", "size"]) fun _ _ _ _ _ _ us hl => match us, hl with | [_, _], _ => rfl
    mg_law_weighs := PySem.W.mg_of X G n_law_weighs
    fn_law_weighs := fun_mk (st := s_law_weighs) l_law_weighs c_law_weighs k_law_weighs
    b_law_weighs := (fun_mk (st := s_law_weighs) l_law_weighs c_law_weighs k_law_weighs).binds (ps := ["found", "family", "weights"]) fun _ _ _ _ _ _ us hl => match us, hl with | [_, _, _], _ => rfl
    mg_law_at_least := PySem.W.mg_of X G n_law_at_least
    fn_law_at_least := fun_mk (st := s_law_at_least) l_law_at_least c_law_at_least k_law_at_least
    b_law_at_least := (fun_mk (st := s_law_at_least) l_law_at_least c_law_at_least k_law_at_least).binds (ps := ["program", "family", "weights", "share"]) fun _ _ _ _ _ _ us hl => match us, hl with | [_, _, _, _], _ => rfl
    mg_law_tight := PySem.W.mg_of X G n_law_tight
    fn_law_tight := fun_mk (st := s_law_tight) l_law_tight c_law_tight k_law_tight
    b_law_tight := (fun_mk (st := s_law_tight) l_law_tight c_law_tight k_law_tight).binds (ps := ["program", "family", "found", "many"]) fun _ _ _ _ _ _ us hl => match us, hl with | [_, _, _, _], _ => rfl
    mg_law_asked := PySem.W.mg_of X G n_law_asked
    fn_law_asked := fun_mk (st := s_law_asked) l_law_asked c_law_asked k_law_asked
    b_law_asked := (fun_mk (st := s_law_asked) l_law_asked c_law_asked k_law_asked).binds (ps := ["script"]) fun _ _ _ _ _ _ us hl => match us, hl with | [_], _ => rfl
    mg_law := PySem.W.mg_of X G n_law
    fn_law := fun_mk (st := s_law) l_law c_law k_law
    b_law := (fun_mk (st := s_law) l_law c_law k_law).binds (ps := ["script"]) fun _ _ _ _ _ _ us hl => match us, hl with | [_], _ => rfl
    mk_Frac := ⟨mk_Frac, f_Frac_init, i_Frac_init, kc_Frac⟩
    op_Frac_Add := f_Frac_add
    mk_Family := ⟨mk_Family, f_Family_init, i_Family_init, kc_Family⟩
    no_isinstance := PySem.W.mg_none_of X G z_isinstance
    no_int := PySem.W.mg_none_of X G z_int
    no_bool := PySem.W.mg_none_of X G z_bool
    no_range := PySem.W.mg_none_of X G z_range
    no_len := PySem.W.mg_none_of X G z_len
    no_abs := PySem.W.mg_none_of X G z_abs
    no_list := PySem.W.mg_none_of X G z_list
    no_tuple := PySem.W.mg_none_of X G z_tuple
    no_enumerate := PySem.W.mg_none_of X G z_enumerate
    no_any := PySem.W.mg_none_of X G z_any
    no_all := PySem.W.mg_none_of X G z_all
    no_sum := PySem.W.mg_none_of X G z_sum
    no_sorted := PySem.W.mg_none_of X G z_sorted
    no_set := PySem.W.mg_none_of X G z_set
    no_reversed := PySem.W.mg_none_of X G z_reversed
    mg_MOST_THINGS := ⟨_, PySem.W.mg_of X G v_MOST_THINGS⟩
    mg_combinations := PySem.W.mg_of X G v_combinations
    mg_gcd := PySem.W.mg_of X G v_gcd
    kit_F_F := kit_self
    kit_F_list := kit_bi sb_F_list (by decide +kernel)
    kit_F_tuple := kit_bi sb_F_tuple (by decide +kernel)
    kit_int_F := kit_own is_Frac ty_Frac sb_int_F
    kit_none_F := kit_own is_Frac ty_Frac sb_none_F }
end K37
namespace K37
open PySem PySem.Spec PyProof.Rows L2
theorem all_mk {l : PySem.W.OpenLaw} {w : World} {K : PySem.W.Frag} {mg : Str → Option Value} {fa : Addr} {a : Ad} (T : Txt K mg a) (hfa : mg "law" = some (.ref fa)) (hd : ∀ (s : Shared) (v : Value), BindsTo s a.d_law ⟨[v], []⟩ [("script", v)]) :
    ∃ fd : FuncData, (∀ (s : Shared) (v : Value), BindsTo s fd ⟨[v], []⟩ [("script", v)]) ∧ ∀ base : Heap, K.In base → base.Ns mainGlobals mg → FnOk l.prog w K mg base CX0 10 fa fd ["script"] (spLaw K) := by
  have e := hfa.symm.trans T.mg_law
  cases e
  exact ⟨a.d_law, hd, fun base _ _ => ok_law T⟩
theorem walk {l : PySem.W.OpenLaw} {q : Program} {loose : List Str} {XP : (Str → Option Value) → Heap → Prop} {YP : World → Heap → Prop} {d : DefRec} {K : Params → PySem.W.Frag} (hn : l.most = some 63) (hdf : d.params.defaults = [])
    (hY : ∀ (w : World) (h : Heap), YP w h → (K w.params).In h)
    (F : ∀ (w : World) (mg : Str → Option Value) (fa : Addr) (h : Heap), (K w.params).In h → h.Ns mainGlobals mg → mg d.name = some (.ref fa) →
      ∃ fd : FuncData, (∀ (s : Shared) (u : Value), BindsTo s fd ⟨[u], []⟩ [("script", u)]) ∧ ∀ base : Heap, (K w.params).In base → base.Ns mainGlobals mg → FnOk l.prog w (K w.params) mg base CX0 10 fa fd ["script"] (spLaw (K w.params))) :
    PySem.W.WalkO q loose XP YP l.row.toRowW d [] (fun f vs => PySem.call f vs) :=
  L2.walk_of (n := 63) (k := 10) (x := "script") (CX := fun _ => CX0) (sp := fun w => spLaw (K w.params)) hn (by decide) hdf ⟨rfl, by decide, by decide⟩ hY F (fun _ _ a ns hl _ hS => ⟨a, ns, rfl, hS, hl, fun _ => rfl⟩) fun _ _ _ _ _ z => z
end K37
open PySem PySem.W PyProof.Rows
set_option maxRecDepth 100000 in
set_option maxHeartbeats 0 in
theorem PySem.Challenge.cw_greatestnext_k37_whole_greedy_at_least_s_holds : PySem.Challenge.rw_greatestnext_k37_whole_greedy_at_least_s.Holds := by
  w_on; o_law; k_head; (case hw => w_witness2)
  k_fill
  refine K37.walk (l := PySem.Challenge.rw_greatestnext_k37_whole_greedy_at_least_s) rfl rfl (fun w h Y => PySem.W.kIn_of Y) ?F
  case F =>
    intro w mg fa h KX G hmg
    refine' K37.all_mk (K37.txt_mk KX G ?hC_Frac ?hC_Family ?pg_Frac ?hd_Frac ?po_Frac ?sa_Frac ?mk_Frac ?kc_Frac ?na_Frac_num ?na_Frac_den ?cg_Frac ?mr_Frac ?sf_Frac ?pg_Family ?hd_Family ?po_Family ?sa_Family ?mk_Family ?kc_Family ?na_Family_sets ?na_Family_size ?cg_Family ?mr_Family ?cget ?ctk ?n_is_whole ?l_is_whole ?c_is_whole ?k_is_whole ?n_is_within ?l_is_within ?c_is_within ?k_is_within ?n_is_ascending ?l_is_ascending ?c_is_ascending ?k_is_ascending ?f_Frac_init ?i_Frac_init ?l_Frac_init ?c_Frac_init ?k_Frac_init ?t_Frac_init ?u_Frac_init ?f_Frac_add ?i_Frac_add ?l_Frac_add ?c_Frac_add ?k_Frac_add ?f_Frac_is_below ?i_Frac_is_below ?l_Frac_is_below ?c_Frac_is_below ?k_Frac_is_below ?n_as_frac ?l_as_frac ?c_as_frac ?k_as_frac ?n_total ?l_total ?c_total ?k_total ?n_parts_of ?l_parts_of ?c_parts_of ?k_parts_of ?n_all_sets ?l_all_sets ?c_all_sets ?k_all_sets ?n_is_part ?l_is_part ?c_is_part ?k_is_part ?n_touches ?l_touches ?c_touches ?k_touches ?n_joined ?l_joined ?c_joined ?k_joined ?n_rest_of ?l_rest_of ?c_rest_of ?k_rest_of ?n_is_above_0 ?l_is_above_0 ?c_is_above_0 ?k_is_above_0 ?n_first_greatest ?l_first_greatest ?c_first_greatest ?k_first_greatest ?n_greedy_set ?l_greedy_set ?c_greedy_set ?k_greedy_set ?n_heaviest_set ?l_heaviest_set ?c_heaviest_set ?k_heaviest_set ?n_set_weight ?l_set_weight ?c_set_weight ?k_set_weight ?n_quotient ?l_quotient ?c_quotient ?k_quotient ?n_clean_sets ?l_clean_sets ?c_clean_sets ?k_clean_sets ?n_closed_sets ?l_closed_sets ?c_closed_sets ?k_closed_sets ?f_Family_init ?i_Family_init ?l_Family_init ?c_Family_init ?k_Family_init ?f_Family_addable ?i_Family_addable ?l_Family_addable ?c_Family_addable ?k_Family_addable ?n_law_draw ?l_law_draw ?c_law_draw ?k_law_draw ?n_law_low ?l_law_low ?c_law_low ?k_law_low ?n_law_whole ?l_law_whole ?c_law_whole ?k_law_whole ?n_law_things ?l_law_things ?c_law_things ?k_law_things ?n_law_order ?l_law_order ?c_law_order ?k_law_order ?n_law_by_tops ?l_law_by_tops ?c_law_by_tops ?k_law_by_tops ?n_law_by_classes ?l_law_by_classes ?c_law_by_classes ?k_law_by_classes ?n_law_by_words ?l_law_by_words ?c_law_by_words ?k_law_by_words ?n_law_size ?l_law_size ?c_law_size ?k_law_size ?n_law_odd ?l_law_odd ?c_law_odd ?k_law_odd ?n_law_family ?l_law_family ?c_law_family ?k_law_family ?n_law_adds ?l_law_adds ?c_law_adds ?k_law_adds ?n_law_fault ?l_law_fault ?c_law_fault ?k_law_fault ?n_law_told ?l_law_told ?c_law_told ?k_law_told ?n_law_given ?l_law_given ?c_law_given ?k_law_given ?n_law_weight ?l_law_weight ?c_law_weight ?k_law_weight ?n_law_weights ?l_law_weights ?c_law_weights ?k_law_weights ?n_law_scaled ?l_law_scaled ?c_law_scaled ?k_law_scaled ?n_law_greedy ?l_law_greedy ?c_law_greedy ?k_law_greedy ?n_law_heaviest ?l_law_heaviest ?c_law_heaviest ?k_law_heaviest ?n_law_sum ?l_law_sum ?c_law_sum ?k_law_sum ?n_law_mask ?l_law_mask ?c_law_mask ?k_law_mask ?n_law_weighs ?l_law_weighs ?c_law_weighs ?k_law_weighs ?n_law_at_least ?l_law_at_least ?c_law_at_least ?k_law_at_least ?n_law_tight ?l_law_tight ?c_law_tight ?k_law_tight ?n_law_asked ?l_law_asked ?c_law_asked ?k_law_asked ?n_law ?l_law ?c_law ?k_law ?z_isinstance ?z_int ?z_bool ?z_range ?z_len ?z_abs ?z_list ?z_tuple ?z_enumerate ?z_any ?z_all ?z_sum ?z_sorted ?z_set ?z_reversed ?v_MOST_THINGS ?v_combinations ?v_gcd ?is_Frac ?ty_Frac ?is_Family ?ty_Family ?sb_F_list ?sb_F_tuple ?sb_int_F ?sb_none_F) hmg (fun s v => .of_eq rfl)
    (case hC_Frac => k_is)
    (case hC_Family => k_is)
    (case pg_Frac => k_is)
    (case hd_Frac => k_is)
    (case po_Frac => k_is)
    (case sa_Frac => k_is)
    (case mk_Frac => k_is)
    (case kc_Frac => k_is)
    (case na_Frac_num => k_is)
    (case na_Frac_den => k_is)
    (case cg_Frac => k_is)
    (case mr_Frac => k_is)
    (case sf_Frac => k_is)
    (case pg_Family => k_is)
    (case hd_Family => k_is)
    (case po_Family => k_is)
    (case sa_Family => k_is)
    (case mk_Family => k_is)
    (case kc_Family => k_is)
    (case na_Family_sets => k_is)
    (case na_Family_size => k_is)
    (case cg_Family => k_is)
    (case mr_Family => k_is)
    (case cget => k_is)
    (case ctk => k_is)
    (case n_is_whole => k_is)
    (case l_is_whole => k_is)
    (case c_is_whole => k_is)
    (case k_is_whole => k_is)
    (case n_is_within => k_is)
    (case l_is_within => k_is)
    (case c_is_within => k_is)
    (case k_is_within => k_is)
    (case n_is_ascending => k_is)
    (case l_is_ascending => k_is)
    (case c_is_ascending => k_is)
    (case k_is_ascending => k_is)
    (case f_Frac_init => k_is)
    (case i_Frac_init => k_is)
    (case l_Frac_init => k_is)
    (case c_Frac_init => k_is)
    (case k_Frac_init => k_is)
    (case t_Frac_init => k_is)
    (case u_Frac_init => first | rfl | k_is)
    (case f_Frac_add => k_is)
    (case i_Frac_add => k_is)
    (case l_Frac_add => k_is)
    (case c_Frac_add => k_is)
    (case k_Frac_add => k_is)
    (case f_Frac_is_below => k_is)
    (case i_Frac_is_below => k_is)
    (case l_Frac_is_below => k_is)
    (case c_Frac_is_below => k_is)
    (case k_Frac_is_below => k_is)
    (case n_as_frac => k_is)
    (case l_as_frac => k_is)
    (case c_as_frac => k_is)
    (case k_as_frac => k_is)
    (case n_total => k_is)
    (case l_total => k_is)
    (case c_total => k_is)
    (case k_total => k_is)
    (case n_parts_of => k_is)
    (case l_parts_of => k_is)
    (case c_parts_of => k_is)
    (case k_parts_of => k_is)
    (case n_all_sets => k_is)
    (case l_all_sets => k_is)
    (case c_all_sets => k_is)
    (case k_all_sets => k_is)
    (case n_is_part => k_is)
    (case l_is_part => k_is)
    (case c_is_part => k_is)
    (case k_is_part => k_is)
    (case n_touches => k_is)
    (case l_touches => k_is)
    (case c_touches => k_is)
    (case k_touches => k_is)
    (case n_joined => k_is)
    (case l_joined => k_is)
    (case c_joined => k_is)
    (case k_joined => k_is)
    (case n_rest_of => k_is)
    (case l_rest_of => k_is)
    (case c_rest_of => k_is)
    (case k_rest_of => k_is)
    (case n_is_above_0 => k_is)
    (case l_is_above_0 => k_is)
    (case c_is_above_0 => k_is)
    (case k_is_above_0 => k_is)
    (case n_first_greatest => k_is)
    (case l_first_greatest => k_is)
    (case c_first_greatest => k_is)
    (case k_first_greatest => k_is)
    (case n_greedy_set => k_is)
    (case l_greedy_set => k_is)
    (case c_greedy_set => k_is)
    (case k_greedy_set => k_is)
    (case n_heaviest_set => k_is)
    (case l_heaviest_set => k_is)
    (case c_heaviest_set => k_is)
    (case k_heaviest_set => k_is)
    (case n_set_weight => k_is)
    (case l_set_weight => k_is)
    (case c_set_weight => k_is)
    (case k_set_weight => k_is)
    (case n_quotient => k_is)
    (case l_quotient => k_is)
    (case c_quotient => k_is)
    (case k_quotient => k_is)
    (case n_clean_sets => k_is)
    (case l_clean_sets => k_is)
    (case c_clean_sets => k_is)
    (case k_clean_sets => k_is)
    (case n_closed_sets => k_is)
    (case l_closed_sets => k_is)
    (case c_closed_sets => k_is)
    (case k_closed_sets => k_is)
    (case f_Family_init => k_is)
    (case i_Family_init => k_is)
    (case l_Family_init => k_is)
    (case c_Family_init => k_is)
    (case k_Family_init => k_is)
    (case f_Family_addable => k_is)
    (case i_Family_addable => k_is)
    (case l_Family_addable => k_is)
    (case c_Family_addable => k_is)
    (case k_Family_addable => k_is)
    (case n_law_draw => k_is)
    (case l_law_draw => k_is)
    (case c_law_draw => k_is)
    (case k_law_draw => k_is)
    (case n_law_low => k_is)
    (case l_law_low => k_is)
    (case c_law_low => k_is)
    (case k_law_low => k_is)
    (case n_law_whole => k_is)
    (case l_law_whole => k_is)
    (case c_law_whole => k_is)
    (case k_law_whole => k_is)
    (case n_law_things => k_is)
    (case l_law_things => k_is)
    (case c_law_things => k_is)
    (case k_law_things => k_is)
    (case n_law_order => k_is)
    (case l_law_order => k_is)
    (case c_law_order => k_is)
    (case k_law_order => k_is)
    (case n_law_by_tops => k_is)
    (case l_law_by_tops => k_is)
    (case c_law_by_tops => k_is)
    (case k_law_by_tops => k_is)
    (case n_law_by_classes => k_is)
    (case l_law_by_classes => k_is)
    (case c_law_by_classes => k_is)
    (case k_law_by_classes => k_is)
    (case n_law_by_words => k_is)
    (case l_law_by_words => k_is)
    (case c_law_by_words => k_is)
    (case k_law_by_words => k_is)
    (case n_law_size => k_is)
    (case l_law_size => k_is)
    (case c_law_size => k_is)
    (case k_law_size => k_is)
    (case n_law_odd => k_is)
    (case l_law_odd => k_is)
    (case c_law_odd => k_is)
    (case k_law_odd => k_is)
    (case n_law_family => k_is)
    (case l_law_family => k_is)
    (case c_law_family => k_is)
    (case k_law_family => k_is)
    (case n_law_adds => k_is)
    (case l_law_adds => k_is)
    (case c_law_adds => k_is)
    (case k_law_adds => k_is)
    (case n_law_fault => k_is)
    (case l_law_fault => k_is)
    (case c_law_fault => k_is)
    (case k_law_fault => k_is)
    (case n_law_told => k_is)
    (case l_law_told => k_is)
    (case c_law_told => k_is)
    (case k_law_told => k_is)
    (case n_law_given => k_is)
    (case l_law_given => k_is)
    (case c_law_given => k_is)
    (case k_law_given => k_is)
    (case n_law_weight => k_is)
    (case l_law_weight => k_is)
    (case c_law_weight => k_is)
    (case k_law_weight => k_is)
    (case n_law_weights => k_is)
    (case l_law_weights => k_is)
    (case c_law_weights => k_is)
    (case k_law_weights => k_is)
    (case n_law_scaled => k_is)
    (case l_law_scaled => k_is)
    (case c_law_scaled => k_is)
    (case k_law_scaled => k_is)
    (case n_law_greedy => k_is)
    (case l_law_greedy => k_is)
    (case c_law_greedy => k_is)
    (case k_law_greedy => k_is)
    (case n_law_heaviest => k_is)
    (case l_law_heaviest => k_is)
    (case c_law_heaviest => k_is)
    (case k_law_heaviest => k_is)
    (case n_law_sum => k_is)
    (case l_law_sum => k_is)
    (case c_law_sum => k_is)
    (case k_law_sum => k_is)
    (case n_law_mask => k_is)
    (case l_law_mask => k_is)
    (case c_law_mask => k_is)
    (case k_law_mask => k_is)
    (case n_law_weighs => k_is)
    (case l_law_weighs => k_is)
    (case c_law_weighs => k_is)
    (case k_law_weighs => k_is)
    (case n_law_at_least => k_is)
    (case l_law_at_least => k_is)
    (case c_law_at_least => k_is)
    (case k_law_at_least => k_is)
    (case n_law_tight => k_is)
    (case l_law_tight => k_is)
    (case c_law_tight => k_is)
    (case k_law_tight => k_is)
    (case n_law_asked => k_is)
    (case l_law_asked => k_is)
    (case c_law_asked => k_is)
    (case k_law_asked => k_is)
    (case n_law => k_is)
    (case l_law => k_is)
    (case c_law => k_is)
    (case k_law => k_is)
    (case z_isinstance => k_is)
    (case z_int => k_is)
    (case z_bool => k_is)
    (case z_range => k_is)
    (case z_len => k_is)
    (case z_abs => k_is)
    (case z_list => k_is)
    (case z_tuple => k_is)
    (case z_enumerate => k_is)
    (case z_any => k_is)
    (case z_all => k_is)
    (case z_sum => k_is)
    (case z_sorted => k_is)
    (case z_set => k_is)
    (case z_reversed => k_is)
    (case v_MOST_THINGS => k_is)
    (case v_combinations => k_is)
    (case v_gcd => k_is)
    (case is_Frac => k_is)
    (case ty_Frac => k_is)
    (case is_Family => k_is)
    (case ty_Family => k_is)
    (case sb_F_list => k_is)
    (case sb_F_tuple => k_is)
    (case sb_int_F => k_is)
    (case sb_none_F => k_is)
