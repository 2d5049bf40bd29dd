import PyProof.Rows.All
import Wide.All
import OpenK.AllK
import Wide.FinOn
import HandS.ForMost
import HandS.IsInst
import HandS.SortRule
import KE.SortData
import HandS.RepeatKit
import HandS.Iter
import PyProof.Rows.SortShell
import HandS.SetFor
import HandS.Strs
import HandS.Exc
import HandS.TryOnly
import HandS.ExcOwn
import HandS.WordsExc
import HandS.CallSlots
import HandS.Defaults
import HandS.MakeKw
import HandS.MakeKwOnly
import HandS.Wide
import HandS.WideBits
import HandS.Gcd
import HandS.HotCalls
import HandS.ExcInit
import HandS.ExcField
import HandS.OwnEq
import HandS.TupAny
import HandS.Style
import HandS.NoneIn
import PyProof.EnumMake
import KE.GoesMore
import KE.KUnpackStar
import HandS.Hot
import HandS.ExcCtx
import KE.KLam
import HandS.Base
import HandS.Call
import HandS.Lambda
import HandS.AnyAll
import HandS.Deep
import HandS.Star
import HandS.Conv
import HandS.More
import HandS.TupSets
import HandS.EndTab
import HandS.EndOwn
import KE.KNestM
import PySem.Challenge.RW_greatestnext_k21_tops_uniform_quotas
set_option Elab.async false
set_option linter.all false
set_option maxRecDepth 100000
set_option maxHeartbeats 4000000
set_option maxHeartbeats 2000000
set_option exponentiation.threshold 5000
/-! Readings brought to a plain form: loops folded, calls by kinds. -/
namespace Rd
open PySem PySem.Spec PyProof.Rows L2
/-- a loop whose iterator has come -/
def Loop (J : It) (g : TG) (tb : TS) (D : Ends) (σ : L2.St) (H : Hp) : Prop := tFor (fun _ H1 R => R J H1) g tb D σ H
theorem tFor_rng1 {ta : TA} {g : TG} {tb : TS} {D : Ends} {σ : L2.St} {H : Hp} : tFor (iRng1 ta) g tb D σ H = ta σ H (fun vs H1 => ∃ j : Int, vs = [.int j] ∧ -(2 ^ 62) ≤ j ∧ j < 2 ^ 62 ∧ Loop (Itr 0 j.toNat) g tb D σ H1) := rfl
theorem tFor_rng2 {ta : TA} {g : TG} {tb : TS} {D : Ends} {σ : L2.St} {H : Hp} : tFor (iRng2 ta) g tb D σ H = ta σ H (fun vs H1 => ∃ i j : Int, vs = [.int i, .int j] ∧ (-(2 ^ 62) ≤ i ∧ i < 2 ^ 62 ∧ -(2 ^ 62) ≤ j ∧ j < 2 ^ 62) ∧ Loop (Itr i (j - i).toNat) g tb D σ H1) := rfl
theorem tFor_list {K : PySem.W.Frag} {tl : TE} {g : TG} {tb : TS} {D : Ends} {σ : L2.St} {H : Hp} : tFor (iList K tl) g tb D σ H = tl σ H (fun x H1 => ∃ a, x = .ref a ∧ (∃ xs, SqL K H1 a xs) ∧ Loop (Itl K a) g tb D σ H1) := rfl
theorem tFor_tup {K : PySem.W.Frag} {tl : TE} {g : TG} {tb : TS} {D : Ends} {σ : L2.St} {H : Hp} : tFor (iTup K tl) g tb D σ H = tl σ H (fun x H1 => ∃ a, x = .ref a ∧ (∃ xs, SqT K H1 a xs) ∧ Loop (Itt K a) g tb D σ H1) := rfl
theorem loop_rng {lo : Int} {n : Nat} {g : TG} {tb : TS} {D : Ends} {σ : L2.St} {H : Hp} (Pv : Nat → L2.St → Hp → Prop) (h0 : Pv 0 σ H)
    (hs : ∀ i σ H, i < n → Pv i σ H → g (.int (lo + i)) σ H fun σ2 H2 => tb { D with nx := Pv (i + 1), ct := Pv (i + 1), bk := D.nx } σ2 H2) (hd : ∀ σ H, Pv n σ H → D.nx σ H) : Loop (Itr lo n) g tb D σ H := for_range Pv h0 hs hd
theorem loop_list {K : PySem.W.Frag} {a : Addr} {xs : List V} {g : TG} {tb : TS} {D : Ends} {σ : L2.St} {H : Hp} (Pv : Nat → L2.St → Hp → Prop) (h0 : Pv 0 σ H) (hl : ∀ i σ H, i ≤ xs.length → Pv i σ H → SqL K H a xs)
    (hs : ∀ i x σ H, xs[i]? = some x → Pv i σ H → g x σ H fun σ2 H2 => tb { D with nx := Pv (i + 1), ct := Pv (i + 1), bk := D.nx } σ2 H2) (hd : ∀ σ H, Pv xs.length σ H → D.nx σ H) : Loop (Itl K a) g tb D σ H := for_list Pv h0 hl hs hd
/-- a comprehension whose iterator has come -/
def LcL (J : It) (g : TG) (tt : TT) (te : TE) (vs : List Nat) (σ : L2.St) (H : Hp) (Q : VK) : Prop := tLc (fun _ H1 R => R J H1) g tt te vs σ H Q
theorem tLc_list {K : PySem.W.Frag} {tl : TE} {g : TG} {tt : TT} {te : TE} {vs : List Nat} {σ : L2.St} {H : Hp} {Q : VK} : tLc (iList K tl) g tt te vs σ H Q = tl σ H (fun x H1 => ∃ a, x = .ref a ∧ (∃ xs, SqL K H1 a xs) ∧ LcL (Itl K a) g tt te vs σ H1 Q) := rfl
theorem tLc_tup {K : PySem.W.Frag} {tl : TE} {g : TG} {tt : TT} {te : TE} {vs : List Nat} {σ : L2.St} {H : Hp} {Q : VK} : tLc (iTup K tl) g tt te vs σ H Q = tl σ H (fun x H1 => ∃ a, x = .ref a ∧ (∃ xs, SqT K H1 a xs) ∧ LcL (Itt K a) g tt te vs σ H1 Q) := rfl
theorem tLc_rng1 {ta : TA} {g : TG} {tt : TT} {te : TE} {vs : List Nat} {σ : L2.St} {H : Hp} {Q : VK} : tLc (iRng1 ta) g tt te vs σ H Q = ta σ H (fun ws H1 => ∃ j : Int, ws = [.int j] ∧ -(2 ^ 62) ≤ j ∧ j < 2 ^ 62 ∧ LcL (Itr 0 j.toNat) g tt te vs σ H1 Q) := rfl
/-- a turn of a comprehension: the element's value is appended at D -/
def LcTurn (te : TE) (tt : TT) (D : Addr) (σw σ2 : L2.St) (vs : List Nat) (H2 : Hp) (R : Hp → Prop) : Prop := wipe σ2 vs = σw ∧ tt σ2 H2 fun b H3 =>
  if b = true then te σ2 H3 fun y H4 => ∃ acc, H4 D = some (.lst acc) ∧ acc.length < sizeLine ∧ R (upd H4 D (.lst (acc ++ [y]))) else R H3
theorem lcl_list {K : PySem.W.Frag} {a : Addr} {xs : List V} {g : TG} {tt : TT} {te : TE} {vs : List Nat} {σ : L2.St} {H : Hp} {Q : VK} (Pv : Addr → Nat → Hp → Prop) (h0 : ∀ D, H D = none → Pv D 0 (upd H D (.lst []))) (hl : ∀ D i H1, i ≤ xs.length → Pv D i H1 → SqL K H1 a xs)
    (hs : ∀ D i x H1, xs[i]? = some x → Pv D i H1 → g x (wipe σ vs) H1 fun σ2 H2 => LcTurn te tt D (wipe σ vs) σ2 vs H2 (Pv D (i + 1))) (hd : ∀ D H1, H D = none → Pv D xs.length H1 → Q (.ref D) H1) : LcL (Itl K a) g tt te vs σ H Q :=
  fun D hD => lc_list (Pv D) (h0 D hD) (hl D) (hs D) fun H1 p => hd D H1 hD p
theorem lcl_rng {lo : Int} {n : Nat} {g : TG} {tt : TT} {te : TE} {vs : List Nat} {σ : L2.St} {H : Hp} {Q : VK} (Pv : Addr → Nat → Hp → Prop) (h0 : ∀ D, H D = none → Pv D 0 (upd H D (.lst [])))
    (hs : ∀ D i H1, i < n → Pv D i H1 → g (.int (lo + i)) (wipe σ vs) H1 fun σ2 H2 => LcTurn te tt D (wipe σ vs) σ2 vs H2 (Pv D (i + 1))) (hd : ∀ D H1, H D = none → Pv D n H1 → Q (.ref D) H1) : LcL (Itr lo n) g tt te vs σ H Q :=
  fun D hD => lc_range (Pv D) (h0 D hD) (hs D) fun H1 p => hd D H1 hD p
section
variable {X : Cx}
theorem CallR.imp {f : Value} {r r' : List V → Hp → VK → Prop} (h : CallR X f r) (i : ∀ xs H Q, r' xs H Q → r xs H Q) : CallR X f r' := fun pins s σ H xs us Q I v q => h pins s σ H xs us Q I v (i _ _ _ q)
def rLenL (K : PySem.W.Frag) : List V → Hp → VK → Prop := fun xs H Q => ∃ p ys, xs = [.ref p] ∧ SqL K H p ys ∧ Q (.int ys.length) H
def rLenT (K : PySem.W.Frag) : List V → Hp → VK → Prop := fun xs H Q => ∃ p ys, xs = [.ref p] ∧ SqT K H p ys ∧ Q (.int ys.length) H
def rIntI : List V → Hp → VK → Prop := fun xs H Q => ∃ i, xs = [.int i] ∧ Q (.int i) H
theorem call_lenL : CallR X (.builtin "len") (rLenL X.K) := CallR.imp call_len_seq fun xs H Q ⟨p, ys, e, h, q⟩ => ⟨p, ys, e, .inl h, q⟩
theorem call_lenT : CallR X (.builtin "len") (rLenT X.K) := CallR.imp call_len_seq fun xs H Q ⟨p, ys, e, h, q⟩ => ⟨p, ys, e, .inr h, q⟩
theorem call_intI : CallR X (.type "int") rIntI := CallR.imp call_int1 fun xs H Q ⟨i, e, q⟩ => .inl ⟨i, e, q⟩
end
/-- an item of a list that stands in H by itself -/
def rIxH : R2 := fun x y H Q => ∃ p xs i v, x = .ref p ∧ y = .int i ∧ H p = some (.lst xs) ∧ atI xs i = some v ∧ Q v H
theorem ixH {X : Cx} : IxR X rIxH := fun value slice pins s σ H x y v u Q I rx ry ⟨p, xs, i, z, e1, e2, h, e3, q⟩ hs => ix_list value slice pins s σ H x y v u Q I rx ry ⟨p, xs, i, z, e1, e2, SqL.of h, e3, q⟩ hs
theorem at0 {α : Type} {x : α} {xs : List α} : atI (x :: xs) 0 = some x := atI_nat (j := 0) rfl
theorem at1 {α : Type} {x y : α} {xs : List α} : atI (x :: y :: xs) 1 = some y := atI_nat (j := 1) rfl
theorem at2 {α : Type} {x y z : α} {xs : List α} : atI (x :: y :: z :: xs) 2 = some z := atI_nat (j := 2) rfl
theorem at3 {α : Type} {x y z u : α} {xs : List α} : atI (x :: y :: z :: u :: xs) 3 = some u := atI_nat (j := 3) rfl
theorem ixN40 : ixN 4 0 = some 0 := rfl
theorem ixN41 : ixN 4 1 = some 1 := rfl
theorem ixN42 : ixN 4 2 = some 2 := rfl
theorem ixN43 : ixN 4 3 = some 3 := rfl
theorem scal_ii (a b : Int) : scal (V.int a) (V.int b) = true := rfl
/-- a loop over a range whose break and end meet in Pe -/
theorem loop_rngC {lo : Int} {n : Nat} {g : TG} {tb : TS} {D : Ends} {σ : L2.St} {H : Hp} (Pe : L2.St → Hp → Prop) (Pv : Nat → L2.St → Hp → Prop) (h0 : Pv 0 σ H)
    (hs : ∀ (bk : L2.St → Hp → Prop), (∀ σ H, Pe σ H → bk σ H) → ∀ i σ H, i < n → Pv i σ H → g (.int (lo + i)) σ H fun σ2 H2 => tb { D with nx := Pv (i + 1), ct := Pv (i + 1), bk := bk } σ2 H2)
    (hd : ∀ σ H, Pv n σ H → Pe σ H) (he : ∀ σ H, Pe σ H → D.nx σ H) : Loop (Itr lo n) g tb D σ H := loop_rng Pv h0 (hs D.nx he) fun σ H p => he σ H (hd σ H p)
theorem loop_listC {K : PySem.W.Frag} {a : Addr} {xs : List V} {g : TG} {tb : TS} {D : Ends} {σ : L2.St} {H : Hp} (Pe : L2.St → Hp → Prop) (Pv : Nat → L2.St → Hp → Prop) (h0 : Pv 0 σ H) (hl : ∀ i σ H, i ≤ xs.length → Pv i σ H → SqL K H a xs)
    (hs : ∀ (bk : L2.St → Hp → Prop), (∀ σ H, Pe σ H → bk σ H) → ∀ i x σ H, xs[i]? = some x → Pv i σ H → g x σ H fun σ2 H2 => tb { D with nx := Pv (i + 1), ct := Pv (i + 1), bk := bk } σ2 H2)
    (hd : ∀ σ H, Pv xs.length σ H → Pe σ H) (he : ∀ σ H, Pe σ H → D.nx σ H) : Loop (Itl K a) g tb D σ H := loop_list Pv h0 hl (hs D.nx he) fun σ H p => he σ H (hd σ H p)
theorem ite_true_of {c : Bool} {A B : Prop} (hc : c = true) (h : A) : if c = true then A else B := by
  rw [if_pos hc]; exact h
theorem ite_false_of {c : Bool} {A B : Prop} (hc : c = false) (h : B) : if c = true then A else B := by
  rw [hc, if_neg Bool.false_ne_true]; exact h
end Rd
/-! A rule of our own: sorted(xs) of a list of tuples that read as alike data, of any length. -/
namespace OwnSort
open PySem PySem.Spec PyProof.Rows L2
abbrev Rw := Addr × PyData
def rSortedD (K : PySem.W.Frag) : List V → Hp → VK → Prop := fun vs H Q => ∃ (a : Addr) (bs : List Rw), vs = [.ref a] ∧ SqL K H a (bs.map fun b => V.ref b.1) ∧ (∀ b ∈ bs, Dp K H (.ref b.1) b.2) ∧ PySem.W.AllAlike (bs.map (·.2)) ∧ PySem.W.Sortable (bs.map (·.2)) ∧ (∀ b ∈ bs, b.2.depth ≤ 60) ∧ bs.length ≤ sizeLine ∧
  ∀ p, H p = none → Q (.ref p) (upd H p (.lst ((bs.mergeSort (PySem.W.dataLe false (·.2))).map fun b => V.ref b.1)))
theorem each_of {bs : List Rw} {us : List Value} (h : Vals (bs.map fun b => V.ref b.1) us) : PySem.W.EachIs (fun v (b : Rw) => v = Value.ref b.1) us bs := by
  induction bs generalizing us with
  | nil => cases h; exact .nil
  | cons b bs ih =>
    cases h with
    | cons r rs => exact .cons r (ih rs)
theorem vals_of {bs : List Rw} {us : List Value} (h : PySem.W.EachIs (fun v (b : Rw) => v = Value.ref b.1) us bs) : Vals (bs.map fun b => V.ref b.1) us := by
  induction h with
  | nil => exact .nil
  | cons r _ ih => exact .cons r ih
theorem each_reads {X : Cx} {pins : List (Addr × Obj)} {σ : L2.St} {H : Hp} {s : Shared} (I : Inv X pins σ H s) : ∀ {bs : List Rw} {us : List Value}, PySem.W.EachIs (fun v (b : Rw) => v = Value.ref b.1) us bs → (∀ b ∈ bs, Dp X.K H (.ref b.1) b.2) → PySem.W.EachIs (fun v (b : Rw) => ∃ as, Reads s.heap v b.2 as) us bs
  | _, _, .nil, _ => .nil
  | _, _, .cons (b := b) r rs, h => .cons (Dp.reads I b.2 (.ref b.1) _ (h b List.mem_cons_self) r) (each_reads I rs fun b hb => h b (List.mem_cons_of_mem _ hb))
theorem cr_sortedD {X : Cx} (hu : X.A.units + 64 < cLine) : CallR X (.builtin "sorted") (rSortedD X.K) := by
  intro pins s σ H vs us Q I r h
  obtain ⟨a, bs, rfl, hs, hd, hal, hk, hdep, hlen, q⟩ := h
  obtain ⟨its, rv, hl, hz⟩ := I.list hs
  obtain ⟨u, rfl, ru⟩ := vals1 r
  obtain rfl : u = Value.ref a := ru
  have e := each_of rv
  refine PySem.W.sorted_data (enc := fun b : Rw => b.2) hl.isList e (each_reads I e hd) hal hk hlen (fun b hb => ?_) fun out ho eo => ?_
  · have := hdep b hb
    omega
  · obtain ⟨c, hc⟩ := sortedAll_at s.heap its out.toArray
    refine ⟨.ref (s.heap.objs.size + 1), upd H (s.heap.objs.size + 1) (.lst ((bs.mergeSort (PySem.W.dataLe false (·.2))).map fun b => V.ref b.1)), I.laid (t' := s.toks) (fun _ _ => sortedAll_old) (Nat.le_succ _) ⟨?_, out, c, vals_of eo, hc⟩, rfl, q _ (I.hok.fresh (Nat.le_succ _))⟩
    rw [List.length_map, List.length_mergeSort]
    exact hlen
end OwnSort
/-! Rules of our own: itertools.combinations of a list. -/
namespace OwnComb
open PySem PySem.Spec PyProof.Rows L2
open Sem (wp)
abbrev T : String := "itertools.combinations"
theorem c_mro : mroOf (.type T) = pure [.type T, .type "object"] := by rw [mroOf_type]; kernel_rfl
theorem c_new : typeLookup (.type T) "__new__" = pure (some (.builtin "itertools.combinations.__new__")) := by rw [typeLookup_type, builtinLookup_eq_fast]; kernel_rfl
theorem c_init : Slot T "__init__" "object.__init__" :=
  .of (owner := "object") (n := "__init__") (by rw [typeLookup_type, builtinLookup_eq_fast]; kernel_rfl) (by decide +kernel) (by decide +kernel) (by decide +kernel)
    (by first | exact .inl (by decide +kernel) | exact .inr (by decide +kernel)) (by rw [isSubtype_type]; kernel_rfl)
theorem c_sub : isSubtype (.type T) (.type T) = pure true := by rw [isSubtype_type]; kernel_rfl
theorem c_called : TypeCalled T "itertools.combinations.__new__" "object.__init__" :=
  ⟨by decide +kernel, by decide +kernel, ⟨_, _, c_mro⟩, madeBy_type c_mro c_new (by decide +kernel), by decide +kernel, c_sub, c_init⟩
theorem c_tcall (a b : Value) : checkTypeCall T ⟨[a, b], []⟩ = pure () := by kernel_rfl
theorem c_ncall (a b : Value) : checkBuiltinCall "itertools.combinations.__new__" ⟨[.type T, a, b], []⟩ = pure () := by kernel_rfl
theorem c_enew : entryFor table "itertools.combinations.__new__" = some Builtin.«itertools.combinations.__new__» := entryFor_of_tree (by kernel_rfl)
theorem c_siter : Slot T "__iter__" "itertools.combinations.__iter__" :=
  .of (owner := T) (n := "__iter__") (by rw [typeLookup_type, builtinLookup_eq_fast]; kernel_rfl) (by decide +kernel) (by decide +kernel) (by decide +kernel)
    (by first | exact .inl (by decide +kernel) | exact .inr (by decide +kernel)) c_sub
theorem c_snext : Slot T "__next__" "itertools.combinations.__next__" :=
  .of (owner := T) (n := "__next__") (by rw [typeLookup_type, builtinLookup_eq_fast]; kernel_rfl) (by decide +kernel) (by decide +kernel) (by decide +kernel)
    (by first | exact .inl (by decide +kernel) | exact .inr (by decide +kernel)) c_sub
theorem c_eiter : entryFor table "itertools.combinations.__iter__" = some Builtin.«dict_keyiterator.__iter__» :=
  entryFor_alias (id' := "dict_keyiterator.__iter__") (by kernel_rfl) (by first | rfl | decide +kernel | (unfold String.splitOn; simp +decide [String.splitOnAux])) (by decide +kernel) (by kernel_rfl)
theorem c_enext : entryFor table "itertools.combinations.__next__" = some Builtin.«itertools.combinations.__next__» := entryFor_of_tree (by kernel_rfl)
theorem c_owner : Manifest.owners.lookup (String.ofList ['s', 'n', 'o', 'i', 't', 'a', 'n', 'i', 'b', 'm', 'o', 'c', '.', 's', 'l', 'o', 'o', 't', 'r', 'e', 't', 'i'].reverse) = some Manifest.sig_itertools_combinations := by kernel_rfl
theorem c_noDict : typeHasDict (.type T) = false := by decide +kernel
theorem c_aiter (a : Value) : argsOk "itertools.combinations.__iter__" ⟨[a], []⟩ := by
  unfold argsOk; rw [signature?_of (id := "itertools.combinations.__iter__") (n := ['_', '_', 'r', 'e', 't', 'i', '_', '_']) (o := ['s', 'n', 'o', 'i', 't', 'a', 'n', 'i', 'b', 'm', 'o', 'c', '.', 's', 'l', 'o', 'o', 't', 'r', 'e', 't', 'i']) (by kernel_rfl) c_owner]; kernel_rfl
theorem c_anext (a : Value) : argsOk "itertools.combinations.__next__" ⟨[a], []⟩ := by
  unfold argsOk; rw [signature?_of (id := "itertools.combinations.__next__") (n := ['_', '_', 't', 'x', 'e', 'n', '_', '_']) (o := ['s', 'n', 'o', 'i', 't', 'a', 'n', 'i', 'b', 'm', 'o', 'c', '.', 's', 'l', 'o', 'o', 't', 'r', 'e', 't', 'i']) (by kernel_rfl) c_owner]; kernel_rfl
end OwnComb
/-! Rules of our own: itertools.combinations of a list. -/
namespace OwnComb
open PySem PySem.Spec PyProof.Rows L2
open Sem (wp)
/-- a combinations object: its pool, how far it is, what it gave last, its places -/
def IsComb (h : Heap) (it pool : Addr) (st : Int) (last : Value) (idx : List Nat) : Prop := h.get? it = some { cls := .type T, dict := none, data := .fields ([.ref pool, rawInt st, last] ++ idx.map fun (i : Nat) => rawInt i).toArray, slots := #[] }
section
variable {prog : Program} {w : World} {A : Around} {E : Value → Shared → Prop} {s : Shared}
theorem k_class {a b : Value} {Q : Value × List Value → Shared → Prop} (h : Q (.type T, [a, b]) s) : wpAny (model prog w) A (Builtin.Itertools.itClassAndRest "combinations" ⟨[.type T, a, b], []⟩) Q E s := by
  have hsub := c_sub
  have e : ("itertools." ++ "combinations" : String) = T := by decide +kernel
  unfold Builtin.Itertools.itClassAndRest
  rw [e]
  repeat (first | wp_step | exact h)
theorem k_named {a b : Value} {Q : List (Option Value) → Shared → Prop} (h : Q [some a, some b] s) : wpAny (model prog w) A (Builtin.Itertools.itBindNamed "combinations" ["iterable", "r"] 2 2 [a, b] []) Q E s := by
  unfold Builtin.Itertools.itBindNamed
  repeat (first | wp_step | exact h | simp only [List.head?_cons, Option.some_or, List.getElem?_cons_succ, List.getElem?_cons_zero, List.length_cons, List.length_nil, List.forIn_nil])
theorem k_ssize {r : Nat} {t : Tok} {Q : Int → Shared → Prop} (hr : r < 1000) (h : Q r s) : wpAny (model prog w) A (Builtin.Itertools.itSsizeArg (.int r t)) Q E s := by
  have hn : ¬ ((!(decide (-(2 ^ 63 : Int) ≤ (r : Int)) && decide ((r : Int) < (2 ^ 63 : Int)))) = true) := by
    have a : decide (-(2 ^ 63 : Int) ≤ (r : Int)) = true := decide_eq_true (by omega)
    have b : decide ((r : Int) < (2 ^ 63 : Int)) = true := decide_eq_true (by omega)
    rw [a, b]
    decide
  have a1 : (decide ((r : Int) < -2 ^ 63) || decide ((r : Int) ≥ 2 ^ 63)) = false := by
    rw [decide_eq_false (by omega), decide_eq_false (by omega)]
    rfl
  unfold Builtin.Itertools.itSsizeArg
  refine wpAny_bind ?_
  repeat wp_step
  rw [a1]
  exact wpAny_ite_false (by decide) (wpAny_pure h)
end
theorem comb_new (l : Addr) (vs : List Value) (r : Nat) (t : Tok) (hr : r < 1000) (hv : vs.length < 1000) :
    Meets (Builtin.«itertools.combinations.__new__» ⟨[.type T, .ref l, .int r t], []⟩)
      (fun _ R s => s.heap.IsList l vs.toArray ∧ ∀ h' it pool, (∀ b o, s.heap.get? b = some o → h'.get? b = some o) → s.heap.objs.size ≤ it → s.heap.objs.size ≤ pool → pool ≠ it → h'.IsTuple pool vs.toArray → IsComb h' it pool (if r > vs.length then 2 else 0) .none (List.range r) → R (.ok (.ret (.ref it))) { s with heap := h' }) :=
  .of_wp fun prog w A R s ⟨hL, h⟩ => by
    obtain ⟨hp, g, dd, tk, os⟩ := s
    have hsub := c_sub
    have hd := c_noDict
    unfold Builtin.«itertools.combinations.__new__»
    refine wpAny_bind ?_
    show wpAny _ _ (_ >>= _) _ _ _
    refine wpAny_bind (k_class ?_)
    show wpAny _ _ (_ >>= _) _ _ _
    refine wpAny_bind (k_named ?_)
    show wpAny _ _ (_ >>= _) _ _ _
    refine wpAny_bind (k_ssize hr ?_)
    refine wpAny_bind (collect_list (s := ⟨hp, g, dd, tk, os⟩) hL ?_ (Nat.le_trans (Nat.le_of_lt hv) (by decide)))
    dsimp only
    refine wpAny_ite_false (by simp) ?_
    refine wpAny_ite_false ?_ ?_
    · unfold Builtin.Itertools.itTooMany
      simp
      omega
    refine wpAny_bind (wpAny_newTuple ?_ (Nat.le_trans (Nat.le_of_lt hv) (by decide)))
    refine wpAny_pure ?_
    have sz : ((hp.push (seqObj "list" #[] 0)).update hp.objs.size (Obj.mapSeq fun x => x ++ vs.toArray)).objs.size = hp.objs.size + 1 := by
      rw [Heap.size_update, size_push']
    have k0 : ∀ b o, hp.get? b = some o → ((hp.push (seqObj "list" #[] 0)).update hp.objs.size (Obj.mapSeq fun x => x ++ vs.toArray)).get? b = some o := fun b o e => by
      rw [Heap.get?_update_ne _ _ _ _ (Nat.ne_of_lt (Heap.lt_size e))]
      exact Heap.get?_push_of_some _ e
    dsimp only
    generalize (hp.push (seqObj "list" #[] 0)).update hp.objs.size (Obj.mapSeq fun x => x ++ vs.toArray) = h1 at sz k0
    refine wpAny_bind ?_
    unfold Builtin.Itertools.itNewRecord
    rw [hd]
    refine wpAny_ite_true rfl ?_
    refine wpAny_newObj_type ?_ ?_
    · refine wpAny_pure ⟨_, rfl, ?_⟩
      have e1 : ((r : Nat) : Int).toNat = r := Int.toNat_natCast r
      rw [e1]
      have szt : (h1.push { cls := Value.type "tuple", data := Data.seq vs.toArray }).objs.size = hp.objs.size + 2 := by
        rw [Heap.size_push, sz]
      have pt : (h1.push { cls := Value.type "tuple", data := Data.seq vs.toArray }).get? h1.objs.size = some { cls := Value.type "tuple", data := Data.seq vs.toArray } := Heap.get?_push_size _ rfl
      refine h _ _ h1.objs.size (fun b o e => Heap.get?_push_of_some _ (Heap.get?_push_of_some _ (k0 b o e))) ?_ ?_ ?_ ?_ ?_
      · show hp.objs.size ≤ (h1.push _).objs.size
        rw [szt]
        exact Nat.le_add_right _ _
      · show hp.objs.size ≤ h1.objs.size
        rw [sz]
        exact Nat.le_succ _
      · show h1.objs.size ≠ (h1.push _).objs.size
        rw [szt, sz]
        exact Nat.ne_of_lt (Nat.lt_succ_self _)
      · exact ⟨_, Heap.get?_push_of_some _ pt, rfl, _, rfl⟩
      · exact Heap.get?_push_size _ rfl
    · show _ ≤ _
      rw [List.size_toArray, List.length_append, List.length_map, List.length_range, Int.toNat_natCast]
      exact Nat.le_trans (show 3 + r ≤ 1003 by omega) (by decide)
section
variable {prog : Program} {w : World} {A : Around} {E : Value → Shared → Prop} {s : Shared}
theorem call_comb {l : Addr} {vs : List Value} {r : Nat} {t : Tok} {Q : Value → Shared → Prop} (hL : s.heap.IsList l vs.toArray) (hr : r < 1000) (hv : vs.length < 1000)
    (h : ∀ h' it pool, (∀ b o, s.heap.get? b = some o → h'.get? b = some o) → s.heap.objs.size ≤ it → s.heap.objs.size ≤ pool → pool ≠ it → h'.IsTuple pool vs.toArray → IsComb h' it pool (if r > vs.length then 2 else 0) .none (List.range r) → Q (.ref it) { s with heap := h' }) :
    wpAny (model prog w) A (call (.type T) [.ref l, .int r t]) Q E s := by
  refine callType_new c_called (by decide +kernel) (c_tcall _ _) (c_ncall _ _) (fun obj => F.args_object_init_3 obj _ _) c_enew (comb_new l vs r t hr hv) ?_
  refine ⟨hL, fun h' it pool k a b c d e => ?_⟩
  show _ ∧ _
  exact ⟨⟨_, e, rfl⟩, h h' it pool k a b c d e⟩
theorem iter_comb {it pool : Addr} {st : Int} {last : Value} {idx : List Nat} {Q : Value → Shared → Prop} (hit : IsComb s.heap it pool st last idx) (h : Q (.ref it) s) : wpAny (model prog w) A (pyIter (.ref it)) Q E s := by
  have hT : s.TypeIs (.ref it) T := ⟨_, hit, rfl⟩
  refine wpAny_pyIter_slot hT c_siter (wpAny_call_entry c_siter hT c_eiter ?_ (c_aiter _))
  show wpAny _ _ (ret (.ref it)) _ _ s
  exact wpAny_pure ⟨_, rfl, T, _, hT, c_snext.lookup, h⟩
/-- the next places -/
def nxt (n : Nat) (js : List Nat) : Option (List Nat) :=
  match (List.range js.length).reverse.find? fun k => js.getD k 0 != k + n - js.length with
  | none => none
  | some k => some (js.take k ++ (List.range (js.length - k)).map (js.getD k 0 + 1 + ·))
theorem size3 (a b c : Value) (idx : List Nat) : ([a, b, c] ++ idx.map fun (i : Nat) => rawInt i).toArray.size = 3 + idx.length := by
  rw [List.size_toArray, List.length_append, List.length_map]
  rfl
theorem IsComb.set1 {h : Heap} {it pool : Addr} {st x : Int} {last : Value} {idx : List Nat} (hit : IsComb h it pool st last idx) : IsComb (h.update it (Obj.mapFields fun v => v.setIfInBounds 1 (rawInt x))) it pool x last idx := by
  refine (Heap.get?_update_self _ hit rfl).trans ?_
  simp [Obj.mapFields]
theorem IsComb.set2 {h : Heap} {it pool : Addr} {st : Int} {last x : Value} {idx : List Nat} (hit : IsComb h it pool st last idx) : IsComb (h.update it (Obj.mapFields fun v => v.setIfInBounds 2 x)) it pool st x idx := by
  refine (Heap.get?_update_self _ hit rfl).trans ?_
  simp [Obj.mapFields]
theorem IsComb.setN {h : Heap} {it pool : Addr} {st : Int} {last : Value} {idx js : List Nat} (hit : IsComb h it pool st last idx) : IsComb (h.update it (Obj.mapFields fun v => v.extract 0 3 ++ (js.map fun (n : Nat) => rawInt n).toArray)) it pool st last js := by
  refine (Heap.get?_update_self _ hit rfl).trans ?_
  simp [Obj.mapFields]
theorem k_nums {it pool : Addr} {st : Int} {last : Value} {idx : List Nat} {Q : List Nat → Shared → Prop} (hit : IsComb s.heap it pool st last idx) (h : Q idx s) : wpAny (model prog w) A (Builtin.Itertools.itNumbersFrom (.ref it) 3) Q E s := by
  unfold Builtin.Itertools.itNumbersFrom
  refine wpAny_bind (wpAny_load hit ?_)
  refine wpAny_pure ?_
  have e : ∀ l : List Nat, (l.map fun (i : Nat) => rawInt i).map (fun v => match v with | .int n _ => n.toNat | _ => 0) = l := fun l => by
    rw [List.map_map]
    exact (List.map_congr_left (g := id) fun x _ => Int.toNat_natCast x).trans (List.map_id l)
  have e2 := e idx
  show Q (((([Value.ref pool, rawInt st, last] ++ idx.map fun (i : Nat) => rawInt i).toArray.toList.drop 3).map _)) s
  rw [show (([Value.ref pool, rawInt st, last] ++ idx.map fun (i : Nat) => rawInt i).toArray.toList.drop 3) = idx.map fun (i : Nat) => rawInt i from rfl]
  exact e2.symm ▸ h
theorem k_int {it pool : Addr} {st : Int} {last : Value} {idx : List Nat} {Q : Int → Shared → Prop} (hit : IsComb s.heap it pool st last idx) (h : Q st s) : wpAny (model prog w) A (Builtin.Itertools.itIntField (.ref it) 1) Q E s := by
  unfold Builtin.Itertools.itIntField
  exact wpAny_bind (wpAny_field hit rfl (x := rawInt st) rfl (wpAny_pure h))
theorem k_pool {pool : Addr} {items : Array Value} {Q : Array Value → Shared → Prop} (hp : s.heap.IsTuple pool items) (h : Q items s) : wpAny (model prog w) A (Builtin.Itertools.itPoolItems (.ref pool)) Q E s := by
  obtain ⟨op, hop, _, np, hdp⟩ := hp
  unfold Builtin.Itertools.itPoolItems
  exact wpAny_bind (wpAny_seqItems hop hdp (wpAny_pure h))
theorem k_out {it pool : Addr} {st : Int} {last : Value} {idx : List Nat} {items : List Value} {Q : PySem.Fin → Shared → Prop} (hit : IsComb s.heap it pool st last idx) (hl : items.length < 1000)
    (hQ : ∀ h', IsComb h' it pool st (.ref s.heap.objs.size) idx → (∀ b o, b ≠ it → s.heap.get? b = some o → h'.get? b = some o) → h'.IsTuple s.heap.objs.size items.toArray → Q (.done (.ret (.ref s.heap.objs.size))) { s with heap := h' }) :
    wpAny (model prog w) A (newTuple items) (fun x s' => wpAny (model prog w) A (do
      let b ← field (.ref it) 2
      setField (.ref it) 2 x
      letGo [b] [x]
      ret x) Q E s') E s := by
  refine wpAny_newTuple ?_ (Nat.le_trans (Nat.le_of_lt hl) (by decide))
  have hit1 : IsComb (s.heap.push { cls := .type "tuple", data := .seq items.toArray }) it pool st last idx := Heap.get?_push_of_some _ hit
  have ne : s.heap.objs.size ≠ it := Ne.symm (Nat.ne_of_lt (Heap.lt_size hit))
  have pt : (s.heap.push { cls := .type "tuple", data := .seq items.toArray }).get? s.heap.objs.size = some { cls := .type "tuple", data := .seq items.toArray } := Heap.get?_push_size _ rfl
  have k1 : ∀ b o, s.heap.get? b = some o → (s.heap.push { cls := .type "tuple", data := .seq items.toArray }).get? b = some o := fun b o e => Heap.get?_push_of_some _ e
  generalize s.heap.push { cls := .type "tuple", data := .seq items.toArray } = h1 at hit1 pt k1
  refine wpAny_bind (wpAny_field hit1 rfl (x := last) rfl ?_)
  refine wpAny_bind (wpAny_setField hit1 rfl (by rw [size3]; omega) ?_)
  refine wpAny_bind (wpAny_letGo ?_)
  exact wpAny_pure (hQ _ hit1.set2 (fun b o hb e => (Heap.get?_update_ne _ _ _ _ hb).trans (k1 b o e)) ⟨_, (Heap.get?_update_ne _ _ _ _ ne).trans pt, rfl, _, rfl⟩)
theorem comb_first {it pool : Addr} {vs : List Value} {last : Value} {idx : List Nat} {Q : Option Value → Shared → Prop} (hit : IsComb s.heap it pool 0 last idx) (hp : s.heap.IsTuple pool vs.toArray) (hne : pool ≠ it) (hl : idx.length < 1000)
    (hQ : ∀ h', IsComb h' it pool 1 (.ref s.heap.objs.size) idx → (∀ b o, b ≠ it → s.heap.get? b = some o → h'.get? b = some o) → h'.IsTuple s.heap.objs.size (idx.map fun i => vs.toArray.getD i .none).toArray → Q (some (.ref s.heap.objs.size)) { s with heap := h' }) :
    wpAny (model prog w) A (pyNext (.ref it)) Q E s := by
  have hT : s.TypeIs (.ref it) T := ⟨_, hit, rfl⟩
  unfold pyNext
  refine wpAny_bind (wpAny_attempt (wpAny_callSpecial?_slot (name := Str.ofString "__next__") hT c_snext (wpAny_call_entry c_snext hT c_enext ?_ (c_anext _))))
  show wpAny _ _ (field (.ref it) 0 >>= _) _ _ s
  refine wpAny_bind (wpAny_field hit rfl (x := .ref pool) rfl ?_)
  show wpAny _ _ (Builtin.Itertools.itNumbersFrom (.ref it) 3 >>= _) _ _ s
  refine wpAny_bind (k_nums hit ?_)
  show wpAny _ _ (Builtin.Itertools.itIntField (.ref it) 1 >>= _) _ _ s
  refine wpAny_bind (k_int hit ?_)
  show wpAny _ _ (setField (.ref it) 1 (rawInt 1) >>= _) _ _ s
  refine wpAny_bind (wpAny_setField hit rfl (by rw [size3]; omega) ?_)
  have hit1 := hit.set1 (x := 1)
  have k1 : ∀ b o, b ≠ it → s.heap.get? b = some o → (s.heap.update it (Obj.mapFields fun v => v.setIfInBounds 1 (rawInt 1))).get? b = some o := fun b o hb e => (Heap.get?_update_ne _ _ _ _ hb).trans e
  have sz1 : (s.heap.update it (Obj.mapFields fun v => v.setIfInBounds 1 (rawInt 1))).objs.size = s.heap.objs.size := Heap.size_update ..
  generalize s.heap.update it (Obj.mapFields fun v => v.setIfInBounds 1 (rawInt 1)) = h1 at hit1 k1 sz1
  show wpAny _ _ (_ >>= _) _ _ _
  refine wpAny_bind ?_
  show wpAny _ _ (Builtin.Itertools.itPoolItems (.ref pool) >>= _) _ _ _
  refine wpAny_bind (k_pool (items := vs.toArray) ?_ ?_)
  · obtain ⟨op, hop, c, d⟩ := hp
    exact ⟨op, k1 _ _ hne hop, c, d⟩
  refine k_out (s := { s with heap := h1 }) hit1 (by rw [List.length_map]; exact hl) fun h' a b c => ⟨_, rfl, wpAny_pure ?_⟩
  have e : ({ s with heap := h1 } : Shared).heap.objs.size = s.heap.objs.size := sz1
  rw [e] at a c ⊢
  exact hQ h' a (fun b' o hb e => b b' o hb (k1 b' o hb e)) c
theorem comb_more {it pool : Addr} {vs : List Value} {last : Value} {idx js : List Nat} {Q : Option Value → Shared → Prop} (hit : IsComb s.heap it pool 1 last idx) (hp : s.heap.IsTuple pool vs.toArray) (hne : pool ≠ it) (hn : nxt vs.length idx = some js) (hl : js.length < 1000)
    (hQ : ∀ h', IsComb h' it pool 1 (.ref s.heap.objs.size) js → (∀ b o, b ≠ it → s.heap.get? b = some o → h'.get? b = some o) → h'.IsTuple s.heap.objs.size (js.map fun i => vs.toArray.getD i .none).toArray → Q (some (.ref s.heap.objs.size)) { s with heap := h' }) :
    wpAny (model prog w) A (pyNext (.ref it)) Q E s := by
  have hT : s.TypeIs (.ref it) T := ⟨_, hit, rfl⟩
  unfold pyNext
  refine wpAny_bind (wpAny_attempt (wpAny_callSpecial?_slot (name := Str.ofString "__next__") hT c_snext (wpAny_call_entry c_snext hT c_enext ?_ (c_anext _))))
  show wpAny _ _ (field (.ref it) 0 >>= _) _ _ s
  refine wpAny_bind (wpAny_field hit rfl (x := .ref pool) rfl ?_)
  show wpAny _ _ (Builtin.Itertools.itNumbersFrom (.ref it) 3 >>= _) _ _ s
  refine wpAny_bind (k_nums hit ?_)
  show wpAny _ _ (Builtin.Itertools.itIntField (.ref it) 1 >>= _) _ _ s
  refine wpAny_bind (k_int hit ?_)
  show wpAny _ _ (Builtin.Itertools.itPoolItems (.ref pool) >>= _) _ _ s
  refine wpAny_bind (k_pool hp ?_)
  have hn' : nxt vs.toArray.size idx = some js := by rw [List.size_toArray]; exact hn
  split
  case h_2 heq =>
    have z : nxt vs.toArray.size idx = none := heq
    rw [hn'] at z
    cases z
  rename_i next heq
  have z : nxt vs.toArray.size idx = some next := heq
  rw [hn'] at z
  cases z
  show wpAny _ _ (Builtin.Itertools.itSetNumbersFrom (.ref it) 3 js >>= _) _ _ s
  refine wpAny_bind ?_
  unfold Builtin.Itertools.itSetNumbersFrom
  refine wpAny_updateFields hit rfl ?_ ?_
  · have hit1 := hit.setN (js := js)
    have k1 : ∀ b o, b ≠ it → s.heap.get? b = some o → (s.heap.update it (Obj.mapFields fun v => v.extract 0 3 ++ (js.map fun (n : Nat) => rawInt n).toArray)).get? b = some o := fun b o hb e => (Heap.get?_update_ne _ _ _ _ hb).trans e
    have sz1 : (s.heap.update it (Obj.mapFields fun v => v.extract 0 3 ++ (js.map fun (n : Nat) => rawInt n).toArray)).objs.size = s.heap.objs.size := Heap.size_update ..
    generalize s.heap.update it (Obj.mapFields fun v => v.extract 0 3 ++ (js.map fun (n : Nat) => rawInt n).toArray) = h1 at hit1 k1 sz1
    show wpAny _ _ (_ >>= _) _ _ _
    refine wpAny_bind ?_
    show wpAny _ _ (Builtin.Itertools.itPoolItems (.ref pool) >>= _) _ _ _
    refine wpAny_bind (k_pool (items := vs.toArray) ?_ ?_)
    · obtain ⟨op, hop, c, d⟩ := hp
      exact ⟨op, k1 _ _ hne hop, c, d⟩
    refine k_out (s := { s with heap := h1 }) hit1 (by rw [List.length_map]; exact hl) fun h' a b c => ⟨_, rfl, wpAny_pure ?_⟩
    have e : ({ s with heap := h1 } : Shared).heap.objs.size = s.heap.objs.size := sz1
    rw [e] at a c ⊢
    exact hQ h' a (fun b' o hb e => b b' o hb (k1 b' o hb e)) c
  · have e1 : (js.map fun (n : Nat) => rawInt n).toArray.size = js.length := by rw [List.size_toArray, List.length_map]
    have e2 : (([Value.ref pool, rawInt 1, last] ++ idx.map fun (i : Nat) => rawInt i).toArray.extract 0 3).size ≤ 3 := by rw [Array.size_extract]; omega
    rw [Array.size_append, e1]
    exact Nat.le_trans (show _ + js.length ≤ 1003 by omega) (by decide)
/-- the end's exception within pyNext -/
theorem k_stop {it : Addr} {F : PySem.Fin → Shared → Prop} {G : Value → Shared → Prop} (hh : A.handled = none)
    (hQ : ∀ e h', CpRep.StopE e h' → Heap.ExtBut it s.heap h' → G e { s with heap := h' }) : wpAny (model prog w) A (Builtin.Itertools.itStop : Sem PySem.Fin) F G s := by
  unfold Builtin.Itertools.itStop
  refine wpAny_bind ?_
  simp only [newExc, newTuple]
  refine wpAny_bind (wpAny_newObj_type ?_ (by size_fits))
  refine wpAny_bind (m := firstArgMember _ _) (wpAny_of_eq (a := Value.none) (by first | rfl | (simp only [firstArgMember]; rfl)) ?_)
  refine wpAny_newObj_type ?_ (by size_fits)
  simp only [raiseNew]
  refine wpAny_bind (wpAny_handled ?_)
  rw [hh]
  refine wpAny_bind (wpAny_pure (wpAny_throw ?_))
  exact hQ _ _ ⟨_, _, _, rfl, Heap.get?_push_size _ rfl, rfl, rfl, rfl⟩ (((Heap.ExtBut.refl it s.heap).push _).push _)
theorem stop_is {e : Value} (h : CpRep.StopE e s.heap) {Q : Option Value → Shared → Prop} (hQ : Q none s) : wpAny (model prog w) A (do if ← isInstance e (.type "StopIteration") then pure none else throw e : Sem (Option Value)) Q E s := by
  obtain ⟨a, o, vs, rfl, ho, hc, _⟩ := h
  refine wpAny_bind (wpAny_isInstance (T := "StopIteration") (b := true) ⟨_, ho, hc⟩ isSubtype_stop ?_)
  exact wpAny_pure hQ
theorem comb_done {it pool : Addr} {vs : List Value} {last : Value} {idx : List Nat} {Q : Option Value → Shared → Prop} (hh : A.handled = none) (hit : IsComb s.heap it pool 1 last idx) (hp : s.heap.IsTuple pool vs.toArray) (hn : nxt vs.length idx = none)
    (hQ : ∀ h', Heap.ExtBut it s.heap h' → Q none { s with heap := h' }) : wpAny (model prog w) A (pyNext (.ref it)) Q E s := by
  have hT : s.TypeIs (.ref it) T := ⟨_, hit, rfl⟩
  unfold pyNext
  refine wpAny_bind (wpAny_attempt (wpAny_callSpecial?_slot (name := Str.ofString "__next__") hT c_snext (wpAny_call_entry c_snext hT c_enext ?_ (c_anext _))))
  show wpAny _ _ (field (.ref it) 0 >>= _) _ _ s
  refine wpAny_bind (wpAny_field hit rfl (x := .ref pool) rfl ?_)
  show wpAny _ _ (Builtin.Itertools.itNumbersFrom (.ref it) 3 >>= _) _ _ s
  refine wpAny_bind (k_nums hit ?_)
  show wpAny _ _ (Builtin.Itertools.itIntField (.ref it) 1 >>= _) _ _ s
  refine wpAny_bind (k_int hit ?_)
  show wpAny _ _ (Builtin.Itertools.itPoolItems (.ref pool) >>= _) _ _ s
  refine wpAny_bind (k_pool hp ?_)
  have hn' : nxt vs.toArray.size idx = none := by rw [List.size_toArray]; exact hn
  split
  case h_1 heq =>
    have z : nxt vs.toArray.size idx = some _ := heq
    rw [hn'] at z
    cases z
  show wpAny _ _ (setField (.ref it) 1 (rawInt 2) >>= _) _ _ s
  refine wpAny_bind (wpAny_setField hit rfl (by rw [size3]; omega) ?_)
  refine k_stop (it := it) hh fun e h' st eb => ?_
  exact stop_is (s := { s with heap := h' }) st (hQ h' ((Heap.SameBut.extBut (Heap.SameBut.update ..)).trans eb))
theorem comb_none {it pool : Addr} {last : Value} {idx : List Nat} {Q : Option Value → Shared → Prop} (hh : A.handled = none) (hit : IsComb s.heap it pool 2 last idx)
    (hQ : ∀ h', Heap.ExtBut it s.heap h' → Q none { s with heap := h' }) : wpAny (model prog w) A (pyNext (.ref it)) Q E s := by
  have hT : s.TypeIs (.ref it) T := ⟨_, hit, rfl⟩
  unfold pyNext
  refine wpAny_bind (wpAny_attempt (wpAny_callSpecial?_slot (name := Str.ofString "__next__") hT c_snext (wpAny_call_entry c_snext hT c_enext ?_ (c_anext _))))
  show wpAny _ _ (field (.ref it) 0 >>= _) _ _ s
  refine wpAny_bind (wpAny_field hit rfl (x := .ref pool) rfl ?_)
  show wpAny _ _ (Builtin.Itertools.itNumbersFrom (.ref it) 3 >>= _) _ _ s
  refine wpAny_bind (k_nums hit ?_)
  show wpAny _ _ (Builtin.Itertools.itIntField (.ref it) 1 >>= _) _ _ s
  refine wpAny_bind (k_int hit ?_)
  refine wpAny_bind (wpAny_rule ?_)
  refine k_stop (it := it) hh fun e h' st eb => ?_
  exact stop_is (s := { s with heap := h' }) st (hQ h' eb)
end
end OwnComb
namespace OwnComb
open PySem PySem.Spec PyProof.Rows L2
/-- the places in their order: begin, go on, end -/
structure Chain (n r : Nat) (L : List (List Nat)) : Prop where
  some : ¬ r > n → L[0]? = some (List.range r)
  none : r > n → L = []
  step : ∀ i js, L[i]? = Option.some js → nxt n js = L[i + 1]?
  small : ∀ js ∈ L, js.length < 1000
  inn : ∀ js ∈ L, ∀ j ∈ js, j < n
/-- the parts of what stood in the pool, each a new tuple -/
def IteC (xs : List V) (L : List (List Nat)) : It :=
  ⟨fun i _ => i < L.length, fun i H v H' => ∃ T js, L[i]? = some js ∧ v = .ref T ∧ H T = none ∧ H' = upd H T (.tup (js.map fun j => xs.getD j .non)), fun i _ => i = L.length⟩
theorem vals_getD {xs : List V} {us : List Value} (h : Vals xs us) {j : Nat} (hj : j < xs.length) : RelV (xs.getD j .non) (us.toArray.getD j .none) := by
  have e := h.length
  obtain ⟨u, hu, ru⟩ := h.get (List.getElem?_eq_getElem hj)
  rw [List.getD_eq_getElem?_getD, List.getElem?_eq_getElem hj]
  have z : us.toArray.getD j .none = u := by
    rw [Array.getD_eq_getD_getElem?, List.getElem?_toArray, hu]
    rfl
  rw [z]
  exact ru
theorem vals_pick {xs : List V} {us : List Value} (h : Vals xs us) : ∀ {js : List Nat}, (∀ j ∈ js, j < xs.length) → Vals (js.map fun j => xs.getD j .non) (js.map fun j => us.toArray.getD j .none)
  | [], _ => .nil
  | j :: js, hj => .cons (vals_getD h (hj j List.mem_cons_self)) (vals_pick h fun k hk => hj k (List.mem_cons_of_mem _ hk))
def CSt (it pool : Addr) (us : List Value) (L : List (List Nat)) (i : Nat) (h : Heap) : Prop :=
  h.IsTuple pool us.toArray ∧ pool ≠ it ∧ ∃ st last idx, IsComb h it pool st last idx ∧ ((i = 0 ∧ ((st = 0 ∧ L[0]? = some idx) ∨ (st = 2 ∧ L = []))) ∨ (0 < i ∧ st = 1 ∧ L[i - 1]? = some idx))
theorem turn_comb {P : Program} {w : World} {K : PySem.W.Frag} {tg : Expr} {r : Nat} {xs : List V} {us : List Value} {L : List (List Nat)} (it pool : Addr) (hv : Vals xs us) (C : Chain xs.length r L) : Turn P w K tg (IteC xs L) [it, pool] it (CSt it pool us L) where
  mem := List.mem_cons_self
  obj := fun i h ⟨⟨o, ho, hc, n, hd⟩, _, st, last, idx, hi, _⟩ b hb => by
    rcases List.mem_cons.mp hb with rfl | hb
    · exact ⟨_, hi, fun v q => nomatch q⟩
    · rw [List.mem_singleton.mp hb]
      exact ⟨o, ho, fun v q => by rw [hd] at q; cases q⟩
  keep := fun i h h' ⟨⟨o, ho, hc⟩, ne, st, last, idx, hi, z⟩ k => ⟨⟨o, k pool (by simp) _ ho, hc⟩, ne, st, last, idx, k it (by simp) _ hi, z⟩
  item := by
    intro X hP hw hK hc i pins s σ H E I hf st hg
    subst hP hw hK
    obtain ⟨hp, hne, st, last, idx, hit, hcase⟩ := st
    have hl : i < L.length := hg
    have lens : xs.length = us.length := hv.length
    have old1 : it < s.heap.objs.size := Heap.lt_size hit
    have old2 : pool < s.heap.objs.size := let ⟨_, q, _⟩ := hp; Heap.lt_size q
    -- what a turn leaves
    have fin : ∀ (js : List Nat) (h' : Heap) (lst : Value), L[i]? = some js → IsComb h' it pool 1 lst js → (∀ b o, b ≠ it → s.heap.get? b = some o → h'.get? b = some o) → h'.IsTuple s.heap.objs.size (js.map fun i => us.toArray.getD i .none).toArray →
        ∃ u, some (Value.ref s.heap.objs.size) = some u ∧ wpAny (model X.prog X.w) X.A (letOwnedTupleGo tg (.ref it) u) (fun _ s2 => ∃ x H', Inv X pins σ H' s2 ∧ RelV x u ∧ (IteC xs L).yld i H x H' ∧ CSt it pool us L (i + 1) s2.heap ∧ ∀ b ∈ [it, pool], H' b = none) E { s with heap := h' } := fun js h' lst hj hi' kk ht => by
      have mem := List.mem_of_getElem? hj
      obtain ⟨ot, hot, hct, nt, hdt⟩ := ht
      have new : ObjOk X.prog X.w (upd H s.heap.objs.size (.tup (js.map fun j => xs.getD j .non))) h' s.heap.objs.size (.tup (js.map fun j => xs.getD j .non)) :=
        ⟨by rw [List.length_map]; exact Nat.le_trans (Nat.le_of_lt (C.small js mem)) (by decide), _, vals_pick hv (C.inn js mem), ⟨ot, hot, hct, nt, hdt⟩⟩
      have I1 : Inv X pins σ (upd H s.heap.objs.size (.tup (js.map fun j => xs.getD j .non))) { s with heap := h' } :=
        I.turnedNew (t' := s.toks) (ch := [it, pool]) (fun b ob hb q => kk b ob (fun z => hb (by simp [z])) q) hf (Nat.le_refl _) new
      obtain ⟨op, hop, cp⟩ := hp
      refine ⟨_, rfl, go_of (s := { s with heap := h' }) hi' rfl rfl (by decide) ⟨.ref s.heap.objs.size, _, I1, rfl, ⟨_, js, hj, rfl, I.hok.fresh (Nat.le_refl _), rfl⟩, ⟨⟨op, kk _ _ hne hop, cp⟩, hne, 1, lst, js, hi', .inr ⟨Nat.succ_pos _, rfl, hj⟩⟩, fun b hb => ?_⟩⟩
      have hb' : b < s.heap.objs.size := by
        rcases List.mem_cons.mp hb with rfl | hb
        · exact old1
        · rw [List.mem_singleton.mp hb]; exact old2
      rw [upd_ne (Nat.ne_of_lt hb')]
      exact (hf b hb).1
    rcases hcase with ⟨rfl, ⟨rfl, h0⟩ | ⟨rfl, h0⟩⟩ | ⟨i0, rfl, h0⟩
    · exact comb_first hit hp hne (C.small _ (List.mem_of_getElem? h0)) fun h' a b c => fin idx h' _ h0 a b c
    · rw [h0] at hl; cases hl
    · have e := C.step _ _ h0
      rw [show i - 1 + 1 = i by omega, List.getElem?_eq_getElem hl] at e
      exact comb_more hit hp hne (by rw [← lens]; exact e) (C.small _ (List.getElem_mem hl)) fun h' a b c => fin _ h' _ (List.getElem?_eq_getElem hl) a b c
  done := by
    intro X hP hw hK hc i pins s σ H E I hf st hg
    subst hP hw hK
    obtain ⟨hp, hne, st, last, idx, hit, hcase⟩ := st
    have hl : i = L.length := hg
    have lens : xs.length = us.length := hv.length
    obtain ⟨f0, f1, f2, f3, f4, f5⟩ := hf it (by simp)
    rcases hcase with ⟨rfl, ⟨rfl, h0⟩ | ⟨rfl, h0⟩⟩ | ⟨i0, rfl, h0⟩
    · have := (List.getElem?_eq_some_iff.mp h0).1
      omega
    · exact comb_none (I.ok.hd hc) hit fun h' eb => ⟨rfl, I.turned (t' := s.toks) (fun b o hb e => eb b o hb e) f0 f1 f3 f4 f5⟩
    · have e := C.step _ _ h0
      rw [show i - 1 + 1 = i by omega, hl, List.getElem?_eq_none (Nat.le_refl _)] at e
      exact comb_done (I.ok.hd hc) hit hp (by rw [← lens]; exact e) fun h' eb => ⟨rfl, I.turned (t' := s.toks) (fun b o hb e => eb b o hb e) f0 f1 f3 f4 f5⟩
  self := fun A i s Q E ⟨_, _, st, last, idx, hit, _⟩ h => iter_comb hit h
def iComb (K : PySem.W.Frag) (ta : TA) : TI := fun σ H R => ta σ H fun vs H1 => ∃ (a : Addr) (r : Nat) (xs : List V) (L : List (List Nat)), vs = [.ref a, .int r] ∧ SqL K H1 a xs ∧ r < 1000 ∧ xs.length < 1000 ∧ Chain xs.length r L ∧ R (IteC xs L) H1
theorem pi_comb {X : Cx} {tg e e2 : Expr} {ta : TA} {x : Str} {p pos : Pos} (hg : Gl X x) (hm : X.mg x = some (.type T)) (ha : PA X [e, e2] ta) (hdb : (x == ("__debug__" : Str)) = false := by decide)
    (hs : starEach [e, e2] X.env = (false, eval e X.env) :: starEach [e2] X.env := by rfl) (hpl : (backTo pos (starEach [e2] X.env)).any (·.1) = false := by rfl) :
    PI X tg (.Call (.Name x p) [e, e2] [] pos) (iComb X.K ta) := by
  refine ⟨fun pins s σ H R I h => ?_⟩
  refine Call_ (ld_glob I hg hm (PyProof.Rows.callWith_type1 (thn (ha.run pos pins s σ H _ I h) fun us s1 ⟨vs, H1, I1, r1, q1⟩ => ?_) hs hpl) hdb)
  obtain ⟨a, r, xs, L, ex, hq, hr, hx, C, q⟩ := q1
  subst ex
  cases r1 with
  | cons ra rr =>
    cases rr with
    | cons rb rr =>
      cases rr
      cases ra
      obtain ⟨t, rfl⟩ := rb
      obtain ⟨its, rv, p1, _⟩ := I1.list hq
      have lens : xs.length = its.length := rv.length
      refine call_comb p1.isList hr (by rw [← lens]; exact hx) fun h' it pool k o1 o2 ne tp hi => iter_comb hi ?_
      refine ⟨it, [it, pool], _, _, H1, rfl, I1.kept (t' := s1.toks) k, turn_comb it pool rv C, ⟨tp, ne, _, _, _, hi, .inl ⟨rfl, ?_⟩⟩, fun b hb => ?_, q⟩
      · rw [← lens]
        by_cases z : r > xs.length
        · rw [if_pos z]
          exact .inr ⟨rfl, C.none z⟩
        · rw [if_neg z]
          exact .inl ⟨rfl, C.some z⟩
      · have le : s1.heap.objs.size ≤ b := by
          rcases List.mem_cons.mp hb with rfl | hb
          · exact o1
          · rw [List.mem_singleton.mp hb]; exact o2
        exact I1.fpOk le (I1.hok.fresh le)
/-! ### the chains, by reckoning -/
def runC (n : Nat) : Nat → List Nat → List (List Nat)
  | 0, js => [js]
  | f + 1, js => js :: match nxt n js with
    | none => []
    | some ks => runC n f ks
def combs (n r : Nat) : List (List Nat) := if r > n then [] else runC n 64 (List.range r)
def okC (n r : Nat) : Bool := (decide (r > n) && decide (combs n r = [])) || (!decide (r > n) && decide ((combs n r)[0]? = some (List.range r)) &&
  (List.range (combs n r).length).all fun i => decide (nxt n ((combs n r).getD i []) = (combs n r)[i + 1]?) && decide (((combs n r).getD i []).length < 1000) && ((combs n r).getD i []).all fun j => decide (j < n))
theorem chain_of {n r : Nat} (h : okC n r = true) : Chain n r (combs n r) := by
  unfold okC at h
  rcases Bool.or_eq_true_iff.mp h with h | h
  · obtain ⟨a, b⟩ := Bool.and_eq_true_iff.mp h
    have b : combs n r = [] := of_decide_eq_true b
    have a := of_decide_eq_true a
    rw [b]
    exact ⟨(fun z => absurd a z), (fun _ => rfl), (fun i js e => nomatch e), (fun js m => nomatch m), (fun js m => nomatch m)⟩
  · obtain ⟨ab, c⟩ := Bool.and_eq_true_iff.mp h
    obtain ⟨a, b⟩ := Bool.and_eq_true_iff.mp ab
    have b := of_decide_eq_true b
    have a : ¬ r > n := by simpa using a
    have all : ∀ i js, (combs n r)[i]? = some js → nxt n js = (combs n r)[i + 1]? ∧ js.length < 1000 ∧ ∀ j ∈ js, j < n := fun i js e => by
      have il := (List.getElem?_eq_some_iff.mp e).1
      have z := List.all_eq_true.mp c i (List.mem_range.mpr il)
      rw [List.getD_eq_getElem?_getD, e] at z
      obtain ⟨z1, z2⟩ := Bool.and_eq_true_iff.mp z
      obtain ⟨z0, z1⟩ := Bool.and_eq_true_iff.mp z1
      exact ⟨of_decide_eq_true z0, of_decide_eq_true z1, fun j hj => of_decide_eq_true (List.all_eq_true.mp z2 j hj)⟩
    exact ⟨(fun _ => b), (fun z => absurd z a), (fun i js e => (all i js e).1), (fun js m => let ⟨i, e⟩ := List.mem_iff_getElem?.mp m; (all i js e).2.1), (fun js m => let ⟨i, e⟩ := List.mem_iff_getElem?.mp m; (all i js e).2.2)⟩
theorem ok7 : ((List.range 7).all fun n => (List.range 8).all fun r => okC n r) = true := by decide +kernel
theorem chain6 {n r : Nat} (hn : n ≤ 6) (hr : r ≤ 7) : Chain n r (combs n r) :=
  chain_of (List.all_eq_true.mp (List.all_eq_true.mp ok7 n (List.mem_range.mpr (by omega))) r (List.mem_range.mpr (by omega)))
end OwnComb
/-! A rule of our own: set(xs) of a list of ints, so that it can be walked and sorted. -/
namespace OwnSet
open PySem PySem.Spec PyProof.Rows L2
section
variable {P : Program} {w : World} {A : Around} {E : Value → Shared → Prop} {s : Shared}
/-- a built-in class is called: its making and its beginning, each by itself -/
theorem made_then {T newId initId : String} {args : List Value} {Q Q1 : Value → Shared → Prop} (ft : TypeCalled T newId initId) (hct : checkTypeCall T ⟨args, []⟩ = pure ())
    (hnew : codeAny (model P w) A.in1 (.call (.builtin newId) ⟨.type T :: args, []⟩) (wants Q1 E) s)
    (hinit : ∀ obj s1, Q1 obj s1 → s1.TypeIs obj T ∧ codeAny (model P w) A.in1 (.call (.builtin initId) ⟨obj :: args, []⟩) (wants (fun r s2 => r = .none ∧ Q obj s2) E) s1) :
    wpAny (model P w) A (call (.type T) args) Q E s := by
  obtain ⟨c, tl, mro⟩ := ft.mro
  have u1 := ft.made; have u2 := ft.sub; have u3 := ft.notType; have u4 := ft.canCreate
  refine wpAny_call (codeAny_of_tree (show wpAny _ _ (callAny (.type T) _) _ _ _ from wpAny_pure ⟨Code.quiet_builtin _ (by decide +kernel), codeAny_builtin F.entry_type_call ?_⟩))
  rw [Around.under_plain (weight_type_call_type T args []) rfl]
  repeat any_goals first | assumption | wp_step
  refine codeAny_mono hnew fun r s1 hr => ?_
  match r, hr with
  | .ok (.ret obj), hr =>
    obtain ⟨hT, hi⟩ := hinit _ _ hr
    have v1 := ft.init.lookup; have v2 := ft.init.bind obj
    repeat any_goals first | assumption | wp_step
    refine codeAny_mono hi fun r2 s2 h2 => ?_
    match r2, h2 with
    | .ok (.ret r3), h2 =>
      obtain ⟨rfl, hq⟩ := h2
      repeat any_goals first | assumption | wp_step
    | .error e, h2 => exact h2
  | .error e, hr => exact hr
/-- a fresh set and a list of ints: the set's beginning -/
theorem set_begins {S l : Addr} {items : Array Value} {ns : List Int} {Q : Value → Shared → Prop} (hh : A.handled = none) (hl : s.heap.IsList l items) (hit : IntsAre items.toList ns) (hb : ns.length + 1 < scanBound) (ne : l ≠ S)
    (hS : s.heap.get? S = some { cls := .type "set", dict := none, data := .set #[] 0 (.fresh 0 0 (!w.params.followText "set-order")) })
    (h : ∀ (h' : Heap) (tk c : Nat), SetR w h' S (fun j => decide (j ∈ ns)) c → c ≤ ns.length → (∀ b o, b ≠ S → s.heap.get? b = some o → h'.get? b = some o) → Q .none { s with heap := h', toks := tk }) :
    codeAny (model P w) A (.call (.builtin "set.__init__") ⟨[.ref S, .ref l], []⟩) (wants Q E) s := by
  have hT : s.TypeIs (.ref S) "set" := ⟨_, hS, rfl⟩
  have hsz : items.size = ns.length := (Array.length_toList (xs := items)).symm.trans hit.length
  refine codeAny_call_builtin F.called_set.init.plain F.entry_set_init (check_set_init_1 hT ?_)
  obtain ⟨ol, hol, hcl, nl, hdl⟩ := id hl
  obtain ⟨ocls, odict, odata, oslots⟩ := ol
  obtain rfl : ocls = _ := hcl
  obtain rfl : odata = _ := hdl
  have c1 := F.sub_list_set; have c2 := F.sub_list_frozenset
  have c3 : (Value.type "list" == Value.type "dict") = false := by decide
  unfold Builtin.«set.__init__» noKeywords Builtin.Frozenset.updateFrom
  generalize hPI : pyIter = PI
  wp_walk
  subst hPI
  have lS : S < s.heap.objs.size := Heap.lt_size hS
  have ll : l < s.heap.objs.size := Heap.lt_size hol
  refine wpAny_pyIter_list (s := ⟨s.heap, s.gens, s.drawn, s.toks, s.os⟩) hl (wpAny_bind (wpAny_runValue ?_))
  have h3 : A.in1.in1.handled = none := hh
  have val : ∀ (i : Nat) (v : Value), items[i]? = some v → ∃ k t, ns[i]? = some k ∧ v = .int k t := fun i v hv => by
    have il : i < ns.length := by rw [← hsz]; exact (Array.getElem?_eq_some_iff.mp hv).1
    obtain ⟨t, e⟩ := IntsAre.int_at hit i v (by rw [Array.getElem?_toList]; exact hv)
    exact ⟨ns[i], t, List.getElem?_eq_getElem il, by rw [e, List.getD_eq_getElem?_getD, List.getElem?_eq_getElem il]; rfl⟩
  refine set_update_ints ((Walks.list h3 s.heap.objs.size l (Nat.ne_of_lt ll) items).toS) S ?_ ns hsz hb val (items.size - 0) 0 _ (by omega) (Nat.zero_le _) ⟨⟨_, Heap.get?_push_size _ rfl, rfl, rfl⟩, hl.push _⟩ ⟨0, Nat.le_refl 0, setR_new_at (Heap.get?_push_of_some _ hS)⟩ fun s2 c hm hc hR => ?_
  · intro z
    rcases List.mem_cons.mp z with z | z
    · exact Nat.ne_of_lt lS z
    · exact ne (List.mem_singleton.mp z).symm
  · obtain ⟨h2, g2, d2, t2, o2⟩ := s2
    obtain rfl : g2 = s.gens := hm.gens
    obtain rfl : d2 = s.drawn := hm.drawn
    obtain rfl : o2 = s.os := hm.os
    rw [hsz] at hc
    have fin : Q .none { s with heap := h2, toks := t2 } := h h2 t2 c hR hc fun b o hb e => hm.heap b o (by
      intro z
      rcases List.mem_cons.mp z with z | z
      · exact hb z
      · exact Nat.ne_of_lt (Heap.lt_size e) (List.mem_singleton.mp z)) (Heap.get?_push_of_some _ e)
    exact wpAny_pure (wpAny_pure fin)
theorem call_set_listI {l : Addr} {items : Array Value} {ns : List Int} {Q : Value → Shared → Prop} (hh : A.handled = none) (hl : s.heap.IsList l items) (hit : IntsAre items.toList ns) (hb : ns.length + 1 < scanBound)
    (h : ∀ (h' : Heap) (tk c : Nat), SetR w h' s.heap.objs.size (fun j => decide (j ∈ ns)) c → c ≤ ns.length → (∀ b o, s.heap.get? b = some o → h'.get? b = some o) → Q (.ref s.heap.objs.size) { s with heap := h', toks := tk }) :
    wpAny (model P w) A (call (.type "set") [.ref l]) Q E s := by
  have ll : l < s.heap.objs.size := let ⟨o, e, _⟩ := hl; Heap.lt_size e
  refine made_then (Q1 := fun obj s1 => obj = .ref s.heap.objs.size ∧ s1 = { s with heap := s.heap.push { cls := .type "set", dict := none, data := .set #[] 0 (.fresh 0 0 (!w.params.followText "set-order")) } }) F.called_set (F.typeCall_set_1 (.ref l)) (code_set_led1 (.ref l) ⟨rfl, rfl⟩) ?_
  rintro obj s1 ⟨rfl, rfl⟩
  have hS := Heap.get?_push_size s.heap (o := { cls := .type "set", dict := none, data := .set #[] 0 (.fresh 0 0 (!w.params.followText "set-order")) }) rfl
  refine ⟨⟨_, hS, rfl⟩, set_begins (ns := ns) (Q := fun r s2 => r = .none ∧ Q (.ref s.heap.objs.size) s2) hh (hl.push _) hit hb (Nat.ne_of_lt ll) hS fun h' tk c R hc k => ⟨rfl, h h' tk c R hc fun b o e => k b o (Nat.ne_of_lt (Heap.lt_size e)) (Heap.get?_push_of_some _ e)⟩⟩
end
def rSetI (K : PySem.W.Frag) (w : World) : List V → Hp → VK → Prop := fun vs H Q => ∃ (l : Addr) (ns : List Int), vs = [.ref l] ∧ SqL K H l (ns.map V.int) ∧ ns.length ≤ 1000 ∧ ∀ p n, H p = none → n ≤ ns.length → Q (.ref p) (upd H p (SetO w p (fun j => decide (j ∈ ns)) n))
theorem cr_setI {X : Cx} (hc : X.calm = true) : CallR X (.type "set") (rSetI X.K X.w) := by
  intro pins s σ H vs us Q I r h
  obtain ⟨l, ns, rfl, hl, hn, q⟩ := h
  obtain ⟨u, rfl, ru⟩ := vals1 r
  obtain rfl : u = Value.ref l := ru
  obtain ⟨its, rv, pl, hz⟩ := I.list hl
  refine call_set_listI (I.ok.hd hc) pl.isList (ns := ns) (by simpa using rv.ints) (by unfold scanBound; omega) fun h' tk c R hc k => ?_
  exact ⟨.ref s.heap.objs.size, upd H s.heap.objs.size (SetO X.w s.heap.objs.size (fun j => decide (j ∈ ns)) c), I.laid (t' := tk) k (Nat.le_refl _) (setO_new R), rfl, q _ c (I.hok.fresh (Nat.le_refl _)) hc⟩
/-! ### x in a tuple, deep -/
def rInDT (K : PySem.W.Frag) : R2 := fun x y H Q => ∃ d ds, Dp K H x d ∧ Dp K H y (.tuple ds) ∧ SeqAt.shaped d = true ∧ SeqAt.shaped (.tuple ds) = true ∧ Q (.bl (ds.any fun z => PyData.eqv z d)) H
theorem op_inDT {X : Cx} (hu : X.A.units + 65 < cLine) : OpR X (compareOp .In) (rInDT X.K) := by
  intro pins s σ H x y v u Q I rx ry h
  obtain ⟨d, ds, hd, he, sd, se, q⟩ := h
  obtain ⟨as, r1⟩ := Dp.reads I d x v hd rx
  obtain ⟨bs, r2⟩ := Dp.reads I (.tuple ds) y u he ry
  exact SeqAt.in_tuple_reads r2 r1 (SeqAt.canLay_of_shaped se) (SeqAt.canLay_of_shaped sd) (room_in_shaped sd hu) ⟨.bl _, H, I, rfl, q⟩
end OwnSet
/-! Rules of our own over the hand layer: an own operator, an own ==, // by any divisor, classes made within a try, a method called by keywords. -/
namespace Own
open PySem PySem.Spec PyProof.Rows L2
abbrev St := L2.St
section
variable {X : Cx} {CX : CXT} {k n : Nat} {f C : Addr} {fd : FuncData} {ps : List Str} {sp : Sp}
/-- // by a divisor of any sign below 2 ^ 9000 in size -/
def CDivM (_ j : Int) : Prop := j ≠ 0 ∧ j.natAbs.log2 < 9000
theorem op_fdivWN : OpR X (binaryOp .FloorDiv) (rI CDivM fun i j => .int (i.fdiv j)) := opI fun i j _ _ _ _ _ hc q =>
  floordiv_int hc.1 q (.inl (PyProof.noPylong_of_log2 hc.2))
/-- x op y by the class's own method: x and y are instances of the class at C -/
def rOwn (C : Addr) (sp : Sp) (E : XK) : R2 := fun x y H Q => ∃ a b dx dy fs gs, x = .ref a ∧ y = .ref b ∧ H a = some (.ins C dx fs) ∧ H b = some (.ins C dy gs) ∧ sp [.ref a, .ref b] H Q E
theorem op_own {op : Operator} {E : XK} (F : FnOk X.prog X.w X.K X.mg X.base CX n f fd ps sp) (hr : Room n X.A) (hsf : PySem.W.selfFirst X.K C = true) (hs : PySem.W.findIn X.K (.ref C) (PySem.dunder op.info.2) = some (some (.ref f)))
    (hf : PySem.W.isFn X.K (.ref f) = true) (hb : Binds X.K fd ps []) (hx : Passes CX X E) : OpR X (binaryOp op) (rOwn C sp E) := by
  intro pins s σ H x y u v Q I rx ry h
  obtain ⟨a, b, dx, dy, fs, gs, rfl, rfl, ha, hb', hq⟩ := h
  cases rx
  cases ry
  obtain ⟨mA, J, _⟩ := ins_get I.hok ha
  obtain ⟨mB, J', _⟩ := ins_get I.hok hb'
  obtain ⟨od, J, _⟩ := J.look
  obtain ⟨od', J', _⟩ := J'.look
  obtain ⟨m, hF⟩ := I.fr
  refine PySem.W.binop_K hF I.ok.mod.kin J J'.type hsf hs hf ?_
  refine wpAny_mono (run_fn (us := [.ref a, .ref b]) (vs := [.ref a, .ref b]) F hr hb .nil hx I (.cons rfl (.cons rfl .nil)) (by rw [List.append_nil]; exact hq)) (fun u s' z => ?_) fun _ _ e => e
  obtain ⟨v', H', I', rv, q⟩ := id z
  cases u <;> first
    | exact z
    | (exfalso; cases v' <;> first | (cases rv; done) | (obtain ⟨_, rv⟩ := rv; cases rv))
/-- x == y by the class's own method: x is an instance of the class at C, y of any type that is not below it -/
def rOwnEq (K : PySem.W.Frag) (C : Addr) (sp : Sp) (E : XK) : R2 := fun x y H Q => ∃ a dx fs t, x = .ref a ∧ H a = some (.ins C dx fs) ∧ TyX K H y t ∧ PySem.W.notFirst K C t = true ∧ sp [.ref a, y] H Q E
theorem op_eqOwn {E : XK} (F : FnOk X.prog X.w X.K X.mg X.base CX n f fd ps sp) (hr : Room n X.A) (hs : PySem.W.findIn X.K (.ref C) "__eq__" = some (some (.ref f)))
    (hf : PySem.W.isFn X.K (.ref f) = true) (hb : Binds X.K fd ps []) (hx : Passes CX X E) : OpR X (compareOp .Eq) (rOwnEq X.K C sp E) := by
  intro pins s σ H x y u v Q I rx ry h
  obtain ⟨a, dx, fs, t, rfl, ha, ty, hn, hq⟩ := h
  cases rx
  obtain ⟨mA, J, _⟩ := ins_get I.hok ha
  obtain ⟨od, J, _⟩ := J.look
  obtain ⟨m, hF⟩ := I.fr
  obtain ⟨P, Z, p, hne⟩ := kit_of I ry ty
  refine PySem.W.cmp_K (op := .Eq) hr.units0 hF I.ok.mod.kin J (Z.ty _ _ I.kIn p) hn hs hf ?_
  refine wpAny_mono (run_fn (us := [.ref a, v]) (vs := [.ref a, y]) F hr hb .nil hx I (.cons rfl (.cons ry .nil)) (by rw [List.append_nil]; exact hq)) (fun u s' z => ?_) fun _ _ e => e
  obtain ⟨v', H', I', rv, q⟩ := id z
  cases u <;> first
    | exact z
    | (exfalso; cases v' <;> first | (cases rv; done) | (obtain ⟨_, rv⟩ := rv; cases rv))
end

/-! ### within a try: what is raised is wished for at the slots -/
/-- a new instance of C, its __init__ a def of one promise (ws: its values behind self, as they are bound) -/
theorem made_at {X : Cx} {CX : CXT} {k : Nat} {f C : Addr} {fd : FuncData} {ps : List Str} {sp : Sp} {E : XK} {pins : List (Addr × Obj)} {σ : St} {H : Hp} {s : Shared} {Q : VK} {us rest : List Value} {kw : List (Str × Value)} {zs : List V} (M : Mk X.K C f) (F : FnOk X.prog X.w X.K X.mg X.base CX k f fd ps sp) (hr : Room (k + 1) X.A)
    (hx : PassesAt CX X σ E) (I : Inv X pins σ H s) (r : Vals zs rest) (bd : ∀ (s' : Shared) (y : Value), X.K.In s'.heap → (y :: rest).length = ps.length → BindsTo s' fd ⟨y :: us, kw⟩ (ps.zip (y :: rest)))
    (h : ∀ x dx, H x = none → H dx = none → dx ≠ x → sp (.ref x :: zs) (upd (upd H dx (.own x)) x (.ins C dx [])) (fun v H2 => v = .non ∧ Q (.ref x) H2) E) :
    wpAny (model X.prog X.w) X.A (call (.ref C) us kw) (EP X pins σ Q) X.xe s := by
  have at1 := I.hok.fresh (Nat.le_succ s.heap.objs.size)
  have q := h (s.heap.objs.size + 1) s.heap.objs.size at1 (I.hok.fresh (Nat.le_refl _)) (Nat.ne_of_lt (Nat.lt_succ_self _))
  have J := Inv.made (C := C) I
  have args : Vals (V.ref (s.heap.objs.size + 1) :: zs) (Value.ref (s.heap.objs.size + 1) :: rest) := .cons rfl r
  have b := bd _ (Value.ref (s.heap.objs.size + 1)) J.kIn (args.length.symm.trans (F.len _ _ _ _ q))
  refine wpAny_call (make_map (f := f) I.kIn M.makes M.init (beq_iff_eq.mp M.fn) (codeAny_mono (F.run _ X.stack _ _ ⟨Value.ref (s.heap.objs.size + 1) :: us, kw⟩ _ _ _ E (hr.make C us kw) (J.env0.make C us kw) b args q) ?_))
  rintro (e | fl) s' z
  · exact hx pins _ _ e s' J z
  · cases fl with
    | ret u =>
      obtain ⟨v, H', I3, rv, ev, q3⟩ := J.after z
      subst ev
      exact ⟨rv, V.ref (s.heap.objs.size + 1), H', I3, rfl, q3⟩
    | next => exact z.elim
    | brk => exact z.elim
    | cont => exact z.elim
section
variable {X : Cx} {CX : CXT} {k : Nat} {f C : Addr} {fd : FuncData} {ps ks : List Str} {sp : Sp} {E : St → XK} {dvs : List V} {ds : List Value} {x m : Str} {p pos apos : Pos} {e o : Expr} {es : List Expr} {kws : List Keyword} {ta : TE} {t tk : TA}
/-- C(e, ..) -/
def tMakeS (C : Addr) (sp : Sp) (dvs : List V) (E : St → XK) (t : TA) : TE := fun σ H Q => t σ H fun vs H1 => ∀ x dx, H1 x = none → H1 dx = none → dx ≠ x →
  sp (.ref x :: (vs ++ dvs)) (upd (upd H1 dx (.own x)) x (.ins C dx [])) (fun v H2 => v = .non ∧ Q (.ref x) H2) (E σ)
theorem pe_makeS (M : Mk X.K C f) (F : FnOk X.prog X.w X.K X.mg X.base CX k f fd ps sp) (hr : Room (k + 1) X.A) (hg : Gl X x) (hm : X.mg x = some (.ref C)) (hb : Binds X.K fd ps ds) (hd : Vals dvs ds) (hx : ∀ σ, PassesAt CX X σ (E σ))
    (ha : PA X (e :: es) t) (hdb : (x == ("__debug__" : Str)) = false := by decide) (he : starEach (e :: es) X.env = (false, eval e X.env) :: starEach es X.env := by rfl) (hpl : (backTo pos (starEach es X.env)).any (·.1) = false := by rfl) :
    PE X (.Call (.Name x p) (e :: es) [] pos) (tMakeS C sp dvs E t) :=
  ⟨fun pins s σ H Q I h => wpAny_Call_Name_kw (ld_glob I hg hm (PySem.W.callWith_K (h₀ := X.base) I.ok.mod.kin M.kp (thn (ha.run pos pins s σ H _ I h) fun us s1 ⟨vs, H1, I1, r, q⟩ =>
    ⟨I1.kIn, made_at M F hr (hx σ) I1 (r.append hd) (fun s' y X' l => hb s' (y :: us) X' l) q⟩) he hpl) hdb)⟩
/-- C(k = v, ..) -/
def tMakeKS (C : Addr) (m : Nat) (sp : Sp) (gV : List V → List V → List V) (E : St → XK) (tk : TA) : TE := fun σ H Q => tk σ H fun zs H2 => zs.length = m ∧ ∀ x dx, H2 x = none → H2 dx = none → dx ≠ x →
  sp (gV [.ref x] zs) (upd (upd H2 dx (.own x)) x (.ins C dx [])) (fun v H3 => v = .non ∧ Q (.ref x) H3) (E σ)
/-- the keywords' order is told by g: self stands first -/
theorem pe_makeKS {g : List Value → List Value → List Value} {gV : List V → List V → List V} {g' : List Value → List Value} {gV' : List V → List V} (M : Mk X.K C f) (F : FnOk X.prog X.w X.K X.mg X.base CX k f fd ps sp) (hr : Room (k + 1) X.A) (hg : Gl X x) (hm : X.mg x = some (.ref C)) (hb : KBn X.K fd ps 1 ks g gV)
    (hg1 : ∀ y ws, g [y] ws = y :: g' ws) (hg2 : ∀ y zs, gV [y] zs = y :: gV' zs) (hx : ∀ σ, PassesAt CX X σ (E σ)) (hkw : PK X kws tk)
    (hall : (backToKw pos (keywordEach kws X.env)).all (·.1.isSome) = true := by rfl) (hks : (backToKw pos (keywordEach kws X.env)).filterMap (·.1) = ks := by rfl) (hdb : (x == ("__debug__" : Str)) = false := by decide)
    (hpl : ((backTo pos (starEach [] X.env)).any (·.1) || (backToKw pos (keywordEach kws X.env)).any (·.1.isNone)) = false := by rfl) :
    PE X (.Call (.Name x p) [] kws pos) (tMakeKS C ks.length sp gV E tk) := by
  refine ⟨fun pins s σ H Q I h => wpAny_Call_Name_kw (ld_glob I hg hm (PySem.W.callWith_KW0 (h₀ := X.base) I.ok.mod.kin M.kp hall (thn (hkw.run pos pins s σ H _ I h) ?_) hpl) hdb)⟩
  rintro ws s2 ⟨zs, H2, I2, rz, lz, q⟩
  rw [hks]
  have rr := hb.rel (vs := [V.non]) (us := [Value.none]) (.cons rfl .nil) rz
  rw [hg1, hg2] at rr
  cases rr with
  | cons _ rest =>
    refine ⟨I2.kIn, made_at (us := []) M F hr (hx σ) I2 rest (fun s' y X' _ => ?_) fun x dx a b c => ?_⟩
    · have z := hb.to s' [y] ws X' rfl (rz.length.symm.trans lz)
      rwa [hg1] at z
    · have z := q x dx a b c
      rwa [hg2] at z
/-- o.m(e, ..) -/
def tMethS (C : Addr) (m : Str) (sp : Sp) (E : St → XK) (ta : TE) (t : TA) : TE := fun σ H Q => ta σ H fun x H1 => ∃ a dx fs, x = .ref a ∧ H1 a = some (.ins C dx fs) ∧ fs.lookup m = none ∧ t σ H1 fun vs H2 => sp (x :: vs) H2 Q (E σ)
theorem pe_methS {pl : Sem Bool} (he : PE X o ta) (c : Cls X.K C) (hm : Meth X.K C m f) (F : FnOk X.prog X.w X.K X.mg X.base CX k f fd ps sp) (hr : Room k X.A) (hb : Binds X.K fd ps []) (hx : ∀ σ, PassesAt CX X σ (E σ)) (ha : PA X (e :: es) t)
    (hst : starEach (e :: es) X.env = (false, eval e X.env) :: starEach es X.env := by rfl) (hpl : (backTo pos (starEach es X.env)).any (·.1) = false := by rfl)
    (ht : eval (.Call (.Attribute o m apos) (e :: es) [] pos) X.env = (do
      let ov ← eval o X.env
      standAt apos.atName
      let (f, first) ← holding [ov] (getMethod ov m pl)
      callWith pos f first (backTo pos (starEach (e :: es) X.env)) (backToKw pos (keywordEach [] X.env))) := by rfl) :
    PE X (.Call (.Attribute o m apos) (e :: es) [] pos) (tMethS C m sp E ta t) := by
  refine ⟨fun pins s σ H Q I h => PySem.W.methodCall_KW (pl := pl) (thn (he.run pins s σ H _ I h) ?_) ht⟩
  rintro u s1 ⟨x, H1, I1, rx, a, dx, fs, rfl, ea, l, q⟩
  obtain rfl : u = Value.ref a := rx
  refine getmeth_ok I1 ea c hm l (PySem.W.callWith_K (first := [.ref a]) (h₀ := X.base) I.ok.mod.kin hm.kp (thn (ha.run pos pins s1 σ H1 _ I1 q) ?_) hst hpl)
  rintro us s2 ⟨vs, H2, I2, r, q2⟩
  exact ⟨I2.kIn, run_fnS (us := .ref a :: us) (vs := .ref a :: vs) F hr hb (hx σ) I2 (.cons rfl r) q2⟩
end
end Own
/-! Rules of our own for what may be a list or a tuple: walked, taken apart, enumerated. -/
namespace OwnSeq
open PySem PySem.Spec PyProof.Rows L2
/-! ### enumerate of a tuple -/
theorem enum_made (t : Addr) (items : Array Value) :
    Meets (Builtin.«enumerate.__new__» ⟨[.type "enumerate", .ref t], []⟩) (fun _ R s => s.heap.IsTuple t items ∧
      R (.ok (.ret (.ref (s.heap.push { cls := .type "tuple_iterator", data := .fields #[.ref t, .int 0 0] }).objs.size)))
        { s with heap := (s.heap.push { cls := .type "tuple_iterator", data := .fields #[.ref t, .int 0 0] }).push { cls := .type "enumerate", data := .fields #[.none, .bool false, .ref s.heap.objs.size, rawInt 0, .none, .none] } }) :=
  .of_wp fun prog w A R s ⟨hL, h⟩ => by
    cases s with | mk hp g d tk os =>
    have below := sub_enumerate
    wp_walk
    refine wpAny_stack_any fun st => wpAny_pure ?_
    split
    · rename_i c _ _ _ _ _
      cases (c == Value.type "enumerate") <;> (wp_walk using wpAny_pyIter_tuple hL; exact ⟨_, rfl, h⟩)
    · wp_walk using wpAny_pyIter_tuple hL
      exact ⟨_, rfl, h⟩
theorem enum_tuple {prog : Program} {w : World} {A : Around} {E : Value → Shared → Prop} {s : Shared} {t : Addr} {items : Array Value} {Q : Value → Shared → Prop} (hL : s.heap.IsTuple t items)
    (h : ∀ h', IsEnum h' (s.heap.objs.size + 1) s.heap.objs.size 0 .none → h'.IsTupleIter s.heap.objs.size t 0 → (∀ b o, s.heap.get? b = some o → h'.get? b = some o) → Q (.ref (s.heap.objs.size + 1)) { s with heap := h' }) :
    wpAny (model prog w) A (call (.type "enumerate") [.ref t]) Q E s := by
  refine callType_new F.called_enumerate (by decide) (F.typeCall_enumerate_1 _) (F.newCall_enumerate_1 _) (fun obj => F.args_object_init_2 obj _) F.entry_enumerate_new (enum_made t items) ⟨hL, ?_⟩
  have grown : (s.heap.push { cls := .type "tuple_iterator", data := .fields #[.ref t, .int 0 0] }).objs.size = s.heap.objs.size + 1 := Heap.size_push ..
  have at2 := Heap.get?_push_size (s.heap.push { cls := .type "tuple_iterator", data := .fields #[.ref t, .int 0 0] }) (o := { cls := .type "enumerate", data := .fields #[.none, .bool false, .ref s.heap.objs.size, rawInt 0, .none, .none] }) rfl
  rw [grown] at at2
  show _ ∧ _
  rw [grown]
  exact ⟨⟨_, at2, rfl⟩, h _ at2 ⟨_, Heap.get?_push_of_some _ (Heap.get?_push_size _ rfl), rfl, rfl⟩ fun b o x => Heap.get?_push_of_some _ (Heap.get?_push_of_some _ x)⟩
/-- the tuple at a as it stands at each turn, each item in a new pair -/
def IteT (K : PySem.W.Frag) (a : Addr) : It :=
  ⟨fun i H => ∃ (xs : List V) (x : V), SqT K H a xs ∧ xs[i]? = some x, fun i H v H' => ∃ T x, v = .ref T ∧ H T = none ∧ H' = upd H T (.tup [.int (i : Nat), x]) ∧ ∀ xs, SqT K H a xs → xs[i]? = some x, fun i H => ∃ xs : List V, SqT K H a xs ∧ xs.length = i⟩
theorem turn_enumT {P : Program} {w : World} {K : PySem.W.Frag} {elts : List Expr} {kk : Nat} {tpos : Pos} (a e it : Addr) :
    Turn P w K (.Tuple elts kk tpos) (IteT K a) [e, it] e (fun i h => (∃ old, IsEnum h e it ((i : Nat) : Int) old) ∧ h.IsTupleIter it a i ∧ e ≠ it) where
  mem := List.mem_cons_self
  obj := fun i h ⟨⟨old, he⟩, ⟨o, ho, hc, hd⟩, _⟩ b hb => by
    rcases List.mem_cons.mp hb with rfl | hb
    · exact ⟨_, he, fun v q => nomatch q⟩
    · rw [List.mem_singleton.mp hb]
      exact ⟨o, ho, fun v q => by rw [hd] at q; cases q⟩
  keep := fun i h h' ⟨⟨old, he⟩, hi, hne⟩ k => ⟨⟨old, k e (by simp) _ he⟩, hi.at fun o q => k it (by simp) o q, hne⟩
  item := fun X hP hw hK hc i pins s σ H E I hf ⟨⟨old, he⟩, hit, hne⟩ ⟨xs, x, hq, hx⟩ => by
    subst hP hw hK
    obtain ⟨its, rv, p, hz⟩ := I.tuple hq
    obtain ⟨u, hu, ru⟩ := rv.get hx
    have p : s.heap.IsTuple a its.toArray := p
    have old1 : e < s.heap.objs.size := Heap.lt_size he
    have old2 : it < s.heap.objs.size := let ⟨_, q, _⟩ := hit; Heap.lt_size q
    have ai : a ≠ it := fun z => by
      obtain ⟨o1, g1, c1, _⟩ := hit
      obtain ⟨o2, g2, c2, _⟩ := p
      rw [z, g1] at g2
      cases g2
      exact absurd (Value.type.inj (c1.symm.trans c2)) (by decide)
    have ae : e ≠ a := fun z => by
      obtain ⟨o2, g2, c2, _⟩ := p
      have he : s.heap.get? e = some _ := he
      rw [← z, he] at g2
      cases g2
      exact absurd (Value.type.inj c2) (by decide)
    have li : i < its.toArray.size := by
      have z := (List.getElem?_eq_some_iff.mp hu).1
      simpa using z
    refine wpAny_pyNext_enum_itemD (Draws.tuple (show X.A.in1.handled = none from I.ok.hd hc) it a ai its.toArray) he ⟨hit, p⟩ li hne (by simp [hne, ae]) fun y h' tk hy ho st' hT hsz hk => ?_
    obtain rfl : y = u := by
      have z : its.toArray[i]? = some u := by simpa using hu
      rw [z] at hy
      exact (Option.some.inj hy).symm
    refine ⟨_, rfl, wpAny_letOwnedTupleGo_enum (s := { s with heap := h', toks := tk + 1 }) ho fun h'' he' sb => ?_⟩
    have hT2 : h''.get? s.heap.objs.size = some { cls := .type "tuple", data := .seq #[.int i tk, y] } := (sb.2 _ (Nat.ne_of_gt old1)).trans hT
    have new : ObjOk X.prog X.w (upd H s.heap.objs.size (.tup [.int (i : Nat), x])) h'' s.heap.objs.size (.tup [.int (i : Nat), x]) :=
      ⟨by show 2 ≤ sizeLine; decide, [.int i tk, y], .cons ⟨_, rfl⟩ (.cons ru .nil), ⟨_, hT2, rfl, _, rfl⟩⟩
    have I1 : Inv X pins σ (upd H s.heap.objs.size (.tup [.int (i : Nat), x])) { s with heap := h'', toks := tk + 1 } :=
      I.turnedNew (ch := [e, it]) (fun b ob hb q => (sb.2 b (fun z => hb (by simp [z]))).trans (hk b ob (fun z => hb (by simp [z])) (fun z => hb (by simp [z])) q)) hf (Nat.le_refl _) new
    refine ⟨.ref s.heap.objs.size, _, I1, rfl, ⟨_, x, rfl, I.hok.fresh (Nat.le_refl _), rfl, fun ys hy => by rw [I.tuple_inj hy hq]; exact hx⟩, ⟨⟨y, ?_⟩, st'.1.at fun o q => (sb.2 it (Ne.symm hne)).trans q, hne⟩, fun b hb => ?_⟩
    · rw [show ((i + 1 : Nat) : Int) = (i : Int) + 1 by omega]
      exact he'
    · have hb' : b < s.heap.objs.size := by
        rcases List.mem_cons.mp hb with rfl | hb
        · exact old1
        · rw [List.mem_singleton.mp hb]; exact old2
      rw [upd_ne (Nat.ne_of_lt hb')]
      exact (hf b hb).1
  done := fun X hP hw hK hc i pins s σ H E I hf ⟨⟨old, he⟩, hit, hne⟩ ⟨xs, hq, hx⟩ => by
    subst hP hw hK
    obtain ⟨its, rv, p, hz⟩ := I.tuple hq
    have p : s.heap.IsTuple a its.toArray := p
    obtain ⟨f0, f1, f2, f3, f4, f5⟩ := hf it (by simp)
    have hl := rv.length
    have ai : a ≠ it := fun z => by
      obtain ⟨o1, g1, c1, _⟩ := hit
      obtain ⟨o2, g2, c2, _⟩ := p
      rw [z, g1] at g2
      cases g2
      exact absurd (Value.type.inj (c1.symm.trans c2)) (by decide)
    have e' : i = its.toArray.size := by rw [List.size_toArray, ← hl, hx]
    exact wpAny_pyNext_enum_endD (Draws.tuple (show X.A.in1.handled = none from I.ok.hd hc) it a ai its.toArray) he ⟨by rw [← e']; exact hit, p⟩ fun h' eb => ⟨rfl, I.turned (t' := s.toks) (fun b o hb q => eb b o hb q) f0 f1 f3 f4 f5⟩
  self := fun A i s Q E ⟨⟨_, he⟩, _⟩ h => wpAny_pyIter_enum he h
def iEnumT (K : PySem.W.Frag) (ta : TA) : TI := fun σ H R => ta σ H fun vs H1 => ∃ a xs, vs = [.ref a] ∧ SqT K H1 a xs ∧ R (IteT K a) H1
section
variable {X : Cx} {e tg : Expr} {te : TE} {ta : TA} {p pos tpos : Pos} {elts : List Expr} {kk : Nat}
theorem pi_enumT (hg : Gl X "enumerate") (hm : X.mg "enumerate" = none) (ha : PA X [e] ta) (hs : starEach [e] X.env = [(false, eval e X.env)] := by rfl) : PI X (.Tuple elts kk tpos) (.Call (.Name "enumerate" p) [e] [] pos) (iEnumT X.K ta) :=
  ⟨fun pins s σ H R I h => Call_ (ld_blt I hg hm boot_enumerate (PyProof.Rows.callWith_type1 (thn (ha.run pos pins s σ H _ I h) fun us s1 ⟨vs, H1, I1, r1, a, xs, ex, hq, q⟩ => by
    subst ex
    cases r1 with
    | cons r rr =>
      cases rr
      cases r
      obtain ⟨its, rv, p', hz⟩ := I1.tuple hq
      refine enum_tuple (show s1.heap.IsTuple a its.toArray from p') fun h' he hit hk => wpAny_pyIter_enum he ?_
      refine ⟨s1.heap.objs.size + 1, [s1.heap.objs.size + 1, s1.heap.objs.size], _, _, H1, rfl, I1.kept (t' := s1.toks) hk, turn_enumT a (s1.heap.objs.size + 1) s1.heap.objs.size, ⟨⟨.none, he⟩, hit, Nat.succ_ne_self _⟩, fun b hb => ?_, q⟩
      have le : s1.heap.objs.size ≤ b := by
        rcases List.mem_cons.mp hb with rfl | hb
        · exact Nat.le_succ _
        · exact Nat.le_of_eq (List.mem_singleton.mp hb).symm
      exact I1.fpOk le (I1.hok.fresh le)) hs rfl))⟩
/-! ### a list or a tuple -/
theorem PI.or {w1 w2 : TI} {it : Expr} (a : PI X tg it w1) (b : PI X tg it w2) : PI X tg it (fun σ H R => w1 σ H R ∨ w2 σ H R) := ⟨fun pins s σ H R I h => h.elim (a.run pins s σ H R I) (b.run pins s σ H R I)⟩
theorem PG.or {g1 g2 : TG} (a : PG X tg g1) (b : PG X tg g2) : PG X tg (fun v σ H Q => g1 v σ H Q ∨ g2 v σ H Q) := ⟨fun pins s σ H v u Q I r h => h.elim (a.run pins s σ H v u Q I r) (b.run pins s σ H v u Q I r)⟩
/-- l: a list; else a tuple -/
def sq (l : Bool) (xs : List V) : HO := if l = true then .lst xs else .tup xs
theorem sq_l {K : PySem.W.Frag} {H : Hp} {a : Addr} {xs : List V} (h : H a = some (sq true xs)) : SqL K H a xs := SqL.of h
theorem sq_t {K : PySem.W.Frag} {H : Hp} {a : Addr} {xs : List V} (h : H a = some (sq false xs)) : SqT K H a xs := SqT.of h
def iSeq (K : PySem.W.Frag) (te : TE) : TI := fun σ H R => te σ H fun x H1 => ∃ a l xs, x = .ref a ∧ H1 a = some (sq l xs) ∧ R (if l = true then Itl K a else Itt K a) H1
theorem pi_seq (he : PE X e te) : PI X tg e (iSeq X.K te) := ⟨fun pins s σ H R I h => thn (he.run pins s σ H _ I h) fun v s1 ⟨x, H1, I1, rx, a, l, xs, ex, hx, q⟩ => by
  subst ex
  cases rx
  cases l with
  | true =>
    obtain ⟨its, rv, p, _⟩ := I1.list (SqL.of hx)
    exact wpAny_pyIter_list p.isList ⟨s1.heap.objs.size, [s1.heap.objs.size], _, _, H1, rfl, I1.kept (t' := s1.toks) fun b o e => Heap.get?_push_of_some _ e, turn_list a _, ⟨_, Heap.get?_push_size _ rfl, rfl, rfl⟩, fun b hb => by
      rw [List.mem_singleton.mp hb]
      exact I1.fpOk (Nat.le_refl _) (I1.hok.fresh (Nat.le_refl _)), q⟩
  | false =>
    obtain ⟨its, rv, p, _⟩ := I1.tuple (SqT.of hx)
    exact wpAny_pyIter_tuple (show s1.heap.IsTuple a its.toArray from p) ⟨s1.heap.objs.size, [s1.heap.objs.size], _, _, H1, rfl, I1.kept (t' := s1.toks) fun b o e => Heap.get?_push_of_some _ e, turn_tuple a _, ⟨_, Heap.get?_push_size _ rfl, rfl, rfl⟩, fun b hb => by
      rw [List.mem_singleton.mp hb]
      exact I1.fpOk (Nat.le_refl _) (I1.hok.fresh (Nat.le_refl _)), q⟩⟩
def iEnumS (K : PySem.W.Frag) (ta : TA) : TI := fun σ H R => ta σ H fun vs H1 => ∃ a l xs, vs = [.ref a] ∧ H1 a = some (sq l xs) ∧ R (if l = true then Ite K a else IteT K a) H1
theorem pi_enumS (hg : Gl X "enumerate") (hm : X.mg "enumerate" = none) (ha : PA X [e] ta) (hs : starEach [e] X.env = [(false, eval e X.env)] := by rfl) : PI X (.Tuple elts kk tpos) (.Call (.Name "enumerate" p) [e] [] pos) (iEnumS X.K ta) :=
  ⟨fun pins s σ H R I h => Call_ (ld_blt I hg hm boot_enumerate (PyProof.Rows.callWith_type1 (thn (ha.run pos pins s σ H _ I h) fun us s1 ⟨vs, H1, I1, r1, a, l, xs, ex, hq, q⟩ => by
    subst ex
    have young : ∀ b ∈ [s1.heap.objs.size + 1, s1.heap.objs.size], FpOk X pins H1 b := fun b hb => by
      have le : s1.heap.objs.size ≤ b := by
        rcases List.mem_cons.mp hb with rfl | hb
        · exact Nat.le_succ _
        · exact Nat.le_of_eq (List.mem_singleton.mp hb).symm
      exact I1.fpOk le (I1.hok.fresh le)
    cases r1 with
    | cons r rr =>
      cases rr
      cases r
      cases l with
      | true =>
        obtain ⟨its, rv, p', hz⟩ := I1.list (SqL.of hq)
        exact call_enumerate_list p'.isList fun h' he hit hsz hk => wpAny_pyIter_enum he ⟨_, _, _, _, H1, rfl, I1.kept (t' := s1.toks) hk, turn_enum a (s1.heap.objs.size + 1) s1.heap.objs.size, ⟨⟨.none, he⟩, hit, Nat.succ_ne_self _⟩, young, q⟩
      | false =>
        obtain ⟨its, rv, p', hz⟩ := I1.tuple (SqT.of hq)
        exact enum_tuple (show s1.heap.IsTuple a its.toArray from p') fun h' he hit hk => wpAny_pyIter_enum he ⟨_, _, _, _, H1, rfl, I1.kept (t' := s1.toks) hk, turn_enumT a (s1.heap.objs.size + 1) s1.heap.objs.size, ⟨⟨.none, he⟩, hit, Nat.succ_ne_self _⟩, young, q⟩) hs rfl))⟩
end
/-! ### loops over what walks n items -/
structure Goes (J : It) (S : Hp → Prop) (n : Nat) (y : Nat → Hp → V → Hp → Prop) : Prop where
  go : ∀ i H, i < n → S H → J.go i H
  stop : ∀ H, S H → J.stop n H
  yld : ∀ i H x H', S H → J.yld i H x H' → y i H x H'
theorem goes_seq {K : PySem.W.Frag} {a : Addr} {l : Bool} {xs : List V} : Goes (if l = true then Itl K a else Itt K a) (fun H => H a = some (sq l xs)) xs.length (fun i H x H' => H' = H ∧ xs[i]? = some x) := by
  cases l with
  | true => exact ⟨fun i H hi h => ⟨xs, xs[i], SqL.of h, by simp [hi]⟩, fun H h => ⟨xs, SqL.of h, Nat.le_refl _⟩, fun i H x H' h y => ⟨y.1, y.2 xs (SqL.of h)⟩⟩
  | false => exact ⟨fun i H hi h => ⟨xs, xs[i], SqT.of h, by simp [hi]⟩, fun H h => ⟨xs, SqT.of h, Nat.le_refl _⟩, fun i H x H' h y => ⟨y.1, y.2 xs (SqT.of h)⟩⟩
theorem goes_enum {K : PySem.W.Frag} {a : Addr} {l : Bool} {xs : List V} : Goes (if l = true then Ite K a else IteT K a) (fun H => H a = some (sq l xs)) xs.length (fun i H x H' => ∃ T z, x = .ref T ∧ H T = none ∧ H' = upd H T (.tup [.int (i : Nat), z]) ∧ xs[i]? = some z) := by
  cases l with
  | true => exact ⟨fun i H hi h => ⟨xs, xs[i], SqL.of h, by simp [hi]⟩, fun H h => ⟨xs, SqL.of h, Nat.le_refl _⟩, fun i H x H' h ⟨T, z, a, b, c, d⟩ => ⟨T, z, a, b, c, d xs (SqL.of h)⟩⟩
  | false => exact ⟨fun i H hi h => ⟨xs, xs[i], SqT.of h, by simp [hi]⟩, fun H h => ⟨xs, SqT.of h, rfl⟩, fun i H x H' h ⟨T, z, a, b, c, d⟩ => ⟨T, z, a, b, c, d xs (SqT.of h)⟩⟩
theorem loop_goes {J : It} {S : Hp → Prop} {n : Nat} {y : Nat → Hp → V → Hp → Prop} {g : TG} {tb : TS} {D : Ends} {σ : L2.St} {H : Hp} (G : Goes J S n y) (Pe : L2.St → Hp → Prop) (Pv : Nat → L2.St → Hp → Prop) (h0 : Pv 0 σ H) (hl : ∀ i σ H, i ≤ n → Pv i σ H → S H)
    (hs : ∀ (bk : L2.St → Hp → Prop), (∀ σ H, Pe σ H → bk σ H) → ∀ i x σ H H', i < n → Pv i σ H → y i H x H' → g x σ H' fun σ2 H2 => tb { D with nx := Pv (i + 1), ct := Pv (i + 1), bk := bk } σ2 H2)
    (hd : ∀ σ H, Pv n σ H → Pe σ H) (he : ∀ σ H, Pe σ H → D.nx σ H) : Rd.Loop J g tb D σ H :=
  ⟨fun i m σ H => m = n - i ∧ i ≤ n ∧ Pv i σ H, ⟨n, rfl, Nat.zero_le _, h0⟩, fun i m σ H ⟨e, hi, p⟩ => by
    subst e
    have q := hl i σ H hi p
    rcases Nat.lt_or_eq_of_le hi with lt | eq
    · exact .inr ⟨G.go i H lt q, Pv (i + 1), fun σ' H' p' => ⟨n - (i + 1), by omega, rfl, lt, p'⟩, fun x H' z => hs D.nx he i x σ H H' lt p (G.yld i H x H' q z)⟩
    · subst eq
      exact .inl ⟨G.stop H q, he σ H (hd σ H p)⟩⟩
theorem lcl_goes {J : It} {S : Hp → Prop} {n : Nat} {y : Nat → Hp → V → Hp → Prop} {g : TG} {tt : TT} {te : TE} {vs : List Nat} {σ : L2.St} {H : Hp} {Q : VK} (G : Goes J S n y) (Pv : Addr → Nat → Hp → Prop) (h0 : ∀ D, H D = none → Pv D 0 (upd H D (.lst []))) (hl : ∀ D i H1, i ≤ n → Pv D i H1 → S H1)
    (hs : ∀ D i x H1 H', i < n → Pv D i H1 → y i H1 x H' → g x (wipe σ vs) H' fun σ2 H2 => Rd.LcTurn te tt D (wipe σ vs) σ2 vs H2 (Pv D (i + 1))) (hd : ∀ D H1, H D = none → Pv D n H1 → Q (.ref D) H1) : Rd.LcL J g tt te vs σ H Q := fun D hD =>
  ⟨fun i m H => m = n - i ∧ i ≤ n ∧ Pv D i H, ⟨n, rfl, Nat.zero_le _, h0 D hD⟩, fun i m H1 ⟨e, hi, p⟩ => by
    subst e
    have q := hl D i H1 hi p
    rcases Nat.lt_or_eq_of_le hi with lt | eq
    · exact .inr ⟨G.go i H1 lt q, Pv D (i + 1), fun H' p' => ⟨n - (i + 1), by omega, rfl, lt, p'⟩, fun x H' z => hs D i x H1 H' lt p (G.yld i H1 x H' q z)⟩
    · subst eq
      exact .inl ⟨G.stop H1 q, hd D H1 hD p⟩⟩
theorem tFor_seq {K : PySem.W.Frag} {te : TE} {g : TG} {tb : TS} {D : Ends} {σ : L2.St} {H : Hp} : tFor (iSeq K te) g tb D σ H = te σ H (fun x H1 => ∃ a l xs, x = .ref a ∧ H1 a = some (sq l xs) ∧ Rd.Loop (if l = true then Itl K a else Itt K a) g tb D σ H1) := rfl
theorem tFor_enumS {K : PySem.W.Frag} {ta : TA} {g : TG} {tb : TS} {D : Ends} {σ : L2.St} {H : Hp} : tFor (iEnumS K ta) g tb D σ H = ta σ H (fun vs H1 => ∃ a l xs, vs = [.ref a] ∧ H1 a = some (sq l xs) ∧ Rd.Loop (if l = true then Ite K a else IteT K a) g tb D σ H1) := rfl
theorem tLc_seq {K : PySem.W.Frag} {te0 : TE} {g : TG} {tt : TT} {te : TE} {vs : List Nat} {σ : L2.St} {H : Hp} {Q : VK} : tLc (iSeq K te0) g tt te vs σ H Q = te0 σ H (fun x H1 => ∃ a l xs, x = .ref a ∧ H1 a = some (sq l xs) ∧ Rd.LcL (if l = true then Itl K a else Itt K a) g tt te vs σ H1 Q) := rfl
theorem tLc_enumS {K : PySem.W.Frag} {ta : TA} {g : TG} {tt : TT} {te : TE} {vs : List Nat} {σ : L2.St} {H : Hp} {Q : VK} : tLc (iEnumS K ta) g tt te vs σ H Q = ta σ H (fun ws H1 => ∃ a l xs, ws = [.ref a] ∧ H1 a = some (sq l xs) ∧ Rd.LcL (if l = true then Ite K a else IteT K a) g tt te vs σ H1 Q) := rfl
/-! ### x, *rest = a list or a tuple -/
section
variable {prog : Program} {w : World} {A : Around} {E : Value → Shared → Prop} {s : Shared}
theorem rest_list {l : Addr} {x : Value} {xs : List Value} {Q : List Value → Shared → Prop} (hl : s.heap.IsList l (x :: xs).toArray) (hh : A.handled = none) (hz : xs.length ≤ 1000)
    (h : ∀ (h' : Heap) (tk : Nat), (∀ b o, s.heap.get? b = some o → h'.get? b = some o) → Q [x, .ref h'.objs.size] { s with heap := h'.push { cls := .type "list", data := .seq xs.toArray }, toks := tk }) : wpAny (model prog w) A (unpackItems (.ref l) 2 (some 1)) Q E s := by
  have ne : l ≠ s.heap.objs.size := let ⟨_, g, _⟩ := hl; Nat.ne_of_lt (Heap.lt_size g)
  unfold unpackItems notIterableAtAll
  refine wpAny_bind (wpAny_bind (wpAny_specialOf hl.typeIs slot_list_iter.lookup (wpAny_pure ?_)))
  simp only [Bool.false_eq_true, if_false]
  refine wpAny_bind (wpAny_holding (wpAny_pyIter_list hl (wpAny_bind (wpAny_holding (PySem.W.kun_draw ne 1 0 _ _ ⟨_, Heap.get?_push_size _ rfl, rfl, rfl⟩ (hl.push _) (by simp) fun h1 it1 sb1 => ?_)))))
  have e1 : ((x :: xs).toArray.toList.drop 0).take 1 = [x] := rfl
  rw [e1]
  have it1 : h1.IsListIter s.heap.objs.size l 1 := it1
  have l1 : h1.IsList l (x :: xs).toArray := (hl.push _).extBut sb1.extBut ne
  have lt1 : s.heap.objs.size < h1.objs.size := let ⟨_, g, _⟩ := it1; Heap.lt_size g
  have lt2 : l < h1.objs.size := let ⟨_, g, _⟩ := l1; Heap.lt_size g
  rw [if_neg (show ¬ ([x] : List Value).length < 1 from Nat.lt_irrefl 1)]
  refine wpAny_bind (wpAny_holding (PySem.W.kun_collect (s := { s with heap := h1 }) (T := "list_iterator") (.inr (.inr (.inl rfl))) (Walks.list (A := A.in1) hh s.heap.objs.size l ne (x :: xs).toArray) (fun j u st => st.1.typeIs) (k := 1) (by simp) ⟨it1, l1⟩ lt1 lt2 (fun h2 tk k2 => ?_) (by simp; exact Nat.le_trans (Nat.succ_le_succ hz) (by decide))))
  rw [if_neg (Nat.not_lt_zero _)]
  have e2 : (x :: xs).toArray.toList.drop 1 = xs := rfl
  have e3 : xs.take (xs.length - (2 - 1 - 1)) = xs := List.take_length
  have e4 : xs.drop (xs.length - (2 - 1 - 1)) = [] := List.drop_length
  rw [e2, e3, e4]
  exact wpAny_bind (wpAny_newList (wpAny_pure (h h2 tk fun b o g => k2 b o (Nat.ne_of_lt (Heap.lt_size g)) (sb1.extBut b o (Nat.ne_of_lt (Heap.lt_size g)) (Heap.get?_push_of_some _ g)))) (Nat.le_trans hz (by decide)))
theorem rest_tuple {l : Addr} {x : Value} {xs : List Value} {Q : List Value → Shared → Prop} (hl : s.heap.IsTuple l (x :: xs).toArray) (hh : A.handled = none) (hz : xs.length ≤ 1000)
    (h : ∀ (h' : Heap) (tk : Nat), (∀ b o, s.heap.get? b = some o → h'.get? b = some o) → Q [x, .ref h'.objs.size] { s with heap := h'.push { cls := .type "list", data := .seq xs.toArray }, toks := tk }) : wpAny (model prog w) A (unpackItems (.ref l) 2 (some 1)) Q E s := by
  have ne : l ≠ s.heap.objs.size := let ⟨_, g, _⟩ := hl; Nat.ne_of_lt (Heap.lt_size g)
  unfold unpackItems notIterableAtAll
  refine wpAny_bind (wpAny_bind (wpAny_specialOf hl.typeIs slot_tuple_iter.lookup (wpAny_pure ?_)))
  simp only [Bool.false_eq_true, if_false]
  refine wpAny_bind (wpAny_holding (wpAny_pyIter_tuple hl (wpAny_bind (wpAny_holding (wpAny_draw_tuple ne 1 0 _ _ ⟨_, Heap.get?_push_size _ rfl, rfl, rfl⟩ (hl.push _) (by simp) fun h1 it1 sb1 => ?_)))))
  have e1 : ((x :: xs).toArray.toList.drop 0).take 1 = [x] := rfl
  rw [e1]
  have it1 : h1.IsTupleIter s.heap.objs.size l 1 := it1
  have l1 : h1.IsTuple l (x :: xs).toArray := (hl.push _).extBut sb1.extBut ne
  have lt1 : s.heap.objs.size < h1.objs.size := let ⟨_, g, _⟩ := it1; Heap.lt_size g
  have lt2 : l < h1.objs.size := let ⟨_, g, _⟩ := l1; Heap.lt_size g
  rw [if_neg (show ¬ ([x] : List Value).length < 1 from Nat.lt_irrefl 1)]
  refine wpAny_bind (wpAny_holding (PySem.W.kun_collect (s := { s with heap := h1 }) (T := "tuple_iterator") (.inr (.inr (.inr rfl))) (Walks.tuple (A := A.in1) hh s.heap.objs.size l ne (x :: xs).toArray) (fun j u st => st.1.typeIs) (k := 1) (by simp) ⟨it1, l1⟩ lt1 lt2 (fun h2 tk k2 => ?_) (by simp; exact Nat.le_trans (Nat.succ_le_succ hz) (by decide))))
  rw [if_neg (Nat.not_lt_zero _)]
  have e2 : (x :: xs).toArray.toList.drop 1 = xs := rfl
  have e3 : xs.take (xs.length - (2 - 1 - 1)) = xs := List.take_length
  have e4 : xs.drop (xs.length - (2 - 1 - 1)) = [] := List.drop_length
  rw [e2, e3, e4]
  exact wpAny_bind (wpAny_newList (wpAny_pure (h h2 tk fun b o g => k2 b o (Nat.ne_of_lt (Heap.lt_size g)) (sb1.extBut b o (Nat.ne_of_lt (Heap.lt_size g)) (Heap.get?_push_of_some _ g)))) (Nat.le_trans hz (by decide)))
end
def gRest (t : TGs) : TG := fun v σ H Q => ∃ a l x xs, v = .ref a ∧ H a = some (sq l (x :: xs)) ∧ xs.length ≤ 1000 ∧ ∀ D, H D = none → t [x, .ref D] σ (upd H D (.lst xs)) Q
theorem pg_rest {X : Cx} {t1 t2 : Expr} {p pos : Pos} {k : Nat} {t : TGs} (hc : X.calm = true) (h : PGs X [t1, t2] t) (he : (assignEach [t1, .Starred t2 p] X.env).map (·.2) = (assignEach [t1, t2] X.env).map (·.2) := by rfl)
    (hn : (assignEach [t1, .Starred t2 p] X.env).length = 2 := by rfl) (hst : (assignEach [t1, .Starred t2 p] X.env).findIdx? (·.1) = some 1 := by rfl) : PG X (.Tuple [t1, .Starred t2 p] k pos) (gRest t) := by
  refine ⟨fun pins s σ H v u Q I r ⟨a, l, x, xs, e1, hq, hz, hw⟩ => ?_⟩
  subst e1
  cases r
  rw [assign_Tuple]
  refine wpAny_bind (wpAny_standAt ?_)
  unfold unpack
  rw [hn, hst, he]
  have fin : ∀ {u : Value} {us : List Value}, RelV x u → Vals xs us → ∀ (h' : Heap) (tk : Nat), (∀ b o, s.heap.get? b = some o → h'.get? b = some o) →
      wpAny (model X.prog X.w) X.A (assignInOrder ((assignEach [t1, t2] X.env).map (·.2)) [u, .ref h'.objs.size]) (fun _ s' => ∃ σ' H', Inv X pins σ' H' s' ∧ Q σ' H') X.xe { s with heap := h'.push { cls := .type "list", data := .seq us.toArray }, toks := tk } := fun {u us} ru rus h' tk kp => by
    have I1 : Inv X pins σ H { s with heap := h', toks := tk } := I.kept (t' := tk) kp
    have I2 := I1.laid (t' := tk) (a := h'.objs.size) (o := .lst xs) (h' := h'.push { cls := .type "list", data := .seq us.toArray }) (fun b o e => Heap.get?_push_of_some _ e) (Nat.le_refl _) ⟨Nat.le_trans hz (by decide), us, 0, rus, Heap.get?_push_size _ rfl⟩
    exact h.run pins _ σ _ [x, .ref h'.objs.size] _ Q I2 (.cons ru (.cons rfl .nil)) (hw h'.objs.size (I1.hok.fresh (Nat.le_refl _)))
  cases l with
  | true =>
    obtain ⟨its, rv, pl, _⟩ := I.list (SqL.of hq)
    cases rv with
    | cons ru rus => exact wpAny_bind (wpAny_holding (rest_list pl.isList (I.ok.hd hc) (by rw [← rus.length]; exact hz) (fin ru rus)))
  | false =>
    obtain ⟨its, rv, pl, _⟩ := I.tuple (SqT.of hq)
    cases rv with
    | cons ru rus => exact wpAny_bind (wpAny_holding (rest_tuple (show s.heap.IsTuple a _ from pl) (I.ok.hd hc) (by rw [← rus.length]; exact hz) (fin ru rus)))
/-- x, y, .. = a list or a tuple of that length -/
def gSeq (n : Nat) (t : TGs) : TG := fun v σ H Q => ∃ a l xs, v = .ref a ∧ H a = some (sq l xs) ∧ xs.length = n ∧ t xs σ H Q
theorem pg_seq {X : Cx} {es : List Expr} {k n : Nat} {pos : Pos} {t : TGs} (hc : X.calm = true) (h : PGs X es t) (hn : (assignEach es X.env).length = n := by rfl) (hst : (assignEach es X.env).findIdx? (·.1) = none := by rfl) : PG X (.Tuple es k pos) (gSeq n t) := by
  refine ⟨fun pins s σ H v u Q I r ⟨a, l, xs, e1, hq, hl, hw⟩ => ?_⟩
  cases l with
  | true => exact (pg_unl hc h hn hst).run pins s σ H v u Q I r ⟨a, xs, e1, SqL.of hq, hl, hw⟩
  | false => exact (pg_tup hc h hn hst).run pins s σ H v u Q I r ⟨a, xs, e1, SqT.of hq, hl, hw⟩
end OwnSeq
/-! A list comprehension within a def that runs while an exception is handled. -/
namespace OwnHot
open PySem PySem.Spec PyProof.Rows L2 L2H HotX
section
variable {prog : Program} {w : World} {A : Around} {E : Value → Shared → Prop} {s : Shared}
/-- what stands behind an iterator's last item: a StopIteration, taken by the one who asked -/
theorem stop_hot {α : Type} {Qa : α → Shared → Prop} {t : Sem α} {k : Value → Sem α} (et : t = newExc (.type "StopIteration") [] >>= k) (ek : ∀ a, k (.ref a) = raiseNew (.ref a)) {x1 : Addr} {Q : Option Value → Shared → Prop} (hot : HotAt A x1 s.heap)
    (hQ : ∀ h', (∀ b o, s.heap.get? b = some o → h'.get? b = some o) → Q none { s with heap := h' }) :
    wpAny (model prog w) A.in1 t Qa (fun e s' => wpAny (model prog w) A (do let b ← isInstance e (.type "StopIteration"); if b = true then pure none else throw e) Q E s') s := by
  obtain ⟨hh, o1, vs1, g1, d1, c1⟩ := hot
  rw [et]
  refine wpAny_bind ?_
  simp only [newExc, newTuple]
  refine wpAny_bind (wpAny_newObj_type ?_ (by size_fits))
  refine wpAny_bind (m := firstArgMember _ _) (wpAny_of_eq (a := Value.none) (by first | rfl | (simp only [firstArgMember]; rfl)) ?_)
  refine wpAny_newObj_type ?_ (by size_fits)
  rw [ek]
  refine raiseNew_hot ⟨hh, o1, vs1, Heap.get?_push_of_some _ (Heap.get?_push_of_some _ g1), d1, c1⟩ (Nat.ne_of_lt (Heap.lt_size (Heap.get?_push_of_some _ g1))) (Heap.get?_push_size _ rfl) rfl (by first | (simp; done) | (simp; omega) | (simp only [Array.size_append]; simp; omega)) ?_
  refine wpAny_bind (wpAny_isInstance (T := "StopIteration") (b := true) ⟨_, Heap.get?_update_self _ (Heap.get?_push_size _ rfl) rfl, rfl⟩ isSubtype_stop (wpAny_pure (hQ _ fun b o e => ?_)))
  rw [Heap.get?_update_other _ _ (Nat.ne_of_gt (Heap.lt_size (Heap.get?_push_of_some _ e)))]
  exact Heap.get?_push_of_some _ (Heap.get?_push_of_some _ e)
theorem list_end {it l x1 : Addr} {i : Nat} {items : Array Value} {Q : Option Value → Shared → Prop} (hot : HotAt A x1 s.heap) (ne : x1 ≠ it) (hit : s.heap.IsListIter it l i) (hl : s.heap.IsList l items) (hx : items[i]? = none)
    (hQ : ∀ h', Heap.ExtBut it s.heap h' → Q none { s with heap := h' }) : wpAny (model prog w) A (pyNext (.ref it)) Q E s := by
  obtain ⟨o, ho, hc, hd⟩ := id hit
  obtain ⟨ol, hol, _, nl, hdl⟩ := hl
  unfold pyNext
  refine wpAny_bind (wpAny_attempt (wpAny_callSpecial?_slot (name := Str.ofString "__next__") hit.typeIs slot_listiter_next (wpAny_call_entry slot_listiter_next hit.typeIs entry_listiter_next ?_ (args_listiter_next _))))
  show wpAny _ _ (field (.ref it) 0 >>= _) _ _ s
  refine wpAny_bind (wpAny_field ho hd (x := .ref l) rfl ?_)
  rw [if_neg (show ¬ ((Value.ref l == Value.none) = true) from Bool.false_ne_true)]
  refine wpAny_bind (wpAny_field ho hd (x := .int i 0) rfl (wpAny_bind (wpAny_seqItems hol hdl ?_)))
  simp only [Int.toNat_natCast, hx]
  refine wpAny_bind (wpAny_rule (wpAny_bind (wpAny_setField ho hd (by simp) ?_)))
  obtain ⟨hh, o1, vs1, g1, d1, c1⟩ := hot
  refine stop_hot (k := fun e => raiseNew e) rfl (fun _ => rfl) ⟨hh, o1, vs1, (Heap.get?_update_other _ _ ne.symm).trans g1, d1, c1⟩ fun h' kp => hQ h' fun b ob hb e => kp b ob ((Heap.get?_update_other _ _ (Ne.symm hb)).trans e)
theorem tuple_end {it l x1 : Addr} {i : Nat} {items : Array Value} {Q : Option Value → Shared → Prop} (hot : HotAt A x1 s.heap) (ne : x1 ≠ it) (hit : s.heap.IsTupleIter it l i) (hl : s.heap.IsTuple l items) (hx : items[i]? = none)
    (hQ : ∀ h', Heap.ExtBut it s.heap h' → Q none { s with heap := h' }) : wpAny (model prog w) A (pyNext (.ref it)) Q E s := by
  obtain ⟨o, ho, hc, hd⟩ := id hit
  obtain ⟨ol, hol, _, nl, hdl⟩ := hl
  unfold pyNext
  refine wpAny_bind (wpAny_attempt (wpAny_callSpecial?_slot (name := Str.ofString "__next__") hit.typeIs F.slot_tuple_iterator_next (wpAny_call_entry F.slot_tuple_iterator_next hit.typeIs F.entry_tuple_iterator_next ?_ (F.args_tuple_iterator_next_1 _))))
  show wpAny _ _ (field (.ref it) 0 >>= _) _ _ s
  refine wpAny_bind (wpAny_field ho hd (x := .ref l) rfl ?_)
  rw [if_neg (show ¬ ((Value.ref l == Value.none) = true) from Bool.false_ne_true)]
  refine wpAny_bind (wpAny_field ho hd (x := .int i 0) rfl (wpAny_bind (wpAny_seqItems hol hdl ?_)))
  simp only [Int.toNat_natCast, hx]
  refine wpAny_bind (wpAny_rule (wpAny_bind (wpAny_setField ho hd (by simp) ?_)))
  obtain ⟨hh, o1, vs1, g1, d1, c1⟩ := hot
  refine stop_hot (k := fun e => raiseNew e) rfl (fun _ => rfl) ⟨hh, o1, vs1, (Heap.get?_update_other _ _ ne.symm).trans g1, d1, c1⟩ fun h' kp => hQ h' fun b ob hb e => kp b ob ((Heap.get?_update_other _ _ (Ne.symm hb)).trans e)
end
/-! ### walks -/
section
variable {P : Program} {w : World} {K : PySem.W.Frag} {tg : Expr}
theorem hot_of {X : Cx} {pins : List (Addr × Obj)} {σ : L2.St} {H : Hp} {s : Shared} {it : Addr} (hc : HotC X) (I : Inv X pins σ H s) (hf : FpOk X pins H it) : ∃ x1, HotAt X.A x1 s.heap ∧ x1 ≠ it := by
  obtain ⟨p, ⟨hh, v1, e1, c1⟩, hp⟩ := hc
  exact ⟨p.1, ⟨hh, p.2, v1, (I.pin p (List.mem_append_left _ hp)).1, e1, c1⟩, hf.2.2.2.2.2 p (List.mem_append_left _ hp)⟩
theorem turnL (a it : Addr) : TurnH P w K tg (Itl K a) [it] it (fun i h => h.IsListIter it a i) :=
  let T : Turn P w K tg (Itl K a) [it] it (fun i h => h.IsListIter it a i) := turn_list a it
  { mem := T.mem, obj := T.obj, keep := T.keep, self := T.self
    item := fun X hP hw hK hc i pins s σ H E I hf st ⟨xs, x, hq, hx⟩ => by
      subst hP hw hK
      obtain ⟨f0, f1, f2, f3, f4, f5⟩ := hf it (List.mem_singleton.mpr rfl)
      obtain ⟨its, rv, p, _⟩ := I.list hq
      obtain ⟨u, hu, ru⟩ := rv.get hx
      refine wpAny_pyNext_list_item st p.isList (x := u) (by simpa using hu) fun h' st' sb => ?_
      have I1 := I.turned (t' := s.toks) (fun b o hb e => (sb.2 b hb).trans e) f0 f1 f3 f4 f5
      obtain ⟨o, e, c, d⟩ := id st'
      exact ⟨u, rfl, go_of (s := { s with heap := h' }) e c d (by decide) ⟨x, H, I1, ru, ⟨rfl, fun ys hy => (congrArg (·[i]?) (I.list_inj hy hq)).trans hx⟩, st', fun b hb => (hf b hb).1⟩⟩
    done := fun X hP hw hK hc i pins s σ H E I hf st ⟨xs, hq, hx⟩ => by
      subst hP hw hK
      have ff := hf it (List.mem_singleton.mpr rfl)
      obtain ⟨f0, f1, f2, f3, f4, f5⟩ := id ff
      obtain ⟨its, rv, p, _⟩ := I.list hq
      obtain ⟨x1, hot, ne⟩ := hot_of hc I ff
      have hl := rv.length
      exact list_end hot ne st p.isList (by simp; omega) fun h' eb => ⟨rfl, I.turned (t' := s.toks) (fun b o hb e => eb b o hb e) f0 f1 f3 f4 f5⟩ }
theorem turnT (a it : Addr) : TurnH P w K tg (Itt K a) [it] it (fun i h => h.IsTupleIter it a i) :=
  let T : Turn P w K tg (Itt K a) [it] it (fun i h => h.IsTupleIter it a i) := turn_tuple a it
  { mem := T.mem, obj := T.obj, keep := T.keep, self := T.self
    item := fun X hP hw hK hc i pins s σ H E I hf st ⟨xs, x, hq, hx⟩ => by
      subst hP hw hK
      obtain ⟨f0, f1, f2, f3, f4, f5⟩ := hf it (List.mem_singleton.mpr rfl)
      obtain ⟨its, rv, p, _⟩ := I.tuple hq
      obtain ⟨u, hu, ru⟩ := rv.get hx
      refine wpAny_pyNext_tuple_item st (show s.heap.IsTuple a its.toArray from p) (x := u) (by simpa using hu) fun h' st' sb => ?_
      have I1 := I.turned (t' := s.toks) (fun b o hb e => (sb.2 b hb).trans e) f0 f1 f3 f4 f5
      obtain ⟨o, e, c, d⟩ := id st'
      exact ⟨u, rfl, go_of (s := { s with heap := h' }) e c d (by decide) ⟨x, H, I1, ru, ⟨rfl, fun ys hy => (congrArg (·[i]?) (I.tuple_inj hy hq)).trans hx⟩, st', fun b hb => (hf b hb).1⟩⟩
    done := fun X hP hw hK hc i pins s σ H E I hf st ⟨xs, hq, hx⟩ => by
      subst hP hw hK
      have ff := hf it (List.mem_singleton.mpr rfl)
      obtain ⟨f0, f1, f2, f3, f4, f5⟩ := id ff
      obtain ⟨its, rv, p, _⟩ := I.tuple hq
      obtain ⟨x1, hot, ne⟩ := hot_of hc I ff
      have hl := rv.length
      exact tuple_end hot ne st (show s.heap.IsTuple a its.toArray from p) (by simp; omega) fun h' eb => ⟨rfl, I.turned (t' := s.toks) (fun b o hb e => eb b o hb e) f0 f1 f3 f4 f5⟩ }
end
section
variable {X : Cx} {tg l : Expr} {tl : TE}
theorem pi_listH (hl : PE X l tl) : PIH X tg l (iList X.K tl) := ⟨fun pins s σ H R I h => thn (hl.run pins s σ H _ I h) fun v s1 ⟨x, H1, I1, r1, a, e, ⟨xs, hq⟩, q⟩ => by
  subst e
  cases r1
  obtain ⟨its, rv, p, _⟩ := I1.list hq
  exact wpAny_pyIter_list p.isList ⟨s1.heap.objs.size, [s1.heap.objs.size], _, _, H1, rfl, I1.kept (t' := s1.toks) fun b o e => Heap.get?_push_of_some _ e, turnL a _, ⟨_, Heap.get?_push_size _ rfl, rfl, rfl⟩, fun b hb => by
    rw [List.mem_singleton.mp hb]
    exact I1.fpOk (Nat.le_refl _) (I1.hok.fresh (Nat.le_refl _)), q⟩⟩
theorem pi_tupH (hl : PE X l tl) : PIH X tg l (iTup X.K tl) := ⟨fun pins s σ H R I h => thn (hl.run pins s σ H _ I h) fun v s1 ⟨x, H1, I1, r1, a, e, ⟨xs, hq⟩, q⟩ => by
  subst e
  cases r1
  obtain ⟨its, rv, p, _⟩ := I1.tuple hq
  exact wpAny_pyIter_tuple (show s1.heap.IsTuple a its.toArray from p) ⟨s1.heap.objs.size, [s1.heap.objs.size], _, _, H1, rfl, I1.kept (t' := s1.toks) fun b o e => Heap.get?_push_of_some _ e, turnT a _, ⟨_, Heap.get?_push_size _ rfl, rfl, rfl⟩, fun b hb => by
    rw [List.mem_singleton.mp hb]
    exact I1.fpOk (Nat.le_refl _) (I1.hok.fresh (Nat.le_refl _)), q⟩⟩
end
/-! ### the block -/
/-- a comprehension's block whose pins stay -/
abbrev blkP (X : Cx) (s : Shared) (H : Hp) (scope : Scope) (cenv : Env) (fp : List Addr) : Cx := { X.blk s H scope cenv fp with pn := X.pn }
theorem toP {X : Cx} {s0 : Shared} {H0 : Hp} {scope : Scope} {cenv : Env} {fp : List Addr} {pins : List (Addr × Obj)} {σ : L2.St} {H : Hp} {s : Shared} (I : Inv (X.blk s0 H0 scope cenv fp) pins σ H s)
    (hp : ∀ p ∈ X.pn, s.heap.get? p.1 = some p.2 ∧ H p.1 = none ∧ p.1 ≠ cenv.locals ∧ p.1 ∉ frs X.stack ∧ ∀ v, p.2.data ≠ .cell v) : Inv (blkP X s0 H0 scope cenv fp) pins σ H s :=
  let o := I.ok
  { ok := ⟨o.mod, o.kind, o.glob, o.blt, o.above, o.inj, o.has, o.cab, o.hd, o.frames, o.stk, o.exf, o.bs, o.bsz, o.noex, o.exfs, o.funs, o.frf⟩
    os := I.os, bare := I.bare, base := I.base, loc := I.loc, cell := I.cell, free := I.free, freeC := I.freeC, hok := I.hok, len := I.len
    pin := fun p h => (List.mem_append.mp h).elim (hp p) fun h => I.pin p (List.mem_append_right _ h) }
/-- [elt for target in iter], an exception being handled -/
theorem pe_lcH {X : Cx} {elt tg iter : Expr} {scope : Scope} {own : List (Str × Nat)} {pos : Pos} {wi : TI} {g : TG} {te : TE} (hc : HotC X) (hN : X.N.Nodup) (hi : PIH X tg iter wi) (ok : BlkOk X.N X.env.scope scope own)
    (hg : ∀ (s : Shared) (H : Hp) (C : Addr) (cl : List (Str × Addr)) (fp : List Addr), PG (blkP X s H scope (compEnvC scope cl C X.env) fp) tg g)
    (he : ∀ (s : Shared) (H : Hp) (C : Addr) (cl : List (Str × Addr)) (fp : List Addr), PE (blkP X s H scope (compEnvC scope cl C X.env) fp) elt te) (hs : ∀ x, foldedSetIterable iter X.env x = pure x := by intro _; rfl) :
    PE X (.ListComp elt [⟨tg, iter, [], 0⟩] scope pos) (tLc wi g tYes te (own.map (·.2))) := by
  refine ⟨fun pins s σ H Q I h => ?_⟩
  have free : ∀ y ∈ scope.names, y.2 = .free → ∃ c, X.env.cells.lookup y.1 = some c := fun y hy e => I.ok.has _ ((ok.free y hy e).imp (fun k => k) fun k => k)
  rw [eval_ListComp]
  refine wpAny_comprehension_free (use := none) rfl hs (closure_ok free) ok.kind (fun y hy e => (ok.uniq y hy).trans (congrArg some e)) (thn (hi.run pins s σ H _ I h) fun _ s1 h1 => thn h1 fun _ s2 ⟨it, fp, tn, J, H2, e, I2, T, st2, f2, q⟩ => ?_)
  subst e
  refine wpAny_newObj_type (newEnv_comp ?_) (Nat.zero_le sizeLine)
  -- the new list stands at D
  obtain ⟨W, ⟨m0, w0⟩, turn⟩ := q _ (I2.hok.fresh (Nat.le_refl s2.heap.objs.size))
  have I3 : Inv X pins σ (upd H2 s2.heap.objs.size (.lst [])) { s2 with heap := s2.heap.push { cls := .type "list", data := .seq ([] : List Value).toArray } } :=
    I2.laid (t' := s2.toks) (fun b o e => Heap.get?_push_of_some _ e) (Nat.le_refl _) ⟨Nat.zero_le _, [], 0, .nil, Heap.get?_push_size _ rfl⟩
  have below : ∀ b ∈ fp, b < s2.heap.objs.size := fun b hb => by
    obtain ⟨o, e, _⟩ := T.obj _ _ st2 b hb
    exact Heap.lt_size e
  have f3 : ∀ b ∈ fp, FpOk X pins (upd H2 s2.heap.objs.size (.lst [])) b ∧ b < ({ s2 with heap := s2.heap.push { cls := .type "list", data := .seq ([] : List Value).toArray } } : Shared).heap.objs.size := fun b hb =>
    ⟨⟨(upd_ne (Nat.ne_of_lt (below b hb))).trans (f2 b hb).1, (f2 b hb).2⟩, by rw [Heap.size_push]; exact Nat.lt_succ_of_lt (below b hb)⟩
  have st3 : tn 0 ({ s2 with heap := s2.heap.push { cls := .type "list", data := .seq ([] : List Value).toArray } } : Shared).heap := T.keep _ _ _ st2 fun b _ o e => Heap.get?_push_of_some _ e
  generalize hD : s2.heap.objs.size = D at turn I3 f3 st3 w0 ⊢
  generalize hs3 : ({ s2 with heap := s2.heap.push { cls := .type "list", data := .seq ([] : List Value).toArray } } : Shared) = s3 at I3 f3 st3
  have B0 := block_start I3 ok hN f3
  have pg := hg s3 (upd H2 D (.lst [])) s3.heap.objs.size (cellsFrom (s3.heap.objs.size + 1) scope.names (cloFrom X.env.cells scope.names [])) fp
  have pe := he s3 (upd H2 D (.lst [])) s3.heap.objs.size (cellsFrom (s3.heap.objs.size + 1) scope.names (cloFrom X.env.cells scope.names [])) fp
  show codeAny _ _ (.compStart (.ListComp elt [⟨tg, iter, [], 0⟩] scope pos) 0 (.ref it) (.ref D) (compEnvC scope (cellsFrom (s3.heap.objs.size + 1) scope.names (cloFrom X.env.cells scope.names [])) s3.heap.objs.size X.env)) (compPost (model X.prog X.w) X.A X.xe none (EP X pins σ Q) (.ref D) s3.heap.objs.size) { s3 with heap := pushCells (s3.heap.push { cls := .type "dict", data := .dict #[] }) scope.names }
  have cL : (compEnvC scope (cellsFrom (s3.heap.objs.size + 1) scope.names (cloFrom X.env.cells scope.names [])) s3.heap.objs.size X.env).locals = s3.heap.objs.size := rfl
  generalize compEnvC scope (cellsFrom (s3.heap.objs.size + 1) scope.names (cloFrom X.env.cells scope.names [])) s3.heap.objs.size X.env = ce at B0 pg pe cL ⊢
  have B := toP B0 fun p hp => by
    obtain ⟨g1, g2, g3, g4, g5⟩ := I3.pin p (List.mem_append_left _ hp)
    exact ⟨pushCells_keeps _ _ _ _ (Heap.get?_push_of_some _ g1), g2, by rw [cL]; exact Nat.ne_of_lt (Heap.lt_size g1), fun hm => (List.mem_cons.mp (I3.stkSub p.1 hm)).elim g3 g4, g5⟩
  have st4 : tn 0 ({ s3 with heap := pushCells (s3.heap.push { cls := .type "dict", data := .dict #[] }) scope.names } : Shared).heap := T.keep _ _ _ st3 fun b _ o e => pushCells_keeps _ _ _ _ (Heap.get?_push_of_some _ e)
  generalize ({ s3 with heap := pushCells (s3.heap.push { cls := .type "dict", data := .dict #[] }) scope.names } : Shared) = s4 at B st4 ⊢
  have fpk : ∀ {σ' : L2.St} {H' : Hp} {s' : Shared}, Inv (blkP X s3 (upd H2 D (.lst [])) scope ce fp) [] σ' H' s' → (∀ b ∈ fp, H' b = none) → ∀ b ∈ fp, FpOk (blkP X s3 (upd H2 D (.lst [])) scope ce fp) [] H' b := fun I' hn b hb =>
    ⟨hn b hb, (I'.ok.exf b hb).1, I'.ok.exfs b hb, .inl hb, (I'.ok.exf b hb).2, fun p hp => (f3 b hb).1.2.2.2.2.2 p (List.mem_append_left _ (by rw [List.append_nil] at hp; exact hp))⟩
  have L : codeAny (model X.prog X.w) X.A (.compLoop (.ListComp elt [⟨tg, iter, [], 0⟩] scope pos) 0 (.ref it) (.ref D) ce) (compPost (model X.prog X.w) X.A X.xe none (EP X pins σ Q) (.ref D) s3.heap.objs.size) s4 := by
    refine compLoop_any (fun n s' => ∃ i H', Inv (blkP X s3 (upd H2 D (.lst [])) scope ce fp) [] (wipe σ (own.map (·.2))) H' s' ∧ tn i s'.heap ∧ (∀ b ∈ fp, H' b = none) ∧ W i n H') ?_ m0 ⟨0, _, B, st4, fun b hb => (f3 b hb).1.1, w0⟩
    rintro n s5 ⟨i, H5, I5, st5, n5, w5⟩
    rcases turn i n H5 w5 with ⟨stop, done⟩ | ⟨go, Nx, next, step⟩
    · refine thnF (T.done (blkP X s3 (upd H2 D (.lst [])) scope ce fp) rfl rfl rfl hc i [] s5 _ H5 (fun _ _ => False) I5 (fpk I5 n5) st5 stop) fun r s6 ⟨hr, I6⟩ => ?_
      subst hr
      obtain ⟨m, hn, _⟩ := I6.loc
      have hn : s6.heap.Ns ce.locals m := hn
      have nC : H5 ce.locals = none := I6.free
      rw [cL] at hn nC
      obtain ⟨f0, f1, f2', f4, f5, f6⟩ := I3.fpOk (H' := H5) (Nat.le_refl _) nC
      have I7 : Inv X pins σ H5 s6 := I3.call' (ch := fp) I6.os I6.base I6.hok I6.bare fun b hb =>
        let ⟨_, a1, a2, a3, a4, a5⟩ := (f3 b hb).1
        ⟨a3, a1, a4, a5⟩
      exact ⟨m, hn, fun h' sb => ⟨.ref D, H5, I7.turned (t' := s6.toks) (fun b o hb e => (sb.2 b hb).trans e) f0 f1 f4 f5 f6, rfl, done⟩⟩
    · refine thnF (T.item (blkP X s3 (upd H2 D (.lst [])) scope ce fp) rfl rfl rfl hc i [] s5 _ H5 (fun _ _ => False) I5 (fpk I5 n5) st5 go) fun r s6 ⟨u, hr, h6⟩ => ?_
      subst hr
      refine thnF h6 fun _ s7 ⟨x, H7, I7, r7, y7, st7, n7⟩ => ?_
      refine thnF (pg.run _ s7 _ H7 x u _ (I7.pinned (fpk I7 n7) (T.obj _ _ st7)) r7 (step x H7 y7)) fun _ s8 ⟨σ8, H8, I8, hw, q8⟩ => ?_
      refine wpAny_tests_nil ?_
      have q8 : te σ8 H8 fun y H4 => ∃ acc, H4 D = some (.lst acc) ∧ acc.length < sizeLine ∧ Nx (upd H4 D (.lst (acc ++ [y]))) := q8
      refine thnF (pe.run _ s8 σ8 H8 _ I8 q8) fun z s9 ⟨yv, H9, I9, r9, acc, hD9, hz9, nx⟩ => ?_
      refine app_ok (X := blkP X s3 (upd H2 D (.lst [])) scope ce fp) I9 hD9 hz9 r9 fun s10 I10 => ?_
      obtain ⟨m', hm, w'⟩ := next _ nx
      have kept : ∀ b ∈ fp, ∀ o, s7.heap.get? b = some o → s10.heap.get? b = some o ∧ (upd H9 D (.lst (acc ++ [yv]))) b = none := fun b hb o e =>
        let z := I10.pin (b, o) (List.mem_append_right _ (List.mem_append_right _ (mem_pinsAt hb e)))
        ⟨z.1, z.2.1⟩
      refine ⟨m', hm, i + 1, _, (I10.unpinned (pins := [])).weak (by rw [← hw, wipe_length]) (fun j v e => ?_), T.keep _ _ _ st7 fun b hb o e => (kept b hb o e).1, fun b hb => ?_, w'⟩
      · rw [← hw] at e
        exact (wipe_some e).1
      · obtain ⟨o, e, _⟩ := T.obj _ _ st7 b hb
        exact (kept b hb o e).2
  exact codeAny_compStart_list L (T.self X.A 0 _ _ _ st4 L)
end OwnHot
/-! Own exceptions with a known context: what is raised by an own class, told so that a suite may call defs. -/
namespace OwnExN
open PySem PySem.Spec PyProof.Rows L2
section
variable {X : Cx} {CX : CXT} {x : Str} {C fI : Addr} {k : Nat} {fd : FuncData} {ps : List Str} {sp : Sp} {e : Expr} {es : List Expr} {ta : TA} {p pos : Pos}
/-- an own exception's call, its __init__ a def of one promise: what stands behind it -/
theorem raised_new {pins : List (Addr × Obj)} {σ : L2.St} {H1 : Hp} {s1 : Shared} {us : List Value} {vs : List V} {Q : XK} (T : OexC X.K C) (iC : PySem.W.findIn X.K (.ref C) "__init__" = some (some (.ref fI))) (tI : PySem.W.typeIn X.K (.ref fI) = some (.type "function"))
    (F1 : FnOk X.prog X.w X.K X.mg X.base CX k fI fd ps sp) (hr : Room (k + 1) X.A) (hb : Binds X.K fd ps []) (hx : Passes CX X (fun _ _ _ => False)) (I1 : Inv X pins σ H1 s1) (r1 : Vals vs us) (hz : vs.length ≤ 1000)
    (h : ∀ a, H1 a = none → sp (.ref a :: vs) (upd H1 a (exo a C none)) (fun v H2 => v = .non ∧ ∃ (d : Addr) (fs : List (Str × V)), H2 a = some (exo a C (some d)) ∧ H2 d = some (exd d fs) ∧ H1 d = none ∧ Q (.ref C) (some d) (upd (del H2 a) d (.xd fs))) (fun _ _ _ => False)) :
    wpAny (model X.prog X.w) X.A (call (.ref C) us) (L2N.MkP X pins σ Q) X.xe s1 := by
  obtain ⟨_, _, _, _, bm, _, _, _, _, _, _, _, _, _, _, inK, bmOk⟩ := T.cls
  have small : us.length ≤ sizeLine := Nat.le_trans (Nat.le_of_eq (Paired.length r1).symm) (Nat.le_trans hz (by decide))
  cases s1 with | mk hp g dr tk os =>
  -- the address of the new exception; what it promises there
  have q := h (hp.objs.size + 1) (I1.hok.fresh (Nat.le_succ _))
  have args : Vals (V.ref (hp.objs.size + 1) :: vs) (Value.ref (hp.objs.size + 1) :: us) := .cons rfl r1
  have J := I1.laid (t' := tk) (a := hp.objs.size + 1) (o := exo (hp.objs.size + 1) C none) (h' := (hp.push (PySem.W.kdv_tup us)).push (PySem.HandSPX.excO C hp.objs.size)) (fun b o z => Heap.get?_push_of_some _ (Heap.get?_push_of_some _ z)) (Nat.le_succ _) (exo_ok (by heap_get))
  have bd := hb _ (Value.ref (hp.objs.size + 1) :: us) J.kIn (by rw [List.append_nil]; exact args.length.symm.trans (F1.len _ _ _ _ q))
  rw [List.append_nil] at bd
  refine wpAny_call (PySem.HandSPX.call_own F.excBase_ValueError (PySem.HandSPX.refsVE_contains · bm bmOk) (I1.kIn _ _ inK) (PySem.W.looks_findIn I1.kIn iC) (fun self => PySem.W.bind_fn I1.kIn self tI) small ?_)
  refine codeAny_mono (F1.run _ X.stack _ _ ⟨Value.ref (hp.objs.size + 1) :: us, []⟩ _ _ _ (fun _ _ _ => False) (hr.make C us []) (J.env0.make C us []) bd args q) ?_
  rintro (er | fl) s' z
  · exact hx pins σ _ _ er s' J z
  · cases fl with
    | ret u =>
      obtain ⟨v, H2, o1, o2, o3, o4, rv, ev, d, fs, m1, m2, m3, fin⟩ := z
      subst ev
      cases s' with | mk h2 g2 d2 t2 os' =>
      obtain ⟨t0, G, JG, kG, nG, at2, free⟩ := mk_end0 (d2 := d2) (t2 := t2) I1 (Nat.le_succ _) (fun b o z => Heap.get?_push_of_some _ (Heap.get?_push_of_some _ z)) o3 o4 o1 o2 m1 m2 m3
      exact ⟨rv, hp.objs.size + 1, _, _, ⟨G, g2, d2, t2, os'⟩, _, .ref C, some d, rfl, JG, kG, nG, at2, ⟨rfl, rfl, fun vs hv => by cases hv; rfl⟩, rfl, rfl, free, rfl, o2, raises_own T.exC T.tyC, fin⟩
    | next => exact z.elim
    | brk => exact z.elim
    | cont => exact z.elim
theorem pmk_oexN (T : OexC X.K C) (iC : PySem.W.findIn X.K (.ref C) "__init__" = some (some (.ref fI))) (tI : PySem.W.typeIn X.K (.ref fI) = some (.type "function"))
    (F1 : FnOk X.prog X.w X.K X.mg X.base CX k fI fd ps sp) (hr : Room (k + 1) X.A) (hb : Binds X.K fd ps []) (hx : Passes CX X (fun _ _ _ => False)) (hg : Gl X x) (hm : X.mg x = some (.ref C)) (ha : PA X (e :: es) ta)
    (hdb : (x == ("__debug__" : Str)) = false := by decide) (he : starEach (e :: es) X.env = (false, eval e X.env) :: starEach es X.env := by rfl) (hpl : (backTo pos (starEach es X.env)).any (·.1) = false := by rfl) :
    L2N.PMk X (.Call (.Name x p) (e :: es) [] pos) (tMkO C sp [] ta) := fun pins s σ H Q I h =>
  wpAny_Call_Name_kw (ld_glob I hg hm (PySem.W.callWith_K (h₀ := X.base) I.ok.mod.kin T.kC (thn (ha.run pos pins s σ H _ I h) fun us s1 ⟨vs, H1, I1, r1, hz, q1⟩ => ⟨I1.kIn, raised_new T iC tI F1 hr hb hx I1 r1 hz fun a n => by
    have z := q1 a n
    rw [List.append_nil] at z
    exact z⟩) he hpl) hdb)
end
theorem passN {X : Cx} : Passes (L2N.CX X.prog X.w) X E0 := fun _ _ _ _ _ _ _ h => by
  obtain ⟨_, _, _, _, _, _, _, _, _, _, _, _, z⟩ := h
  exact z.elim
theorem takesN0 {X : Cx} : L2N.Takes X (fun _ _ _ _ => False) := fun _ _ x => by
  obtain ⟨_, _, _, _, _, _, _, _, _, _, _, _, _, _, _, _, z⟩ := x
  exact z.elim
/-- the rule of a def that may raise, the exception's context known -/
theorem okN {P : Program} {w : World} {K : PySem.W.Frag} {mg : Str → Option Value} {base : Heap} {x qual : Str} {st : Stmt} {f : Addr} {fd : FuncData} {N ps : List Str} {k : Nat} {sp : Sp} (F : Fun K x qual st f fd) (S : FnScope N ps (defScope st)) (len : ∀ vs H Q E, sp vs H Q E → vs.length = ps.length)
    (hbody : ∀ (cdv : Value) (A : Around) (outer : List Env) (s : Shared) (H : Hp) (vs : List V) (Q : VK) (E : XK), Room k (A.deeper (envOfC qual (defScope st) s.heap.objs.size f cdv)) → sp vs H Q E →
      ∃ t, PSs (cxOf (L2N.CX P w) P w K mg base N qual (defScope st) f cdv A outer s H E) (defBody st) t ∧ t { nx := fun _ H' => Q .non H', rt := Q } (L2.start N vs) H) : FnOk P w K mg base (L2N.CX P w) (k + 1) f fd ps sp :=
  match F.ex with
  | ⟨_, _, _, _, _, _, _, _, _, e, lk, hcd⟩ => e ▸ fn_of (e ▸ lk) hcd S len fun A outer s H vs Q E hr hsp => hbody _ A outer s H vs Q E hr hsp
end OwnExN
/-! Rules of our own: len of an own instance; a try with several handlers, named or not. -/
namespace OwnProj
open PySem PySem.Spec PyProof.Rows L2
section
variable {X : Cx} {CX : CXT} {n : Nat} {f C : Addr} {fd : FuncData} {ps : List Str} {sp : Sp} {E : XK}
/-- len(x) by the class's own __len__ -/
def rLenO (C : Addr) (sp : Sp) (E : XK) : List V → Hp → VK → Prop := fun xs H Q => ∃ a dx fs, xs = [.ref a] ∧ H a = some (.ins C dx fs) ∧ sp [.ref a] H (fun v H' => ∃ k : Nat, v = .int k ∧ k < 2 ^ 62 ∧ Q v H') E
theorem call_lenO (F : FnOk X.prog X.w X.K X.mg X.base CX n f fd ps sp) (hr : Room (n + 1) X.A) (m : Meth X.K C "__len__" f) (hb : Binds X.K fd ps []) (hx : Passes CX X E) : CallR X (.builtin "len") (rLenO C sp E) := by
  rintro pins s σ H xs us Q I r ⟨a, dx, fs, rfl, ha, hq⟩
  obtain ⟨u, rfl, rx⟩ := vals1 r
  cases rx
  obtain ⟨mA, J, _⟩ := ins_get I.hok ha
  obtain ⟨od, J, _⟩ := J.look
  obtain ⟨m0, hF⟩ := I.fr
  have args : Vals [V.ref a] [Value.ref a] := .cons rfl .nil
  have bd := hb s [Value.ref a] I.kIn (by rw [List.append_nil]; exact args.length.symm.trans (F.len _ _ _ _ hq))
  rw [List.append_nil] at bd
  refine PySem.W.len_K hF I.ok.mod.kin J m.at_ m.fn (wpAny_call (codeAny_mono (F.run X.A.in1 X.stack s H ⟨[Value.ref a], []⟩ _ _ _ E hr.in1 I.env0.in1 bd args hq) ?_))
  rintro (e | fl) s' z
  · exact hx pins σ H s e s' I z
  · cases fl with
    | ret u =>
      obtain ⟨v, H', I', rv, k, ev, hk, q⟩ := I.after z
      subst ev
      obtain ⟨t, rfl⟩ := rv
      refine ⟨⟨by omega, by omega⟩, ?_⟩
      exact ⟨.int k, H', I'.tok _, ⟨_, rfl⟩, q⟩
    | next => exact z.elim
    | brk => exact z.elim
    | cont => exact z.elim
end
/-! ### several handlers, some with a name -/
structure HdD where
  c : Value
  i : Option Nat
  ts : Addr → Value → Option Addr → TS
def endsAt (D : Ends) : Option Nat → Ends
  | none => D
  | some i => { nx := fun σ' H' => D.nx (σ'.set i none) H', rt := D.rt, bk := fun σ' H' => D.bk (σ'.set i none) H', ct := fun σ' H' => D.ct (σ'.set i none) H' }
def slotAt (σ : L2.St) (a : Addr) : Option Nat → L2.St
  | none => σ
  | some i => σ.set i (some (.ref a))
/-- what is wished of a body's exception: the first handler that takes it -/
def wHds (K : PySem.W.Frag) (Wout : WX) (D : Ends) : List HdD → WX
  | [] => Wout
  | h :: r => fun cls d σ H => ∃ b, PySem.W.exmOne K cls h.c = some b ∧ (b = true → ∀ a, H a = none → h.ts a cls d (endsAt D h.i) (slotAt σ a h.i) H) ∧ (b = false → wHds K Wout D r cls d σ H)
inductive Hds (X : Cx) : List ExceptHandler → List HdD → Prop
  | nil : Hds X [] []
  | bare {x : Str} {c : Value} {ts : Addr → Value → Option Addr → TS} {b₀ : Stmt} {suite : List Stmt} {np pos' : Pos} {hds : List ExceptHandler} {l : List HdD} (hc : Names X x c)
      (su : ∀ (ea : Addr) (oe : Obj) (cls : Value) (d : Option Addr) (pn : List (Addr × Obj)), L2N.Zn cls d oe → (∃ vs, oe.data = .fields vs) → PSs (X.suite ea ((ea, oe) :: pn)) (b₀ :: suite) (ts ea cls d)) (r : Hds X hds l) :
      Hds X (.ExceptHandler (some (.Name x np)) none (b₀ :: suite) pos' :: hds) (⟨c, none, ts⟩ :: l)
  | named {x n : Str} {c : Value} {i : Nat} {ts : Addr → Value → Option Addr → TS} {b₀ : Stmt} {suite : List Stmt} {np pos' : Pos} {hds : List ExceptHandler} {l : List HdD} (hN : X.N.Nodup) (hi : X.N[i]? = some n) (hn : X.env.kindOf n = some .local) (hc : Names X x c)
      (su : ∀ (ea : Addr) (oe : Obj) (cls : Value) (d : Option Addr) (pn : List (Addr × Obj)), L2N.Zn cls d oe → (∃ vs, oe.data = .fields vs) → PSs (X.suite ea ((ea, oe) :: pn)) (b₀ :: suite) (ts ea cls d)) (r : Hds X hds l) :
      Hds X (.ExceptHandler (some (.Name x np)) (some n) (b₀ :: suite) pos' :: hds) (⟨c, some i, ts⟩ :: l)
section
variable {X : Cx} {body : List Stmt} {h₀ : ExceptHandler} {hds : List ExceptHandler} {l : List HdD} {pos : Pos} {tb : WX → TS} {Wout : WX}
/-- where an exception has landed in our frame: the handlers in their order -/
theorem hds_run {pins : List (Addr × Obj)} {σ : L2.St} {H : Hp} {D : Ends} {ea : Addr} {B : Heap} {sI : Shared} {cls : Value} {d : Option Addr} {s : Shared} {h3 : Heap} (own : X.stack = X.env :: X.outer) (fr : X.env.frame = some X.env.locals) (tk : L2N.Takes X Wout) (ok : X.Ok)
    (J : Inv X pins σ H sI) (nb : ∀ b o, sI.heap.get? b = some o → b ∉ frs X.stack → B.get? b = some o) (up3 : sI.heap.UpToSlots h3) (fl3 : HandSPX.FlyingZ B (X.env :: X.outer) ea (L2N.Zn cls d) h3) (na : H ea = none) (os : s.os = sI.os) (ag : AllBare s.gens) :
    ∀ {hds : List ExceptHandler} {l : List HdD}, Hds X hds l → wHds X.K Wout D l cls d σ H → wpAny (model X.prog X.w) X.A (handleBy (.ref ea) X.env hds) (SP X pins D) X.xe { s with heap := h3 } := by
  have landed : ∀ {h : Heap}, HandSPX.FlyingZ B (X.env :: X.outer) ea (L2N.Zn cls d) h → sI.heap.UpToSlots h → Inv X pins σ H { s with heap := h } := fun fl up => J.landed nb fl.1 up os ag
  obtain ⟨oe3, vs3, he3, hz3, hd3⟩ := fl3.there
  have apart : ea ∉ frs (X.env :: X.outer) := fun hm => by
    obtain ⟨_, o, at1, no⟩ := fl3.2.2.1.mem hm
    rw [he3] at at1
    cases at1
    exact no _ hd3
  have n1 : ea ≠ X.env.locals := fun z => apart (List.mem_filterMap.mpr ⟨X.env, List.mem_cons_self, by rw [fr, z]⟩)
  have n2 : ea ∉ X.fs := fun hm => let ⟨e, he, q⟩ := List.mem_filterMap.mp hm; apart (List.mem_filterMap.mpr ⟨e, List.mem_cons_of_mem _ he, q⟩)
  have I3 := (landed fl3 up3).suite he3 hd3 na n1 n2
  -- a handler's test
  have asks : ∀ {x : Str} {c : Value} {np : Pos} {b : Bool} {Qs : Bool → Shared → Prop} {Es Et : Value → Shared → Prop}, Names X x c → PySem.W.exmOne X.K cls c = some b → Qs b { s with heap := h3 } →
      wpAny (model X.prog X.w) (X.A.mark (some (.ref ea))) (eval (.Name x np) X.env) (fun t s' => wpAny (model X.prog X.w) (X.A.mark (some (.ref ea))) (excMatches (.ref ea) t) Qs Es s') Et { s with heap := h3 } := fun {x c np b Qs Es Et} hc hb q => by
    have kind : PySem.W.Looks (model X.prog X.w) h3 (typeOf (.ref ea)) cls := fun A Q E s k q => wpAny_typeOf_ref (k _ _ he3) (by rw [hz3.1]; exact q)
    have m := PySem.W.exm_one (M := model X.prog X.w) I3.kIn kind hb
    obtain ⟨hg, hdbg, hm | ⟨hm, hv, hnn⟩⟩ := hc
    · exact ld_glob (X := X.suite ea ((ea, oe3) :: (X.pn ++ pins))) I3 hg hm (m.here q) hdbg
    · exact ld_blt (X := X.suite ea ((ea, oe3) :: (X.pn ++ pins))) I3 hg hm hv (m.here q) hnn hdbg
  intro hds l hk
  induction hk with
  | nil =>
    intro out
    refine wpAny_handleBy_nil ?_
    obtain ⟨_, _, _, _, _, T, _, _, at1, _, data, head, _⟩ := id fl3
    have flies : wpAny (model X.prog X.w) X.A (setFlight (.ref ea) X.env.frame) (fun _ s4 => wpAny (model X.prog X.w) X.A (throw (.ref ea) : Sem Flow) (SP X pins D) X.xe s4) X.xe { s with heap := h3 } := by
      rw [fr]
      exact HandSPX.setFlight_upZ fl3 fun h4 held up4 => wpAny_throw (tk _ _ ⟨ea, B, sI, pins, σ, H, cls, d, rfl, J, nb, up3.trans up4, .inr (.inr (by rw [own]; exact held)), na, os, ag, out⟩)
    unfold PySem.passOn
    refine wpAny_bind (wpAny_field at1 data head ?_)
    rw [if_neg (show ¬ ((Value.ref T == Value.none) = true) by simp)]
    first
      | exact wpAny_bind flies
      | exact wpAny_bind (wpAny_pure (wpAny_bind flies))
  | @bare x c ts b₀ suite np pos' hds2 l2 hc su r ih =>
    rintro ⟨b, hb, yes, no⟩
    refine wpAny_handleBy_cons (codeAny_handlers_test (asks hc hb ?_)) (by intro q; cases q)
    cases b with
    | false => exact ih (no rfl)
    | true =>
      refine codeAny_handlers_suite (HandSPX.lands_againZ fl3 fun h4 fl4 up4 => ?_)
      obtain ⟨oe4, vs4, he4, hz4, hd4⟩ := fl4.there
      refine wpAny_mono ((su ea oe4 cls d (X.pn ++ pins) hz4 ⟨_, hd4⟩).run [] _ _ H _ ((landed fl4 (up3.trans up4)).suite he4 hd4 na n1 n2) (yes rfl ea na)) (fun f s6 z => ?_) (fun _ _ z => z.elim)
      cases f with
      | next => exact let ⟨_, _, S6, q6⟩ := z; ⟨_, _, S6.unsuite ok, q6⟩
      | brk => exact let ⟨_, _, S6, q6⟩ := z; ⟨_, _, S6.unsuite ok, q6⟩
      | cont => exact let ⟨_, _, S6, q6⟩ := z; ⟨_, _, S6.unsuite ok, q6⟩
      | ret u => exact let ⟨_, _, _, S6, r6, q6⟩ := z; ⟨_, _, _, S6.unsuite ok, r6, q6⟩
  | @named x n c i ts b₀ suite np pos' hds2 l2 hN hi hn hc su r ih =>
    rintro ⟨b, hb, yes, no⟩
    refine wpAny_handleBy_cons (codeAny_handlers_test (asks hc hb ?_)) (by intro q; cases q)
    cases b with
    | false => exact ih (no rfl)
    | true =>
      refine codeAny_handlers_suite_as (HandSPX.lands_againZ fl3 fun h4 fl4 up4 => ?_)
      obtain ⟨oe4, vs4, he4, hz4, hd4⟩ := fl4.there
      refine store_ok (X := X.suite ea ((ea, oe4) :: (X.pn ++ pins))) (v := .ref ea) ((landed fl4 (up3.trans up4)).suite he4 hd4 na n1 n2) hN hi (.inl hn) rfl (fun s5 S5 => ?_) (.inr hn)
      refine wpAny_mono ((su ea oe4 cls d (X.pn ++ pins) hz4 ⟨_, hd4⟩).run [] s5 _ H _ S5 (yes rfl ea na)) (fun f s6 z => ?_) (fun _ _ z => z.elim)
      have gone : ∀ {σ6 : L2.St} {H6 : Hp} {Q : Shared → Prop}, Inv (X.suite ea ((ea, oe4) :: (X.pn ++ pins))) [] σ6 H6 s6 → (∀ s7, Inv X pins (σ6.set i none) H6 s7 → Q s7) → wpAny (model X.prog X.w) X.A (do bindName X.env n .none; unbindBehindTheSuite X.env n pos') (fun _ s7 => Q s7) X.xe s6 := fun S6 hq => gone_ok (S6.unsuite ok) hN hi hn hq
      cases f with
      | next => exact let ⟨_, _, S6, q6⟩ := z; gone S6 fun s7 J7 => ⟨_, _, J7, q6⟩
      | brk => exact let ⟨_, _, S6, q6⟩ := z; gone S6 fun s7 J7 => ⟨_, _, J7, q6⟩
      | cont => exact let ⟨_, _, S6, q6⟩ := z; gone S6 fun s7 J7 => ⟨_, _, J7, q6⟩
      | ret u => exact let ⟨_, _, _, S6, r6, q6⟩ := z; gone S6 fun s7 J7 => ⟨_, _, _, J7, r6, q6⟩
theorem ps_try_hds (own : X.stack = X.env :: X.outer) (fr : X.env.frame = some X.env.locals) (tk : L2N.Takes X Wout)
    (hb : ∀ (W : WX) (pn : List (Addr × Obj)) (xe : Value → Shared → Prop), L2N.Takes (X.tr pn xe) W → PassesOwn (model X.prog X.w) X.A X.env xe → PSs (X.tr pn xe) body (tb W)) (hh : Hds X (h₀ :: hds) l) :
    PS X (.Try body (h₀ :: hds) [] [] pos) (fun D σ H => tb (wHds X.K Wout D l) D σ H) := ⟨fun pins s σ H D I h => by
  have frames : X.A.frames = some (X.env :: X.outer) := by rw [I.ok.frames, own]
  let caught : Value → Shared → Prop := fun e s₁ => wpAny (model X.prog X.w) X.A (noteFrame e X.env) (fun _ s₂ => wpAny (model X.prog X.w) X.A (setFlight e none) (fun _ s₃ => wpAny (model X.prog X.w) X.A (handleBy e X.env (h₀ :: hds)) (SP X pins D) X.xe s₃) X.xe s₂) X.xe s₁
  have inner := hb (wHds X.K Wout D l) (X.pn ++ pins) caught (fun u s' ⟨ea, B, sI, pins', σ', H', cls, d, e, J, nb, up, sky, na, os, ag, w⟩ => by
    subst e
    have sky' : Sky B (X.env :: X.outer) ea (L2N.Zn cls d) X.env.locals s'.heap := by rw [← own]; exact sky
    exact L2N.Sky.land L2N.Zn.steady frames fr sky' fun h3 fl3 up3 => hds_run own fr tk I.ok (J.ofTry I.ok) nb (up.trans up3) fl3 na os ag hh w) PassesOwn.looking
  refine wpAny_Try_except (wpAny_mono (inner.run [] s σ H D (I.toTry _) h) (fun f s1 z => ?_) (fun e s1 he => he))
  cases f with
  | next => exact let ⟨_, _, J, q⟩ := z; wpAny_execs_nil ⟨_, _, J.ofTry I.ok, q⟩
  | brk => exact let ⟨_, _, J, q⟩ := z; ⟨_, _, J.ofTry I.ok, q⟩
  | cont => exact let ⟨_, _, J, q⟩ := z; ⟨_, _, J.ofTry I.ok, q⟩
  | ret u => exact let ⟨_, _, _, J, r, q⟩ := z; ⟨_, _, _, J.ofTry I.ok, r, q⟩⟩
end
end OwnProj
/-! A lambda of one parameter: the start of its body. -/
namespace OwnLam
open PySem PySem.Spec PyProof.Rows L2 LamX
/-- one parameter, a, of slot j, and no other name of its own -/
structure OneS (maker inner : Scope) (N : List Str) (a : Str) (j : Nat) : Prop where
  fn : inner.kind = .function
  noCo : inner.isCoroutine = false
  noGen : inner.isGenerator = false
  each : N.Nodup
  slot : N[j]? = some a
  par : inner.names.lookup a = some .local
  only : ∀ y ∈ inner.names, y.2 ≠ .cell ∧ (y.2 = .local → y.1 = a)
  out : ∀ y ∈ inner.names, y.2 = .free → maker.names.lookup y.1 = some .cell ∨ maker.names.lookup y.1 = some .free
section
variable {X : Cx} {pins : List (Addr × Obj)} {σ : L2.St} {H HZ : Hp} {s s1 : Shared} {inner : Scope} {a : Str} {j : Nat}
theorem OneS.caught (L : OneS X.env.scope inner X.N a j) (ok : X.Ok) (y : Str × NameKind) (hy : y ∈ inner.names) (e : y.2 = .free) : ∃ c, X.env.cells.lookup y.1 = some c := ok.has _ (L.out y hy e)
/-- the cells of the lambda are the maker's -/
theorem clo_sub (L : OneS X.env.scope inner X.N a j) (ok : X.Ok) {y : Str} {c : Addr} (e : (cloFrom X.env.cells inner.names []).lookup y = some c) : X.env.cells.lookup y = some c := by
  rcases cloFrom_mem (PySem.mem_of_lookup e) with no | ⟨yes, eq⟩
  · exact absurd no (by simp)
  · obtain ⟨c1, h1⟩ := L.caught ok _ yes rfl
    have h1 : X.env.cells.lookup y = some c1 := h1
    have : c = c1 := by
      rw [eq, h1] <;> rfl
    exact this ▸ h1
theorem clo_has {y : Str} (h : inner.names.lookup y = some .free) : ∃ c, (cloFrom X.env.cells inner.names []).lookup y = some c :=
  mem_lookup (cloFrom_has (cells := X.env.cells) (acc := []) (PySem.mem_of_lookup h : (y, NameKind.free) ∈ inner.names))
/-- the body begins: the argument v stands in slot j -/
theorem one_start {A : Around} {outer : List Env} {E : XK} {f c' : Addr} {hp : Heap} {tk : Nat} {v : V} {u : Value} (I : Inv X pins σ H s) (L : OneS X.env.scope inner X.N a j) (e0 : Env0 X.prog X.w X.K X.mg X.base A outer s1 HZ) (hd : A.handled = none)
    (un : Un (frs X.stack) [] H HZ s.heap s1.heap) (ns : hp.Ns s1.heap.objs.size fun y => [(a, u)].reverse.lookup y) (kp : ∀ b o, s1.heap.get? b = some o → hp.get? b = some o) (rv : RelV v u) :
    Inv (lamCx X A outer s1 HZ E inner f c') [] (σ.set j (some v)) HZ { s1 with heap := hp, toks := tk } := by
  have still : ∀ {c : Addr} {x : Option Value}, H c = none → s.heap.IsCell c x → hp.IsCell c x := fun {c x} no ⟨o, ho, hv⟩ =>
    let ⟨sl, q⟩ := un.any ho no (by simp)
    ⟨_, kp _ _ q, hv⟩
  have none' : ∀ b : Addr, ¬ b ∈ (lamCx X A outer s1 HZ E inner f c').ex := fun b z => by
    have z : b ∈ ([] : List Addr) := z
    simp at z
  have mine : ∀ {y : Str} {k : NameKind}, inner.names.lookup y = some k → k = .local → y = a := fun {y k} h e => (L.only _ (PySem.mem_of_lookup h)).2 e
  have noCell : ∀ {y : Str}, inner.names.lookup y ≠ some .cell := fun {y} h => (L.only _ (PySem.mem_of_lookup h)).1 rfl
  have okB : (lamCx X A outer s1 HZ E inner f c').Ok :=
    ⟨e0.mod, L.fn, rfl, rfl, Nat.le_refl _, fun y z c l1 l2 => I.ok.inj y z c (clo_sub L I.ok l1) (clo_sub L I.ok l2), fun y hy => hy.elim (fun h => absurd h noCell) clo_has, fun _ _ z _ => Bool.noConfusion (show false = true from z), fun _ => hd, Around.frames_deeper e0.frames,
      .inr ⟨rfl, rfl⟩, fun b z => (none' b z).elim, e0.bs, e0.bsz, fun b _ _ => none' b, fun b z => (none' b z).elim, e0.funs, e0.frf⟩
  refine { ok := okB, os := rfl, bare := e0.bare, base := Un.kept kp, loc := ⟨_, ns, fun i y w hi hw vis => ?_⟩, cell := fun y c l => ?_, free := e0.hok.fresh (Nat.le_refl _), freeC := fun y c l => ?_, pin := fun q hq => ?_, hok := e0.hok.kept kp, len := by rw [List.length_set]; exact I.len }
  · have hi : X.N[i]? = some y := hi
    have vis : Vis inner y := vis
    rcases vis with loc | cel | fre
    · -- the parameter
      have e := mine loc rfl
      subst e
      obtain ⟨l1, q1⟩ := List.getElem?_eq_some_iff.mp hi
      obtain ⟨l2, q2⟩ := List.getElem?_eq_some_iff.mp L.slot
      have ij : i = j := (List.getElem_inj L.each).mp (q1.trans q2.symm)
      subst ij
      have l3 : i < σ.length := by rw [I.len]; exact l1
      rw [List.getElem?_set_self l3] at hw
      cases Option.some.inj (Option.some.inj hw)
      refine ⟨u, rv, .inl ⟨loc, ?_⟩⟩
      show [(y, u)].reverse.lookup y = some u
      simp
    · exact absurd cel noCell
    · have ne : j ≠ i := fun e => by
        have z := L.slot
        rw [e, hi] at z
        cases Option.some.inj z
        rw [L.par] at fre
        cases fre
      rw [List.getElem?_set_ne ne] at hw
      obtain ⟨m, _, all⟩ := I.loc
      have up := L.out _ (PySem.mem_of_lookup fre) rfl
      obtain ⟨x, rx, q⟩ := all i y w hi hw (up.elim (fun k => .inr (.inl k)) fun k => .inr (.inr k))
      obtain ⟨c2, h2⟩ := clo_has (X := X) fre
      have c1 := clo_sub L I.ok h2
      refine ⟨x, rx, .inr ⟨.inr fre, c2, h2, ?_⟩⟩
      rcases q with ⟨k, _⟩ | ⟨_, c3, e3, z⟩
      · have k : X.env.scope.names.lookup y = some .local := k
        have up : X.env.scope.names.lookup y = some .cell ∨ X.env.scope.names.lookup y = some .free := up
        rw [k] at up
        rcases up with up | up <;> cases up
      · have : c3 = c2 := Option.some.inj (e3.symm.trans c1)
        subst this
        exact still (I.freeC y _ c1) z
  · obtain ⟨x, z⟩ := I.cell y c (clo_sub L I.ok l)
    exact ⟨x, still (I.freeC y c (clo_sub L I.ok l)) z⟩
  · obtain ⟨x, o, ho, _⟩ := I.cell y c (clo_sub L I.ok l)
    exact un.free c o ho (I.freeC y c (clo_sub L I.ok l)) (by simp)
  · have hq : q ∈ ([] : List (Addr × Obj)) ++ [] := hq
    simp at hq
/-- b(e1), in the def that holds the lambda in slot i: Z is that def's context, entered at s -/
theorem pe_one {CXg : CXT} {Eg : XK} {Ng : List Str} {qg : Str} {sg : Scope} {g f c' : Addr} {cdg pm ctv : Value} {params : Arguments} {body e1 : Expr} {k i : Nat} {b : Str} {pn : List (Addr × Obj)} {xe : Value → Shared → Prop} {W : WX} {E : XK} {t1 tb : TE} {p1 p2 : Pos}
    (I : Inv X pins σ H s) (L : OneS X.env.scope inner X.N a j) (hf : s.heap.get? f = some (PySem.W.kla_obj "<lambda>" (X.env.qual ++ "<lambda>") params body inner (cloFrom X.env.cells inner.names []) pm c' ctv)) (hfn : H f = none) (hfr : f ∉ frs X.stack)
    (hbind : ∀ u, bindArgs (PySem.W.kla_fn "<lambda>" (X.env.qual ++ "<lambda>") params body inner (cloFrom X.env.cells inner.names []) pm (.ref c') ctv) ⟨[u], []⟩ = pure [(a, u)])
    (tk : Takes ((cxOf CXg X.prog X.w X.K X.mg X.base Ng qg sg g cdg X.A X.stack s H Eg).tr pn xe) W) (hW : ∀ cls d σ' H', E cls d H' → W cls d σ' H') (hr : Room (k + 1) (X.A.deeper (envOfC qg sg s.heap.objs.size g cdg)))
    (hbody : ∀ (A : Around) (outer : List Env) (s : Shared) (H : Hp), Room k (A.deeper (lamEnv X inner s.heap.objs.size f c')) → PE (lamCx X A outer s H E inner f c') body tb)
    (h1 : PE ((cxOf CXg X.prog X.w X.K X.mg X.base Ng qg sg g cdg X.A X.stack s H Eg).tr pn xe) e1 t1)
    (hN : Ng[i]? = some b) (hv : Vis sg b) (hd : (b == ("__debug__" : Str)) = false := by decide) (hcd : (b == ("__classdict__" : Str)) = false := by decide)
    (he : starEach [e1] (envOfC qg sg s.heap.objs.size g cdg) = [(false, eval e1 (envOfC qg sg s.heap.objs.size g cdg))] := by rfl) :
    PE ((cxOf CXg X.prog X.w X.K X.mg X.base Ng qg sg g cdg X.A X.stack s H Eg).tr pn xe) (.Call (.Name b p1) [e1] [] p2)
      (fun σZ HZ Q => σZ[i]? = some (some (.ref f)) ∧ t1 σZ HZ fun v H1 => H1 c' = some (CodeO c' (X.env.qual ++ "<lambda>")) ∧ tb (σ.set j (some v)) H1 Q) := by
  refine ⟨fun pinsZ sZ σZ HZ Q IZ h => ?_⟩
  obtain ⟨hs, ht⟩ := h
  refine wpAny_Call_Name_kw (thn ((pe_var (pos := p1) (i := i) hN hv hd hcd).run pinsZ sZ σZ HZ (fun v H1 => v = .ref f ∧ H1 = HZ) IZ ⟨.ref f, hs, rfl, rfl⟩) fun u s1 ⟨v, H1, I1, r1, q1⟩ => ?_)
  obtain ⟨ev, eH⟩ := q1
  subst ev
  rw [eH] at I1
  obtain rfl : u = Value.ref f := r1
  have at1 : s1.heap.get? f = some (PySem.W.kla_obj "<lambda>" (X.env.qual ++ "<lambda>") params body inner (cloFrom X.env.cells inner.names []) pm c' ctv) := I1.base.keep f _ hf hfn hfr (fun z => nomatch (show f ∈ ([] : List Addr) from z))
  refine PySem.W.callWith_F (he := he) ⟨_, _, _, _, at1⟩ ?_
  show wpAny _ _ (spliced (backTo p2 (starEach [e1] (envOfC qg sg s.heap.objs.size g cdg)))) _ _ s1
  rw [he]
  refine Calls.spliced_cons (thn (h1.run pinsZ s1 σZ HZ _ I1 ht) fun u s2 ⟨v, H2, I2, rv, hc, ht2⟩ => ?_)
  refine Calls.spliced_nil ?_
  have of2 : s2.heap.get? f = some (PySem.W.kla_obj "<lambda>" (X.env.qual ++ "<lambda>") params body inner (cloFrom X.env.cells inner.names []) pm c' ctv) := I2.base.keep f _ hf hfn hfr (fun z => nomatch (show f ∈ ([] : List Addr) from z))
  refine ⟨⟨_, _, _, _, of2⟩, ?_⟩
  have un : Un (frs X.stack) [] H H2 s.heap s2.heap := I2.base
  obtain ⟨⟨oc, vs, t, hoc, hdc, hvc⟩, _, _⟩ := I2.hok c' _ hc
  have rc : codeAny (model X.prog X.w) (X.A.deeper (envOfC qg sg s.heap.objs.size g cdg)) (.call (.ref f) ⟨[u], []⟩) (CR (L2.CX X.prog X.w) (envOfC qg sg s.heap.objs.size g cdg :: X.stack) X.prog X.w H2 s2 Q E) s2 := by
    refine PySem.W.kla_callFunE hr.depth of2 rfl L.noCo L.noGen rfl ⟨c', oc, vs, t, rfl, hoc, hdc, hvc⟩ ?_
    rw [hbind]
    refine wpAny_pure (wpAny_newFunctionEnv (fun y hy => (L.only y hy).1) (fun y hy => ?_) (fun hp ns sb => ⟨I2.nolimit.fresh _ sb, ?_⟩) L.fn)
    · cases List.mem_singleton.mp hy
      exact L.par
    show codeAny _ _ (.expr body (lamEnv X inner s2.heap.objs.size f c')) _ _
    have kp : ∀ b o, s2.heap.get? b = some o → hp.get? b = some o := fun b o e => sb.extBut b o (Nat.ne_of_lt (Heap.lt_size e)) (Heap.get?_push_of_some _ e)
    have J : Inv (lamCx X (X.A.deeper (envOfC qg sg s.heap.objs.size g cdg)) (envOfC qg sg s.heap.objs.size g cdg :: X.stack) s2 H2 E inner f c') [] (σ.set j (some v)) H2 { s2 with heap := hp, toks := s2.toks + [(a, u)].length } :=
      one_start I L I2.env0 hr.hd un ns kp rv
    refine PySem.W.kla_codeExpr (wpAny_mono ((hbody _ _ s2 H2 (hr.deeper _)).run [] _ _ H2 Q J ht2) (fun v s' hq => ?_) fun e s' hq => hq)
    obtain ⟨w', H', J', rw', q⟩ := hq
    exact ⟨w', H', J'.os, J'.bare, J'.base, J'.hok, rw', q⟩
  have hx : Passes (L2.CX X.prog X.w) ((cxOf CXg X.prog X.w X.K X.mg X.base Ng qg sg g cdg X.A X.stack s H Eg).tr pn xe) E := passes_call tk hW
  refine wpAny_call (codeAny_mono rc fun r s' hq => ?_)
  cases r with
  | error e => exact hx pinsZ σZ H2 s2 e s' I2 hq
  | ok fl =>
    cases fl with
    | ret u => exact I2.after hq
    | next => exact False.elim hq
    | brk => exact False.elim hq
    | cont => exact False.elim hq
end
/-- a def of two parameters, a thing and a lambda, that calls what it got by the name b; q: the lambda's code's name; TT: what it makes of the thing and of the lambda's reading -/
def Gives2 (X : Cx) (Ng : List Str) (x : Str) (sg : Scope) (g : Addr) (cdg : Value) (bg : List Stmt) (b q : Str) (TT : V → (V → XK → Hp → VK → Prop) → Hp → VK → Prop) : Prop :=
  ∀ (f c' : Addr) (v0 : V) (s : Shared) (H : Hp) (Q : VK) (tl : V → XK → Hp → VK → Prop),
    (∀ (W : WX) (pn : List (Addr × Obj)) (xe : Value → Shared → Prop) (E : XK) (p1 p2 : Pos) (e1 : Expr) (t1 : TE), Takes ((cxOf C8.CX0 X.prog X.w X.K X.mg X.base Ng x sg g cdg X.A X.stack s H C8.E0).tr pn xe) W → (∀ cls d σ' H', E cls d H' → W cls d σ' H') →
      PE ((cxOf C8.CX0 X.prog X.w X.K X.mg X.base Ng x sg g cdg X.A X.stack s H C8.E0).tr pn xe) e1 t1 →
      starEach [e1] (envOfC x sg s.heap.objs.size g cdg) = [(false, eval e1 (envOfC x sg s.heap.objs.size g cdg))] →
      PE ((cxOf C8.CX0 X.prog X.w X.K X.mg X.base Ng x sg g cdg X.A X.stack s H C8.E0).tr pn xe) (.Call (.Name b p1) [e1] [] p2)
        (fun σZ HZ Q => σZ[1]? = some (some (.ref f)) ∧ t1 σZ HZ fun v H1 => H1 c' = some (CodeO c' q) ∧ tl v E H1 Q)) →
    H c' = some (CodeO c' q) → TT v0 tl H Q →
    ∃ t, PSs (cxOf C8.CX0 X.prog X.w X.K X.mg X.base Ng x sg g cdg X.A X.stack s H C8.E0).nox bg t ∧ t { nx := fun _ H' => Q .non H', rt := Q } (L2.start Ng [v0, .ref f]) H
/-- the reading of x(e0, lambda a: ..): j is the slot of a -/
def tTwo (T : List (Addr × Str)) (j : Nat) (TT : V → (V → XK → Hp → VK → Prop) → Hp → VK → Prop) (t0 : TE) (t : XK → TE) : TE := fun σ H Q =>
  t0 σ H fun v0 H0 => Tabs T H0 ∧ ∀ H1, ExtN H0 H1 → Tabs T H1 → TT v0 (fun v E H' Q' => t E (σ.set j (some v)) H' Q') H1 Q
section
variable {X : Cx} {inner : Scope} {a : Str} {j : Nat}
/-- x(e0, lambda a: body) -/
theorem pe_two {T : List (Addr × Str)} {TT : V → (V → XK → Hp → VK → Prop) → Hp → VK → Prop} {x a0 b : Str} {g c P : Addr} {k : Nat} {pg : Arguments} {bg : List Stmt} {sg : Scope} {dV kV doc pm cdv ct oc : Value} {an od : Option Addr} {osl : Array (Option Value)} {Ng : List Str}
    {params : Arguments} {e0 body : Expr} {t0 : TE} {t : XK → TE} {p lpos pos : Pos} (hg : Gl X x) (hm : X.mg x = some (.ref g)) (hk : PySem.W.keepIn X.K (.ref g) = true)
    (lk : X.K.lookup g = some ⟨oc, od, .func (PySem.W.fnOf x x pg bg sg dV kV doc pm an cdv ct), osl⟩) (hcg : PySem.W.codeIn X.K cdv x = true) (hb : L2.Binds X.K (PySem.W.fnOf x x pg bg sg dV kV doc pm an cdv ct) [a0, b] []) (Sg : FnScope Ng [a0, b] sg) (hNg : Ng[1]? = some b) (hvb : Vis sg b)
    (hG : Gives2 X Ng x sg g cdv bg b (X.env.qual ++ "<lambda>") TT) (h0 : PE X e0 t0)
    (TB : TabB X.base X.mg c P) (hcode : X.env.code = .ref c) (hmT : (P, X.env.qual ++ "<lambda>") ∈ T) (hu : ∀ p ∈ T, p.1 = P → p.2 = X.env.qual ++ "<lambda>") (hr : Room (k + 2) X.A) (L : OneS X.env.scope inner X.N a j) (hdef : defaultsOf params X.env = ([], []))
    (hbind : ∀ (q : Str) (cl : List (Str × Addr)) (pm cv ctv u : Value), bindArgs (PySem.W.kla_fn "<lambda>" q params body inner cl pm cv ctv) ⟨[u], []⟩ = pure [(a, u)])
    (hbody : ∀ (A : Around) (outer : List Env) (s : Shared) (H : Hp) (E : XK) (f c' : Addr), Room k (A.deeper (lamEnv X inner s.heap.objs.size f c')) → PE (lamCx X A outer s H E inner f c') body (t E))
    (he : starEach [e0, .Lambda params body inner lpos] X.env = (false, eval e0 X.env) :: starEach [.Lambda params body inner lpos] X.env := by rfl)
    (hdb : (x == ("__debug__" : Str)) = false := by decide) (hd : (b == ("__debug__" : Str)) = false := by decide) (hcd : (b == ("__classdict__" : Str)) = false := by decide) :
    PE X (.Call (.Name x p) [e0, .Lambda params body inner lpos] [] pos) (tTwo T j TT t0 t) := by
  refine ⟨fun pins s σ H Q I h => ?_⟩
  refine wpAny_Call_Name_kw (ld_glob I hg hm ?_ hdb)
  refine PySem.W.callWith_K (h₀ := X.base) I.ok.mod.kin hk ?_ he (by rfl)
  rw [he]
  show wpAny _ _ (spliced ((false, eval e0 X.env) :: (false, eval (.Lambda params body inner lpos) X.env) :: backTo pos (starEach [] X.env))) _ _ s
  refine Calls.spliced_cons (thn (h0.run pins s σ H _ I h) fun u s0 ⟨v0, H0, I0, r0, hT, h⟩ => ?_)
  refine Calls.spliced_cons (lam_make2 I0 TB hcode hmT hu hT hdef (L.caught I0.ok) fun f c' pm' ctv H1 s' I1 eN T1 hf hfn hfr hco => ?_)
  refine Calls.spliced_nil ⟨I1.kIn, ?_⟩
  have rc : codeAny (model X.prog X.w) X.A (.call (.ref g) ⟨[u, .ref f], []⟩) (CR C8.CX0 X.stack X.prog X.w H1 s' Q C8.E0) s' := by
    refine run_ofS (N := Ng) (ps := [a0, b]) (us := [u, .ref f]) (vs := [v0, .ref f]) lk hcg Sg hr I1.env0 (hb s' [u, .ref f] I1.kIn rfl) (.cons r0 (.cons rfl .nil)) rfl fun hr' => ?_
    obtain ⟨t', ht', hq'⟩ := hG f c' v0 s' H1 Q (fun v E H' Q' => t E (σ.set j (some v)) H' Q') (fun W pn xe E p1 p2 e1 t1 tk hW h1 he1 => pe_one (i := 1) I1 L hf hfn hfr (hbind _ _ _ _ _) tk hW hr' (fun A outer s H hr2 => hbody A outer s H E f c' hr2) h1 hNg hvb hd hcd he1) hco (h H1 eN T1)
    exact ⟨t', ht'.nox, hq'⟩
  refine wpAny_call (codeAny_mono rc fun r s2 hq => ?_)
  cases r with
  | error e => exact (show False from hq).elim
  | ok fl =>
    cases fl with
    | ret u => exact I1.after hq
    | next => exact False.elim hq
    | brk => exact False.elim hq
    | cont => exact False.elim hq
end
end OwnLam
/-! A lambda of one parameter that an inner scope takes along: the parameter is a cell. -/
namespace OwnLamC
open PySem PySem.Spec PyProof.Rows L2 LamX
section
variable {M : Model} {A : Around} {E : Value → Shared → Prop} {s : Shared}
abbrev isC (y : Str × NameKind) : Bool := y.2 == NameKind.cell
theorem cells_no : ∀ (names : List (Str × NameKind)) (n : Nat) (acc : List (Str × Addr)), names.filter isC = [] → cellsFrom n names acc = acc
  | [], _, _, _ => rfl
  | (x, k) :: r, n, acc, h => by
    by_cases c : (k == NameKind.cell) = true
    · rw [List.filter_cons_of_pos (p := isC) c] at h
      cases h
    · rw [List.filter_cons_of_neg (p := isC) c] at h
      unfold cellsFrom
      rw [if_neg c]
      exact cells_no r n acc h
theorem push_no : ∀ (names : List (Str × NameKind)) (h : Heap), names.filter isC = [] → pushCells h names = h
  | [], _, _ => rfl
  | (x, k) :: r, h, e => by
    by_cases c : (k == NameKind.cell) = true
    · rw [List.filter_cons_of_pos (p := isC) c] at e
      cases e
    · rw [List.filter_cons_of_neg (p := isC) c] at e
      unfold pushCells
      rw [if_neg c]
      exact push_no r h e
theorem cells_one {a : Str} : ∀ (names : List (Str × NameKind)) (n : Nat) (acc : List (Str × Addr)), names.filter isC = [(a, .cell)] → cellsFrom n names acc = (a, n) :: acc
  | [], _, _, h => by cases h
  | (x, k) :: r, n, acc, h => by
    by_cases c : (k == NameKind.cell) = true
    · rw [List.filter_cons_of_pos (p := isC) c] at h
      injection h with h1 h2
      injection h1 with h3 _
      unfold cellsFrom
      rw [if_pos c, h3]
      exact cells_no r _ _ h2
    · rw [List.filter_cons_of_neg (p := isC) c] at h
      unfold cellsFrom
      rw [if_neg c]
      exact cells_one r n acc h
theorem push_one {a : Str} : ∀ (names : List (Str × NameKind)) (h : Heap), names.filter isC = [(a, .cell)] → pushCells h names = h.push { cls := .type "cell", data := .cell none }
  | [], _, e => by cases e
  | (x, k) :: r, h, e => by
    by_cases c : (k == NameKind.cell) = true
    · rw [List.filter_cons_of_pos (p := isC) c] at e
      injection e with _ h2
      unfold pushCells
      rw [if_pos c]
      exact push_no r _ h2
    · rw [List.filter_cons_of_neg (p := isC) c] at e
      unfold pushCells
      rw [if_neg c]
      exact push_one r h e
/-- the call's frame, with the one argument in its cell -/
theorem env_one {scope : Scope} {globals : Addr} {closure : List (Str × Addr)} {a : Str} {u : Value} {qual : Str} {func : Option Addr} {code : Value} {builtins : Addr} {Q : Env → Shared → Prop} (hk : scope.kind = .function)
    (one : scope.names.filter isC = [(a, .cell)]) (la : scope.names.lookup a = some .cell)
    (hQ : ∀ h' : Heap, h'.Ns s.heap.objs.size (fun _ => none) → h'.IsCell (s.heap.objs.size + 1) (some u) → (∀ b o, s.heap.get? b = some o → h'.get? b = some o) →
      Q (newEnv scope s.heap.objs.size globals ((a, s.heap.objs.size + 1) :: closure) qual func code none builtins) { s with heap := h' }) :
    wpAny M A (newFunctionEnv scope globals closure [(a, u)] qual func code none builtins) Q E s := by
  simp only [newFunctionEnv, Option.isSome_none, Bool.false_eq_true, if_false]
  refine wpAny_bind (wpAny_alloc ?_)
  refine wpAny_bind (wpAny_layCells _ (fun name kind cells => by cases hkc : kind == NameKind.cell <;> simp [hkc]) _ _ _ _ ?_)
  rw [show ({ s with heap := s.heap.push { cls := .type "frame", data := .dict #[] } } : Shared).heap.objs.size = s.heap.objs.size + 1 from Heap.size_push .., cells_one _ _ _ one, push_one _ _ one]
  have sz : (s.heap.push { cls := .type "frame", data := .dict #[] }).objs.size = s.heap.objs.size + 1 := Heap.size_push ..
  have cell : ((s.heap.push { cls := .type "frame", data := .dict #[] }).push { cls := .type "cell", data := .cell none }).IsCell (s.heap.objs.size + 1) none := by
    rw [← sz]
    exact ⟨_, Heap.get?_push_size _ rfl, rfl⟩
  have ns : ((s.heap.push { cls := .type "frame", data := .dict #[] }).push { cls := .type "cell", data := .cell none }).Ns s.heap.objs.size (fun _ => none) :=
    (Heap.Ns.new s.heap (.type "frame")).keeps fun b o e => Heap.get?_push_of_some _ e
  refine wpAny_bind ?_
  rw [List.forIn_cons]
  refine wpAny_bind (wpAny_bind ?_)
  refine wpAny_storeName_cell (env := newEnv scope s.heap.objs.size globals ((a, s.heap.objs.size + 1) :: closure) qual func code none builtins) (name := a) (c := s.heap.objs.size + 1) hk la (by show List.lookup a ((a, _) :: closure) = _; simp) cell fun h' hc hs => ?_
  refine wpAny_pure ?_
  dsimp only
  rw [List.forIn_nil]
  refine wpAny_pure (wpAny_pure (hQ h' (ns.sameBut hs (Nat.ne_of_lt (Nat.lt_succ_self _))) hc fun b o e => ?_))
  exact (hs.2 b (Nat.ne_of_lt (Nat.lt_succ_of_lt (Heap.lt_size e)))).trans (Heap.get?_push_of_some _ (Heap.get?_push_of_some _ e))
end
open OwnLam (Gives2 tTwo)
/-- one parameter, a, of slot j, a cell, and no other name of its own -/
structure OneC (maker inner : Scope) (N : List Str) (a : Str) (j : Nat) : Prop where
  fn : inner.kind = .function
  noCo : inner.isCoroutine = false
  noGen : inner.isGenerator = false
  each : N.Nodup
  slot : N[j]? = some a
  par : inner.names.lookup a = some .cell
  lone : inner.names.filter isC = [(a, .cell)]
  only : ∀ y ∈ inner.names, y.2 ≠ .local ∧ (y.2 = .cell → y.1 = a) ∧ (y.2 = .free → y.1 ≠ a)
  out : ∀ y ∈ inner.names, y.2 = .free → maker.names.lookup y.1 = some .cell ∨ maker.names.lookup y.1 = some .free
/-- the frame of the lambda's body -/
abbrev lamEnvC (a : Str) (X : Cx) (inner : Scope) (L f c' : Addr) : Env := PySem.W.envX (X.env.qual ++ "<lambda>") inner L f (.ref c') ((a, L + 1) :: cloFrom X.env.cells inner.names [])
/-- its context -/
def lamCxC (a : Str) (X : Cx) (A : Around) (outer : List Env) (s : Shared) (H : Hp) (E : XK) (inner : Scope) (f c' : Addr) : Cx :=
  { prog := X.prog, w := X.w, K := X.K, mg := X.mg, base := X.base, A := A.deeper (lamEnvC a X inner s.heap.objs.size f c'), N := X.N, s_0 := s, H_0 := H, env := lamEnvC a X inner s.heap.objs.size f c', outer := outer, stack := lamEnvC a X inner s.heap.objs.size f c' :: outer, ex := [], fn := fun _ => false, calm := true, pn := [],
    xe := fun e s' => wpAny (model X.prog X.w) (A.deeper (lamEnvC a X inner s.heap.objs.size f c')) (leaving (lamEnvC a X inner s.heap.objs.size f c') e) (fun _ s2 => L2.CX X.prog X.w outer H s E e s2) (fun e2 s2 => L2.CX X.prog X.w outer H s E e2 s2) s' }
section
variable {X : Cx} {pins : List (Addr × Obj)} {σ : L2.St} {H HZ : Hp} {s s1 : Shared} {inner : Scope} {a : Str} {j : Nat}
theorem OneC.caught (L : OneC X.env.scope inner X.N a j) (ok : X.Ok) (y : Str × NameKind) (hy : y ∈ inner.names) (e : y.2 = .free) : ∃ c, X.env.cells.lookup y.1 = some c := ok.has _ (L.out y hy e)
/-- the cells of the lambda are the maker's -/
theorem clo_sub (L : OneC X.env.scope inner X.N a j) (ok : X.Ok) {y : Str} {c : Addr} (e : (cloFrom X.env.cells inner.names []).lookup y = some c) : X.env.cells.lookup y = some c := by
  rcases cloFrom_mem (PySem.mem_of_lookup e) with no | ⟨yes, eq⟩
  · exact absurd no (by simp)
  · obtain ⟨c1, h1⟩ := L.caught ok _ yes rfl
    have h1 : X.env.cells.lookup y = some c1 := h1
    have : c = c1 := by
      rw [eq, h1] <;> rfl
    exact this ▸ h1
theorem clo_has {y : Str} (h : inner.names.lookup y = some .free) : ∃ c, (cloFrom X.env.cells inner.names []).lookup y = some c :=
  mem_lookup (cloFrom_has (cells := X.env.cells) (acc := []) (PySem.mem_of_lookup h : (y, NameKind.free) ∈ inner.names))
/-- the body begins: the argument v stands in slot j, in its cell -/
theorem one_start {A : Around} {outer : List Env} {E : XK} {f c' : Addr} {hp : Heap} {tk : Nat} {v : V} {u : Value} (I : Inv X pins σ H s) (L : OneC X.env.scope inner X.N a j) (e0 : Env0 X.prog X.w X.K X.mg X.base A outer s1 HZ) (hd : A.handled = none)
    (un : Un (frs X.stack) [] H HZ s.heap s1.heap) (ns : hp.Ns s1.heap.objs.size fun _ => none) (cl : hp.IsCell (s1.heap.objs.size + 1) (some u)) (kp : ∀ b o, s1.heap.get? b = some o → hp.get? b = some o) (rv : RelV v u) :
    Inv (lamCxC a X A outer s1 HZ E inner f c') [] (σ.set j (some v)) HZ { s1 with heap := hp, toks := tk } := by
  have still : ∀ {c : Addr} {x : Option Value}, H c = none → s.heap.IsCell c x → hp.IsCell c x := fun {c x} no ⟨o, ho, hv⟩ =>
    let ⟨sl, q⟩ := un.any ho no (by simp)
    ⟨_, kp _ _ q, hv⟩
  have none' : ∀ b : Addr, ¬ b ∈ (lamCxC a X A outer s1 HZ E inner f c').ex := fun b z => by
    have z : b ∈ ([] : List Addr) := z
    simp at z
  have noLoc : ∀ {y : Str}, inner.names.lookup y ≠ some .local := fun {y} h => (L.only _ (PySem.mem_of_lookup h)).1 rfl
  have mine : ∀ {y : Str}, inner.names.lookup y = some .cell → y = a := fun {y} h => (L.only _ (PySem.mem_of_lookup h)).2.1 rfl
  have notA : ∀ {y : Str}, inner.names.lookup y = some .free → y ≠ a := fun {y} h => (L.only _ (PySem.mem_of_lookup h)).2.2 rfl
  -- the cells: the new one, and the maker's
  have look : ∀ {y : Str} {c : Addr}, ((a, s1.heap.objs.size + 1) :: cloFrom X.env.cells inner.names []).lookup y = some c → (y = a ∧ c = s1.heap.objs.size + 1) ∨ (y ≠ a ∧ (cloFrom X.env.cells inner.names []).lookup y = some c) := fun {y c} h => by
    rw [List.lookup_cons] at h
    by_cases e : y = a
    · subst e
      rw [beq_self_eq_true] at h
      exact .inl ⟨rfl, (Option.some.inj h).symm⟩
    · rw [beq_eq_false_iff_ne.mpr e] at h
      exact .inr ⟨e, h⟩
  have lookA : ((a, s1.heap.objs.size + 1) :: cloFrom X.env.cells inner.names []).lookup a = some (s1.heap.objs.size + 1) := by
    rw [List.lookup_cons, beq_self_eq_true]
  have lookF : ∀ {y : Str} {c : Addr}, y ≠ a → (cloFrom X.env.cells inner.names []).lookup y = some c → ((a, s1.heap.objs.size + 1) :: cloFrom X.env.cells inner.names []).lookup y = some c := fun {y c} ne h => by
    rw [List.lookup_cons, beq_eq_false_iff_ne.mpr ne]
    exact h
  have old : ∀ {y : Str} {c : Addr}, X.env.cells.lookup y = some c → c < s1.heap.objs.size := fun {y c} h => by
    obtain ⟨x, o, ho, _⟩ := I.cell y c h
    obtain ⟨sl, q⟩ := un.any ho (I.freeC y c h) (by simp)
    exact Heap.lt_size q
  have okB : (lamCxC a X A outer s1 HZ E inner f c').Ok :=
    ⟨e0.mod, L.fn, rfl, rfl, Nat.le_refl _, fun y z c l1 l2 => by
        rcases look l1 with ⟨e1, d1⟩ | ⟨_, l1⟩ <;> rcases look l2 with ⟨e2, d2⟩ | ⟨_, l2⟩
        · rw [e1, e2]
        · have z := old (clo_sub L I.ok l2)
          rw [d1] at z
          exact absurd z (Nat.not_lt_of_le (Nat.le_succ _))
        · have z := old (clo_sub L I.ok l1)
          rw [d2] at z
          exact absurd z (Nat.not_lt_of_le (Nat.le_succ _))
        · exact I.ok.inj y z c (clo_sub L I.ok l1) (clo_sub L I.ok l2), fun y hy => hy.elim (fun h => by
        have e := mine h
        subst e
        exact ⟨_, lookA⟩) (fun h => let ⟨c, hc⟩ := clo_has h; ⟨c, lookF (notA h) hc⟩), fun _ _ z _ => Bool.noConfusion (show false = true from z), fun _ => hd, Around.frames_deeper e0.frames,
      .inr ⟨rfl, rfl⟩, fun b z => (none' b z).elim, e0.bs, e0.bsz, fun b _ _ => none' b, fun b z => (none' b z).elim, e0.funs, e0.frf⟩
  refine { ok := okB, os := rfl, bare := e0.bare, base := Un.kept kp, loc := ⟨_, ns, fun i y w hi hw vis => ?_⟩, cell := fun y c l => ?_, free := e0.hok.fresh (Nat.le_refl _), freeC := fun y c l => ?_, pin := fun q hq => ?_, hok := e0.hok.kept kp, len := by rw [List.length_set]; exact I.len }
  · have hi : X.N[i]? = some y := hi
    have vis : Vis inner y := vis
    rcases vis with loc | cel | fre
    · exact absurd loc noLoc
    · have e := mine cel
      subst e
      obtain ⟨l1, q1⟩ := List.getElem?_eq_some_iff.mp hi
      obtain ⟨l2, q2⟩ := List.getElem?_eq_some_iff.mp L.slot
      have ij : i = j := (List.getElem_inj L.each).mp (q1.trans q2.symm)
      subst ij
      have l3 : i < σ.length := by rw [I.len]; exact l1
      rw [List.getElem?_set_self l3] at hw
      cases Option.some.inj (Option.some.inj hw)
      exact ⟨u, rv, .inr ⟨.inl cel, _, lookA, cl⟩⟩
    · have ne : j ≠ i := fun e => by
        have z := L.slot
        rw [e, hi] at z
        cases Option.some.inj z
        rw [L.par] at fre
        cases fre
      rw [List.getElem?_set_ne ne] at hw
      obtain ⟨m, _, all⟩ := I.loc
      have up := L.out _ (PySem.mem_of_lookup fre) rfl
      obtain ⟨x, rx, q⟩ := all i y w hi hw (up.elim (fun k => .inr (.inl k)) fun k => .inr (.inr k))
      obtain ⟨c2, h2⟩ := clo_has (X := X) fre
      have c1 := clo_sub L I.ok h2
      refine ⟨x, rx, .inr ⟨.inr fre, c2, lookF (notA fre) h2, ?_⟩⟩
      rcases q with ⟨k, _⟩ | ⟨_, c3, e3, z⟩
      · have k : X.env.scope.names.lookup y = some .local := k
        have up : X.env.scope.names.lookup y = some .cell ∨ X.env.scope.names.lookup y = some .free := up
        rw [k] at up
        rcases up with up | up <;> cases up
      · have : c3 = c2 := Option.some.inj (e3.symm.trans c1)
        subst this
        exact still (I.freeC y _ c1) z
  · rcases look l with ⟨_, d⟩ | ⟨_, l⟩
    · rw [d]
      exact ⟨_, cl⟩
    · obtain ⟨x, z⟩ := I.cell y c (clo_sub L I.ok l)
      exact ⟨x, still (I.freeC y c (clo_sub L I.ok l)) z⟩
  · rcases look l with ⟨_, d⟩ | ⟨_, l⟩
    · rw [d]
      exact e0.hok.fresh (Nat.le_succ _)
    · obtain ⟨x, o, ho, _⟩ := I.cell y c (clo_sub L I.ok l)
      exact un.free c o ho (I.freeC y c (clo_sub L I.ok l)) (by simp)
  · have hq : q ∈ ([] : List (Addr × Obj)) ++ [] := hq
    simp at hq
/-- b(e1), in the def that holds the lambda in slot i: Z is that def's context, entered at s -/
theorem pe_oneC {CXg : CXT} {Eg : XK} {Ng : List Str} {qg : Str} {sg : Scope} {g f c' : Addr} {cdg pm ctv : Value} {params : Arguments} {body e1 : Expr} {k i : Nat} {b : Str} {pn : List (Addr × Obj)} {xe : Value → Shared → Prop} {W : WX} {E : XK} {t1 tb : TE} {p1 p2 : Pos}
    (I : Inv X pins σ H s) (L : OneC X.env.scope inner X.N a j) (hf : s.heap.get? f = some (PySem.W.kla_obj "<lambda>" (X.env.qual ++ "<lambda>") params body inner (cloFrom X.env.cells inner.names []) pm c' ctv)) (hfn : H f = none) (hfr : f ∉ frs X.stack)
    (hbind : ∀ u, bindArgs (PySem.W.kla_fn "<lambda>" (X.env.qual ++ "<lambda>") params body inner (cloFrom X.env.cells inner.names []) pm (.ref c') ctv) ⟨[u], []⟩ = pure [(a, u)])
    (tk : Takes ((cxOf CXg X.prog X.w X.K X.mg X.base Ng qg sg g cdg X.A X.stack s H Eg).tr pn xe) W) (hW : ∀ cls d σ' H', E cls d H' → W cls d σ' H') (hr : Room (k + 1) (X.A.deeper (envOfC qg sg s.heap.objs.size g cdg)))
    (hbody : ∀ (A : Around) (outer : List Env) (s : Shared) (H : Hp), Room k (A.deeper (lamEnvC a X inner s.heap.objs.size f c')) → PE (lamCxC a X A outer s H E inner f c') body tb)
    (h1 : PE ((cxOf CXg X.prog X.w X.K X.mg X.base Ng qg sg g cdg X.A X.stack s H Eg).tr pn xe) e1 t1)
    (hN : Ng[i]? = some b) (hv : Vis sg b) (hd : (b == ("__debug__" : Str)) = false := by decide) (hcd : (b == ("__classdict__" : Str)) = false := by decide)
    (he : starEach [e1] (envOfC qg sg s.heap.objs.size g cdg) = [(false, eval e1 (envOfC qg sg s.heap.objs.size g cdg))] := by rfl) :
    PE ((cxOf CXg X.prog X.w X.K X.mg X.base Ng qg sg g cdg X.A X.stack s H Eg).tr pn xe) (.Call (.Name b p1) [e1] [] p2)
      (fun σZ HZ Q => σZ[i]? = some (some (.ref f)) ∧ t1 σZ HZ fun v H1 => H1 c' = some (CodeO c' (X.env.qual ++ "<lambda>")) ∧ tb (σ.set j (some v)) H1 Q) := by
  refine ⟨fun pinsZ sZ σZ HZ Q IZ h => ?_⟩
  obtain ⟨hs, ht⟩ := h
  refine wpAny_Call_Name_kw (thn ((pe_var (pos := p1) (i := i) hN hv hd hcd).run pinsZ sZ σZ HZ (fun v H1 => v = .ref f ∧ H1 = HZ) IZ ⟨.ref f, hs, rfl, rfl⟩) fun u s1 ⟨v, H1, I1, r1, q1⟩ => ?_)
  obtain ⟨ev, eH⟩ := q1
  subst ev
  rw [eH] at I1
  obtain rfl : u = Value.ref f := r1
  have at1 : s1.heap.get? f = some (PySem.W.kla_obj "<lambda>" (X.env.qual ++ "<lambda>") params body inner (cloFrom X.env.cells inner.names []) pm c' ctv) := I1.base.keep f _ hf hfn hfr (fun z => nomatch (show f ∈ ([] : List Addr) from z))
  refine PySem.W.callWith_F (he := he) ⟨_, _, _, _, at1⟩ ?_
  show wpAny _ _ (spliced (backTo p2 (starEach [e1] (envOfC qg sg s.heap.objs.size g cdg)))) _ _ s1
  rw [he]
  refine Calls.spliced_cons (thn (h1.run pinsZ s1 σZ HZ _ I1 ht) fun u s2 ⟨v, H2, I2, rv, hc, ht2⟩ => ?_)
  refine Calls.spliced_nil ?_
  have of2 : s2.heap.get? f = some (PySem.W.kla_obj "<lambda>" (X.env.qual ++ "<lambda>") params body inner (cloFrom X.env.cells inner.names []) pm c' ctv) := I2.base.keep f _ hf hfn hfr (fun z => nomatch (show f ∈ ([] : List Addr) from z))
  refine ⟨⟨_, _, _, _, of2⟩, ?_⟩
  have un : Un (frs X.stack) [] H H2 s.heap s2.heap := I2.base
  obtain ⟨⟨oc, vs, t, hoc, hdc, hvc⟩, _, _⟩ := I2.hok c' _ hc
  have rc : codeAny (model X.prog X.w) (X.A.deeper (envOfC qg sg s.heap.objs.size g cdg)) (.call (.ref f) ⟨[u], []⟩) (CR (L2.CX X.prog X.w) (envOfC qg sg s.heap.objs.size g cdg :: X.stack) X.prog X.w H2 s2 Q E) s2 := by
    refine PySem.W.kla_callFunE hr.depth of2 rfl L.noCo L.noGen rfl ⟨c', oc, vs, t, rfl, hoc, hdc, hvc⟩ ?_
    rw [hbind]
    refine wpAny_pure (env_one L.fn L.lone L.par fun hp ns cl kp => ⟨I2.nolimit.keeps kp, ?_⟩)
    show codeAny _ _ (.expr body (lamEnvC a X inner s2.heap.objs.size f c')) _ _
    have J : Inv (lamCxC a X (X.A.deeper (envOfC qg sg s.heap.objs.size g cdg)) (envOfC qg sg s.heap.objs.size g cdg :: X.stack) s2 H2 E inner f c') [] (σ.set j (some v)) H2 { s2 with heap := hp, toks := s2.toks } :=
      one_start I L I2.env0 hr.hd un ns cl kp rv
    refine PySem.W.kla_codeExpr (wpAny_mono ((hbody _ _ s2 H2 (hr.deeper _)).run [] _ _ H2 Q J ht2) (fun v s' hq => ?_) fun e s' hq => hq)
    obtain ⟨w', H', J', rw', q⟩ := hq
    exact ⟨w', H', J'.os, J'.bare, J'.base, J'.hok, rw', q⟩
  have hx : Passes (L2.CX X.prog X.w) ((cxOf CXg X.prog X.w X.K X.mg X.base Ng qg sg g cdg X.A X.stack s H Eg).tr pn xe) E := passes_call tk hW
  refine wpAny_call (codeAny_mono rc fun r s' hq => ?_)
  cases r with
  | error e => exact hx pinsZ σZ H2 s2 e s' I2 hq
  | ok fl =>
    cases fl with
    | ret u => exact I2.after hq
    | next => exact False.elim hq
    | brk => exact False.elim hq
    | cont => exact False.elim hq
end
section
variable {X : Cx} {inner : Scope} {a : Str} {j : Nat}
/-- x(e0, lambda a: body) -/
theorem pe_twoC {T : List (Addr × Str)} {TT : V → (V → XK → Hp → VK → Prop) → Hp → VK → Prop} {x a0 b : Str} {g c P : Addr} {k : Nat} {pg : Arguments} {bg : List Stmt} {sg : Scope} {dV kV doc pm cdv ct oc : Value} {an od : Option Addr} {osl : Array (Option Value)} {Ng : List Str}
    {params : Arguments} {e0 body : Expr} {t0 : TE} {t : XK → TE} {p lpos pos : Pos} (hg : Gl X x) (hm : X.mg x = some (.ref g)) (hk : PySem.W.keepIn X.K (.ref g) = true)
    (lk : X.K.lookup g = some ⟨oc, od, .func (PySem.W.fnOf x x pg bg sg dV kV doc pm an cdv ct), osl⟩) (hcg : PySem.W.codeIn X.K cdv x = true) (hb : L2.Binds X.K (PySem.W.fnOf x x pg bg sg dV kV doc pm an cdv ct) [a0, b] []) (Sg : FnScope Ng [a0, b] sg) (hNg : Ng[1]? = some b) (hvb : Vis sg b)
    (hG : Gives2 X Ng x sg g cdv bg b (X.env.qual ++ "<lambda>") TT) (h0 : PE X e0 t0)
    (TB : TabB X.base X.mg c P) (hcode : X.env.code = .ref c) (hmT : (P, X.env.qual ++ "<lambda>") ∈ T) (hu : ∀ p ∈ T, p.1 = P → p.2 = X.env.qual ++ "<lambda>") (hr : Room (k + 2) X.A) (L : OneC X.env.scope inner X.N a j) (hdef : defaultsOf params X.env = ([], []))
    (hbind : ∀ (q : Str) (cl : List (Str × Addr)) (pm cv ctv u : Value), bindArgs (PySem.W.kla_fn "<lambda>" q params body inner cl pm cv ctv) ⟨[u], []⟩ = pure [(a, u)])
    (hbody : ∀ (A : Around) (outer : List Env) (s : Shared) (H : Hp) (E : XK) (f c' : Addr), Room k (A.deeper (lamEnvC a X inner s.heap.objs.size f c')) → PE (lamCxC a X A outer s H E inner f c') body (t E))
    (he : starEach [e0, .Lambda params body inner lpos] X.env = (false, eval e0 X.env) :: starEach [.Lambda params body inner lpos] X.env := by rfl)
    (hdb : (x == ("__debug__" : Str)) = false := by decide) (hd : (b == ("__debug__" : Str)) = false := by decide) (hcd : (b == ("__classdict__" : Str)) = false := by decide) :
    PE X (.Call (.Name x p) [e0, .Lambda params body inner lpos] [] pos) (tTwo T j TT t0 t) := by
  refine ⟨fun pins s σ H Q I h => ?_⟩
  refine wpAny_Call_Name_kw (ld_glob I hg hm ?_ hdb)
  refine PySem.W.callWith_K (h₀ := X.base) I.ok.mod.kin hk ?_ he (by rfl)
  rw [he]
  show wpAny _ _ (spliced ((false, eval e0 X.env) :: (false, eval (.Lambda params body inner lpos) X.env) :: backTo pos (starEach [] X.env))) _ _ s
  refine Calls.spliced_cons (thn (h0.run pins s σ H _ I h) fun u s0 ⟨v0, H0, I0, r0, hT, h⟩ => ?_)
  refine Calls.spliced_cons (lam_make2 I0 TB hcode hmT hu hT hdef (L.caught I0.ok) fun f c' pm' ctv H1 s' I1 eN T1 hf hfn hfr hco => ?_)
  refine Calls.spliced_nil ⟨I1.kIn, ?_⟩
  have rc : codeAny (model X.prog X.w) X.A (.call (.ref g) ⟨[u, .ref f], []⟩) (CR C8.CX0 X.stack X.prog X.w H1 s' Q C8.E0) s' := by
    refine run_ofS (N := Ng) (ps := [a0, b]) (us := [u, .ref f]) (vs := [v0, .ref f]) lk hcg Sg hr I1.env0 (hb s' [u, .ref f] I1.kIn rfl) (.cons r0 (.cons rfl .nil)) rfl fun hr' => ?_
    obtain ⟨t', ht', hq'⟩ := hG f c' v0 s' H1 Q (fun v E H' Q' => t E (σ.set j (some v)) H' Q') (fun W pn xe E p1 p2 e1 t1 tk hW h1 he1 => pe_oneC (i := 1) I1 L hf hfn hfr (hbind _ _ _ _ _) tk hW hr' (fun A outer s H hr2 => hbody A outer s H E f c' hr2) h1 hNg hvb hd hcd he1) hco (h H1 eN T1)
    exact ⟨t', ht'.nox, hq'⟩
  refine wpAny_call (codeAny_mono rc fun r s2 hq => ?_)
  cases r with
  | error e => exact (show False from hq).elim
  | ok fl =>
    cases fl with
    | ret u => exact I1.after hq
    | next => exact False.elim hq
    | brk => exact False.elim hq
    | cont => exact False.elim hq
end
end OwnLamC
namespace K21
open PySem PySem.Spec PyProof.Rows L2
def topS (i : Nat) : Stmt := PySem.Challenge.pw_greatestnext_k21_tops_uniform_quotas.main.body.getD i (.Pass ⟨0, 0, 0, 0⟩)
abbrev s_InvalidFamily_init : Stmt := inClass (topS 6) 0
abbrev s_NotNested_init : Stmt := inClass (topS 8) 0
abbrev s_WrongSize_init : Stmt := inClass (topS 9) 0
abbrev s_parts_of : Stmt := topS 11
abbrev s_all_sets : Stmt := topS 12
abbrev s_is_part : Stmt := topS 13
abbrev s_touches : Stmt := topS 14
abbrev s_rest_of : Stmt := topS 15
abbrev s_smaller_by_one : Stmt := topS 16
abbrev s_is_whole : Stmt := topS 18
abbrev s_is_within : Stmt := topS 19
abbrev s_is_ascending : Stmt := topS 20
abbrev s_clean_sets : Stmt := topS 23
abbrev s_closed_sets : Stmt := topS 24
abbrev s_Family_init : Stmt := inClass (topS 25) 0
abbrev s_family_of : Stmt := topS 26
abbrev s_from_tops : Stmt := topS 27
abbrev s_uniform : Stmt := topS 28
abbrev s_quotas : Stmt := topS 29
abbrev s_is_nested : Stmt := topS 30
abbrev s_many_of : Stmt := topS 31
abbrev s_Frac_init : Stmt := inClass (topS 36) 0
abbrev s_law_box : Stmt := topS 38
abbrev s_law_draw : Stmt := topS 39
abbrev s_law_things : Stmt := topS 40
abbrev s_law_ordered : Stmt := topS 41
abbrev s_law_shape : Stmt := topS 42
abbrev s_law_integer : Stmt := topS 43
abbrev s_law_is : Stmt := topS 44
abbrev s_law_text : Stmt := topS 45
abbrev s_law_no_set : Stmt := topS 46
abbrev s_law_right_set : Stmt := topS 47
abbrev s_law_tops_made : Stmt := topS 48
abbrev s_law_tops : Stmt := topS 49
abbrev s_law_uniform : Stmt := topS 50
abbrev s_law_class : Stmt := topS 51
abbrev s_law_quotas : Stmt := topS 52
abbrev s_law_all : Stmt := topS 53
abbrev s_law : Stmt := topS 54
structure Ad where
  C_Frac : Addr
  C_Family : Addr
  C_WrongSize : Addr
  C_InvalidFamily : Addr
  C_NotNested : Addr
  C_NextError : Addr
  a_InvalidFamily_init : Addr
  a_NotNested_init : Addr
  a_WrongSize_init : Addr
  a_parts_of : Addr
  a_all_sets : Addr
  a_is_part : Addr
  a_touches : Addr
  a_rest_of : Addr
  a_smaller_by_one : Addr
  a_is_whole : Addr
  a_is_within : Addr
  a_is_ascending : Addr
  a_clean_sets : Addr
  a_closed_sets : Addr
  a_Family_init : Addr
  a_family_of : Addr
  a_from_tops : Addr
  a_uniform : Addr
  a_quotas : Addr
  a_is_nested : Addr
  a_many_of : Addr
  a_Frac_init : Addr
  a_law_box : Addr
  a_law_draw : Addr
  a_law_things : Addr
  a_law_ordered : Addr
  a_law_shape : Addr
  a_law_integer : Addr
  a_law_is : Addr
  a_law_text : Addr
  a_law_no_set : Addr
  a_law_right_set : Addr
  a_law_tops_made : Addr
  a_law_tops : Addr
  a_law_uniform : Addr
  a_law_class : Addr
  a_law_quotas : Addr
  a_law_all : Addr
  a_law : Addr
  co_from_tops : Addr
  tb_from_tops : Addr
  co_uniform : Addr
  tb_uniform : Addr
  co_quotas : Addr
  tb_quotas : Addr
  d_InvalidFamily_init : FuncData
  d_NotNested_init : FuncData
  d_WrongSize_init : FuncData
  d_parts_of : FuncData
  d_all_sets : FuncData
  d_is_part : FuncData
  d_touches : FuncData
  d_rest_of : FuncData
  d_smaller_by_one : FuncData
  d_is_whole : FuncData
  d_is_within : FuncData
  d_is_ascending : FuncData
  d_clean_sets : FuncData
  d_closed_sets : FuncData
  d_Family_init : FuncData
  d_family_of : FuncData
  d_from_tops : FuncData
  d_uniform : FuncData
  d_quotas : FuncData
  d_is_nested : FuncData
  d_many_of : FuncData
  d_Frac_init : FuncData
  d_law_box : FuncData
  d_law_draw : FuncData
  d_law_things : FuncData
  d_law_ordered : FuncData
  d_law_shape : FuncData
  d_law_integer : FuncData
  d_law_is : FuncData
  d_law_text : FuncData
  d_law_no_set : FuncData
  d_law_right_set : FuncData
  d_law_tops_made : FuncData
  d_law_tops : FuncData
  d_law_uniform : FuncData
  d_law_class : FuncData
  d_law_quotas : FuncData
  d_law_all : FuncData
  d_law : FuncData
structure Txt (K : PySem.W.Frag) (mg : Str → Option Value) (a : Ad) : Prop where
  mg_Frac : mg "Frac" = some (.ref a.C_Frac)
  mg_Family : mg "Family" = some (.ref a.C_Family)
  mg_WrongSize : mg "WrongSize" = some (.ref a.C_WrongSize)
  mg_InvalidFamily : mg "InvalidFamily" = some (.ref a.C_InvalidFamily)
  mg_NotNested : mg "NotNested" = some (.ref a.C_NotNested)
  mg_NextError : mg "NextError" = some (.ref a.C_NextError)
  cl_Frac : Cls K a.C_Frac
  na_Frac_num : NoAttr K a.C_Frac "num"
  na_Frac_den : NoAttr K a.C_Frac "den"
  cg_Frac : PySem.W.findIn K (.ref a.C_Frac) "__class__" = some (some (.builtin "object.__class__"))
  mr_Frac : PySem.W.mroIn K a.C_Frac (.type "object") = some true
  cl_Family : Cls K a.C_Family
  na_Family_sets : NoAttr K a.C_Family "sets"
  na_Family_size : NoAttr K a.C_Family "size"
  cg_Family : PySem.W.findIn K (.ref a.C_Family) "__class__" = some (some (.builtin "object.__class__"))
  mr_Family : PySem.W.mroIn K a.C_Family (.type "object") = some true
  cget : PySem.W.specialIn K (.builtin "object.__class__") "__get__" = some (some (.builtin "getset_descriptor.__get__"))
  ctk : PySem.W.takesIn K (.builtin "object.__class__") = some true
  fn_InvalidFamily_init : Fun K "__init__" "InvalidFamily.__init__" s_InvalidFamily_init a.a_InvalidFamily_init a.d_InvalidFamily_init
  b_InvalidFamily_init : Binds K a.d_InvalidFamily_init ["self", "at"] []
  fn_NotNested_init : Fun K "__init__" "NotNested.__init__" s_NotNested_init a.a_NotNested_init a.d_NotNested_init
  b_NotNested_init : Binds K a.d_NotNested_init ["self", "at"] []
  fn_WrongSize_init : Fun K "__init__" "WrongSize.__init__" s_WrongSize_init a.a_WrongSize_init a.d_WrongSize_init
  b_WrongSize_init : Binds K a.d_WrongSize_init ["self", "many"] []
  mg_parts_of : mg "parts_of" = some (.ref a.a_parts_of)
  fn_parts_of : Fun K "parts_of" "parts_of" s_parts_of a.a_parts_of a.d_parts_of
  b_parts_of : Binds K a.d_parts_of ["things"] []
  mg_all_sets : mg "all_sets" = some (.ref a.a_all_sets)
  fn_all_sets : Fun K "all_sets" "all_sets" s_all_sets a.a_all_sets a.d_all_sets
  b_all_sets : Binds K a.d_all_sets ["size"] []
  mg_is_part : mg "is_part" = some (.ref a.a_is_part)
  fn_is_part : Fun K "is_part" "is_part" s_is_part a.a_is_part a.d_is_part
  b_is_part : Binds K a.d_is_part ["part", "things"] []
  mg_touches : mg "touches" = some (.ref a.a_touches)
  fn_touches : Fun K "touches" "touches" s_touches a.a_touches a.d_touches
  b_touches : Binds K a.d_touches ["one", "other"] []
  mg_rest_of : mg "rest_of" = some (.ref a.a_rest_of)
  fn_rest_of : Fun K "rest_of" "rest_of" s_rest_of a.a_rest_of a.d_rest_of
  b_rest_of : Binds K a.d_rest_of ["things", "out"] []
  mg_smaller_by_one : mg "smaller_by_one" = some (.ref a.a_smaller_by_one)
  fn_smaller_by_one : Fun K "smaller_by_one" "smaller_by_one" s_smaller_by_one a.a_smaller_by_one a.d_smaller_by_one
  b_smaller_by_one : Binds K a.d_smaller_by_one ["things"] []
  mg_is_whole : mg "is_whole" = some (.ref a.a_is_whole)
  fn_is_whole : Fun K "is_whole" "is_whole" s_is_whole a.a_is_whole a.d_is_whole
  b_is_whole : Binds K a.d_is_whole ["value"] []
  mg_is_within : mg "is_within" = some (.ref a.a_is_within)
  fn_is_within : Fun K "is_within" "is_within" s_is_within a.a_is_within a.d_is_within
  b_is_within : Binds K a.d_is_within ["value", "least", "most"] []
  mg_is_ascending : mg "is_ascending" = some (.ref a.a_is_ascending)
  fn_is_ascending : Fun K "is_ascending" "is_ascending" s_is_ascending a.a_is_ascending a.d_is_ascending
  b_is_ascending : Binds K a.d_is_ascending ["value", "size"] []
  mg_clean_sets : mg "clean_sets" = some (.ref a.a_clean_sets)
  fn_clean_sets : Fun K "clean_sets" "clean_sets" s_clean_sets a.a_clean_sets a.d_clean_sets
  b_clean_sets : Binds K a.d_clean_sets ["size", "sets"] []
  mg_closed_sets : mg "closed_sets" = some (.ref a.a_closed_sets)
  fn_closed_sets : Fun K "closed_sets" "closed_sets" s_closed_sets a.a_closed_sets a.d_closed_sets
  b_closed_sets : Binds K a.d_closed_sets ["size", "sets"] []
  fn_Family_init : Fun K "__init__" "Family.__init__" s_Family_init a.a_Family_init a.d_Family_init
  b_Family_init : Binds K a.d_Family_init ["self", "size", "sets"] []
  mt_Family_init : Meth K a.C_Family "__init__" a.a_Family_init
  mg_family_of : mg "family_of" = some (.ref a.a_family_of)
  fn_family_of : Fun K "family_of" "family_of" s_family_of a.a_family_of a.d_family_of
  b_family_of : Binds K a.d_family_of ["size", "fits"] []
  mg_from_tops : mg "from_tops" = some (.ref a.a_from_tops)
  fn_from_tops : Fun K "from_tops" "from_tops" s_from_tops a.a_from_tops a.d_from_tops
  b_from_tops : Binds K a.d_from_tops ["size", "tops"] []
  mg_uniform : mg "uniform" = some (.ref a.a_uniform)
  fn_uniform : Fun K "uniform" "uniform" s_uniform a.a_uniform a.d_uniform
  b_uniform : Binds K a.d_uniform ["size", "most"] []
  mg_quotas : mg "quotas" = some (.ref a.a_quotas)
  fn_quotas : Fun K "quotas" "quotas" s_quotas a.a_quotas a.d_quotas
  b_quotas : Binds K a.d_quotas ["size", "classes"] []
  mg_is_nested : mg "is_nested" = some (.ref a.a_is_nested)
  fn_is_nested : Fun K "is_nested" "is_nested" s_is_nested a.a_is_nested a.d_is_nested
  b_is_nested : Binds K a.d_is_nested ["one", "other"] []
  mg_many_of : mg "many_of" = some (.ref a.a_many_of)
  fn_many_of : Fun K "many_of" "many_of" s_many_of a.a_many_of a.d_many_of
  b_many_of : Binds K a.d_many_of ["held", "things"] []
  fn_Frac_init : FunD K "__init__" "Frac.__init__" (defArgs s_Frac_init) (defBody s_Frac_init) (defScope s_Frac_init) [.int 1] [] a.a_Frac_init a.d_Frac_init
  mt_Frac_init : Meth K a.C_Frac "__init__" a.a_Frac_init
  mg_law_box : mg "_law_box" = some (.ref a.a_law_box)
  fn_law_box : Fun K "_law_box" "_law_box" s_law_box a.a_law_box a.d_law_box
  b_law_box : Binds K a.d_law_box ["script"] []
  mg_law_draw : mg "_law_draw" = some (.ref a.a_law_draw)
  fn_law_draw : Fun K "_law_draw" "_law_draw" s_law_draw a.a_law_draw a.d_law_draw
  b_law_draw : Binds K a.d_law_draw ["box", "limit"] []
  mg_law_things : mg "_law_things" = some (.ref a.a_law_things)
  fn_law_things : Fun K "_law_things" "_law_things" s_law_things a.a_law_things a.d_law_things
  b_law_things : Binds K a.d_law_things ["mask"] []
  mg_law_ordered : mg "_law_ordered" = some (.ref a.a_law_ordered)
  fn_law_ordered : Fun K "_law_ordered" "_law_ordered" s_law_ordered a.a_law_ordered a.d_law_ordered
  b_law_ordered : Binds K a.d_law_ordered ["inside"] []
  mg_law_shape : mg "_law_shape" = some (.ref a.a_law_shape)
  fn_law_shape : Fun K "_law_shape" "_law_shape" s_law_shape a.a_law_shape a.d_law_shape
  b_law_shape : Binds K a.d_law_shape ["box", "parts"] []
  mg_law_integer : mg "_law_integer" = some (.ref a.a_law_integer)
  fn_law_integer : Fun K "_law_integer" "_law_integer" s_law_integer a.a_law_integer a.d_law_integer
  b_law_integer : Binds K a.d_law_integer ["value"] []
  mg_law_is : mg "_law_is" = some (.ref a.a_law_is)
  fn_law_is : Fun K "_law_is" "_law_is" s_law_is a.a_law_is a.d_law_is
  b_law_is : Binds K a.d_law_is ["family", "size", "inside"] []
  mg_law_text : mg "_law_text" = some (.ref a.a_law_text)
  fn_law_text : Fun K "_law_text" "_law_text" s_law_text a.a_law_text a.d_law_text
  b_law_text : Binds K a.d_law_text ["value"] []
  mg_law_no_set : mg "_law_no_set" = some (.ref a.a_law_no_set)
  fn_law_no_set : Fun K "_law_no_set" "_law_no_set" s_law_no_set a.a_law_no_set a.d_law_no_set
  b_law_no_set : Binds K a.d_law_no_set ["box", "size"] []
  mg_law_right_set : mg "_law_right_set" = some (.ref a.a_law_right_set)
  fn_law_right_set : Fun K "_law_right_set" "_law_right_set" s_law_right_set a.a_law_right_set a.d_law_right_set
  b_law_right_set : Binds K a.d_law_right_set ["value", "size"] []
  mg_law_tops_made : mg "_law_tops_made" = some (.ref a.a_law_tops_made)
  fn_law_tops_made : Fun K "_law_tops_made" "_law_tops_made" s_law_tops_made a.a_law_tops_made a.d_law_tops_made
  b_law_tops_made : Binds K a.d_law_tops_made ["size", "tops"] []
  mg_law_tops : mg "_law_tops" = some (.ref a.a_law_tops)
  fn_law_tops : Fun K "_law_tops" "_law_tops" s_law_tops a.a_law_tops a.d_law_tops
  b_law_tops : Binds K a.d_law_tops ["box", "size"] []
  mg_law_uniform : mg "_law_uniform" = some (.ref a.a_law_uniform)
  fn_law_uniform : Fun K "_law_uniform" "_law_uniform" s_law_uniform a.a_law_uniform a.d_law_uniform
  b_law_uniform : Binds K a.d_law_uniform ["box", "size"] []
  mg_law_class : mg "_law_class" = some (.ref a.a_law_class)
  fn_law_class : Fun K "_law_class" "_law_class" s_law_class a.a_law_class a.d_law_class
  b_law_class : Binds K a.d_law_class ["box", "size", "masks"] []
  mg_law_quotas : mg "_law_quotas" = some (.ref a.a_law_quotas)
  fn_law_quotas : Fun K "_law_quotas" "_law_quotas" s_law_quotas a.a_law_quotas a.d_law_quotas
  b_law_quotas : Binds K a.d_law_quotas ["box", "size"] []
  mg_law_all : mg "_law_all" = some (.ref a.a_law_all)
  fn_law_all : Fun K "_law_all" "_law_all" s_law_all a.a_law_all a.d_law_all
  b_law_all : Binds K a.d_law_all ["script"] []
  mg_law : mg "law" = some (.ref a.a_law)
  fn_law : Fun K "law" "law" s_law a.a_law a.d_law
  b_law : Binds K a.d_law ["script"] []
  cd_from_tops : a.d_from_tops.code = .ref a.co_from_tops
  cl_from_tops : ∃ e dd cv sl, K.lookup a.co_from_tops = some ⟨e, dd, .fields cv, sl⟩ ∧ cv[11]? = some (.ref a.tb_from_tops)
  ch_from_tops : PySem.W.codeHdIn K a.co_from_tops a.tb_from_tops = true
  cn_from_tops : K.lookup a.tb_from_tops = none
  cd_uniform : a.d_uniform.code = .ref a.co_uniform
  cl_uniform : ∃ e dd cv sl, K.lookup a.co_uniform = some ⟨e, dd, .fields cv, sl⟩ ∧ cv[11]? = some (.ref a.tb_uniform)
  ch_uniform : PySem.W.codeHdIn K a.co_uniform a.tb_uniform = true
  cn_uniform : K.lookup a.tb_uniform = none
  cd_quotas : a.d_quotas.code = .ref a.co_quotas
  cl_quotas : ∃ e dd cv sl, K.lookup a.co_quotas = some ⟨e, dd, .fields cv, sl⟩ ∧ cv[11]? = some (.ref a.tb_quotas)
  ch_quotas : PySem.W.codeHdIn K a.co_quotas a.tb_quotas = true
  cn_quotas : K.lookup a.tb_quotas = none
  tn_from_tops_uniform : a.tb_from_tops ≠ a.tb_uniform
  tn_from_tops_quotas : a.tb_from_tops ≠ a.tb_quotas
  tn_uniform_quotas : a.tb_uniform ≠ a.tb_quotas
  mk_Frac : Mk K a.C_Frac a.a_Frac_init
  mk_Family : Mk K a.C_Family a.a_Family_init
  ex_WrongSize : OexC K a.C_WrongSize
  xf_WrongSize : XfC K a.C_WrongSize
  xm_WrongSize : PySem.W.exmOne K (.ref a.C_WrongSize) (.ref a.C_WrongSize) = some true
  na_WrongSize_many : PySem.W.findIn K (.ref a.C_WrongSize) "many" = some none
  xi_WrongSize : PySem.W.findIn K (.ref a.C_WrongSize) "__init__" = some (some (.ref a.a_WrongSize_init))
  ti_WrongSize : PySem.W.typeIn K (.ref a.a_WrongSize_init) = some (.type "function")
  ex_InvalidFamily : OexC K a.C_InvalidFamily
  xf_InvalidFamily : XfC K a.C_InvalidFamily
  xm_InvalidFamily : PySem.W.exmOne K (.ref a.C_InvalidFamily) (.ref a.C_InvalidFamily) = some true
  na_InvalidFamily_at : PySem.W.findIn K (.ref a.C_InvalidFamily) "at" = some none
  xi_InvalidFamily : PySem.W.findIn K (.ref a.C_InvalidFamily) "__init__" = some (some (.ref a.a_InvalidFamily_init))
  ti_InvalidFamily : PySem.W.typeIn K (.ref a.a_InvalidFamily_init) = some (.type "function")
  ex_NotNested : OexC K a.C_NotNested
  xf_NotNested : XfC K a.C_NotNested
  xm_NotNested : PySem.W.exmOne K (.ref a.C_NotNested) (.ref a.C_NotNested) = some true
  na_NotNested_at : PySem.W.findIn K (.ref a.C_NotNested) "at" = some none
  xi_NotNested : PySem.W.findIn K (.ref a.C_NotNested) "__init__" = some (some (.ref a.a_NotNested_init))
  ti_NotNested : PySem.W.typeIn K (.ref a.a_NotNested_init) = some (.type "function")
  xm_InvalidFamily_WrongSize : PySem.W.exmOne K (.ref a.C_InvalidFamily) (.ref a.C_WrongSize) = some false
  no_isinstance : mg "isinstance" = none
  no_int : mg "int" = none
  no_bool : mg "bool" = none
  no_range : mg "range" = none
  no_len : mg "len" = none
  no_abs : mg "abs" = none
  no_str : mg "str" = none
  no_max : mg "max" = none
  no_list : mg "list" = none
  no_tuple : mg "tuple" = none
  no_enumerate : mg "enumerate" = none
  no_any : mg "any" = none
  no_all : mg "all" = none
  no_sum : mg "sum" = none
  no_sorted : mg "sorted" = none
  no_set : mg "set" = none
  mg_MOST_THINGS : ∃ t, mg "MOST_THINGS" = some (.int 6 t)
  mg_combinations : mg "combinations" = some (.type "itertools.combinations")
  mg_gcd : mg "gcd" = some (.builtin "math.gcd")
  kit_F_F : PySem.W.kitOne K (.ref a.C_Frac) (.ref a.C_Frac) = some true
  kit_F_int : PySem.W.kitOne K (.ref a.C_Frac) (.type "int") = some false
  kit_F_list : PySem.W.kitOne K (.ref a.C_Frac) (.type "list") = some false
  kit_F_tuple : PySem.W.kitOne K (.ref a.C_Frac) (.type "tuple") = some false
  kit_F_str : PySem.W.kitOne K (.ref a.C_Frac) (.type "str") = some false
  kit_none_F : PySem.W.kitOne K (.type "NoneType") (.ref a.C_Frac) = some false
  kit_bool_F : PySem.W.kitOne K (.type "bool") (.ref a.C_Frac) = some false
  kit_int_F : PySem.W.kitOne K (.type "int") (.ref a.C_Frac) = some false
  kit_str_F : PySem.W.kitOne K (.type "str") (.ref a.C_Frac) = some false
  kit_list_F : PySem.W.kitOne K (.type "list") (.ref a.C_Frac) = some false
  kit_tuple_F : PySem.W.kitOne K (.type "tuple") (.ref a.C_Frac) = some false
end K21
namespace K21
open PySem PySem.Spec PyProof.Rows L2 Own OwnSeq OwnSet OwnComb OwnSort OwnHot OwnExN OwnProj
/-! ### values by their kinds -/
inductive Tg | non | bl | int | str | lst | tup
  deriving DecidableEq
inductive Ty (H : Hp) : V → Tg → Prop
  | non : Ty H .non .non
  | bl (b : Bool) : Ty H (.bl b) .bl
  | int (i : Int) : Ty H (.int i) .int
  | str (x : Str) : Ty H (.str x) .str
  | lst {p : Addr} {xs : List V} (h : H p = some (.lst xs)) : Ty H (.ref p) .lst
  | tup {p : Addr} {xs : List V} (h : H p = some (.tup xs)) : Ty H (.ref p) .tup
def tyv : Tg → Value
  | .non => .type "NoneType"
  | .bl => .type "bool"
  | .int => .type "int"
  | .str => .type "str"
  | .lst => .type "list"
  | .tup => .type "tuple"
def isB (g : Tg) : Tg → Bool
  | .int => decide (g = .int) || decide (g = .bl)
  | c => decide (g = c)
def clv : Tg → V
  | .non => .ty "NoneType"
  | .bl => .ty "bool"
  | .int => .ty "int"
  | .str => .ty "str"
  | .lst => .ty "list"
  | .tup => .ty "tuple"
theorem Ty.x {K : PySem.W.Frag} {H : Hp} {v : V} {g : Tg} (t : Ty H v g) : TyX K H v (tyv g) := by
  cases t with
  | non => exact .base .non
  | bl b => exact .base (.bl b)
  | int i => exact .base (.int i)
  | str x => exact .base (.str x)
  | lst h => exact .base (.lst h)
  | tup h => exact .base (.tup h)
theorem kit_by {K : PySem.W.Frag} (g c : Tg) (h2 : c ≠ .non) : ∃ n : String, clv c = .ty n ∧ PySem.W.kitOne K (tyv g) (.type n) = some (isB g c) := by
  cases c with
  | non => exact absurd rfl h2
  | int => exact ⟨"int", rfl, by cases g <;> exact kit_ty (by decide +kernel)⟩
  | bl => exact ⟨"bool", rfl, by cases g <;> exact kit_ty (by decide +kernel)⟩
  | str => exact ⟨"str", rfl, by cases g <;> exact kit_ty (by decide +kernel)⟩
  | lst => exact ⟨"list", rfl, by cases g <;> exact kit_ty (by decide +kernel)⟩
  | tup => exact ⟨"tuple", rfl, by cases g <;> exact kit_ty (by decide +kernel)⟩
def rIsB (c : Tg) : List V → Hp → VK → Prop := fun xs H Q => ∃ v g, xs = [v, clv c] ∧ Ty H v g ∧ Q (.bl (isB g c)) H
theorem call_isB {X : Cx} (c : Tg) (h : c ≠ .non := by decide) : CallR X (.builtin "isinstance") (rIsB c) := Rd.CallR.imp call_isi fun xs H Q ⟨v, g, e, t, q⟩ =>
  let ⟨n, e1, k⟩ := kit_by (K := X.K) g c h
  ⟨v, clv c, tyv g, .type n, isB g c, e, e1 ▸ .ty n, t.x, k, q⟩
theorem kit_any {K : PySem.W.Frag} (g : Tg) : PySem.W.kitAny K (tyv g) [.type "list", .type "tuple"] = some (decide (g = .lst) || decide (g = .tup)) := by
  obtain ⟨n1, e1, k1⟩ := kit_by (K := K) g .lst (by decide)
  obtain ⟨n2, e2, k2⟩ := kit_by (K := K) g .tup (by decide)
  have e1 : V.ty "list" = V.ty n1 := e1
  have e2 : V.ty "tuple" = V.ty n2 := e2
  cases e1
  cases e2
  have k1 : PySem.W.kitOne K (tyv g) (.type "list") = some (decide (g = .lst)) := k1
  have k2 : PySem.W.kitOne K (tyv g) (.type "tuple") = some (decide (g = .tup)) := k2
  unfold PySem.W.kitAny
  rw [k1]
  cases decide (g = .lst) with
  | true => rfl
  | false =>
    unfold PySem.W.kitAny
    show (match PySem.W.kitOne K (tyv g) (.type "tuple") with | some true => some true | some false => PySem.W.kitAny K (tyv g) [] | none => none) = _
    rw [k2]
    cases decide (g = .tup) <;> rfl
def rIsS : List V → Hp → VK → Prop := fun xs H Q => ∃ v g tp, xs = [v, .ref tp] ∧ H tp = some (.tup [.ty "list", .ty "tuple"]) ∧ Ty H v g ∧ Q (.bl (decide (g = .lst) || decide (g = .tup))) H
theorem call_isS {X : Cx} : CallR X (.builtin "isinstance") rIsS := Rd.CallR.imp call_isiT fun xs H Q ⟨v, g, tp, e, ht, t, q⟩ =>
  ⟨v, tp, _, _, _, _, e, ht, .cons (.ty "list") (.cons (.ty "tuple") .nil), t.x, kit_any g, q⟩
theorem same_upd {H : Hp} {p : Addr} {o : HO} (h : H p = none) : Same H (upd H p o) := fun b x e => by
  rw [upd_ne (ne_of_none e h)]
  exact e
theorem small {n : Nat} (h : n < 1000) : n < sizeLine := Nat.lt_of_lt_of_le h (by decide)
theorem small_le {n : Nat} (h : n ≤ 1000) : n ≤ sizeLine := Nat.le_trans h (by decide)
/-- an item of a tuple that stands in H by itself -/
def rIxHT : R2 := fun x y H Q => ∃ p xs i v, x = .ref p ∧ y = .int i ∧ H p = some (.tup xs) ∧ atI xs i = some v ∧ Q v H
theorem ixHT {X : Cx} : IxR X rIxHT := fun value slice pins s σ H x y v u Q I rx ry ⟨p, xs, i, z, e1, e2, h, e3, q⟩ hs => ix_tup value slice pins s σ H x y v u Q I rx ry ⟨p, xs, i, z, e1, e2, SqT.of h, e3, q⟩ hs
/-! ### sets of things -/
/-- the things as values -/
def iv (s : List Nat) : List V := s.map fun g => V.int (g : Nat)
theorem iv_len (s : List Nat) : (iv s).length = s.length := List.length_map _
def mk (s : List Nat) : Nat := (s.map fun g => 2 ^ g).sum
def bit (m k : Nat) : Bool := decide (m / 2 ^ k % 2 = 1)
def bits (m : Nat) : List Nat := (List.range 6).filter (bit m)
/-- all sets of n things, in order of size -/
def allS (n : Nat) : List (List Nat) := (List.range (n + 1)).flatMap (combs n)
/-- a part, its masks -/
def Sub (m' m : Nat) : Prop := m' &&& m = m'
instance (m' m : Nat) : Decidable (Sub m' m) := inferInstanceAs (Decidable (_ = _))
def In (S : List Bool) (m : Nat) : Bool := S.getD m false
/-- what may be taken: which masks; () is one, and every part of one -/
structure Fam (n : Nat) (S : List Bool) : Prop where
  n1 : 1 ≤ n
  n6 : n ≤ 6
  len : S.length = 2 ^ n
  zero : In S 0 = true
  down : ∀ m m', Sub m' m → In S m = true → In S m' = true
def famL (n : Nat) (S : List Bool) : List (List Nat) := (allS n).filter fun s => In S (mk s)

/-! ### rules with the table of kept things told -/
theorem op_inK {X : Cx} (K : PySem.W.Frag) (hK : X.K = K := by rfl) : OpR X (compareOp .In) (rIn K false) := by
  subst hK
  exact op_in_seq
theorem op_notInK {X : Cx} (K : PySem.W.Frag) (hK : X.K = K := by rfl) : OpR X (compareOp .NotIn) (rIn K true) := by
  subst hK
  exact op_notIn_seq
theorem pi_combK {X : Cx} {tg e e2 : Expr} {ta : TA} {x : Str} {p pos : Pos} (K : PySem.W.Frag) (hg : Gl X x) (hm : X.mg x = some (.type OwnComb.T)) (ha : PA X [e, e2] ta) (hK : X.K = K := by rfl) (hdb : (x == ("__debug__" : Str)) = false := by decide)
    (hs : starEach [e, e2] X.env = (false, eval e X.env) :: starEach [e2] X.env := by rfl) (hpl : (backTo pos (starEach [e2] X.env)).any (·.1) = false := by rfl) :
    PI X tg (.Call (.Name x p) [e, e2] [] pos) (iComb K ta) := by
  subst hK
  exact pi_comb hg hm ha hdb hs hpl
theorem pe_fldK {X : Cx} {e : Expr} {f : Str} {pos : Pos} {ta : TE} (K : PySem.W.Frag) (he : PE X e ta) (hK : X.K = K := by rfl) (hb : attributeBase e f X.env (eval e X.env) = eval e X.env := by rfl) : PE X (.Attribute e f pos) (tFld K ta f) := by
  subst hK
  exact pe_fld he hb

end K21
namespace K21
open PySem PySem.Spec PyProof.Rows L2 Own OwnSeq OwnSet OwnComb OwnSort OwnHot OwnExN OwnProj
/-! ### the sets of few things: by reckoning -/
def enc (s : List Nat) : PyData := .tuple [.int s.length, .tuple (s.map fun g => .int (g : Nat))]
abbrev leS : List Nat → List Nat → Bool := PySem.W.dataLe false enc
def asc : List Nat → Bool
  | [] => true
  | x :: r => r.all (fun y => decide (x < y)) && asc r
def ordered : List (List Nat) → Bool
  | [] => true
  | s :: r => r.all (fun t => leS s t && !leS t s && decide (s.length ≤ t.length)) && ordered r
def chk (n : Nat) : Bool := ((allS n).all fun s => decide (bits (mk s) = s) && decide (mk s < 2 ^ n) && s.all (fun g => decide (g < n)) && decide (s.length ≤ n) && asc s) &&
  ((List.range (2 ^ n)).all fun m => decide (mk (bits m) = m) && (allS n).contains (bits m)) && ordered (allS n) && decide ((allS n).length = 2 ^ n)
theorem chk_all : ((List.range 7).all chk) = true := by decide +kernel
theorem chk_at {n : Nat} (h : n ≤ 6) : chk n = true := List.all_eq_true.mp chk_all n (List.mem_range.mpr (by omega))
theorem pw_of {r : List Nat → List Nat → Prop} : ∀ {l : List (List Nat)}, ordered l = true → (∀ s t, leS s t = true → leS t s = false → s.length ≤ t.length → r s t) → l.Pairwise r
  | [], _, _ => .nil
  | s :: l, h, k => by
    obtain ⟨a, b⟩ := Bool.and_eq_true_iff.mp h
    refine .cons (fun t ht => ?_) (pw_of b k)
    have z := List.all_eq_true.mp a t ht
    simp at z
    exact k s t z.1.1 z.1.2 z.2
section
variable {n : Nat} (h : n ≤ 6)
theorem allS_at {s : List Nat} (hs : s ∈ allS n) (h : n ≤ 6) : bits (mk s) = s ∧ mk s < 2 ^ n ∧ (∀ g ∈ s, g < n) ∧ s.length ≤ n ∧ asc s = true := by
  have z := chk_at h
  unfold chk at z
  simp only [Bool.and_eq_true] at z
  have y := List.all_eq_true.mp z.1.1.1 s hs
  simp only [Bool.and_eq_true, decide_eq_true_eq] at y
  exact ⟨y.1.1.1.1, y.1.1.1.2, fun g hg => of_decide_eq_true (List.all_eq_true.mp y.1.1.2 g hg), y.1.2, y.2⟩
theorem bits_in {m : Nat} (h : n ≤ 6) (hm : m < 2 ^ n) : mk (bits m) = m ∧ bits m ∈ allS n := by
  have z := chk_at h
  unfold chk at z
  simp only [Bool.and_eq_true] at z
  have y := List.all_eq_true.mp z.1.1.2 m (List.mem_range.mpr hm)
  simp only [Bool.and_eq_true, decide_eq_true_eq] at y
  exact ⟨y.1, List.contains_iff_mem.mp y.2⟩
theorem allS_len (h : n ≤ 6) : (allS n).length = 2 ^ n := by
  have z := chk_at h
  unfold chk at z
  simp only [Bool.and_eq_true, decide_eq_true_eq] at z
  exact z.2
theorem allS_strict (h : n ≤ 6) : (allS n).Pairwise fun s t => leS s t = true ∧ leS t s = false ∧ s.length ≤ t.length := by
  have z := chk_at h
  unfold chk at z
  simp only [Bool.and_eq_true] at z
  exact pw_of z.1.2 fun s t a b c => ⟨a, b, c⟩
theorem allS_nodup (h : n ≤ 6) : (allS n).Nodup := (allS_strict h).imp fun {s t} z e => by
  subst e
  rw [z.1] at z
  exact absurd z.2.1 (by decide)
/-- the masks' sets are all sets -/
theorem perm_masks (h : n ≤ 6) : ((List.range (2 ^ n)).map bits).Perm (allS n) := by
  refine (List.perm_ext_iff_of_nodup ?_ (allS_nodup h)).mpr fun s => ?_
  · refine List.pairwise_map.mpr (List.Pairwise.imp_of_mem (fun {x y} hx hy ne e => ne ?_) List.nodup_range)
    have a := (bits_in h (List.mem_range.mp hx)).1
    rw [e, (bits_in h (List.mem_range.mp hy)).1] at a
    exact a.symm
  · refine ⟨fun z => ?_, fun z => ?_⟩
    · obtain ⟨m, hm, rfl⟩ := List.mem_map.mp z
      exact (bits_in h (List.mem_range.mp hm)).2
    · have y := allS_at z h
      exact List.mem_map.mpr ⟨mk s, List.mem_range.mpr y.2.1, y.1⟩
end
theorem _root_.List.Pairwise.of_mem_or {α : Type} {r : α → α → Prop} : ∀ {l : List α}, l.Pairwise r → ∀ {x y : α}, x ∈ l → y ∈ l → x = y ∨ r x y ∨ r y x
  | _ :: l, .cons a b, x, y, hx, hy => by
    rcases List.mem_cons.mp hx with ex | hx
    · rcases List.mem_cons.mp hy with ey | hy
      · exact .inl (ex.trans ey.symm)
      · exact .inr (.inl (ex ▸ a y hy))
    · rcases List.mem_cons.mp hy with ey | hy
      · exact .inr (.inr (ey ▸ a x hx))
      · exact b.of_mem_or hx hy
theorem sorted_eq {l : List (List Nat)} {n : Nat} (h : n ≤ 6) {p : List Nat → Bool} (hl : l.Perm ((allS n).filter p)) : l.mergeSort leS = (allS n).filter p := by
  have st := (allS_strict h).filter p
  refine List.Perm.eq_of_pairwise (le := fun s t => leS s t = true) ?_ (PySem.W.sort_pairwise ?_ l) (st.imp fun z => z.1) ((List.mergeSort_perm l leS).trans hl)
  · intro s t hs ht a b
    have hs' : s ∈ (allS n).filter p := hl.mem_iff.mp (List.mem_mergeSort.mp hs)
    rcases st.of_mem_or hs' ht with e | e | e
    · exact e
    · rw [e.2.1] at b; cases b
    · rw [e.2.1] at a; cases a
  · exact PySem.W.sortLe_total _ _ _

end K21
namespace K21
open PySem PySem.Spec PyProof.Rows L2 Own OwnSeq OwnSet OwnComb OwnSort OwnHot OwnExN OwnProj
local macro_rules | `(tactic| walk_at "rd") => `(tactic| simp only [tSeq, tAsg, tOp, tUn, tVar, gName, gSub, rIxL, rIxT, rSetL, tC, rI0, rI, rU, rEq, rNe, tCons, tNil, tCB, tLst, tTup, tIfS, tAnd, tOr, tNot, tAndV, tOrV, tNotV, tTest, tB, tIf, tRet, tDrop, tNext, tBreak, tCont, tCall, tCallS, L2.WE, tMakeS, rIsS, rIsB, tChain, gSeq, gRest, gCons, gNil, tFor_seq, tFor_enumS, tLc_seq, tLc_enumS, rAny, rAll, L2.tMeth, StX.tStar, rIn, tLstRg, tRg1, tRg2, rSetI, rSortedSet, rInDT, rInD, rNotInD, rEqD, rNeD, iComb, tFld, tMake, tMkO, sFld, tOst, tNever, tBits, clv, isB,
  Rd.tFor_rng1, Rd.tFor_rng2, Rd.tFor_list, Rd.tFor_tup, Rd.tLc_list, Rd.tLc_tup, Rd.tLc_rng1, Rd.LcTurn, tYes, wipe, Rd.rLenL, Rd.rLenT, Rd.rIntI, Rd.rIxH, rIxHT,  HO.tup.injEq, Rd.at0, Rd.at1, Rd.at2, Rd.at3, Rd.ixN40, Rd.ixN41, Rd.ixN42, Rd.ixN43, Rd.scal_ii, cxOf,
  List.length_cons, List.length_nil, List.length_map, List.map_cons, List.map_nil, upd_same, decide_eq_true_eq, decide_true, decide_false, if_true, if_false, Bool.false_eq_true, Bool.not_true, Bool.not_false, HO.lst.injEq, HO.ins.injEq, List.set_cons_zero, List.set_cons_succ, List.getElem?_cons_zero, List.getElem?_cons_succ, List.append_nil, List.nil_append, List.cons_append, Option.some.injEq, V.ref.injEq, V.int.injEq, V.bl.injEq, List.cons.injEq, exists_eq_left', exists_and_left, exists_eq_left, true_and, and_true, and_self, and_assoc, implies_true, reduceCtorEq, Nat.reduceAdd])

/-- the sets as new tuples -/
def Tups (H : Hp) : List V → List (List Nat) → Prop
  | [], [] => True
  | v :: vs, s :: ss => (∃ q, v = .ref q ∧ H q = some (.tup (iv s))) ∧ Tups H vs ss
  | _, _ => False
theorem Tups.same {H H' : Hp} (e : Same H H') : ∀ {vs : List V} {ss : List (List Nat)}, Tups H vs ss → Tups H' vs ss
  | [], [], _ => trivial
  | _ :: _, _ :: _, ⟨⟨q, a, b⟩, r⟩ => ⟨⟨q, a, e _ _ b⟩, Tups.same e r⟩
  | [], _ :: _, h => h.elim
  | _ :: _, [], h => h.elim
theorem Tups.upd {H : Hp} {D : Addr} {xs : List V} {o : HO} (h : H D = some (.lst xs)) : ∀ {vs : List V} {ss : List (List Nat)}, Tups H vs ss → Tups (upd H D o) vs ss
  | [], [], _ => trivial
  | _ :: _, _ :: _, ⟨⟨q, a, b⟩, r⟩ => ⟨⟨q, a, by rw [upd_ne (fun z => by rw [z, h] at b; cases b)]; exact b⟩, Tups.upd h r⟩
  | [], _ :: _, h => h.elim
  | _ :: _, [], h => h.elim
theorem Tups.app {H : Hp} : ∀ {vs ws : List V} {gs hs : List (List Nat)}, Tups H vs gs → Tups H ws hs → Tups H (vs ++ ws) (gs ++ hs)
  | [], _, [], _, _, h => h
  | _ :: _, _, _ :: _, _, ⟨a, r⟩, h => ⟨a, Tups.app r h⟩
  | [], _, _ :: _, _, h, _ => h.elim
  | _ :: _, _, [], _, h, _ => h.elim
theorem Tups.len {H : Hp} : ∀ {xs : List V} {gs : List (List Nat)}, Tups H xs gs → xs.length = gs.length
  | [], [], _ => rfl
  | _ :: _, _ :: _, h => congrArg (· + 1) h.2.len
  | [], _ :: _, h => h.elim
  | _ :: _, [], h => h.elim
theorem Tups.at {H : Hp} : ∀ {xs : List V} {gs : List (List Nat)} {i : Nat} {x : V}, Tups H xs gs → xs[i]? = some x → ∃ g, gs[i]? = some g ∧ ∃ q, x = .ref q ∧ H q = some (.tup (iv g))
  | _ :: _, g :: _, 0, _, h, e => ⟨g, rfl, by cases Option.some.inj e; exact h.1⟩
  | _ :: _, _ :: _, i + 1, _, h, e => Tups.at (i := i) h.2 e
  | [], [], _, _, _, e => by cases e
  | [], _ :: _, _, _, h, _ => h.elim
  | _ :: _, [], _, _, h, _ => h.elim
theorem seqOr {K : PySem.W.Frag} {H : Hp} {p : Addr} {l : Bool} {xs : List V} (h : H p = some (sq l xs)) : SqL K H p xs ∨ SqT K H p xs := by
  cases l with
  | true => exact .inl (SqL.of h)
  | false => exact .inr (SqT.of h)
theorem seqOr' {K : PySem.W.Frag} {H : Hp} {p : Addr} {l : Bool} {xs : List V} (h : H p = some (sq l xs)) : SqT K H p xs ∨ SqL K H p xs := (seqOr h).symm
theorem flat_len : ((List.range 7).all fun n => (List.range 9).all fun i => decide (((List.range i).flatMap (combs n)).length ≤ 64)) = true := by decide +kernel
theorem flat_at {n i : Nat} (hn : n ≤ 6) (hi : i ≤ 8) : ((List.range i).flatMap (combs n)).length ≤ 64 := of_decide_eq_true (List.all_eq_true.mp (List.all_eq_true.mp flat_len n (List.mem_range.mpr (by omega))) i (List.mem_range.mpr (by omega)))
theorem pick_iv {n : Nat} {js : List Nat} (h : ∀ j ∈ js, j < n) : (js.map fun j => (iv (List.range n)).getD j .non) = iv js := List.map_congr_left fun j hj => by
  have z := h j hj
  unfold iv
  rw [List.getD_eq_getElem?_getD, List.getElem?_map, List.getElem?_range z]
  rfl
theorem all_flat {α β : Type} {f : α → Bool} : True := trivial
theorem iv_flat (s : List Nat) : (iv s).all flatV = true := List.all_eq_true.mpr fun x hx => by
  obtain ⟨g, _, rfl⟩ := List.mem_map.mp hx
  rfl
theorem inV_iv (g : Nat) (s : List Nat) : inV (.int (g : Nat)) (iv s) = s.contains g := by
  unfold inV iv
  rw [List.any_map]
  induction s with
  | nil => rfl
  | cons x s ih =>
    rw [List.any_cons, List.contains_cons, ih]
    congr 1
    show ((x : Int) == (g : Int)) = (g == x)
    exact Bool.eq_iff_iff.mpr ⟨fun z => beq_iff_eq.mpr (by have := beq_iff_eq.mp z; omega), fun z => beq_iff_eq.mpr (by have := beq_iff_eq.mp z; omega)⟩
section
variable {P : Program} {w : World} {K : PySem.W.Frag} {mg : Str → Option Value} {base : Heap} {a : Ad}
/-! ### parts_of(list(range(n))), all_sets -/
def spParts : Sp := fun vs H Q _ => ∃ (p : Addr) (n : Nat), vs = [.ref p] ∧ H p = some (.lst (iv (List.range n))) ∧ n ≤ 6 ∧ ∀ q ys H', H q = none → Same H H' → H' q = some (.lst ys) → Tups H' ys (allS n) → Q (.ref q) H'
theorem sc_parts_of : FnScope ["things", "row", "many", "part"] ["things"] (defScope s_parts_of) := ⟨rfl, rfl, rfl, by decide +kernel, rfl, by decide +kernel, by decide +kernel⟩
theorem ok_parts_of (T : Txt K mg a) : FnOk P w K mg base CX0 1 a.a_parts_of a.d_parts_of ["things"] spParts := by
  refine T.fn_parts_of.ok sc_parts_of (fun vs H Q E h => ?_) (fun cdv A outer s H vs Q E hr h => ?_)
  · obtain ⟨p, n, rfl, _⟩ := h
    rfl
  · obtain ⟨p, n, rfl, hp, hn, k⟩ := h
    refine ⟨_, (pss_cons (ps_set (i := 1) sc_parts_of.nd rfl (Or.inr rfl) (pe_callTy call_list_of (by rfl) T.no_list (by decide +kernel) (pa_cons (pv 0) pa_nil)))
      (pss_one (ps_ret (pe_lc2 (own := [("many", 2), ("part", 3)]) (vs1 := [3]) (by rfl) sc_parts_of.nd (pi_range1 (by rfl) T.no_range (pa_cons (pe_op op_add (pe_callB Rd.call_lenL (by rfl) T.no_len PySem.boot_len (pa_cons (pv 1) pa_nil)) pe_int) pa_nil)) (blkOk_by (own := [("many", 2), ("part", 3)]) (N := ["things", "row", "many", "part"]) (sc := defScope s_parts_of) (by decide +kernel)) (by decide) (fun _ _ _ _ _ => pg_name (i := 2) sc_parts_of.nd rfl (Or.inl rfl)) (fun _ _ _ _ _ => pts_nil) (fun _ _ _ _ _ => (pi_combK K (by rfl) T.mg_combinations (pa_cons (pv 1) (pa_cons (pv 2) pa_nil)))) (fun _ _ _ _ _ => pg_name (i := 3) sc_parts_of.nd rfl (Or.inl rfl)) (fun _ _ _ _ _ => pts_nil) (fun _ _ _ _ _ => (pv 3)))))), ?_⟩
    show (_ : TS) _ [some (V.ref p), none, none, none] H
    walk_at "rd"
    refine ⟨_, .inl (SqL.of hp), fun l hl => ?_⟩
    have e1 := same_upd (o := .lst (iv (List.range n))) hl
    have at1 := upd_same (H := H) (a := l) (o := .lst (iv (List.range n)))
    generalize upd H l (.lst (iv (List.range n))) = H1 at e1 at1 ⊢
    unfold tLc2 iRng1
    walk_at "rd"
    refine ⟨_, SqL.of at1, ?_⟩
    rw [iv_len, List.length_range]
    refine ⟨by omega, by omega, fun D hD => ⟨fun i m H' => m = n + 1 - i ∧ i ≤ n + 1 ∧ ∃ ys, Same H1 H' ∧ H' D = some (.lst ys) ∧ Tups H' ys ((List.range i).flatMap (combs n)), ⟨n + 1, rfl, Nat.zero_le _, [], same_upd hD, upd_same, trivial⟩, fun i m H2 ⟨em, hi, ys, e2, hy, tv⟩ => ?_⟩⟩
    have jn : ((n : Int) + 1).toNat = n + 1 := by omega
    rw [jn]
    rcases Nat.lt_or_eq_of_le hi with lt | eq
    · refine .inr ⟨lt, fun H' => ∃ ys, Same H1 H' ∧ H' D = some (.lst ys) ∧ Tups H' ys ((List.range (i + 1)).flatMap (combs n)), fun H' z => ⟨n + 1 - (i + 1), by omega, rfl, lt, z⟩, fun x H' yl => ?_⟩
      obtain ⟨rfl, rfl⟩ : H' = H2 ∧ x = V.int ((0 : Int) + (i : Nat)) := yl
      refine ⟨i, by rw [Int.zero_add], _, SqL.of (e2 _ _ at1), by omega, by rw [iv_len, List.length_range]; omega, combs n i, by rw [iv_len, List.length_range]; exact chain6 hn (by omega), ?_⟩
      have C := chain6 (n := n) (r := i) hn (by omega)
      have fl := flat_at (n := n) (i := i + 1) hn (by omega)
      rw [List.range_succ, List.flatMap_append, List.flatMap_cons, List.flatMap_nil, List.append_nil] at fl ⊢
      refine ⟨fun j k H' => k = (combs n i).length - j ∧ j ≤ (combs n i).length ∧ ∃ ys, Same H1 H' ∧ H' D = some (.lst ys) ∧ Tups H' ys ((List.range i).flatMap (combs n) ++ (combs n i).take j), ⟨_, rfl, Nat.zero_le _, ys, e2, hy, by rw [List.take_zero, List.append_nil]; exact tv⟩, fun j k H3 ⟨ek, hj, ys, e3, hy3, tv3⟩ => ?_⟩
      rcases Nat.lt_or_eq_of_le hj with lt2 | eq2
      · refine .inr ⟨lt2, fun H' => ∃ ys, Same H1 H' ∧ H' D = some (.lst ys) ∧ Tups H' ys ((List.range i).flatMap (combs n) ++ (combs n i).take (j + 1)), fun H' z => ⟨_, by omega, rfl, lt2, z⟩, fun x H4 yl => ?_⟩
        obtain ⟨t, js, hjs, rfl, ht, rfl⟩ := yl
        have te := same_upd (o := .tup (js.map fun j => (iv (List.range n)).getD j .non)) ht
        have yl := tv3.len
        rw [List.length_append, List.length_take] at yl
        rw [List.length_append] at fl
        refine ⟨ys, te _ _ hy3, small (by omega), ys ++ [.ref t], fun b o hb => (upd_ne (ne_of_none hb hD)).trans (te _ _ (e3 _ _ hb)), upd_same, ?_⟩
        rw [List.take_add_one, hjs, ← List.append_assoc]
        exact Tups.upd (te _ _ hy3) (Tups.app (tv3.same te) ⟨⟨t, rfl, by rw [upd_same, pick_iv (C.inn js (List.mem_of_getElem? hjs))]⟩, trivial⟩)
      · subst eq2
        rw [List.take_length] at tv3
        exact .inl ⟨rfl, ys, e3, hy3, tv3⟩
    · subst eq
      refine .inl ⟨Nat.le_refl _, k D ys H2 (e1.free hD) (e1.trans e2) hy tv⟩
def spAll : Sp := fun vs H Q _ => ∃ (n : Nat), vs = [.int n] ∧ n ≤ 6 ∧ ∀ q ys H', H q = none → Same H H' → H' q = some (.lst ys) → Tups H' ys (allS n) → Q (.ref q) H'
theorem sc_all_sets : FnScope ["size"] ["size"] (defScope s_all_sets) := ⟨rfl, rfl, rfl, by decide +kernel, rfl, by decide +kernel, by decide +kernel⟩
theorem ok_all_sets (T : Txt K mg a) : FnOk P w K mg base CX0 2 a.a_all_sets a.d_all_sets ["size"] spAll := by
  refine T.fn_all_sets.ok sc_all_sets (fun vs H Q E h => ?_) (fun cdv A outer s H vs Q E hr h => ?_)
  · obtain ⟨n, rfl, _⟩ := h
    rfl
  · obtain ⟨n, rfl, hn, k⟩ := h
    refine ⟨_, (pss_one (ps_ret (pe_call (ok_parts_of T) (hr.mono (by decide)) (by rfl) T.mg_parts_of T.fn_parts_of.kp T.b_parts_of .nil pass0 (pa_cons (pe_listRg rfl (by rfl) T.no_list (prg_1 (by rfl) T.no_range (pv 0))) pa_nil)))), ?_⟩
    show (_ : TS) _ [some (V.int n)] H
    walk_at "rd"
    refine ⟨RgOk.of_le (by decide) (by omega) (by decide) (by omega), fun q hq => ⟨q, n, rfl, ?_, hn, fun r ys H' hr e ha ht => k r ys H' ((same_upd hq).free hr) ((same_upd hq).trans e) ha ht⟩⟩
    rw [upd_same]
    unfold rgV iv
    rw [show ((n : Int) - 0).toNat = n by omega]
    congr 2
    refine List.map_congr_left fun j hj => ?_
    rw [Int.zero_add]
/-! ### is_part, touches -/
def subL (s t : List Nat) : Bool := s.all fun g => t.contains g
def spPart : Sp := fun vs H Q _ => ∃ (p q : Addr) (l l' : Bool) (s t : List Nat), vs = [.ref p, .ref q] ∧ H p = some (sq l (iv s)) ∧ H q = some (sq l' (iv t)) ∧ s.length ≤ 6 ∧ ∀ H', Same H H' → Q (.bl (subL s t)) H'
theorem sc_is_part : FnScope ["part", "things", "thing"] ["part", "things"] (defScope s_is_part) := ⟨rfl, rfl, rfl, by decide +kernel, rfl, by decide +kernel, by decide +kernel⟩
theorem ok_is_part (T : Txt K mg a) : FnOk P w K mg base CX0 1 a.a_is_part a.d_is_part ["part", "things"] spPart := by
  refine T.fn_is_part.ok sc_is_part (fun vs H Q E h => ?_) (fun cdv A outer s H vs Q E hr h => ?_)
  · obtain ⟨p, q, l, l', s, t, rfl, _⟩ := h
    rfl
  · obtain ⟨p, q, l, l', s, t, rfl, hp, hq, h6, k⟩ := h
    refine ⟨_, (pss_one (ps_ret (pe_callB (cr_all rfl) (by rfl) T.no_all (by decide +kernel) (pa_cons (pe_lc (own := [("thing", 2)]) (by rfl) sc_is_part.nd (pi_seq (pv 0)) (blkOk_by (own := [("thing", 2)]) (N := ["part", "things", "thing"]) (sc := defScope s_is_part) (by decide +kernel)) (fun _ _ _ _ _ => pg_name (i := 2) sc_is_part.nd rfl (Or.inl rfl)) (fun _ _ _ _ _ => pts_nil) (fun _ _ _ _ _ => (pe_cmpR (op_inK K) (pv 2) (pv 1) (by with_unfolding_all rfl)))) pa_nil)))), ?_⟩
    show (_ : TS) _ [some (V.ref p), some (V.ref q), none] H
    walk_at "rd"
    refine ⟨l, _, hp, lcl_goes goes_seq (fun D i H5 => H D = none ∧ Same H H5 ∧ H5 D = some (.lst (((s.take i).map fun g => t.contains g).map V.bl))) (fun D hD => ⟨hD, same_upd hD, upd_same⟩)
      (fun D i H5 _ h => h.2.1 _ _ hp) (fun D i x H5 H5' hi ⟨n5, e5, a5⟩ ⟨eq5, hx⟩ => ?_) (fun D H5 _ ⟨n5, e5, a5⟩ => ?_)⟩
    · subst eq5
      rw [iv_len] at hi
      obtain ⟨g, hg, rfl⟩ : ∃ g, s[i]? = some g ∧ x = V.int (g : Nat) := by
        unfold iv at hx
        rw [List.getElem?_map] at hx
        cases z : s[i]? with
        | none => rw [z] at hx; cases hx
        | some g => rw [z] at hx; exact ⟨g, rfl, (Option.some.inj hx).symm⟩
      walk_at "rd"
      refine ⟨_, seqOr (e5 _ _ hq), rfl, iv_flat t, _, a5, small (by rw [List.length_map, List.length_map, List.length_take]; omega), n5, fun b o hb => (upd_ne (ne_of_none hb n5)).trans (e5 _ _ hb), ?_⟩
      rw [List.take_add_one, hg, List.map_append, List.map_append, inV_iv]
      rfl
    · rw [iv_len, List.take_length] at a5
      exact ⟨D, rfl, _, SqL.of a5, by rw [List.all_map]; exact k _ e5⟩
end

end K21
namespace K21
open PySem PySem.Spec PyProof.Rows L2 Own OwnSeq OwnSet OwnComb OwnSort OwnHot OwnExN OwnProj
local macro_rules | `(tactic| walk_at "rd") => `(tactic| simp only [tSeq, tAsg, tOp, tUn, tVar, gName, gSub, rIxL, rIxT, rSetL, tC, rI0, rI, rU, rEq, rNe, tCons, tNil, tCB, tLst, tTup, tIfS, tAnd, tOr, tNot, tAndV, tOrV, tNotV, tTest, tB, tIf, tRet, tDrop, tNext, tBreak, tCont, tCall, tCallS, L2.WE, tMakeS, rIsS, rIsB, tChain, gSeq, gRest, gCons, gNil, tFor_seq, tFor_enumS, tLc_seq, tLc_enumS, rAny, rAll, L2.tMeth, StX.tStar, rIn, tLstRg, tRg1, tRg2, rSetI, rSortedSet, rInDT, rInD, rNotInD, rEqD, rNeD, iComb, tFld, tMake, tMkO, sFld, tOst, tNever, tBits, clv, isB,
  Rd.tFor_rng1, Rd.tFor_rng2, Rd.tFor_list, Rd.tFor_tup, Rd.tLc_list, Rd.tLc_tup, Rd.tLc_rng1, Rd.LcTurn, tYes, wipe, Rd.rLenL, Rd.rLenT, Rd.rIntI, Rd.rIxH, rIxHT,  HO.tup.injEq, Rd.at0, Rd.at1, Rd.at2, Rd.at3, Rd.ixN40, Rd.ixN41, Rd.ixN42, Rd.ixN43, Rd.scal_ii, cxOf,
  List.length_cons, List.length_nil, List.length_map, List.map_cons, List.map_nil, upd_same, decide_eq_true_eq, decide_true, decide_false, if_true, if_false, Bool.false_eq_true, Bool.not_true, Bool.not_false, HO.lst.injEq, HO.ins.injEq, List.set_cons_zero, List.set_cons_succ, List.getElem?_cons_zero, List.getElem?_cons_succ, List.append_nil, List.nil_append, List.cons_append, Option.some.injEq, V.ref.injEq, V.int.injEq, V.bl.injEq, List.cons.injEq, exists_eq_left', exists_and_left, exists_eq_left, true_and, and_true, and_self, and_assoc, implies_true, reduceCtorEq, Nat.reduceAdd])

/-- sets as lists or tuples -/
def Seqs (H : Hp) : List V → List (List Nat) → Prop
  | [], [] => True
  | v :: vs, s :: ss => (∃ q l, v = .ref q ∧ H q = some (sq l (iv s))) ∧ Seqs H vs ss
  | _, _ => False
theorem Seqs.len {H : Hp} : ∀ {xs : List V} {gs : List (List Nat)}, Seqs H xs gs → xs.length = gs.length
  | [], [], _ => rfl
  | _ :: _, _ :: _, h => congrArg (· + 1) h.2.len
  | [], _ :: _, h => h.elim
  | _ :: _, [], h => h.elim
theorem Seqs.at {H : Hp} : ∀ {xs : List V} {gs : List (List Nat)} {i : Nat} {x : V}, Seqs H xs gs → xs[i]? = some x → ∃ g, gs[i]? = some g ∧ ∃ q l, x = .ref q ∧ H q = some (sq l (iv g))
  | _ :: _, g :: _, 0, _, h, e => ⟨g, rfl, by cases Option.some.inj e; exact h.1⟩
  | _ :: _, _ :: _, i + 1, _, h, e => Seqs.at (i := i) h.2 e
  | [], [], _, _, _, e => by cases e
  | [], _ :: _, _, _, h, _ => h.elim
  | _ :: _, [], _, _, h, _ => h.elim
theorem at_iv {s : List Nat} {i : Nat} {x : V} (hx : (iv s)[i]? = some x) : ∃ g, s[i]? = some g ∧ x = V.int (g : Nat) := by
  unfold iv at hx
  rw [List.getElem?_map] at hx
  cases z : s[i]? with
  | none => rw [z] at hx; cases hx
  | some g => rw [z] at hx; exact ⟨g, rfl, (Option.some.inj hx).symm⟩
theorem Seqs.same {H H' : Hp} (e : Same H H') : ∀ {vs : List V} {ss : List (List Nat)}, Seqs H vs ss → Seqs H' vs ss
  | [], [], _ => trivial
  | _ :: _, _ :: _, ⟨⟨q, l, a, b⟩, r⟩ => ⟨⟨q, l, a, e _ _ b⟩, Seqs.same e r⟩
  | [], _ :: _, h => h.elim
  | _ :: _, [], h => h.elim
theorem ty_sq {H : Hp} {p : Addr} {l : Bool} {xs : List V} (h : H p = some (sq l xs)) : ∃ g, Ty H (.ref p) g ∧ (decide (g = .lst) || decide (g = .tup)) = true ∧ (decide (g = .tup)) = !l := by
  cases l with
  | true => exact ⟨.lst, .lst h, by decide, by decide⟩
  | false => exact ⟨.tup, .tup h, by decide, by decide⟩
theorem asc_step {s : List Nat} {i g : Nat} (h : asc s = true) (hg : s[i]? = some g) : ∀ g', g' ∈ s.take i → g' < g := by
  induction s generalizing i with
  | nil => cases hg
  | cons x s ih =>
    obtain ⟨a, b⟩ := Bool.and_eq_true_iff.mp h
    cases i with
    | zero => intro g' hm; cases hm
    | succ i =>
      intro g' hm
      have hg : s[i]? = some g := hg
      rcases List.mem_cons.mp hm with rfl | hm
      · exact of_decide_eq_true (List.all_eq_true.mp a g (List.mem_of_getElem? hg))
      · exact ih b hg g' hm
/-! ### a fraction's fields -/
theorem nd_ne : ¬ (("num" : Str) = "den") := by decide +kernel
def fF (n d : Int) : List (Str × V) := putF "den" (.int d) (putF "num" (.int n) [])
theorem fF_num (n d : Int) : (fF n d).lookup ("num" : Str) = some (.int n) := by
  unfold fF
  rw [lookup_putF, if_neg nd_ne, lookup_putF, if_pos rfl]
theorem fF_den (n d : Int) : (fF n d).lookup ("den" : Str) = some (.int d) := by
  unfold fF
  rw [lookup_putF, if_pos rfl]
/-! ### values by their kinds -/
inductive Kd | non | bl | int | str | lst | tup | fr
  deriving DecidableEq
inductive Kn (C : Addr) (H : Hp) : V → Kd → Prop
  | non : Kn C H .non .non
  | bl (b : Bool) : Kn C H (.bl b) .bl
  | int (i : Int) : Kn C H (.int i) .int
  | str (x : Str) : Kn C H (.str x) .str
  | lst {p : Addr} {xs : List V} (h : H p = some (.lst xs)) : Kn C H (.ref p) .lst
  | tup {p : Addr} {xs : List V} (h : H p = some (.tup xs)) : Kn C H (.ref p) .tup
  | fr {p dx : Addr} {fs : List (Str × V)} (h : H p = some (.ins C dx fs)) : Kn C H (.ref p) .fr
theorem Kn.same {C : Addr} {H H' : Hp} {v : V} {g : Kd} (e : Same H H') (t : Kn C H v g) : Kn C H' v g := by
  cases t with
  | non => exact .non
  | bl b => exact .bl b
  | int i => exact .int i
  | str x => exact .str x
  | lst h => exact .lst (e _ _ h)
  | tup h => exact .tup (e _ _ h)
  | fr h => exact .fr (e _ _ h)
def kdv (C : Addr) : Kd → Value
  | .non => .type "NoneType"
  | .bl => .type "bool"
  | .int => .type "int"
  | .str => .type "str"
  | .lst => .type "list"
  | .tup => .type "tuple"
  | .fr => .ref C
def isK (g : Kd) : Kd → Bool
  | .int => decide (g = .int) || decide (g = .bl)
  | c => decide (g = c)
def kcv (C : Addr) : Kd → V
  | .non => .ty "NoneType"
  | .bl => .ty "bool"
  | .int => .ty "int"
  | .str => .ty "str"
  | .lst => .ty "list"
  | .tup => .ty "tuple"
  | .fr => .ref C
section
variable {P : Program} {w : World} {K : PySem.W.Frag} {mg : Str → Option Value} {base : Heap} {a : Ad}
theorem Kn.x (T : Txt K mg a) {H : Hp} {v : V} {g : Kd} (t : Kn a.C_Frac H v g) : TyX K H v (kdv a.C_Frac g) := by
  cases t with
  | non => exact .base .non
  | bl b => exact .base (.bl b)
  | int i => exact .base (.int i)
  | str x => exact .base (.str x)
  | lst h => exact .base (.lst h)
  | tup h => exact .base (.tup h)
  | fr h => exact .base (.ins h T.cl_Frac T.cg_Frac T.cget T.ctk T.mr_Frac)
/-- isinstance with one of the classes -/
def rIsK (C : Addr) (c : Kd) : List V → Hp → VK → Prop := fun xs H Q => ∃ v g, xs = [v, kcv C c] ∧ Kn C H v g ∧ Q (.bl (isK g c)) H
theorem kit_frac (T : Txt K mg a) (g : Kd) : PySem.W.kitOne K (kdv a.C_Frac g) (.ref a.C_Frac) = some (isK g .fr) := by
  cases g with
  | non => exact T.kit_none_F
  | bl => exact T.kit_bool_F
  | int => exact T.kit_int_F
  | str => exact T.kit_str_F
  | lst => exact T.kit_list_F
  | tup => exact T.kit_tuple_F
  | fr => exact T.kit_F_F
theorem call_isF {X : Cx} (T : Txt X.K mg a) : CallR X (.builtin "isinstance") (rIsK a.C_Frac .fr) := Rd.CallR.imp call_isi fun xs H Q ⟨v, g, e, t, q⟩ => ⟨v, .ref a.C_Frac, kdv a.C_Frac g, .ref a.C_Frac, isK g .fr, e, .own _, t.x T, kit_frac T g, q⟩
theorem kitK (T : Txt K mg a) (g c : Kd) (h1 : c ≠ .fr) (h2 : c ≠ .non) (h3 : g = .fr → c ≠ .bl) : ∃ n : String, kcv a.C_Frac c = .ty n ∧ PySem.W.kitOne K (kdv a.C_Frac g) (.type n) = some (isK g c) := by
  cases c with
  | fr => exact absurd rfl h1
  | non => exact absurd rfl h2
  | int => exact ⟨"int", rfl, by cases g <;> first | exact T.kit_F_int | exact kit_ty (by decide +kernel)⟩
  | bl => exact ⟨"bool", rfl, by cases g <;> first | exact absurd rfl (h3 rfl) | exact kit_ty (by decide +kernel)⟩
  | str => exact ⟨"str", rfl, by cases g <;> first | exact T.kit_F_str | exact kit_ty (by decide +kernel)⟩
  | lst => exact ⟨"list", rfl, by cases g <;> first | exact T.kit_F_list | exact kit_ty (by decide +kernel)⟩
  | tup => exact ⟨"tuple", rfl, by cases g <;> first | exact T.kit_F_tuple | exact kit_ty (by decide +kernel)⟩
/-- .. with a built-in one (of an own instance bool is not asked) -/
def rIsKB (C : Addr) (c : Kd) : List V → Hp → VK → Prop := fun xs H Q => ∃ v g, xs = [v, kcv C c] ∧ Kn C H v g ∧ (g = .fr → c ≠ .bl) ∧ Q (.bl (isK g c)) H
theorem call_isK {X : Cx} (T : Txt X.K mg a) (c : Kd) (h1 : c ≠ .fr := by decide) (h2 : c ≠ .non := by decide) : CallR X (.builtin "isinstance") (rIsKB a.C_Frac c) := Rd.CallR.imp call_isi fun xs H Q ⟨v, g, e, t, h3, q⟩ => by
  obtain ⟨n, e1, k⟩ := kitK T g c h1 h2 h3
  exact ⟨v, .ty n, kdv a.C_Frac g, .type n, isK g c, by rw [e, e1], .ty n, t.x T, k, q⟩
theorem kitA (T : Txt K mg a) (g : Kd) : PySem.W.kitAny K (kdv a.C_Frac g) [.type "list", .type "tuple"] = some (decide (g = .lst) || decide (g = .tup)) := by
  obtain ⟨n1, e1, k1⟩ := kitK T g .lst (by decide) (by decide) (fun _ => by decide)
  obtain ⟨n2, e2, k2⟩ := kitK T g .tup (by decide) (by decide) (fun _ => by decide)
  have e1 : V.ty "list" = V.ty n1 := e1
  have e2 : V.ty "tuple" = V.ty n2 := e2
  cases e1
  cases e2
  have k1 : PySem.W.kitOne K (kdv a.C_Frac g) (.type "list") = some (decide (g = .lst)) := k1
  have k2 : PySem.W.kitOne K (kdv a.C_Frac g) (.type "tuple") = some (decide (g = .tup)) := k2
  unfold PySem.W.kitAny
  rw [k1]
  cases decide (g = .lst) with
  | true => rfl
  | false =>
    unfold PySem.W.kitAny
    show (match PySem.W.kitOne K (kdv a.C_Frac g) (.type "tuple") with | some true => some true | some false => PySem.W.kitAny K (kdv a.C_Frac g) [] | none => none) = _
    rw [k2]
    cases decide (g = .tup) <;> rfl
def rIsKS (C : Addr) : List V → Hp → VK → Prop := fun xs H Q => ∃ v g tp, xs = [v, .ref tp] ∧ H tp = some (.tup [.ty "list", .ty "tuple"]) ∧ Kn C H v g ∧ Q (.bl (decide (g = .lst) || decide (g = .tup))) H
theorem call_isKS {X : Cx} (T : Txt X.K mg a) : CallR X (.builtin "isinstance") (rIsKS a.C_Frac) := Rd.CallR.imp call_isiT fun xs H Q ⟨v, g, tp, e, ht, t, q⟩ =>
  ⟨v, tp, _, _, _, _, e, ht, .cons (.ty "list") (.cons (.ty "tuple") .nil), t.x T, kitA T g, q⟩
end
/-! ### values of every kind -/
inductive Wv
  | non
  | bl (b : Bool)
  | int (i : Int)
  | str (s : Str)
  | fr (n d : Int)
  | lst (ws : List Wv)
  | tup (ws : List Wv)
mutual
inductive IsW (C : Addr) (H : Hp) : V → Wv → Prop
  | non : IsW C H .non .non
  | bl (b : Bool) : IsW C H (.bl b) (.bl b)
  | int (i : Int) : IsW C H (.int i) (.int i)
  | str (s : Str) : IsW C H (.str s) (.str s)
  | fr {p dx : Addr} {n d : Int} (h : H p = some (.ins C dx (fF n d))) : IsW C H (.ref p) (.fr n d)
  | lst {p : Addr} {vs : List V} {ws : List Wv} (h : H p = some (.lst vs)) (e : IsWs C H vs ws) : IsW C H (.ref p) (.lst ws)
  | tup {p : Addr} {vs : List V} {ws : List Wv} (h : H p = some (.tup vs)) (e : IsWs C H vs ws) : IsW C H (.ref p) (.tup ws)
inductive IsWs (C : Addr) (H : Hp) : List V → List Wv → Prop
  | nil : IsWs C H [] []
  | cons {v : V} {w : Wv} {vs : List V} {ws : List Wv} (h : IsW C H v w) (e : IsWs C H vs ws) : IsWs C H (v :: vs) (w :: ws)
end
mutual
theorem IsW.same {C : Addr} {H H' : Hp} (e : Same H H') : ∀ {v : V} {w : Wv}, IsW C H v w → IsW C H' v w
  | _, _, .non => .non
  | _, _, .bl b => .bl b
  | _, _, .int i => .int i
  | _, _, .str s => .str s
  | _, _, .fr h => .fr (e _ _ h)
  | _, _, .lst h a => .lst (e _ _ h) (IsWs.same e a)
  | _, _, .tup h a => .tup (e _ _ h) (IsWs.same e a)
theorem IsWs.same {C : Addr} {H H' : Hp} (e : Same H H') : ∀ {vs : List V} {ws : List Wv}, IsWs C H vs ws → IsWs C H' vs ws
  | _, _, .nil => .nil
  | _, _, .cons h a => .cons (IsW.same e h) (IsWs.same e a)
end
def kd : Wv → Kd
  | .non => .non
  | .bl _ => .bl
  | .int _ => .int
  | .str _ => .str
  | .fr _ _ => .fr
  | .lst _ => .lst
  | .tup _ => .tup
theorem IsW.kn {C : Addr} {H : Hp} {v : V} {w : Wv} (h : IsW C H v w) : Kn C H v (kd w) := by
  cases h with
  | non => exact .non
  | bl b => exact .bl b
  | int i => exact .int i
  | str s => exact .str s
  | fr h => exact .fr h
  | lst h _ => exact .lst h
  | tup h _ => exact .tup h
theorem IsWs.len {C : Addr} {H : Hp} : ∀ {vs : List V} {ws : List Wv}, IsWs C H vs ws → vs.length = ws.length
  | _, _, .nil => rfl
  | _, _, .cons _ a => congrArg (· + 1) a.len
theorem IsWs.at {C : Addr} {H : Hp} : ∀ {vs : List V} {ws : List Wv} {i : Nat} {x : V}, IsWs C H vs ws → vs[i]? = some x → ∃ w, ws[i]? = some w ∧ IsW C H x w
  | _, _, 0, _, .cons h _, e => ⟨_, rfl, by cases Option.some.inj e; exact h⟩
  | _, _, i + 1, _, .cons _ a, e => IsWs.at (i := i) a e
theorem IsWs.app {C : Addr} {H : Hp} : ∀ {vs : List V} {ws : List Wv} {us : List V} {zs : List Wv}, IsWs C H vs ws → IsWs C H us zs → IsWs C H (vs ++ us) (ws ++ zs)
  | _, _, _, _, .nil, b => b
  | _, _, _, _, .cons h a, b => .cons h (a.app b)
/-- the numbers of a set from least on -/
def ascF (least : Int) (n : Int) : List Wv → Bool
  | [] => true
  | .int g :: ws => decide (least ≤ g) && decide (g ≤ n - 1) && ascF (g + 1) n ws
  | _ :: _ => false
def ascW (n : Int) : Wv → Bool
  | .lst ws => ascF 0 n ws
  | .tup ws => ascF 0 n ws
  | _ => false
/-- the numbers that it tells -/
def numW : Wv → Nat
  | .int g => g.toNat
  | _ => 0
def numsW : Wv → List Nat
  | .lst ws => ws.map numW
  | .tup ws => ws.map numW
  | _ => []
theorem ascF_at : ∀ {ws : List Wv} {least n : Int}, 0 ≤ least → ascF least n ws = true → ws = (ws.map numW).map (fun g : Nat => Wv.int g) ∧ asc (ws.map numW) = true ∧ ∀ g ∈ ws.map numW, least ≤ (g : Int) ∧ (g : Int) < n
  | [], _, _, _, _ => ⟨rfl, rfl, fun g h => by cases h⟩
  | .int g :: ws, least, n, h0, h => by
    unfold ascF at h
    simp only [Bool.and_eq_true, decide_eq_true_eq] at h
    obtain ⟨⟨h1, h2⟩, h3⟩ := h
    obtain ⟨r1, r2, r3⟩ := ascF_at (by omega) h3
    have e : ((numW (.int g) : Nat) : Int) = g := by show ((g.toNat : Nat) : Int) = g; omega
    refine ⟨?_, ?_, fun x hx => ?_⟩
    · rw [List.map_cons, List.map_cons, e, ← r1]
    · rw [List.map_cons]
      show (List.all _ _ && _) = true
      rw [r2, Bool.and_true, List.all_eq_true]
      intro x hx
      have := r3 x hx
      exact decide_eq_true (by omega)
    · rw [List.map_cons] at hx
      rcases List.mem_cons.mp hx with rfl | hx
      · omega
      · have := r3 x hx
        omega
  | .non :: _, _, _, _, h => by cases h
  | .bl _ :: _, _, _, _, h => by cases h
  | .str _ :: _, _, _, _, h => by cases h
  | .fr _ _ :: _, _, _, _, h => by cases h
  | .lst _ :: _, _, _, _, h => by cases h
  | .tup _ :: _, _, _, _, h => by cases h
theorem ascF_of : ∀ {s : List Nat} {least n : Int}, asc s = true → (∀ g ∈ s, least ≤ (g : Int) ∧ (g : Int) < n) → ascF least n (s.map fun g : Nat => Wv.int g) = true
  | [], _, _, _, _ => rfl
  | x :: s, least, n, h, b => by
    obtain ⟨h1, h2⟩ := Bool.and_eq_true_iff.mp h
    have bx := b x List.mem_cons_self
    rw [List.map_cons]
    unfold ascF
    rw [decide_eq_true bx.1, decide_eq_true (show (x : Int) ≤ n - 1 by omega), ascF_of h2 fun g hg => ⟨by have := of_decide_eq_true (List.all_eq_true.mp h1 g hg); omega, (b g (List.mem_cons_of_mem _ hg)).2⟩]
    rfl
theorem IsWs.ints {C : Addr} {H : Hp} : ∀ {vs : List V} {s : List Nat}, IsWs C H vs (s.map fun g : Nat => Wv.int g) → vs = iv s
  | _, [], .nil => rfl
  | _, x :: s, .cons h a => by
    cases h with
    | int i => rw [a.ints]; rfl
theorem ints_w {C : Addr} {H : Hp} : ∀ s : List Nat, IsWs C H (iv s) (s.map fun g : Nat => Wv.int g)
  | [] => .nil
  | x :: s => .cons (.int _) (ints_w s)
theorem six : ∀ b0 b1 b2 b3 b4 b5 : Bool, ∃ m, m < 64 ∧ bit m 0 = b0 ∧ bit m 1 = b1 ∧ bit m 2 = b2 ∧ bit m 3 = b3 ∧ bit m 4 = b4 ∧ bit m 5 = b5 := fun b0 b1 b2 b3 b4 b5 =>
  ⟨cond b0 1 0 + cond b1 2 0 + cond b2 4 0 + cond b3 8 0 + cond b4 16 0 + cond b5 32 0, by cases b0 <;> cases b1 <;> cases b2 <;> cases b3 <;> cases b4 <;> cases b5 <;> decide +kernel⟩
theorem asc_pw0 : ∀ {s : List Nat}, asc s = true → s.Pairwise (· < ·)
  | [], _ => .nil
  | x :: s, h => by
    obtain ⟨a, b⟩ := Bool.and_eq_true_iff.mp h
    exact .cons (fun y hy => of_decide_eq_true (List.all_eq_true.mp a y hy)) (asc_pw0 b)
theorem asc_ext0 {s t : List Nat} (hs : s.Pairwise (· < ·)) (ht : t.Pairwise (· < ·)) (h : ∀ g, g ∈ s ↔ g ∈ t) : s = t :=
  List.Perm.eq_of_pairwise (le := fun x y => x < y) (fun a b _ _ x y => absurd x (Nat.lt_asymm y)) hs ht ((List.perm_ext_iff_of_nodup (hs.imp Nat.ne_of_lt) (ht.imp Nat.ne_of_lt)).mpr h)
theorem low_all : ((List.range 7).all fun n => (List.range 64).all fun m => !((bits m).all fun g => decide (g < n)) || (allS n).contains (bits m)) = true := by decide +kernel
/-- an ascending row of things below n is one of the sets -/
theorem asc_in {n : Nat} {s : List Nat} (n6 : n ≤ 6) (h : asc s = true) (b : ∀ g ∈ s, g < n) : s ∈ allS n := by
  obtain ⟨m, ml, m0, m1, m2, m3, m4, m5⟩ := six (s.contains 0) (s.contains 1) (s.contains 2) (s.contains 3) (s.contains 4) (s.contains 5)
  have all : ∀ g, g < 6 → bit m g = s.contains g := fun g hg => by
    match g, hg with
    | 0, _ => exact m0
    | 1, _ => exact m1
    | 2, _ => exact m2
    | 3, _ => exact m3
    | 4, _ => exact m4
    | 5, _ => exact m5
  have e : s = bits m := asc_ext0 (asc_pw0 h) (List.Pairwise.filter _ List.pairwise_lt_range) fun g => by
    unfold bits
    rw [List.mem_filter, List.mem_range]
    constructor
    · intro hg
      have := b g hg
      exact ⟨by omega, by rw [all g (by omega)]; exact List.contains_iff_mem.mpr hg⟩
    · rintro ⟨h1, h2⟩
      rw [all g h1] at h2
      exact List.contains_iff_mem.mp h2
  have z := List.all_eq_true.mp (List.all_eq_true.mp low_all n (List.mem_range.mpr (by omega))) m (List.mem_range.mpr ml)
  rw [← e, List.all_eq_true.mpr (fun g hg => decide_eq_true (b g hg)), Bool.not_true, Bool.false_or] at z
  exact List.contains_iff_mem.mp z
section
variable {P : Program} {w : World} {K : PySem.W.Frag} {mg : Str → Option Value} {base : Heap} {a : Ad}
/-! ### is_whole, is_within, is_ascending -/
def spWhole (C : Addr) : Sp := fun vs H Q _ => ∃ (v : V) (g : Kd), vs = [v] ∧ Kn C H v g ∧ Q (.bl (decide (g = .int))) H
theorem sc_is_whole : FnScope ["value"] ["value"] (defScope s_is_whole) := ⟨rfl, rfl, rfl, by decide +kernel, rfl, by decide +kernel, by decide +kernel⟩
theorem ok_is_whole (T : Txt K mg a) : FnOk P w K mg base CX0 1 a.a_is_whole a.d_is_whole ["value"] (spWhole a.C_Frac) := by
  refine T.fn_is_whole.ok sc_is_whole (fun vs H Q E h => ?_) (fun cdv A outer s H vs Q E hr h => ?_)
  · obtain ⟨v, g, rfl, _⟩ := h
    rfl
  · obtain ⟨v, g, rfl, t, k⟩ := h
    refine ⟨_, (pss_one (ps_ret (pe_and (pe_callB (call_isK T .int) (by rfl) T.no_isinstance (by decide +kernel) (pa_cons (pv 0) (pa_cons (pe_bltn (v := .ty "int") (u := .type "int") (by rfl) T.no_int (by decide +kernel) rfl) pa_nil))) (pe_one (pe_not (pe_callB (call_isK T .bl) (by rfl) T.no_isinstance (by decide +kernel) (pa_cons (pv 0) (pa_cons (pe_bltn (v := .ty "bool") (u := .type "bool") (by rfl) T.no_bool (by decide +kernel) rfl) pa_nil)))))))), ?_⟩
    show (_ : TS) _ [some v] H
    walk_at "rd"
    refine ⟨v, g, rfl, t, fun _ => by decide, ?_⟩
    refine ⟨_, rfl, ?_⟩
    cases g with
    | int => exact ite2 (fun _ => ⟨v, _, rfl, t, (fun z => nomatch z), _, rfl, k⟩) (fun h => absurd rfl h)
    | bl => exact ite2 (fun _ => ⟨v, _, rfl, t, (fun z => nomatch z), _, rfl, k⟩) (fun h => absurd rfl h)
    | _ => exact ite2 (fun (h : false = true) => nomatch h) (fun _ => k)
def inW (lo hi : Int) : Wv → Bool
  | .int i => decide (lo ≤ i) && decide (i ≤ hi)
  | _ => false
def spWithin (C : Addr) : Sp := fun vs H Q _ => ∃ (v : V) (w : Wv) (lo hi : Int), vs = [v, .int lo, .int hi] ∧ IsW C H v w ∧ Q (.bl (inW lo hi w)) H
theorem sc_is_within : FnScope ["value", "least", "most"] ["value", "least", "most"] (defScope s_is_within) := ⟨rfl, rfl, rfl, by decide +kernel, rfl, by decide +kernel, by decide +kernel⟩
theorem ok_is_within (T : Txt K mg a) : FnOk P w K mg base CX0 2 a.a_is_within a.d_is_within ["value", "least", "most"] (spWithin a.C_Frac) := by
  refine T.fn_is_within.ok sc_is_within (fun vs H Q E h => ?_) (fun cdv A outer s H vs Q E hr h => ?_)
  · obtain ⟨v, w, lo, hi, rfl, _⟩ := h
    rfl
  · obtain ⟨v, w', lo, hi, rfl, t, k⟩ := h
    refine ⟨_, (pss_one (ps_ret (pe_and (pe_call (ok_is_whole T) (hr.mono (by decide)) (by rfl) T.mg_is_whole T.fn_is_whole.kp T.b_is_whole .nil pass0 (pa_cons (pv 0) pa_nil)) (pe_one (pe_chain op_le op_le (pv 1) (pv 0) (pv 2)))))), ?_⟩
    show (_ : TS) _ [some v, some (V.int lo), some (V.int hi)] H
    walk_at "rd"
    refine ⟨v, kd w', rfl, t.kn, _, rfl, ?_⟩
    cases t with
    | int i =>
      refine ite2 (fun _ => ⟨i, rfl, ?_⟩) (fun h => absurd rfl h)
      have k : Q (.bl (decide (lo ≤ i) && decide (i ≤ hi))) H := k
      refine ite2 (fun h => ⟨i, rfl, ?_⟩) (fun h => ?_)
      · rw [decide_eq_true h] at k
        exact k
      · rw [decide_eq_false h] at k
        exact k
    | _ => exact ite2 (fun (h : false = true) => nomatch h) (fun _ => k)
def spAsc (C : Addr) : Sp := fun vs H Q _ => ∃ (v : V) (w : Wv) (n : Int), vs = [v, .int n] ∧ IsW C H v w ∧ ∀ H', Same H H' → Q (.bl (ascW n w)) H'
theorem sc_is_ascending : FnScope ["value", "size", "least", "number"] ["value", "size"] (defScope s_is_ascending) := ⟨rfl, rfl, rfl, by decide +kernel, rfl, by decide +kernel, by decide +kernel⟩
theorem ok_is_ascending (T : Txt K mg a) : FnOk P w K mg base CX0 3 a.a_is_ascending a.d_is_ascending ["value", "size"] (spAsc a.C_Frac) := by
  refine T.fn_is_ascending.ok sc_is_ascending (fun vs H Q E h => ?_) (fun cdv A outer s H vs Q E hr h => ?_)
  · obtain ⟨v, w, n, rfl, _⟩ := h
    rfl
  · obtain ⟨v, w', n, rfl, t, k⟩ := h
    refine ⟨_, (pss_cons (ps_if (pt_not (pt_val (pe_callB (call_isKS T) (by rfl) T.no_isinstance (by decide +kernel) (pa_cons (pv 0) (pa_cons (pe_tup (pa_cons (pe_bltn (v := .ty "list") (u := .type "list") (by rfl) T.no_list (by decide +kernel) rfl) (pa_cons (pe_bltn (v := .ty "tuple") (u := .type "tuple") (by rfl) T.no_tuple (by decide +kernel) rfl) pa_nil))) pa_nil))))) (pss_one (ps_ret pe_bl)) pss_nil)
      (pss_cons (ps_set (i := 2) sc_is_ascending.nd rfl (Or.inl rfl) pe_int)
      (pss_cons (ps_for PassesOwn.never rfl (pi_seq (pv 0)) (pg_name (i := 3) sc_is_ascending.nd rfl (Or.inl rfl))
        (pss_cons (ps_if (pt_not (pt_val (pe_call (ok_is_within T) (hr.mono (by decide)) (by rfl) T.mg_is_within T.fn_is_within.kp T.b_is_within .nil pass0 (pa_cons (pv 3) (pa_cons (pv 2) (pa_cons (pe_op op_sub (pv 1) pe_int) pa_nil)))))) (pss_one (ps_ret pe_bl)) pss_nil)
        (pss_one (ps_set (i := 2) sc_is_ascending.nd rfl (Or.inl rfl) (pe_op op_add (pv 3) pe_int)))))
      (pss_one (ps_ret pe_bl))))), ?_⟩
    show (_ : TS) _ [some v, some (V.int n), none, none] H
    walk_at "rd"
    refine ⟨by decide, fun c hc => ?_⟩
    have e1 := same_upd (o := .tup [V.ty "list", V.ty "tuple"]) hc
    have at1 := upd_same (H := H) (a := c) (o := .tup [V.ty "list", V.ty "tuple"])
    generalize upd H c (.tup [V.ty "list", V.ty "tuple"]) = H1 at e1 at1 ⊢
    have t1 := t.same e1
    refine ⟨v, kd w', c, rfl, at1, t1.kn, ?_⟩
    refine ⟨_, rfl, ?_⟩
    have seq : ∀ (l : Bool) (p : Addr) (vs : List V) (ws : List Wv), v = .ref p → H1 p = some (sq l vs) → IsWs a.C_Frac H1 vs ws → ascW n w' = ascF 0 n ws → ∃ a_1, v = V.ref a_1 ∧ ∃ x x_1, H1 a_1 = some (sq x x_1) ∧ Rd.Loop (if x = true then Itl K a_1 else Itt K a_1) (gName 3)
        (tSeq (tIfS (tNot (tB (tCall (spWithin a.C_Frac) [] E0 (tCons (tVar 3) (tCons (tVar 2) (tCons (tOp (rI0 fun i j => V.int (i - j)) (tVar 1) (tC (V.int 1))) tNil)))))) (tRet (tC (V.bl false))) tNext) (tAsg (tOp (rI0 fun i j => V.int (i + j)) (tVar 3) (tC (V.int 1))) (gName 2)))
        { nx := tRet (tC (V.bl true)) { nx := fun x H' => Q V.non H', rt := Q }, rt := Q } [some v, some (V.int n), some (V.int 0), none] H1 := fun l p vs ws ev hp iw ea => by
      subst ev
      refine ⟨p, rfl, l, vs, hp, loop_goes goes_seq (fun σ H' => Same H H' ∧ Same H1 H' ∧ ∃ o2 o3, σ = [some (V.ref p), some (V.int n), o2, o3] ∧ ascW n w' = true)
        (fun i σ H' => Same H H' ∧ Same H1 H' ∧ ∃ (z : Int) (o3 : Option V), σ = [some (V.ref p), some (V.int n), some (V.int z), o3] ∧ 0 ≤ z ∧ ascW n w' = ascF z n (ws.drop i)) ⟨e1, fun _ _ h => h, 0, none, rfl, by decide, ea⟩ (fun i σ H' _ ⟨_, e, _⟩ => e _ _ hp) ?_ (fun σ H' ⟨q1, q2, z, o3, q3, _, q4⟩ => ⟨q1, q2, _, _, q3, by
          rw [iw.len, List.drop_length] at q4
          exact q4⟩) ?_⟩
      · rintro bk hbk i x σ H2 H2' hi ⟨e2, e12, z, o3, rfl, z0, aw⟩ ⟨rfl, hx⟩
        obtain ⟨u, hu, hiu⟩ := (iw.same e12).at hx
        have hd : ws.drop i = u :: ws.drop (i + 1) := by
          rw [List.drop_eq_getElem_cons (List.getElem?_eq_some_iff.mp hu).1, (List.getElem?_eq_some_iff.mp hu).2]
        rw [hd] at aw
        walk_at "rd"
        refine ⟨x, u, z, n - 1, rfl, hiu, _, rfl, ?_⟩
        have no : inW z (n - 1) u = false → ascW n w' = false := fun h => by
          rw [aw]
          cases u with
          | int g =>
            show (decide (z ≤ g) && decide (g ≤ n - 1) && _) = false
            have h : (decide (z ≤ g) && decide (g ≤ n - 1)) = false := h
            rw [h]
            rfl
          | _ => rfl
        refine ite2 (fun h => ?_) (fun h => ?_)
        · have k := k _ e2
          rw [no (by simpa using h)] at k
          exact k
        · have h : inW z (n - 1) u = true := by simpa using h
          cases hiu with
          | int g =>
            have h : (decide (z ≤ g) && decide (g ≤ n - 1)) = true := h
            have aw : ascW n w' = (decide (z ≤ g) && decide (g ≤ n - 1) && ascF (g + 1) n (ws.drop (i + 1))) := aw
            rw [h, Bool.true_and] at aw
            have h := of_decide_eq_true (Bool.and_eq_true_iff.mp h).1
            exact ⟨g, rfl, e2, e12, by omega, aw⟩
          | _ => cases h
      · rintro σ H2 ⟨e2, _, o2, o3, rfl, aw⟩
        have k := k _ e2
        rw [aw] at k
        exact k
    cases t1 with
    | lst h iw => exact ite2 (fun (h : false = true) => nomatch h) (fun _ => seq true _ _ _ rfl h iw rfl)
    | tup h iw => exact ite2 (fun (h : false = true) => nomatch h) (fun _ => seq false _ _ _ rfl h iw rfl)
    | _ => exact ite2 (fun _ => k _ e1) (fun h => absurd rfl h)
end

end K21
namespace K21
open PySem PySem.Spec PyProof.Rows L2 Own OwnSeq OwnSet OwnComb OwnSort OwnHot OwnExN OwnProj
local macro_rules | `(tactic| walk_at "rd") => `(tactic| simp only [tSeq, tAsg, tOp, tUn, tVar, gName, gSub, rIxL, rIxT, rSetL, tC, rI0, rI, rU, rEq, rNe, tCons, tNil, tCB, tLst, tTup, tIfS, tAnd, tOr, tNot, tAndV, tOrV, tNotV, tTest, tB, tIf, tRet, tDrop, tNext, tBreak, tCont, tCall, tCallS, L2.WE, tMakeS, rIsS, rIsB, tChain, gSeq, gRest, gCons, gNil, tFor_seq, tFor_enumS, tLc_seq, tLc_enumS, rAny, rAll, L2.tMeth, StX.tStar, rIn, tLstRg, tRg1, tRg2, rSetI, rSortedSet, rInDT, rInD, rNotInD, rEqD, rNeD, iComb, tFld, tMake, tMkO, sFld, tOst, tNever, tBits, clv, isB,
  Rd.tFor_rng1, Rd.tFor_rng2, Rd.tFor_list, Rd.tFor_tup, Rd.tLc_list, Rd.tLc_tup, Rd.tLc_rng1, Rd.LcTurn, tYes, wipe, Rd.rLenL, Rd.rLenT, Rd.rIntI, Rd.rIxH, rIxHT,  HO.tup.injEq, Rd.at0, Rd.at1, Rd.at2, Rd.at3, Rd.ixN40, Rd.ixN41, Rd.ixN42, Rd.ixN43, Rd.scal_ii, cxOf,
  List.length_cons, List.length_nil, List.length_map, List.map_cons, List.map_nil, upd_same, decide_eq_true_eq, decide_true, decide_false, if_true, if_false, Bool.false_eq_true, Bool.not_true, Bool.not_false, HO.lst.injEq, HO.ins.injEq, List.set_cons_zero, List.set_cons_succ, List.getElem?_cons_zero, List.getElem?_cons_succ, List.append_nil, List.nil_append, List.cons_append, Option.some.injEq, V.ref.injEq, V.int.injEq, V.bl.injEq, List.cons.injEq, exists_eq_left', exists_and_left, exists_eq_left, true_and, and_true, and_self, and_assoc, implies_true, reduceCtorEq, Nat.reduceAdd])

section
variable {P : Program} {w : World} {K : PySem.W.Frag} {mg : Str → Option Value} {base : Heap} {a : Ad}
theorem passN {X : Cx} : Passes (L2N.CX P w) X (fun _ _ _ => False) := fun _ _ _ _ _ _ _ ⟨_, _, _, _, _, _, _, _, _, _, _, _, h⟩ => h.elim
/-- a def that may raise -/
theorem okN {x qual : Str} {st : Stmt} {f : Addr} {fd : FuncData} {N ps : List Str} {k : Nat} {sp : Sp} (F : Fun K x qual st f fd) (S : FnScope N ps (defScope st)) (len : ∀ vs H Q E, sp vs H Q E → vs.length = ps.length)
    (hbody : ∀ (cdv : Value) (A : Around) (outer : List Env) (s : Shared) (H : Hp) (vs : List V) (Q : VK) (E : XK), Room k (A.deeper (envOfC qual (defScope st) s.heap.objs.size f cdv)) → sp vs H Q E →
      ∃ t, PSs (cxOf (L2N.CX P w) P w K mg base N qual (defScope st) f cdv A outer s H E) (defBody st) t ∧ t { nx := fun _ H' => Q .non H', rt := Q } (L2.start N vs) H) : FnOk P w K mg base (L2N.CX P w) (k + 1) f fd ps sp := by
  obtain ⟨oc, od, kV, doc, pm, an, cdv, ct, osl, rfl, lk, hcd⟩ := F.ex
  exact fn_of lk hcd S len fun A outer s H vs Q E hr hsp => hbody cdv A outer s H vs Q E hr hsp
/-! ### the errors -/
def spEx (C : Addr) (m : Str) : Sp := fun vs H Q _ => ∃ (p : Addr) (v : V), vs = [.ref p, v] ∧ H p = some (exo p C none) ∧ ∀ d, H d = none → d ≠ p → Q .non (upd (upd H d (exd d [(m, v)])) p (exo p C (some d)))
theorem ex_made {C x : Addr} {m : Str} {v : V} {H1 : Hp} {E : XK} (hx : H1 x = none) (k : ∀ d H', H1 d = none → H' d = some (.xd [(m, v)]) → Same H1 H' → E (.ref C) (some d) H') :
    spEx C m [.ref x, v] (upd H1 x (exo x C none)) (fun v' H2 => v' = .non ∧ ∃ d, H2 x = some (exo x C (some d)) ∧ ∃ fs, H2 d = some (exd d fs) ∧ H1 d = none ∧ E (.ref C) (some d) (upd (del H2 x) d (.xd fs))) (fun _ _ _ => False) := by
  refine ⟨x, v, rfl, upd_same, fun d hd hne => ?_⟩
  rw [upd_ne hne] at hd
  refine ⟨rfl, d, upd_same, _, (upd_ne hne).trans upd_same, hd, k d _ hd upd_same fun b o e => ?_⟩
  have nd : b ≠ d := ne_of_none e hd
  have nx : b ≠ x := ne_of_none e hx
  rw [upd_ne nd, del_ne nx, upd_ne nx, upd_ne nd, upd_ne nx]
  exact e
theorem sc_WrongSize_init : FnScope ["self", "many"] ["self", "many"] (defScope s_WrongSize_init) := ⟨rfl, rfl, rfl, by decide +kernel, rfl, by decide +kernel, by decide +kernel⟩
theorem ok_WrongSize_init (T : Txt K mg a) : FnOk P w K mg base CX0 1 a.a_WrongSize_init a.d_WrongSize_init ["self", "many"] (spEx a.C_WrongSize "many") := by
  refine T.fn_WrongSize_init.ok sc_WrongSize_init (fun vs H Q E h => ?_) (fun cdv A outer s H vs Q E hr h => ?_)
  · obtain ⟨p, v, rfl, _⟩ := h
    rfl
  · obtain ⟨p, v, rfl, hp, k⟩ := h
    refine ⟨_, (pss_one (ps_ost (pv 0) (pv 1))), ?_⟩
    refine ⟨_, rfl, _, rfl, p, _, rfl, T.ex_WrongSize, T.na_WrongSize_many, .inl ⟨hp, fun dx hd hne => k dx hd hne⟩⟩
theorem sc_InvalidFamily_init : FnScope ["self", "at"] ["self", "at"] (defScope s_InvalidFamily_init) := ⟨rfl, rfl, rfl, by decide +kernel, rfl, by decide +kernel, by decide +kernel⟩
theorem ok_InvalidFamily_init (T : Txt K mg a) : FnOk P w K mg base CX0 1 a.a_InvalidFamily_init a.d_InvalidFamily_init ["self", "at"] (spEx a.C_InvalidFamily "at") := by
  refine T.fn_InvalidFamily_init.ok sc_InvalidFamily_init (fun vs H Q E h => ?_) (fun cdv A outer s H vs Q E hr h => ?_)
  · obtain ⟨p, v, rfl, _⟩ := h
    rfl
  · obtain ⟨p, v, rfl, hp, k⟩ := h
    refine ⟨_, (pss_one (ps_ost (pv 0) (pv 1))), ?_⟩
    refine ⟨_, rfl, _, rfl, p, _, rfl, T.ex_InvalidFamily, T.na_InvalidFamily_at, .inl ⟨hp, fun dx hd hne => k dx hd hne⟩⟩
theorem sc_NotNested_init : FnScope ["self", "at"] ["self", "at"] (defScope s_NotNested_init) := ⟨rfl, rfl, rfl, by decide +kernel, rfl, by decide +kernel, by decide +kernel⟩
theorem ok_NotNested_init (T : Txt K mg a) : FnOk P w K mg base CX0 1 a.a_NotNested_init a.d_NotNested_init ["self", "at"] (spEx a.C_NotNested "at") := by
  refine T.fn_NotNested_init.ok sc_NotNested_init (fun vs H Q E h => ?_) (fun cdv A outer s H vs Q E hr h => ?_)
  · obtain ⟨p, v, rfl, _⟩ := h
    rfl
  · obtain ⟨p, v, rfl, hp, k⟩ := h
    refine ⟨_, (pss_one (ps_ost (pv 0) (pv 1))), ?_⟩
    refine ⟨_, rfl, _, rfl, p, _, rfl, T.ex_NotNested, T.na_NotNested_at, .inl ⟨hp, fun dx hd hne => k dx hd hne⟩⟩
/-! ### clean_sets -/
def spClean (C WC IC : Addr) : Sp := fun vs H Q E => ∃ (vz : V) (wz : Wv) (p : Addr) (l : Bool) (xs : List V) (ws : List Wv), vs = [vz, .ref p] ∧ IsW C H vz wz ∧ H p = some (sq l xs) ∧ IsWs C H xs ws ∧ ws.length ≤ 64 ∧
  (∀ n : Nat, wz = .int n → 1 ≤ n → n ≤ 6 → (∀ w ∈ ws, ascW n w = true) → ∀ q ys H', H q = none → Same H H' → H' q = some (.lst ys) → Tups H' ys (ws.map numsW) → Q (.ref q) H') ∧
  (inW 1 6 wz = false → ∀ d H', H d = none → H' d = some (.xd [("many", vz)]) → Same H H' → E (.ref WC) (some d) H') ∧
  (∀ (n : Nat) (i : Nat) (w : Wv), wz = .int n → 1 ≤ n → n ≤ 6 → ws[i]? = some w → ascW n w = false → (∀ u ∈ ws.take i, ascW n u = true) → ∀ d H', H d = none → H' d = some (.xd [("at", .int (i : Nat))]) → Same H H' → E (.ref IC) (some d) H')
theorem sc_clean_sets : FnScope ["size", "sets", "cleaned", "at", "things"] ["size", "sets"] (defScope s_clean_sets) := ⟨rfl, rfl, rfl, by decide +kernel, rfl, by decide +kernel, by decide +kernel⟩
theorem ok_clean_sets0 (T : Txt K mg a) : FnOk P w K mg base (L2N.CX P w) 4 a.a_clean_sets a.d_clean_sets ["size", "sets"] (spClean a.C_Frac a.C_WrongSize a.C_InvalidFamily) := by
  refine okN T.fn_clean_sets sc_clean_sets (fun vs H Q E h => ?_) (fun cdv A outer s H vs Q E hr h => ?_)
  · obtain ⟨vz, wz, p, l, xs, ws, rfl, _⟩ := h
    rfl
  · obtain ⟨vz, wz, p, l, xs, ws, rfl, hz, hp, hx, l64, k1, k2, k3⟩ := h
    obtain ⟨t1, mg_MOST_THINGS⟩ := T.mg_MOST_THINGS
    refine ⟨_, (pss_cons (ps_if (pt_not (pt_val (pe_call (ok_is_within T) (hr.mono (by decide)) (by rfl) T.mg_is_within T.fn_is_within.kp T.b_is_within .nil pass0 (pa_cons (pv 0) (pa_cons pe_int (pa_cons (pe_glob (v := .int 6) rfl mg_MOST_THINGS ⟨_, rfl⟩) pa_nil)))))) (pss_one (L2N.ps_raise rfl (L2N.takes_of rfl rfl rfl rfl) (pmk_oexN T.ex_WrongSize T.xi_WrongSize T.ti_WrongSize (ok_WrongSize_init T) (hr.mono (by decide)) T.b_WrongSize_init pass0 (by rfl) T.mg_WrongSize (pa_cons (pv 0) pa_nil)))) pss_nil)
      (pss_cons (ps_set (i := 2) sc_clean_sets.nd rfl (Or.inl rfl) (pe_lst pa_nil))
      (pss_cons (ps_for (passes_of rfl) rfl (pi_enumS (by rfl) T.no_enumerate (pa_cons (pv 1) pa_nil)) (pg_seq (n := 2) rfl (pgs_cons (pg_name (i := 3) sc_clean_sets.nd rfl (Or.inl rfl)) (pgs_cons (pg_name (i := 4) sc_clean_sets.nd rfl (Or.inl rfl)) pgs_nil)))
        (pss_cons (ps_if (pt_not (pt_val (pe_call (ok_is_ascending T) (hr.mono (by decide)) (by rfl) T.mg_is_ascending T.fn_is_ascending.kp T.b_is_ascending .nil pass0 (pa_cons (pv 4) (pa_cons (pv 0) pa_nil))))) (pss_one (L2N.ps_raise rfl (L2N.takes_of rfl rfl rfl rfl) (pmk_oexN T.ex_InvalidFamily T.xi_InvalidFamily T.ti_InvalidFamily (ok_InvalidFamily_init T) (hr.mono (by decide)) T.b_InvalidFamily_init pass0 (by rfl) T.mg_InvalidFamily (pa_cons (pv 3) pa_nil)))) pss_nil)
        (pss_one (ps_expr (pe_bm PySem.F.plainAttrs_list PySem.F.slot_list_append PySem.F.type_list_append mt_append (pv 2) (pa_cons (pe_callTy call_tuple_of (by rfl) T.no_tuple (by decide +kernel) (pa_cons (pv 4) pa_nil)) pa_nil))))))
      (pss_one (ps_ret (pv 2)))))), ?_⟩
    show (_ : TS) _ [some vz, some (V.ref p), none, none, none] H
    walk_at "rd"
    refine ⟨vz, wz, 1, 6, rfl, hz, _, rfl, ?_⟩
    refine ite2 (fun h => ?_) (fun h => ?_)
    · have h : inW 1 6 wz = false := by simpa using h
      exact ⟨by decide, fun x hx => ex_made hx fun d H' hd ed e => k2 h d H' hd ed e⟩
    obtain ⟨n, rfl, n1, n6⟩ : ∃ n : Nat, wz = .int n ∧ 1 ≤ n ∧ n ≤ 6 := by
      have h : inW 1 6 wz = true := by simpa using h
      cases wz with
      | int g =>
        have h : (decide (1 ≤ g) && decide (g ≤ 6)) = true := h
        rw [Bool.and_eq_true, decide_eq_true_eq, decide_eq_true_eq] at h
        exact ⟨g.toNat, by rw [show ((g.toNat : Nat) : Int) = g by omega], by omega, by omega⟩
      | _ => cases h
    obtain rfl : vz = .int n := by cases hz; rfl
    refine ⟨by decide, fun c hc => ?_⟩
    have e1 := same_upd (o := .lst []) hc
    have at1 := upd_same (H := H) (a := c) (o := .lst [])
    generalize upd H c (.lst []) = H1 at e1 at1 ⊢
    have len := hx.len
    refine ⟨l, xs, e1 _ _ hp, loop_goes goes_enum (fun σ H' => ∃ o3 o4 acc, σ = [some (V.int n), some (V.ref p), some (V.ref c), o3, o4] ∧ Same H H' ∧ H' c = some (.lst acc) ∧ Tups H' acc (ws.map numsW) ∧ ∀ w ∈ ws, ascW n w = true)
      (fun i σ H' => ∃ o3 o4 acc, σ = [some (V.int n), some (V.ref p), some (V.ref c), o3, o4] ∧ Same H H' ∧ H' c = some (.lst acc) ∧ Tups H' acc ((ws.take i).map numsW) ∧ ∀ w ∈ ws.take i, ascW n w = true) ⟨none, none, [], rfl, e1, at1, trivial, fun w h => by cases h⟩ (fun i σ H' _ ⟨_, _, _, _, e, _⟩ => e _ _ hp) ?_
      (fun σ H' ⟨o3, o4, acc, q1, q2, q3, q4, q5⟩ => ⟨o3, o4, acc, q1, q2, q3, by rw [len, List.take_length] at q4; exact q4, by rw [len, List.take_length] at q5; exact q5⟩) ?_⟩
    · rintro bk hbk i y σ H3 H3' hi ⟨o3, o4, acc, rfl, e3, a3, c3, ok3⟩ ⟨t, z, rfl, ht, rfl, hz'⟩
      obtain ⟨w', hw, hiw⟩ := (hx.same e3).at hz'
      have te := same_upd (o := .tup [.int (i : Nat), z]) ht
      have e4 := e3.trans te
      walk_at "rd"
      refine ⟨false, _, rfl, rfl, ?_⟩
      refine ⟨_, _, rfl, _, _, rfl, rfl, z, w', n, rfl, hiw.same te, fun H5 e5 => ⟨_, rfl, ite2 (fun h => ?_) (fun h => ?_)⟩⟩
      · have h : ascW n w' = false := by simpa using h
        have e15 := e4.trans e5
        exact ⟨by decide, fun x hx => ex_made hx fun d H' hd ed e => k3 n i w' rfl n1 n6 hw h ok3 d H' (e15.free hd) ed (e15.trans e)⟩
      have h : ascW n w' = true := by simpa using h
      obtain ⟨q, l2, rfl, hq⟩ : ∃ q l2, z = .ref q ∧ H5 q = some (sq l2 (iv (numsW w'))) := by
        have hiw5 := (hiw.same te).same e5
        cases hiw5 with
        | lst h1 h2 =>
          have h : ascF 0 n _ = true := h
          have r := (ascF_at (by decide) h).1
          rw [r] at h2
          exact ⟨_, true, rfl, by rw [h1, h2.ints]; rfl⟩
        | tup h1 h2 =>
          have h : ascF 0 n _ = true := h
          have r := (ascF_at (by decide) h).1
          rw [r] at h2
          exact ⟨_, false, rfl, by rw [h1, h2.ints]; rfl⟩
        | _ => cases h
      simp only [tBM, rAppend]
      walk_at "rd"
      have a5 := e5 _ _ (te _ _ a3)
      have cl := c3.len
      have wl := (List.getElem?_eq_some_iff.mp hw).1
      rw [List.length_map, List.length_take] at cl
      have oks : ∀ w ∈ ws.take (i + 1), ascW n w = true := fun w hm => by
        rw [List.take_add_one, hw] at hm
        rcases List.mem_append.mp hm with hm | hm
        · exact ok3 w hm
        · rw [List.mem_singleton.mp hm]
          exact h
      have fin : ∀ r H6, Same H5 H6 → H6 r = some (.tup (iv (numsW w'))) → ∃ x, H6 c = some (.lst x) ∧ x.length < sizeLine ∧ Same H (upd H6 c (.lst (x ++ [.ref r]))) ∧ Tups (upd H6 c (.lst (x ++ [.ref r]))) (x ++ [.ref r]) ((ws.take (i + 1)).map numsW) ∧ ∀ w ∈ ws.take (i + 1), ascW n w = true := fun r H6 e6 hr => by
        have a6 := e6 _ _ a5
        have c6 := ((c3.same te).same e5).same e6
        refine ⟨acc, a6, small (by omega), fun b o hb => (upd_ne (ne_of_none hb hc)).trans (e6 _ _ (e5 _ _ (e4 _ _ hb))), ?_, oks⟩
        rw [List.take_add_one, hw, List.map_append]
        exact Tups.upd a6 (Tups.app c6 ⟨⟨r, rfl, hr⟩, trivial⟩)
      cases l2 with
      | true =>
        refine ⟨.inl ⟨rfl, _, SqL.of a5⟩, _, .inl ⟨SqL.of hq, fun r hr => ?_⟩⟩
        obtain ⟨x, h1, h2, h3, h4, h5⟩ := fin r _ (same_upd hr) upd_same
        exact ⟨x, h1, h2, h3, h4, h5⟩
      | false =>
        refine ⟨.inl ⟨rfl, _, SqL.of a5⟩, _, .inr ⟨SqT.of hq, ?_⟩⟩
        obtain ⟨x, h1, h2, h3, h4, h5⟩ := fin q _ (Same.refl _) hq
        exact ⟨x, h1, h2, h3, h4, h5⟩
    · rintro σ H3 ⟨o3, o4, acc, rfl, e3, a3, c3, ok3⟩
      walk_at "rd"
      exact k1 n rfl n1 n6 ok3 c acc H3 hc e3 a3 c3
/-- .. of what is right -/
def spCleanS : Sp := fun vs H Q _ => ∃ (p : Addr) (n : Nat) (xs : List V) (ss : List (List Nat)), vs = [.int n, .ref p] ∧ H p = some (.lst xs) ∧ Seqs H xs ss ∧ 1 ≤ n ∧ n ≤ 6 ∧ ss.length ≤ 64 ∧ (∀ s ∈ ss, s ∈ allS n) ∧
  ∀ q ys H', H q = none → Same H H' → H' q = some (.lst ys) → Tups H' ys ss → Q (.ref q) H'
/-- the row as a value -/
def wOf (l : Bool) (s : List Nat) : Wv := if l = true then .lst (s.map fun g : Nat => Wv.int g) else .tup (s.map fun g : Nat => Wv.int g)
theorem nums_of (s : List Nat) : (s.map fun g : Nat => Wv.int g).map numW = s := by
  rw [List.map_map]
  exact (List.map_congr_left fun g _ => Int.toNat_natCast g).trans (List.map_id s)
theorem seqs_w {C : Addr} {H : Hp} : ∀ {xs : List V} {ss : List (List Nat)}, Seqs H xs ss → ∃ ws, IsWs C H xs ws ∧ ws.map numsW = ss ∧ ∀ w ∈ ws, ∃ s ∈ ss, ∃ l, w = wOf l s
  | [], [], _ => ⟨[], .nil, rfl, fun w h => by cases h⟩
  | v :: xs, s :: ss, ⟨⟨q, l, e, h⟩, r⟩ => by
    obtain ⟨ws, h1, h2, h3⟩ := seqs_w (C := C) r
    refine ⟨wOf l s :: ws, .cons ?_ h1, ?_, fun w hw => ?_⟩
    · subst e
      cases l with
      | true => exact .lst h (ints_w s)
      | false => exact .tup h (ints_w s)
    · rw [List.map_cons, h2]
      cases l with
      | true => exact congrArg (· :: ss) (nums_of s)
      | false => exact congrArg (· :: ss) (nums_of s)
    · rcases List.mem_cons.mp hw with rfl | hw
      · exact ⟨s, List.mem_cons_self, l, rfl⟩
      · obtain ⟨s', hs', l', e'⟩ := h3 w hw
        exact ⟨s', List.mem_cons_of_mem _ hs', l', e'⟩
  | [], _ :: _, h => h.elim
  | _ :: _, [], h => h.elim
theorem ok_clean_sets (T : Txt K mg a) : FnOk P w K mg base (L2N.CX P w) 4 a.a_clean_sets a.d_clean_sets ["size", "sets"] spCleanS :=
  (ok_clean_sets0 T).imp fun vs H Q E ⟨p, n, xs, ss, e, hp, sv, n1, n6, l64, ha, k⟩ => by
    obtain ⟨ws, h1, h2, h3⟩ := seqs_w (C := a.C_Frac) sv
    have all : ∀ w ∈ ws, ascW n w = true := fun w hw => by
      obtain ⟨s, hs, l, rfl⟩ := h3 w hw
      have sa := allS_at (ha s hs) n6
      have z : ascF 0 n (s.map fun g : Nat => Wv.int g) = true := ascF_of sa.2.2.2.2 fun g hg => ⟨by omega, by have := sa.2.2.1 g hg; omega⟩
      cases l <;> exact z
    refine ⟨.int n, .int n, p, true, xs, ws, e, .int _, hp, h1, by rw [← h2, List.length_map] at l64; exact l64, fun m em m1 m6 _ q ys H' hq es hy ty => k q ys H' hq es hy (h2 ▸ ty), fun z => ?_, fun m i w' em m1 m6 hw hf _ => ?_⟩
    · have z : (decide ((1 : Int) ≤ (n : Int)) && decide ((n : Int) ≤ 6)) = false := z
      rw [decide_eq_true (show (1 : Int) ≤ (n : Int) by omega), decide_eq_true (show (n : Int) ≤ 6 by omega)] at z
      cases z
    · injection em with em
      rw [← em, all w' (List.mem_of_getElem? hw)] at hf
      cases hf
end

end K21
namespace K21
open PySem PySem.Spec PyProof.Rows L2 Own OwnSeq OwnSet OwnComb OwnSort OwnHot OwnExN OwnProj
local macro_rules | `(tactic| walk_at "rd") => `(tactic| simp only [tSeq, tAsg, tOp, tUn, tVar, gName, gSub, rIxL, rIxT, rSetL, tC, rI0, rI, rU, rEq, rNe, tCons, tNil, tCB, tLst, tTup, tIfS, tAnd, tOr, tNot, tAndV, tOrV, tNotV, tTest, tB, tIf, tRet, tDrop, tNext, tBreak, tCont, tCall, tCallS, L2.WE, tMakeS, rIsS, rIsB, tChain, gSeq, gRest, gCons, gNil, tFor_seq, tFor_enumS, tLc_seq, tLc_enumS, rAny, rAll, L2.tMeth, StX.tStar, rIn, tLstRg, tRg1, tRg2, rSetI, rSortedSet, rInDT, rInD, rNotInD, rEqD, rNeD, iComb, tFld, tMake, tMkO, sFld, tOst, tNever, tBits, clv, isB,
  Rd.tFor_rng1, Rd.tFor_rng2, Rd.tFor_list, Rd.tFor_tup, Rd.tLc_list, Rd.tLc_tup, Rd.tLc_rng1, Rd.LcTurn, tYes, wipe, Rd.rLenL, Rd.rLenT, Rd.rIntI, Rd.rIxH, rIxHT,  HO.tup.injEq, Rd.at0, Rd.at1, Rd.at2, Rd.at3, Rd.ixN40, Rd.ixN41, Rd.ixN42, Rd.ixN43, Rd.scal_ii, cxOf,
  List.length_cons, List.length_nil, List.length_map, List.map_cons, List.map_nil, upd_same, decide_eq_true_eq, decide_true, decide_false, if_true, if_false, Bool.false_eq_true, Bool.not_true, Bool.not_false, HO.lst.injEq, HO.ins.injEq, List.set_cons_zero, List.set_cons_succ, List.getElem?_cons_zero, List.getElem?_cons_succ, List.append_nil, List.nil_append, List.cons_append, Option.some.injEq, V.ref.injEq, V.int.injEq, V.bl.injEq, List.cons.injEq, exists_eq_left', exists_and_left, exists_eq_left, true_and, and_true, and_self, and_assoc, implies_true, reduceCtorEq, Nat.reduceAdd])

theorem eqD_at {X : Cx} (K : PySem.W.Frag) (hu : X.A.units + 64 < cLine) (hK : X.K = K := by rfl) : OpR X (compareOp .Eq) (rEqD K) := by
  subst hK
  exact op_eqD hu
theorem u65 {k : Nat} {A : Around} (r : Room k A) : A.units + 65 < cLine := by have := r.un; omega
theorem inD_at {X : Cx} (K : PySem.W.Frag) (hu : X.A.units + 65 < cLine) (hK : X.K = K := by rfl) : OpR X (compareOp .In) (rInD K) := by
  subst hK
  exact op_inD hu
theorem inDT_at {X : Cx} (K : PySem.W.Frag) (hu : X.A.units + 65 < cLine) (hK : X.K = K := by rfl) : OpR X (compareOp .In) (rInDT K) := by
  subst hK
  exact op_inDT hu
/-! ### sets as data -/
def dS (s : List Nat) : PyData := .tuple (s.map fun g => .int (g : Nat))
theorem dp_ints {K : PySem.W.Frag} {H : Hp} : ∀ s : List Nat, DpAll K H (iv s) (s.map fun g => PyData.int (g : Nat))
  | [] => .nil
  | g :: s => .cons (.int _) (dp_ints s)
theorem dp_set {K : PySem.W.Frag} {H : Hp} {q : Addr} {s : List Nat} (h : H q = some (.tup (iv s))) : Dp K H (.ref q) (dS s) := .tup (SqT.of h) (dp_ints s)
theorem dp_sets {K : PySem.W.Frag} {H : Hp} : ∀ {vs : List V} {ss : List (List Nat)}, Tups H vs ss → DpAll K H vs (ss.map dS)
  | [], [], _ => .nil
  | _ :: _, _ :: _, ⟨⟨q, e, h⟩, r⟩ => e ▸ .cons (dp_set h) (dp_sets r)
  | [], _ :: _, h => h.elim
  | _ :: _, [], h => h.elim
theorem lay_ints : ∀ s : List Nat, PyData.canLayAll0 (s.map fun g => PyData.int (g : Nat)) = true ∧ PyData.depthAll (s.map fun g => PyData.int (g : Nat)) = 0
  | [] => ⟨by simp [PyData.canLayAll0], by simp [PyData.depthAll]⟩
  | g :: s => by
    obtain ⟨a, b⟩ := lay_ints s
    refine ⟨?_, ?_⟩
    · simp only [List.map_cons, PyData.canLayAll0, PyData.canLay0, a, Bool.and_self]
    · simp only [List.map_cons, PyData.depthAll, PyData.depth, b, Nat.max_self]
theorem lay_set (s : List Nat) : (dS s).canLay0 = true ∧ (dS s).depth = 1 := by
  obtain ⟨a, b⟩ := lay_ints s
  unfold dS
  exact ⟨by simp only [PyData.canLay0, a], by simp only [PyData.depth, b]⟩
theorem lay_sets : ∀ ss : List (List Nat), PyData.canLayAll0 (ss.map dS) = true ∧ PyData.depthAll (ss.map dS) ≤ 1
  | [] => ⟨by simp [PyData.canLayAll0], by simp [PyData.depthAll]⟩
  | s :: ss => by
    obtain ⟨a, b⟩ := lay_sets ss
    obtain ⟨c, d⟩ := lay_set s
    refine ⟨?_, ?_⟩
    · simp only [List.map_cons, PyData.canLayAll0, a, c, Bool.and_self]
    · simp only [List.map_cons, PyData.depthAll, d]
      omega
theorem sh_set (s : List Nat) : SeqAt.shaped (dS s) = true := by
  unfold SeqAt.shaped
  rw [(lay_set s).1, (lay_set s).2]
  decide
theorem sh_list (ss : List (List Nat)) : SeqAt.shaped (.list (ss.map dS)) = true := by
  have := (lay_sets ss).2
  unfold SeqAt.shaped
  rw [show (PyData.list (ss.map dS)).canLay0 = PyData.canLayAll0 (ss.map dS) by simp only [PyData.canLay0], (lay_sets ss).1]
  simp only [PyData.depth, Bool.true_and]
  exact decide_eq_true (by omega)
theorem sh_tup (ss : List (List Nat)) : SeqAt.shaped (.tuple (ss.map dS)) = true := by
  have := (lay_sets ss).2
  unfold SeqAt.shaped
  rw [show (PyData.tuple (ss.map dS)).canLay0 = PyData.canLayAll0 (ss.map dS) by simp only [PyData.canLay0], (lay_sets ss).1]
  simp only [PyData.depth, Bool.true_and]
  exact decide_eq_true (by omega)
theorem eqv_ints : ∀ s t : List Nat, PyData.eqvAll (s.map fun g => PyData.int (g : Nat)) (t.map fun g => PyData.int (g : Nat)) = decide (s = t)
  | [], [] => by simp [PyData.eqvAll]
  | [], _ :: _ => by simp [PyData.eqvAll]
  | _ :: _, [] => by simp [PyData.eqvAll]
  | x :: s, y :: t => by
    simp only [List.map_cons, PyData.eqvAll, PyData.eqv, eqv_ints s t]
    by_cases h : x = y
    · subst h
      by_cases h2 : s = t <;> simp [h2]
    · have : ¬ ((x : Int) = (y : Int)) := by omega
      simp [h, this]
theorem eqv_set (s t : List Nat) : PyData.eqv (dS s) (dS t) = decide (s = t) := by
  unfold dS
  simp only [PyData.eqv]
  exact eqv_ints s t
theorem any_sets (ss : List (List Nat)) (s : List Nat) : ((ss.map dS).any fun z => PyData.eqv z (dS s)) = ss.contains s := by
  rw [List.any_map]
  induction ss with
  | nil => rfl
  | cons t ss ih =>
    rw [List.any_cons, List.contains_cons, ih]
    congr 1
    show PyData.eqv (dS t) (dS s) = (s == t)
    rw [eqv_set, Bool.eq_iff_iff, decide_eq_true_eq, beq_iff_eq]
    exact eq_comm
theorem famL_mem {n : Nat} {S : List Bool} {s : List Nat} : s ∈ famL n S ↔ s ∈ allS n ∧ In S (mk s) = true := List.mem_filter
theorem subs_all : ((List.range 7).all fun n => (allS n).all fun s => (allS n).all fun t => !subL s t || decide (Sub (mk s) (mk t))) = true := by decide +kernel
theorem sub_mk {n : Nat} {s t : List Nat} (h : n ≤ 6) (hs : s ∈ allS n) (ht : t ∈ allS n) (z : subL s t = true) : Sub (mk s) (mk t) := by
  have y := List.all_eq_true.mp (List.all_eq_true.mp (List.all_eq_true.mp subs_all n (List.mem_range.mpr (by omega))) s hs) t ht
  rw [z] at y
  simpa using y
theorem nil_in {n : Nat} (h : n ≤ 6) : ([] : List Nat) ∈ allS n := by
  have z := (bits_in (n := n) (m := 0) h (Nat.pow_pos (by decide))).2
  rwa [show bits 0 = [] by decide] at z
section
variable {P : Program} {w : World} {K : PySem.W.Frag} {mg : Str → Option Value} {base : Heap} {a : Ad}
/-! ### closed_sets -/
def spClosed : Sp := fun vs H Q _ => ∃ (p : Addr) (n : Nat) (S : List Bool) (xs : List V) (ss : List (List Nat)), vs = [.int n, .ref p] ∧ H p = some (.lst xs) ∧ Seqs H xs ss ∧ Fam n S ∧ ss.length ≤ 64 ∧ (∀ s, s ∈ ss ↔ s ∈ famL n S) ∧
  ∀ q ys H', H q = none → Same H H' → H' q = some (.tup ys) → Tups H' ys (famL n S) → Q (.ref q) H'
theorem sc_closed_sets : FnScope ["size", "sets", "given", "kept", "things", "other"] ["size", "sets"] (defScope s_closed_sets) := ⟨rfl, rfl, rfl, by decide +kernel, rfl, by decide +kernel, by decide +kernel⟩
theorem ok_closed_sets (T : Txt K mg a) : FnOk P w K mg base CX0 5 a.a_closed_sets a.d_closed_sets ["size", "sets"] spClosed := by
  refine T.fn_closed_sets.ok sc_closed_sets (fun vs H Q E h => ?_) (fun cdv A outer s H vs Q E hr h => ?_)
  · obtain ⟨p, n, S, xs, ss, rfl, _⟩ := h
    rfl
  · obtain ⟨p, n, S, xs, ss, rfl, hp, sv, F, l64, hs, k⟩ := h
    refine ⟨_, (pss_cons (ps_set (i := 2) sc_closed_sets.nd rfl (Or.inl rfl) (pe_call (ok_clean_sets T) (hr.mono (by decide)) (by rfl) T.mg_clean_sets T.fn_clean_sets.kp T.b_clean_sets .nil passN (pa_cons (pv 0) (pa_cons (pv 1) pa_nil))))
      (pss_cons (ps_set (i := 3) sc_closed_sets.nd rfl (Or.inl rfl) (pe_lst pa_nil))
      (pss_cons (ps_for PassesOwn.never rfl (pi_list (pe_call (ok_all_sets T) (hr.mono (by decide)) (by rfl) T.mg_all_sets T.fn_all_sets.kp T.b_all_sets .nil pass0 (pa_cons (pv 0) pa_nil))) (pg_name (i := 4) sc_closed_sets.nd rfl (Or.inr rfl))
        (pss_one (ps_if (pt_cmpR (inD_at K (u65 hr)) (pv 4) (pv 2) (by with_unfolding_all rfl)) (pss_one (ps_expr (pe_bm PySem.F.plainAttrs_list PySem.F.slot_list_append PySem.F.type_list_append mt_append (pv 3) (pa_cons (pv 4) pa_nil)))) (pss_one (ps_if (PW.pt (pw_or (pt_cmpR (eqD_at K hr.units) (pv 4) (pe_tup pa_nil) (nomark _)) (pw_or1 (pt_val (pe_callB (cr_any rfl) (by rfl) T.no_any (by decide +kernel) (pa_cons (pe_lc (own := [("other", 5)]) (by rfl) sc_closed_sets.nd (pi_list (pv 2)) (blkOk_by (own := [("other", 5)]) (N := ["size", "sets", "given", "kept", "things", "other"]) (sc := defScope s_closed_sets) (by decide +kernel)) (fun _ _ _ _ _ => pg_name (i := 5) sc_closed_sets.nd rfl (Or.inl rfl)) (fun _ _ _ _ _ => pts_nil) (fun _ _ _ _ _ => (pe_call (ok_is_part T) (hr.mono (by decide)) (by rfl) T.mg_is_part T.fn_is_part.kp T.b_is_part .nil pass0 (pa_cons (pv 4) (pa_cons (pv 5) pa_nil))))) pa_nil)))))) (pss_one ps_never) pss_nil)))))
      (pss_one (ps_ret (pe_callTy call_tuple_of (by rfl) T.no_tuple (by decide +kernel) (pa_cons (pv 3) pa_nil))))))), ?_⟩
    show (_ : TS) _ [some (V.int n), some (V.ref p), none, none, none, none] H
    walk_at "rd"
    have al : ∀ s ∈ ss, s ∈ allS n := fun s h => (famL_mem.mp ((hs s).mp h)).1
    refine ⟨p, n, xs, ss, rfl, hp, sv, F.n1, F.n6, l64, al, fun gv gl H1 g0 e1 hg tg => ⟨by decide, fun c hc => ⟨n, rfl, F.n6, fun q ys H2 q0 e2 hq tq => ⟨q, rfl, ⟨_, SqL.of hq⟩, ?_⟩⟩⟩⟩
    have ec := same_upd (o := .lst []) hc
    have hc2 := e2 _ _ (upd_same (H := H1) (a := c) (o := .lst []))
    have c0 : H c = none := e1.free hc
    have e02 : Same H H2 := (e1.trans ec).trans e2
    have hg2 := e2 _ _ (ec _ _ hg)
    have tg2 := (tg.same ec).same e2
    have gc : gv ≠ c := fun z => by rw [z, hc] at hg; cases hg
    have qc : q ≠ c := fun z => by rw [z, upd_same] at q0; cases q0
    have ql := tq.len
    refine Rd.loop_listC (xs := ys) (fun σ H' => ∃ acc o4 o5, σ = [some (V.int n), some (V.ref p), some (V.ref gv), some (V.ref c), o4, o5] ∧ Same H H' ∧ H' c = some (.lst acc) ∧ Tups H' acc (famL n S))
      (fun i σ H' => ∃ acc o4 o5, σ = [some (V.int n), some (V.ref p), some (V.ref gv), some (V.ref c), o4, o5] ∧ (∀ b o, b ≠ c → H2 b = some o → H' b = some o) ∧ H' c = some (.lst acc) ∧ acc.length ≤ i ∧ Tups H' acc (((allS n).take i).filter fun s => In S (mk s)))
      ⟨[], none, none, rfl, fun _ _ _ h => h, hc2, Nat.le_refl _, trivial⟩ (fun i σ H' _ ⟨_, _, _, _, e, _⟩ => SqL.of (e _ _ qc hq)) ?_ ?_ ?_
    · rintro bk hbk i x σ H3 hx ⟨acc, o4, o5, rfl, e3, hc3, al3, ta⟩
      obtain ⟨s', hs', t, rfl, ht⟩ := tq.at hx
      have sm := List.mem_of_getElem? hs'
      have tc : t ≠ c := fun z => by rw [z, hc2] at ht; cases ht
      have ht3 := e3 _ _ tc ht
      have hg3 := e3 _ _ gc hg2
      have mv : ∀ {vs : List V} {us : List (List Nat)}, Tups H2 vs us → Tups H3 vs us := fun {vs us} h => by
        induction vs generalizing us with
        | nil => cases us <;> exact h
        | cons v vs ih =>
          cases us with
          | nil => exact h
          | cons u us => exact let ⟨⟨q, a, b⟩, r⟩ := h; ⟨⟨q, a, e3 _ _ (fun z => by rw [z, hc2] at b; cases b) b⟩, ih r⟩
      have tg3 := mv tg2
      have i64 : i < 64 := by
        have := (List.getElem?_eq_some_iff.mp hs').1
        rw [allS_len F.n6] at this
        exact Nat.lt_of_lt_of_le this (Nat.le_trans (Nat.pow_le_pow_right (by decide) F.n6) (by decide))
      have nx : ((allS n).take (i + 1)).filter (fun s => In S (mk s)) = ((allS n).take i).filter (fun s => In S (mk s)) ++ (if In S (mk s') = true then [s'] else []) := by
        rw [List.take_add_one, hs', List.filter_append]
        cases z : In S (mk s') with
        | true => rw [show (some s').toList = [s'] from rfl, List.filter_cons_of_pos (p := fun s => In S (mk s)) z]; rfl
        | false => rw [show (some s').toList = [s'] from rfl, List.filter_cons_of_neg (p := fun s => In S (mk s)) (by rw [z]; decide)]; rfl
      walk_at "rd"
      refine ⟨_, dp_set ht3, _, .lst (SqL.of hg3) (dp_sets tg3), sh_set _, sh_list _, ?_⟩
      rw [any_sets]
      cases hin : ss.contains s' with
      | true =>
        have z : In S (mk s') = true := (famL_mem.mp ((hs s').mp (List.contains_iff_mem.mp hin))).2
        rw [if_pos rfl]
        simp only [tBM, rAppend]
        walk_at "rd"
        refine ⟨.inl ⟨rfl, _, SqL.of hc3⟩, acc, hc3, small (by omega), fun b o nb h => (upd_ne nb).trans (e3 _ _ nb h), by rw [List.length_append]; exact Nat.succ_le_succ al3, ?_⟩
        rw [nx, if_pos z]
        exact Tups.upd hc3 (Tups.app ta ⟨⟨t, rfl, ht3⟩, trivial⟩)
      | false =>
        have z : ¬ In S (mk s') = true := fun z => by
          have := List.contains_iff_mem.mpr ((hs s').mpr (famL_mem.mpr ⟨sm, z⟩))
          rw [hin] at this
          cases this
        have ns : s' ≠ [] := fun e => z (by rw [e]; exact F.zero)
        rw [if_neg (by decide)]
        refine ⟨by decide, fun u hu => ?_⟩
        have eu := same_upd (o := .tup []) hu
        refine ⟨_, dp_set (eu _ _ ht3), _, dp_set (s := []) upd_same, sh_set _, sh_set _, ?_⟩
        rw [eqv_set, decide_eq_false ns]
        rw [if_neg (by decide)]
        have glen := tg3.len
        have e3u : ∀ b o, b ≠ c → H2 b = some o → (upd H3 u (.tup [])) b = some o := fun b o nb h => eu _ _ (e3 _ _ nb h)
        have hc4 := eu _ _ hc3
        have ta4 := ta.same eu
        have tg4 := tg3.same eu
        have hg4 := eu _ _ hg3
        have ht4 := eu _ _ ht3
        generalize upd H3 u (.tup []) = H4 at e3u hc4 ta4 tg4 hg4 ht4 ⊢
        refine ⟨⟨_, SqL.of hg4⟩, Rd.lcl_list (xs := gl) (fun D j H' => H4 D = none ∧ Same H4 H' ∧ H' D = some (.lst (((ss.take j).map fun t => subL s' t).map V.bl))) (fun D hD => ⟨hD, same_upd hD, upd_same⟩) (fun D j H' _ h => SqL.of (h.2.1 _ _ hg4))
          (fun D j y H5 hy ⟨n5, e5, a5⟩ => ?_) (fun D H5 _ ⟨n5, e5, a5⟩ => ?_)⟩
        · obtain ⟨t', ht', r', rfl, hr'⟩ := tg4.at hy
          have jl := (List.getElem?_eq_some_iff.mp ht').1
          walk_at "rd"
          have al' := allS_at sm F.n6
          refine ⟨t, r', false, false, s', t', rfl, e5 _ _ ht4, e5 _ _ hr', Nat.le_trans al'.2.2.2.1 F.n6, fun H6 e6 => ⟨_, e6 _ _ a5, small (by rw [List.length_map, List.length_map, List.length_take]; omega), n5, fun b o hb => (upd_ne (ne_of_none hb n5)).trans (e6 _ _ (e5 _ _ hb)), ?_⟩⟩
          rw [List.take_add_one, ht', List.map_append, List.map_append]
          rfl
        · rw [glen, List.take_length] at a5
          refine ⟨D, rfl, _, SqL.of a5, ?_⟩
          rw [if_neg ?_]
          · refine ⟨fun b o nb h => e5 _ _ (e3u b o nb h), acc, e5 _ _ hc4, by omega, ?_⟩
            rw [nx, if_neg z, List.append_nil]
            exact ta4.same e5
          · intro y
            obtain ⟨b, hb, rfl⟩ := List.any_eq_true.mp y
            obtain ⟨t', ht', e⟩ := List.mem_map.mp hb
            have z2 := famL_mem.mp ((hs t').mp ht')
            exact z (F.down _ _ (sub_mk F.n6 sm z2.1 e) z2.2)
    · rintro σ H3 ⟨acc, o4, o5, rfl, e3, hc3, al3, ta⟩
      refine ⟨acc, o4, o5, rfl, fun b o h => e3 _ _ (ne_of_none h c0) (e02 _ _ h), hc3, ?_⟩
      rw [ql, List.take_length] at ta
      exact ta
    · rintro σ H3 ⟨acc, o4, o5, rfl, e3, hc3, ta⟩
      walk_at "rd"
      exact ⟨_, .inl ⟨SqL.of hc3, fun r hr => k r acc _ (e3.free hr) (e3.trans (same_upd hr)) upd_same (ta.same (same_upd hr))⟩⟩
/-! ### Family.__init__ -/
def ff (t : Addr) (n : Nat) : List (Str × V) := putF "size" (.int (n : Nat)) (putF "sets" (.ref t) [])
def spFam (C : Addr) : Sp := fun vs H Q _ => ∃ (x dx p : Addr) (n : Nat) (S : List Bool) (xs : List V) (ss : List (List Nat)), vs = [.ref x, .int n, .ref p] ∧ H x = some (.ins C dx []) ∧ H p = some (.lst xs) ∧ Seqs H xs ss ∧ Fam n S ∧ ss.length ≤ 64 ∧ (∀ s, s ∈ ss ↔ s ∈ famL n S) ∧
  ∀ t ys H1 H', Same H H1 → H1 t = some (.tup ys) → Tups H1 ys (famL n S) → H' = upd H1 x (.ins C dx (ff t n)) → Q .non H'
theorem sc_Family_init : FnScope ["self", "size", "sets"] ["self", "size", "sets"] (defScope s_Family_init) := ⟨rfl, rfl, rfl, by decide +kernel, rfl, by decide +kernel, by decide +kernel⟩
theorem ok_Family_init (T : Txt K mg a) : FnOk P w K mg base CX0 6 a.a_Family_init a.d_Family_init ["self", "size", "sets"] (spFam a.C_Family) := by
  refine T.fn_Family_init.ok sc_Family_init (fun vs H Q E h => ?_) (fun cdv A outer s H vs Q E hr h => ?_)
  · obtain ⟨x, dx, p, n, S, xs, ss, rfl, _⟩ := h
    rfl
  · obtain ⟨x, dx, p, n, S, xs, ss, rfl, hx, hp, sv, F, l64, hs, k⟩ := h
    refine ⟨_, (pss_cons (ps_fld (pv 0) (pe_call (ok_closed_sets T) (hr.mono (by decide)) (by rfl) T.mg_closed_sets T.fn_closed_sets.kp T.b_closed_sets .nil pass0 (pa_cons (pv 1) (pa_cons (pv 2) pa_nil))) rfl)
      (pss_one (ps_fld (pv 0) (pv 1) rfl))), ?_⟩
    show (_ : TS) _ [some (V.ref x), some (V.int n), some (V.ref p)] H
    walk_at "rd"
    refine ⟨p, n, S, xs, ss, rfl, hp, sv, F, l64, hs, fun t ys H1 t0 e1 ht tt => ⟨a.C_Family, dx, [], e1 _ _ hx, ?_⟩⟩
    refine ⟨T.cl_Family, T.na_Family_sets, by decide, T.cl_Family, T.na_Family_size, by show 1 < 1000; decide, ?_⟩
    rw [upd_upd]
    exact k t ys H1 _ e1 ht tt rfl
end

end K21
namespace K21
open PySem PySem.Spec PyProof.Rows L2 Own OwnSeq OwnSet OwnComb OwnSort OwnHot OwnExN OwnProj
local macro_rules | `(tactic| walk_at "rd") => `(tactic| simp only [tSeq, tAsg, tOp, tUn, tVar, gName, gSub, rIxL, rIxT, rSetL, tC, rI0, rI, rU, rEq, rNe, tCons, tNil, tCB, tLst, tTup, tIfS, tAnd, tOr, tNot, tAndV, tOrV, tNotV, tTest, tB, tIf, tRet, tDrop, tNext, tBreak, tCont, tCall, tCallS, L2.WE, tMakeS, rIsS, rIsB, tChain, gSeq, gRest, gCons, gNil, tFor_seq, tFor_enumS, tLc_seq, tLc_enumS, rAny, rAll, L2.tMeth, StX.tStar, rIn, tLstRg, tRg1, tRg2, rSetI, rSortedSet, rInDT, rInD, rNotInD, rEqD, rNeD, iComb, tFld, tMake, tMkO, sFld, tOst, tNever, tBits, clv, isB,
  Rd.tFor_rng1, Rd.tFor_rng2, Rd.tFor_list, Rd.tFor_tup, Rd.tLc_list, Rd.tLc_tup, Rd.tLc_rng1, Rd.LcTurn, tYes, wipe, Rd.rLenL, Rd.rLenT, Rd.rIntI, Rd.rIxH, rIxHT,  HO.tup.injEq, Rd.at0, Rd.at1, Rd.at2, Rd.at3, Rd.ixN40, Rd.ixN41, Rd.ixN42, Rd.ixN43, Rd.scal_ii, cxOf,
  List.length_cons, List.length_nil, List.length_map, List.map_cons, List.map_nil, upd_same, decide_eq_true_eq, decide_true, decide_false, if_true, if_false, Bool.false_eq_true, Bool.not_true, Bool.not_false, HO.lst.injEq, HO.ins.injEq, List.set_cons_zero, List.set_cons_succ, List.getElem?_cons_zero, List.getElem?_cons_succ, List.append_nil, List.nil_append, List.cons_append, Option.some.injEq, V.ref.injEq, V.int.injEq, V.bl.injEq, List.cons.injEq, exists_eq_left', exists_and_left, exists_eq_left, true_and, and_true, and_self, and_assoc, implies_true, reduceCtorEq, Nat.reduceAdd])

theorem ff_sets (t : Addr) (n : Nat) : (ff t n).lookup ("sets" : Str) = some (.ref t) := by
  unfold ff
  rw [lookup_putF, if_neg (by decide +kernel), lookup_putF, if_pos rfl]
theorem ff_size (t : Addr) (n : Nat) : (ff t n).lookup ("size" : Str) = some (.int (n : Nat)) := by
  unfold ff
  rw [lookup_putF, if_pos rfl]
theorem ff_no (t : Addr) (n : Nat) {m : Str} (h1 : ¬ m = "size") (h2 : ¬ m = "sets") : (ff t n).lookup m = none := by
  unfold ff
  rw [lookup_putF, if_neg h1, lookup_putF, if_neg h2]
  rfl
/-- a family as an object -/
structure FamV (C : Addr) (H : Hp) (f : Addr) (n : Nat) (S : List Bool) : Prop where
  fam : Fam n S
  ob : ∃ dx t ys, H f = some (.ins C dx (ff t n)) ∧ H t = some (.tup ys) ∧ Tups H ys (famL n S)
theorem FamV.same {C : Addr} {H H' : Hp} {f : Addr} {n : Nat} {S : List Bool} (F : FamV C H f n S) (e : Same H H') : FamV C H' f n S :=
  let ⟨dx, t, ys, a, b, c⟩ := F.ob
  ⟨F.fam, dx, t, ys, e _ _ a, e _ _ b, c.same e⟩

end K21
namespace K21
open PySem PySem.Spec PyProof.Rows L2 Own OwnSeq OwnSet OwnComb OwnSort OwnHot OwnExN OwnProj
local macro_rules | `(tactic| walk_at "rd") => `(tactic| simp only [tSeq, tAsg, tOp, tUn, tVar, gName, gSub, rIxL, rIxT, rSetL, tC, rI0, rI, rU, rEq, rNe, tCons, tNil, tCB, tLst, tTup, tIfS, tAnd, tOr, tNot, tAndV, tOrV, tNotV, tTest, tB, tIf, tRet, tDrop, tNext, tBreak, tCont, tCall, tCallS, L2.WE, tMakeS, rIsS, rIsB, tChain, gSeq, gRest, gCons, gNil, tFor_seq, tFor_enumS, tLc_seq, tLc_enumS, rAny, rAll, L2.tMeth, StX.tStar, rIn, tLstRg, tRg1, tRg2, rSetI, rSortedSet, rInDT, rInD, rNotInD, rEqD, rNeD, iComb, tFld, tMake, tMkO, sFld, tOst, tNever, tBits, clv, isB,
  Rd.tFor_rng1, Rd.tFor_rng2, Rd.tFor_list, Rd.tFor_tup, Rd.tLc_list, Rd.tLc_tup, Rd.tLc_rng1, Rd.LcTurn, tYes, wipe, Rd.rLenL, Rd.rLenT, Rd.rIntI, Rd.rIxH, rIxHT,  HO.tup.injEq, Rd.at0, Rd.at1, Rd.at2, Rd.at3, Rd.ixN40, Rd.ixN41, Rd.ixN42, Rd.ixN43, Rd.scal_ii, cxOf,
  List.length_cons, List.length_nil, List.length_map, List.map_cons, List.map_nil, upd_same, decide_eq_true_eq, decide_true, decide_false, if_true, if_false, Bool.false_eq_true, Bool.not_true, Bool.not_false, HO.lst.injEq, HO.ins.injEq, List.set_cons_zero, List.set_cons_succ, List.getElem?_cons_zero, List.getElem?_cons_succ, List.append_nil, List.nil_append, List.cons_append, Option.some.injEq, V.ref.injEq, V.int.injEq, V.bl.injEq, List.cons.injEq, exists_eq_left', exists_and_left, exists_eq_left, true_and, and_true, and_self, and_assoc, implies_true, reduceCtorEq, Nat.reduceAdd])

theorem at_int {ns : List Int} {z : Int} (h0 : 0 ≤ z) (h1 : z < (ns.length : Int)) : ∃ y, atI (ns.map V.int) z = some (V.int y) := by
  obtain ⟨j, rfl⟩ : ∃ j : Nat, z = (j : Int) := ⟨z.toNat, by omega⟩
  have hj : j < ns.length := by omega
  exact ⟨ns[j], atI_nat (by rw [List.getElem?_map, List.getElem?_eq_getElem hj]; rfl)⟩
theorem abs_nn (x : Int) : 0 ≤ (if x < 0 then -x else x) := by split <;> omega
theorem abs_eq (x : Int) : (if x < 0 then -x else x) = (x.natAbs : Int) := by split <;> omega
theorem cm_mod {x y m : Int} (h : 0 < m) (h2 : m ≤ 2 ^ 64) : CMul (x % m) y := by
  have a := Int.emod_nonneg x (show m ≠ 0 by omega)
  have b := Int.emod_lt_of_pos x h
  exact .inl ⟨by omega, by omega⟩
/-- what stood stands, but for b -/
def But (b : Addr) (H H' : Hp) : Prop := ∀ p o, p ≠ b → H p = some o → H' p = some o
theorem But.refl (b : Addr) (H : Hp) : But b H H := fun _ _ _ h => h
theorem But.trans {b : Addr} {H H1 H2 : Hp} (x : But b H H1) (y : But b H1 H2) : But b H H2 := fun p o n h => y p o n (x p o n h)
theorem But.free {b : Addr} {H H1 : Hp} (x : But b H H1) {p : Addr} (n : p ≠ b) (h : H1 p = none) : H p = none := by
  cases e : H p with
  | none => rfl
  | some o =>
    rw [x p o n e] at h
    cases h
theorem Same.but {b : Addr} {H H1 : Hp} (x : Same H H1) : But b H H1 := fun p o _ h => x p o h
theorem SqL.but {K : PySem.W.Frag} {H H' : Hp} {b c : Addr} {xs : List V} (h : SqL K H c xs) (n : c ≠ b) (e : But b H H') : SqL K H' c xs := by
  rcases h with (h | ⟨o, h⟩) | h
  · exact .inl (.inl (e _ _ n h))
  · exact .inl (.inr ⟨o, e _ _ n h⟩)
  · exact .inr h
/-- the law's box: its cells, what is drawn from -/
structure BoxAt (K : PySem.W.Frag) (H : Hp) (b c : Addr) (ns : List Int) : Prop where
  ne : c ≠ b
  len : ns.length ≤ 63
  ob : ∃ n1 n2 n3 : Int, H b = some (.lst [.ref c, .int n1, .int n2, .int n3]) ∧ 0 ≤ n2 ∧ 0 ≤ n3
  cells : SqL K H c (ns.map V.int)
theorem BoxAt.same {K : PySem.W.Frag} {H H' : Hp} {b c : Addr} {ns : List Int} (B : BoxAt K H b c ns) (e : Same H H') : BoxAt K H' b c ns :=
  let ⟨n1, n2, n3, h, p, q⟩ := B.ob
  ⟨B.ne, B.len, ⟨n1, n2, n3, e _ _ h, p, q⟩, e.seq B.cells⟩
theorem BoxAt.ne_new {K : PySem.W.Frag} {H : Hp} {b c : Addr} {ns : List Int} (B : BoxAt K H b c ns) {p : Addr} (h : H p = none) : p ≠ b := fun e => by
  obtain ⟨n1, n2, n3, hb, _⟩ := B.ob
  rw [e, hb] at h
  cases h
section
variable {P : Program} {w : World} {K : PySem.W.Frag} {mg : Str → Option Value} {base : Heap} {a : Ad}
/-! ### _law_box -/
def spBox (K : PySem.W.Frag) : Sp := fun vs H Q _ => ∃ (s : Addr) (ns : List Int), vs = [.ref s] ∧ SqL K H s (ns.map V.int) ∧ ns.length ≤ 63 ∧ ∀ b c H', BoxAt K H' b c ns → Same H H' → H b = none → Q (.ref b) H'
theorem sc_law_box : FnScope ["script", "cell"] ["script"] (defScope s_law_box) := ⟨rfl, rfl, rfl, by decide +kernel, rfl, by decide +kernel, by decide +kernel⟩
theorem ok_law_box (T : Txt K mg a) : FnOk P w K mg base CX0 1 a.a_law_box a.d_law_box ["script"] (spBox K) := by
  refine T.fn_law_box.ok sc_law_box (fun vs H Q E h => ?_) (fun cdv A outer s H vs Q E hr h => ?_)
  · obtain ⟨p, ns, rfl, _⟩ := h
    rfl
  · obtain ⟨p, ns, rfl, hs, hl, k⟩ := h
    refine ⟨_, (pss_one (ps_ret (pe_lst (pa_cons (pe_lc (own := [("cell", 1)]) (by rfl) sc_law_box.nd (pi_list (pv 0)) (blkOk_by (own := [("cell", 1)]) (N := ["script", "cell"]) (sc := defScope s_law_box) (by decide +kernel)) (fun _ _ _ _ _ => pg_name (i := 1) sc_law_box.nd rfl (Or.inl rfl)) (fun _ _ _ _ _ => pts_nil) (fun _ _ _ _ _ => (pe_callTy Rd.call_intI (by rfl) T.no_int (by decide +kernel) (pa_cons (pv 1) pa_nil)))) (pa_cons pe_int (pa_cons pe_int (pa_cons pe_int pa_nil))))))), ?_⟩
    show (_ : TS) _ [some (V.ref p), none] H
    walk_at "rd"
    refine ⟨⟨_, hs⟩, Rd.lcl_list (xs := ns.map V.int) (fun D i H1 => (Same H H1 ∧ H D = none) ∧ H1 D = some (.lst ((ns.take i).map V.int))) (fun D hD => ⟨⟨same_upd hD, hD⟩, upd_same⟩) (fun D i H1 _ p => p.1.1.seq hs) ?_ ?_⟩
    · rintro D i x H1 hx ⟨⟨s1, hD⟩, e1⟩
      obtain ⟨z, hz, rfl⟩ : ∃ z, ns[i]? = some z ∧ x = V.int z := by
        rw [List.getElem?_map] at hx
        cases e : ns[i]? with
        | none => rw [e] at hx; cases hx
        | some z => rw [e] at hx; exact ⟨z, rfl, (Option.some.inj hx).symm⟩
      walk_at "rd"
      refine ⟨_, e1, ?_, fun b o e => ?_, ?_⟩
      · rw [List.length_map, List.length_take]
        exact Nat.lt_of_le_of_lt (Nat.min_le_left _ _) (by have := (List.getElem?_eq_some_iff.mp hz).1; exact small1000 (by omega))
      · rw [upd_ne (ne_of_none e hD)]
        exact s1 _ _ e
      · rw [List.take_add_one, hz, List.map_append]
        exact ⟨hD, rfl⟩
    · rw [List.length_map, List.take_length]
      rintro D H1 _ ⟨⟨s1, hD⟩, e1⟩
      refine ⟨by decide, fun b hb => ?_⟩
      have nbD : D ≠ b := fun e => by rw [← e, e1] at hb; cases hb
      refine k b D _ ⟨nbD, hl, ⟨0, 0, 0, upd_same, Int.le_refl _, Int.le_refl _⟩, SqL.of ((upd_ne nbD).trans e1)⟩ (s1.trans (same_upd hb)) (s1.free hb)
/-! ### _law_draw -/
def spDraw (K : PySem.W.Frag) : Sp := fun vs H Q _ => ∃ (b c : Addr) (ns : List Int) (m : Int), vs = [.ref b, .int m] ∧ BoxAt K H b c ns ∧ 0 < m ∧ m < 1000000000 ∧
  ∀ (d : Int) (H' : Hp), 0 ≤ d → d < m → BoxAt K H' b c ns → (∀ p, p ≠ b → H' p = H p) → Q (.int d) H'
theorem sc_law_draw : FnScope ["box", "limit", "cells", "k", "digit", "cell", "mixed"] ["box", "limit"] (defScope s_law_draw) := ⟨rfl, rfl, rfl, by decide +kernel, rfl, by decide +kernel, by decide +kernel⟩
theorem ok_law_draw (T : Txt K mg a) : FnOk P w K mg base CX0 1 a.a_law_draw a.d_law_draw ["box", "limit"] (spDraw K) := by
  refine T.fn_law_draw.ok sc_law_draw (fun vs H Q E h => ?_) (fun cdv A outer s H vs Q E hr h => ?_)
  · obtain ⟨b, c, ns, m, rfl, _⟩ := h
    rfl
  · obtain ⟨b, c, ns, m, rfl, ⟨hbc, hl, ⟨n1, n2, n3, hb, p2, p3⟩, hc⟩, hm, hm2, k⟩ := h
    refine ⟨_, (pss_cons (ps_set (i := 2) sc_law_draw.nd rfl (Or.inl rfl) (pe_ix Rd.ixH (pv 0) pe_int (fun _ _ => rfl)))
      (pss_cons (ps_asg (pe_op op_add (pe_ix Rd.ixH (pv 0) pe_int (fun _ _ => rfl)) pe_int) (pg_sub (pv 0) pe_int set_list))
      (pss_cons (ps_for PassesOwn.never rfl (pi_range1 (by rfl) T.no_range (pa_cons (pe_callB Rd.call_lenL (by rfl) T.no_len PySem.boot_len (pa_cons (pv 2) pa_nil)) pa_nil)) (pg_name (i := 3) sc_law_draw.nd rfl (Or.inl rfl))
        (pss_one (ps_if (PW.pt (pw_and (pt_cmpR op_eq (pe_ix Rd.ixH (pv 0) pe_int (fun _ _ => rfl)) pe_int (nomark _)) (pw_and1 (pt_cmpR op_lt (pe_ix Rd.ixH (pv 0) pe_int (fun _ _ => rfl)) (pe_callB Rd.call_lenL (by rfl) T.no_len PySem.boot_len (pa_cons (pv 2) pa_nil)) (nomark _))))) (pss_cons (ps_if (pt_cmpR op_ge (pe_callB call_abs (by rfl) T.no_abs (by decide +kernel) (pa_cons (pe_ix ix_list (pv 2) (pe_ix Rd.ixH (pv 0) pe_int (fun _ _ => rfl)) (fun _ _ => rfl)) pa_nil)) (pe_op op_pow pe_int pe_int) (nomark _)) (pss_one (ps_asg (pe_callB call_abs (by rfl) T.no_abs (by decide +kernel) (pa_cons (pe_ix ix_list (pv 2) (pe_ix Rd.ixH (pv 0) pe_int (fun _ _ => rfl)) (fun _ _ => rfl)) pa_nil)) (pg_sub (pv 0) pe_int set_list))) pss_nil)
          (pss_one (ps_asg (pe_op op_add (pe_ix Rd.ixH (pv 0) pe_int (fun _ _ => rfl)) pe_int) (pg_sub (pv 0) pe_int set_list)))) (pss_one ps_break))))
      (pss_cons (ps_if (pt_cmpR op_gt (pe_ix Rd.ixH (pv 0) pe_int (fun _ _ => rfl)) pe_int (nomark _)) (pss_cons (ps_set (i := 4) sc_law_draw.nd rfl (Or.inl rfl) (pe_op op_mod (pe_callTy Rd.call_intI (by rfl) T.no_int (by decide +kernel) (pa_cons (pe_ix Rd.ixH (pv 0) pe_int (fun _ _ => rfl)) pa_nil)) (pv 1)))
        (pss_cons (ps_asg (pe_op op_fdiv (pe_ix Rd.ixH (pv 0) pe_int (fun _ _ => rfl)) (pv 1)) (pg_sub (pv 0) pe_int set_list))
        (pss_one (ps_ret (pv 4))))) pss_nil)
      (pss_cons (ps_set (i := 5) sc_law_draw.nd rfl (Or.inl rfl) pe_int)
      (pss_cons (ps_if (pt_cmpR op_gt (pe_callB Rd.call_lenL (by rfl) T.no_len PySem.boot_len (pa_cons (pv 2) pa_nil)) pe_int (nomark _)) (pss_one (ps_set (i := 5) sc_law_draw.nd rfl (Or.inl rfl) (pe_callB call_abs (by rfl) T.no_abs (by decide +kernel) (pa_cons (pe_ix ix_list (pv 2) (pe_op op_mod (pe_callTy Rd.call_intI (by rfl) T.no_int (by decide +kernel) (pa_cons (pe_ix Rd.ixH (pv 0) pe_int (fun _ _ => rfl)) pa_nil)) (pe_callB Rd.call_lenL (by rfl) T.no_len PySem.boot_len (pa_cons (pv 2) pa_nil))) (fun _ _ => rfl)) pa_nil)))) pss_nil)
      (pss_cons (ps_set (i := 6) sc_law_draw.nd rfl (Or.inl rfl) (pe_op op_mod (pe_callTy Rd.call_intI (by rfl) T.no_int (by decide +kernel) (pa_cons (pe_op op_add (pe_op op_add (pe_op op_mul (pv 5) pe_int) (pe_op op_mul (pe_ix Rd.ixH (pv 0) pe_int (fun _ _ => rfl)) pe_int)) pe_int) pa_nil)) pe_int))
      (pss_cons (ps_set (i := 6) sc_law_draw.nd rfl (Or.inl rfl) (pe_op op_mod (pe_callTy Rd.call_intI (by rfl) T.no_int (by decide +kernel) (pa_cons (pe_op op_add (pe_op op_add (pe_op op_mul (pv 6) (pv 6)) (pe_op op_mul (pe_ix Rd.ixH (pv 0) pe_int (fun _ _ => rfl)) pe_int)) (pv 5)) pa_nil)) pe_int))
      (pss_cons (ps_set (i := 6) sc_law_draw.nd rfl (Or.inl rfl) (pe_op op_mod (pe_callTy Rd.call_intI (by rfl) T.no_int (by decide +kernel) (pa_cons (pe_op op_add (pe_op op_add (pe_op op_mul (pe_op op_mul (pv 6) (pv 6)) pe_int) (pe_op op_fdiv (pv 5) pe_int)) pe_int) pa_nil)) pe_int))
      (pss_one (ps_ret (pe_op op_mod (pe_callTy Rd.call_intI (by rfl) T.no_int (by decide +kernel) (pa_cons (pe_op op_fdiv (pv 6) pe_int) pa_nil)) (pv 1))))))))))))), ?_⟩
    show (_ : TS) _ [some (V.ref b), some (V.int m), none, none, none, none, none] H
    walk_at "rd"
    simp only [hb]
    walk_at "rd"
    have e1 : ∀ a, a ≠ b → (upd H b (.lst [V.ref c, .int (n1 + 1), .int n2, .int n3])) a = H a := fun a ha => upd_ne ha
    refine ⟨_, SqL.but hc hbc fun p o n h => (e1 p n).trans h, ?_⟩
    rw [List.length_map]
    refine ⟨by omega, by omega, ?_⟩
    refine Rd.loop_rngC (fun σ H' => ∃ (x : Option V) (k2 k3 : Int), σ = [some (.ref b), some (.int m), some (.ref c), x, none, none, none] ∧ (∀ a, a ≠ b → H' a = H a) ∧ H' b = some (.lst [.ref c, .int (n1 + 1), .int k2, .int k3]) ∧ 0 ≤ k2 ∧ 0 ≤ k3)
      (fun _ σ H' => ∃ (x : Option V) (k2 k3 : Int), σ = [some (.ref b), some (.int m), some (.ref c), x, none, none, none] ∧ (∀ a, a ≠ b → H' a = H a) ∧ H' b = some (.lst [.ref c, .int (n1 + 1), .int k2, .int k3]) ∧ 0 ≤ k2 ∧ 0 ≤ k3)
      ⟨none, n2, n3, rfl, e1, upd_same, p2, p3⟩ ?_ (fun _ _ z => z) ?_
    · rintro bk hbk i σ H1 hi ⟨x, k2, k3, rfl, e, hb1, q2, q3⟩
      walk_at "rd"
      simp only [hb1]
      walk_at "rd"
      have hc1 : SqL K H1 c (ns.map V.int) := SqL.but hc hbc fun p o n h => (e p n).trans h
      have out : bk [some (V.ref b), some (V.int m), some (V.ref c), some (V.int (0 + ↑i)), none, none, none] H1 := hbk _ _ ⟨_, k2, k3, rfl, e, hb1, q2, q3⟩
      refine ite2 (fun h => ?_) (fun _ => out)
      refine ⟨_, hc1, ?_⟩
      try rw [List.length_map]
      refine ite2 (fun h2 => ?_) (fun _ => out)
      obtain ⟨y, hy⟩ := at_int q3 h2
      refine ⟨_, hc1, _, hy, _, rfl, ⟨by decide, by decide, by decide⟩, ite2 (fun _ => ?_) (fun _ => ?_)⟩
      · refine ⟨_, hc1, _, hy, _, rfl, fun a ha => ?_, abs_nn y, by omega⟩
        rw [upd_ne ha, upd_ne ha, e a ha]
      · refine ⟨fun a ha => ?_, q2, by omega⟩
        rw [upd_ne ha, e a ha]
    · rintro σ H1 ⟨x, k2, k3, rfl, e, hb1, q2, q3⟩
      walk_at "rd"
      simp only [hb1]
      walk_at "rd"
      have hc1 : SqL K H1 c (ns.map V.int) := SqL.but hc hbc fun p o n h => (e p n).trans h
      refine ite2 (fun h => ?_) (fun h => ?_)
      · refine ⟨hm, ⟨hm, by omega⟩, k _ _ (Int.emod_nonneg _ (by omega)) (Int.emod_lt_of_pos _ hm) ⟨hbc, hl, ⟨_, _, _, upd_same, Int.ediv_nonneg (by omega) (by omega), q3⟩, SqL.but hc1 hbc fun p o n h => (upd_ne n).trans h⟩ fun a ha => ?_⟩
        rw [upd_ne ha, e a ha]
      · refine ⟨_, hc1, ?_⟩
        try rw [List.length_map]
        have fin : ∀ z : Int, Q (V.int (z % m)) H1 := fun z => k _ _ (Int.emod_nonneg _ (by omega)) (Int.emod_lt_of_pos _ hm) ⟨hbc, hl, ⟨_, _, _, hb1, q2, q3⟩, hc1⟩ e
        refine ite2 (fun h2 => ?_) (fun h2 => ?_)
        · obtain ⟨y, hy⟩ := at_int (ns := ns) (z := (n1 + 1) % (ns.length : Int)) (Int.emod_nonneg _ (by omega)) (Int.emod_lt_of_pos _ h2)
          refine ⟨_, hc1, by rw [List.length_map]; exact h2, _, hc1, _, by rw [List.length_map]; exact hy, _, rfl, .inr ⟨by decide, by decide⟩, .inr ⟨by decide, by decide⟩, by decide, cm_mod (by decide) (by decide), .inr ⟨by decide, by decide⟩, by decide, cm_mod (by decide) (by decide), .inr ⟨by decide, by decide⟩, ⟨by decide, by decide⟩, by decide, ⟨by decide, by decide⟩, hm, fin _⟩
        · exact ⟨.inr ⟨by decide, by decide⟩, .inr ⟨by decide, by decide⟩, by decide, cm_mod (by decide) (by decide), .inr ⟨by decide, by decide⟩, by decide, cm_mod (by decide) (by decide), .inr ⟨by decide, by decide⟩, ⟨by decide, by decide⟩, by decide, ⟨by decide, by decide⟩, hm, fin _⟩
end
section
variable {P : Program} {w : World} {K : PySem.W.Frag} {mg : Str → Option Value} {base : Heap} {a : Ad}
theorem But.of {b : Addr} {H H' : Hp} (e : ∀ p, p ≠ b → H' p = H p) : But b H H' := fun p o n h => (e p n).trans h
theorem But.updn {b p : Addr} {o : HO} {H H' : Hp} (e : But b H H') (h : H p = none) : But b H (upd H' p o) := fun q u n z => (upd_ne (ne_of_none z h)).trans (e q u n z)
theorem BoxAt.upd {H0 H : Hp} {b c p : Addr} {ns : List Int} {o : HO} (B0 : BoxAt K H0 b c ns) (B : BoxAt K H b c ns) (n : p ≠ b) (e : But b H0 (L2.upd H p o)) : BoxAt K (L2.upd H p o) b c ns :=
  let ⟨n1, n2, n3, h, u, v⟩ := B.ob
  ⟨B.ne, B.len, ⟨n1, n2, n3, (upd_ne (Ne.symm n)).trans h, u, v⟩, SqL.but B0.cells B.ne e⟩
theorem drw {H : Hp} {b c : Addr} {ns : List Int} {m : Int} {Q : VK} {E : XK} (B : BoxAt K H b c ns) (h0 : 0 < m) (h1 : m < 1000000000) (k : ∀ (d : Nat) (H' : Hp), (d : Int) < m → BoxAt K H' b c ns → But b H H' → Q (.int (d : Nat)) H') : spDraw K [.ref b, .int m] H Q E :=
  ⟨b, c, ns, m, rfl, B, h0, h1, fun d H' p q B' e => by
    obtain ⟨j, rfl⟩ : ∃ j : Nat, d = (j : Int) := ⟨d.toNat, by omega⟩
    exact k j H' q B' (But.of e)⟩
end

end K21
namespace K21
open PySem PySem.Spec PyProof.Rows L2 Own OwnSeq OwnSet OwnComb OwnSort OwnHot OwnExN OwnProj
local macro_rules | `(tactic| walk_at "rd") => `(tactic| simp only [tSeq, tAsg, tOp, tUn, tVar, gName, gSub, rIxL, rIxT, rSetL, tC, rI0, rI, rU, rEq, rNe, tCons, tNil, tCB, tLst, tTup, tIfS, tAnd, tOr, tNot, tAndV, tOrV, tNotV, tTest, tB, tIf, tRet, tDrop, tNext, tBreak, tCont, tCall, tCallS, L2.WE, tMakeS, rIsS, rIsB, tChain, gSeq, gRest, gCons, gNil, tFor_seq, tFor_enumS, tLc_seq, tLc_enumS, rAny, rAll, L2.tMeth, StX.tStar, rIn, tLstRg, tRg1, tRg2, rSetI, rSortedSet, rInDT, rInD, rNotInD, rEqD, rNeD, iComb, tFld, tMake, tMkO, sFld, tOst, tNever, tBits, clv, isB,
  Rd.tFor_rng1, Rd.tFor_rng2, Rd.tFor_list, Rd.tFor_tup, Rd.tLc_list, Rd.tLc_tup, Rd.tLc_rng1, Rd.LcTurn, tYes, wipe, Rd.rLenL, Rd.rLenT, Rd.rIntI, Rd.rIxH, rIxHT,  HO.tup.injEq, Rd.at0, Rd.at1, Rd.at2, Rd.at3, Rd.ixN40, Rd.ixN41, Rd.ixN42, Rd.ixN43, Rd.scal_ii, cxOf,
  List.length_cons, List.length_nil, List.length_map, List.map_cons, List.map_nil, upd_same, decide_eq_true_eq, decide_true, decide_false, if_true, if_false, Bool.false_eq_true, Bool.not_true, Bool.not_false, HO.lst.injEq, HO.ins.injEq, List.set_cons_zero, List.set_cons_succ, List.getElem?_cons_zero, List.getElem?_cons_succ, List.append_nil, List.nil_append, List.cons_append, Option.some.injEq, V.ref.injEq, V.int.injEq, V.bl.injEq, List.cons.injEq, exists_eq_left', exists_and_left, exists_eq_left, true_and, and_true, and_self, and_assoc, implies_true, reduceCtorEq, Nat.reduceAdd])

/-! ### masks by reckoning -/
def pop (m : Nat) : Nat := (bits m).length
def cntL (n : Nat) : List Nat := (List.range n).map pop
theorem and_nat {x y : Nat} : Builtin.bitAnd (x : Int) (y : Int) = ((x &&& y : Nat) : Int) := by
  rw [bitAnd_pp (by omega) (by omega), Int.toNat_natCast, Int.toNat_natCast]
theorem or_nat {x y : Nat} : Builtin.bitOr (x : Int) (y : Int) = ((x ||| y : Nat) : Int) := by
  rw [bitOr_and, bitAnd_pp (by omega) (by omega), Int.toNat_natCast, Int.toNat_natCast]
  have := nat_or_add_and x y
  omega
theorem sub_iff {m t : Nat} : (Builtin.bitAnd (m : Int) (t : Int) = (m : Int)) ↔ Sub m t := by
  rw [and_nat]
  unfold Sub
  omega
theorem sub_trans {x y z : Nat} (a : Sub x y) (b : Sub y z) : Sub x z := by
  unfold Sub at *
  rw [← a, Nat.and_assoc, b]
theorem sub_zero (x : Nat) : Sub 0 x := Nat.zero_and x
theorem sub_le {x y : Nat} (a : Sub x y) : x ≤ y := a ▸ Nat.and_le_right
theorem pow64 {n : Nat} (h : n ≤ 6) : 2 ^ n ≤ 64 := Nat.le_trans (Nat.pow_le_pow_right (by decide) h) (by decide)
theorem pow_cast (n : Nat) : (1 : Int) * 2 ^ (n : Int).toNat = ((2 ^ n : Nat) : Int) := by
  rw [Int.toNat_natCast, Int.one_mul]
  rfl
theorem pbd {n : Nat} (h : n ≤ 6) : -(2 : Int) ^ 62 ≤ 1 * 2 ^ (n : Int).toNat ∧ (1 : Int) * 2 ^ (n : Int).toNat < 2 ^ 62 ∧ ((1 : Int) * 2 ^ (n : Int).toNat).toNat = 2 ^ n ∧ ((1 : Int) * 2 ^ (n : Int).toNat - 1).toNat = 2 ^ n - 1 := by
  rw [Int.toNat_natCast]
  have hn : n = 0 ∨ n = 1 ∨ n = 2 ∨ n = 3 ∨ n = 4 ∨ n = 5 ∨ n = 6 := by omega
  rcases hn with rfl | rfl | rfl | rfl | rfl | rfl | rfl <;> decide
theorem sum_cast : ∀ s : List Nat, (s.map fun g => ((2 ^ g : Nat) : Int)).sum = ((mk s : Nat) : Int)
  | [] => rfl
  | g :: s => by
    have := sum_cast s
    unfold mk at this ⊢
    rw [List.map_cons, List.sum_cons, this, List.map_cons, List.sum_cons]
    exact (Int.natCast_add _ _).symm
theorem cpw {n : Nat} (h : n ≤ 8) : CPow 1 (n : Int) := ⟨by omega, by omega, by decide⟩
theorem shr_mod (m k : Nat) : ((m : Int) / 2 ^ (k : Int).toNat) = ((m / 2 ^ k : Nat) : Int) := by
  rw [Int.toNat_natCast, Int.natCast_ediv]
  rfl
theorem pops : ((List.range 64).all fun m => decide (m = 0) || decide (pop m = pop (m / 2) + m % 2)) = true := by decide +kernel
theorem pop_at {m : Nat} (h : m < 64) (h0 : m ≠ 0) : pop m = pop (m / 2) + m % 2 := by
  have z := List.all_eq_true.mp pops m (List.mem_range.mpr h)
  simpa [h0] using z
theorem in_bool {S : List Bool} {m : Nat} (h : m < S.length) : atI (S.map V.bl) (m : Nat) = some (V.bl (In S m)) := by
  refine atI_nat ?_
  unfold In
  rw [List.getElem?_map, List.getElem?_eq_getElem h, List.getD_eq_getElem?_getD, List.getElem?_eq_getElem h]
  rfl
theorem ixN_of {n t : Nat} (h : t < n) : ixN n (t : Int) = some t := by
  unfold ixN
  split <;> first
    | (split <;> first | rfl | (simp; omega))
    | (simp; omega)
theorem in_set {S : List Bool} {t m : Nat} {b : Bool} (h : t < S.length) : In (S.set t b) m = if m = t then b else In S m := by
  unfold In
  rw [List.getD_eq_getElem?_getD, List.getElem?_set]
  by_cases e : t = m
  · subst e
    rw [if_pos rfl, if_pos rfl, if_pos h]
    rfl
  · rw [if_neg e, if_neg (fun z => e z.symm), List.getD_eq_getElem?_getD]
theorem iv_at {s : List Nat} {j g : Nat} (h : s[j]? = some g) : atI (iv s) (j : Nat) = some (V.int (g : Nat)) := atI_nat (by unfold iv; rw [List.getElem?_map, h]; rfl)
theorem cnt_at {N j : Nat} (h : j < N) : (cntL N)[j]? = some (pop j) := by
  unfold cntL
  rw [List.getElem?_map, List.getElem?_range h]
  rfl
theorem fam_zero {n : Nat} (n1 : 1 ≤ n) (n6 : n ≤ 6) : Fam n ((List.range (2 ^ n)).map fun m => decide (m = 0)) := by
  have val : ∀ m, In ((List.range (2 ^ n)).map fun m => decide (m = 0)) m = decide (m = 0) := fun m => by
    unfold In
    rw [List.getD_eq_getElem?_getD, List.getElem?_map]
    by_cases h : m < 2 ^ n
    · rw [List.getElem?_range h]; rfl
    · rw [List.getElem?_eq_none (by rw [List.length_range]; omega)]
      have : 0 < 2 ^ n := Nat.pow_pos (by decide)
      rw [decide_eq_false (by omega)]
      rfl
  refine ⟨n1, n6, by rw [List.length_map, List.length_range], by rw [val]; decide, fun m m' s h => ?_⟩
  rw [val] at h ⊢
  have h := of_decide_eq_true h
  have := sub_le s
  exact decide_eq_true (by omega)
section
variable {P : Program} {w : World} {K : PySem.W.Frag} {mg : Str → Option Value} {base : Heap} {a : Ad}
/-! ### _law_things, _law_mask -/
def spThings : Sp := fun vs H Q _ => ∃ (m : Nat), vs = [.int m] ∧ ∀ r H', H r = none → Same H H' → H' r = some (.tup (iv (bits m))) → Q (.ref r) H'
theorem sc_law_things : FnScope ["mask", "thing"] ["mask"] (defScope s_law_things) := ⟨rfl, rfl, rfl, by decide +kernel, rfl, by decide +kernel, by decide +kernel⟩
theorem ok_law_things (T : Txt K mg a) : FnOk P w K mg base CX0 1 a.a_law_things a.d_law_things ["mask"] spThings := by
  refine T.fn_law_things.ok sc_law_things (fun vs H Q E h => ?_) (fun cdv A outer s H vs Q E hr h => ?_)
  · obtain ⟨m, rfl, _⟩ := h
    rfl
  · obtain ⟨m, rfl, k⟩ := h
    refine ⟨_, (pss_one (ps_ret (pe_callTy call_tuple_of (by rfl) T.no_tuple (by decide +kernel) (pa_cons (pe_lc (own := [("thing", 1)]) (by rfl) sc_law_things.nd (pi_range1 (by rfl) T.no_range (pa_cons pe_int pa_nil)) (blkOk_by (own := [("thing", 1)]) (N := ["mask", "thing"]) (sc := defScope s_law_things) (by decide +kernel)) (fun _ _ _ _ _ => pg_name (i := 1) sc_law_things.nd rfl (Or.inl rfl)) (fun _ _ _ _ _ => pts_one (pt_cmpR op_eq (pe_op op_mod (pe_callTy Rd.call_intI (by rfl) T.no_int (by decide +kernel) (pa_cons (pe_op op_shr (pv 0) (pv 1)) pa_nil)) pe_int) pe_int (nomark _))) (fun _ _ _ _ _ => (pv 1))) pa_nil)))), ?_⟩
    show (_ : TS) _ [some (V.int m), none] H
    walk_at "rd"
    refine ⟨by decide, by decide, Rd.lcl_rng (fun D i H5 => H D = none ∧ Same H H5 ∧ H5 D = some (.lst (iv ((List.range i).filter (bit m))))) (fun D hD => ⟨hD, same_upd hD, upd_same⟩) (fun D i H5 hi ⟨n5, e5, a5⟩ => ?_) (fun D H5 _ ⟨n5, e5, a5⟩ => ?_)⟩
    · walk_at "rd"
      have iq : (0 + (i : Int)).toNat = i := by omega
      have bt : ((m : Int) / 2 ^ i % 2 = 1) = (bit m i = true) := by
        unfold bit
        rw [decide_eq_true_eq]
        have z : (m : Int) / 2 ^ i % 2 = ((m / 2 ^ i % 2 : Nat) : Int) := by
          rw [Int.natCast_emod, Int.natCast_ediv]
          rfl
        rw [z]
        exact propext ⟨fun h => by omega, fun h => by omega⟩
      have i6 : i < 6 := hi
      have fl : ((List.range i).filter (bit m)).length ≤ i := by
        have := List.length_filter_le (bit m) (List.range i)
        rwa [List.length_range] at this
      refine ⟨by omega, by decide, ?_⟩
      rw [iq, List.range_succ, List.filter_append]
      refine ite2 (fun h => ⟨_, a5, small (by rw [iv_len]; omega), n5, fun b o hb => (upd_ne (ne_of_none hb n5)).trans (e5 _ _ hb), ?_⟩) (fun h => ⟨n5, e5, ?_⟩)
      · rw [bt] at h
        rw [List.filter_cons_of_pos h, Int.zero_add]
        unfold iv
        rw [List.map_append]
        rfl
      · rw [bt] at h
        rw [List.filter_cons_of_neg h, List.filter_nil, List.append_nil]
        exact a5
    · exact ⟨D, rfl, _, .inl ⟨SqL.of a5, fun r hr => k r _ (e5.free hr) (e5.trans (same_upd hr)) upd_same⟩⟩
end

end K21
namespace K21
open PySem PySem.Spec PyProof.Rows L2 Own OwnSeq OwnSet OwnComb OwnSort OwnHot OwnExN OwnProj
local macro_rules | `(tactic| walk_at "rd") => `(tactic| simp only [tSeq, tAsg, tOp, tUn, tVar, gName, gSub, rIxL, rIxT, rSetL, tC, rI0, rI, rU, rEq, rNe, tCons, tNil, tCB, tLst, tTup, tIfS, tAnd, tOr, tNot, tAndV, tOrV, tNotV, tTest, tB, tIf, tRet, tDrop, tNext, tBreak, tCont, tCall, tCallS, L2.WE, tMakeS, rIsS, rIsB, tChain, gSeq, gRest, gCons, gNil, tFor_seq, tFor_enumS, tLc_seq, tLc_enumS, rAny, rAll, L2.tMeth, StX.tStar, rIn, tLstRg, tRg1, tRg2, rSetI, rSortedSet, rInDT, rInD, rNotInD, rEqD, rNeD, iComb, tFld, tMake, tMkO, sFld, tOst, tNever, tBits, clv, isB,
  Rd.tFor_rng1, Rd.tFor_rng2, Rd.tFor_list, Rd.tFor_tup, Rd.tLc_list, Rd.tLc_tup, Rd.tLc_rng1, Rd.LcTurn, tYes, wipe, Rd.rLenL, Rd.rLenT, Rd.rIntI, Rd.rIxH, rIxHT,  HO.tup.injEq, Rd.at0, Rd.at1, Rd.at2, Rd.at3, Rd.ixN40, Rd.ixN41, Rd.ixN42, Rd.ixN43, Rd.scal_ii, cxOf,
  List.length_cons, List.length_nil, List.length_map, List.map_cons, List.map_nil, upd_same, decide_eq_true_eq, decide_true, decide_false, if_true, if_false, Bool.false_eq_true, Bool.not_true, Bool.not_false, HO.lst.injEq, HO.ins.injEq, List.set_cons_zero, List.set_cons_succ, List.getElem?_cons_zero, List.getElem?_cons_succ, List.append_nil, List.nil_append, List.cons_append, Option.some.injEq, V.ref.injEq, V.int.injEq, V.bl.injEq, List.cons.injEq, exists_eq_left', exists_and_left, exists_eq_left, true_and, and_true, and_self, and_assoc, implies_true, reduceCtorEq, Nat.reduceAdd])

/-! ### rest_of, smaller_by_one -/
section
variable {P : Program} {w : World} {K : PySem.W.Frag} {mg : Str → Option Value} {base : Heap} {a : Ad}
def restL (s t : List Nat) : List Nat := s.filter fun g => !t.contains g
def spRest : Sp := fun vs H Q _ => ∃ (p q : Addr) (l l' : Bool) (s t : List Nat), vs = [.ref p, .ref q] ∧ H p = some (sq l (iv s)) ∧ H q = some (sq l' (iv t)) ∧ s.length ≤ 6 ∧ ∀ r H', H r = none → Same H H' → H' r = some (.tup (iv (restL s t))) → Q (.ref r) H'
theorem sc_rest_of : FnScope ["things", "out", "thing"] ["things", "out"] (defScope s_rest_of) := ⟨rfl, rfl, rfl, by decide +kernel, rfl, by decide +kernel, by decide +kernel⟩
theorem ok_rest_of (T : Txt K mg a) : FnOk P w K mg base CX0 1 a.a_rest_of a.d_rest_of ["things", "out"] spRest := by
  refine T.fn_rest_of.ok sc_rest_of (fun vs H Q E h => ?_) (fun cdv A outer s H vs Q E hr h => ?_)
  · obtain ⟨p, q, l, l', s, t, rfl, _⟩ := h
    rfl
  · obtain ⟨p, q, l, l', s, t, rfl, hp, hq, h6, k⟩ := h
    refine ⟨_, (pss_one (ps_ret (pe_callTy call_tuple_of (by rfl) T.no_tuple (by decide +kernel) (pa_cons (pe_lc (own := [("thing", 2)]) (by rfl) sc_rest_of.nd (pi_seq (pv 0)) (blkOk_by (own := [("thing", 2)]) (N := ["things", "out", "thing"]) (sc := defScope s_rest_of) (by decide +kernel)) (fun _ _ _ _ _ => pg_name (i := 2) sc_rest_of.nd rfl (Or.inl rfl)) (fun _ _ _ _ _ => pts_one (pt_cmpR (op_notInK K) (pv 2) (pv 1) (by with_unfolding_all rfl))) (fun _ _ _ _ _ => (pv 2))) pa_nil)))), ?_⟩
    show (_ : TS) _ [some (V.ref p), some (V.ref q), none] H
    walk_at "rd"
    refine ⟨l, _, hp, lcl_goes goes_seq (fun D i H5 => H D = none ∧ Same H H5 ∧ H5 D = some (.lst (iv (restL (s.take i) t)))) (fun D hD => ⟨hD, same_upd hD, upd_same⟩)
      (fun D i H5 _ h => h.2.1 _ _ hp) (fun D i x H5 H5' hi ⟨n5, e5, a5⟩ ⟨eq5, hx⟩ => ?_) (fun D H5 _ ⟨n5, e5, a5⟩ => ?_)⟩
    · subst eq5
      rw [iv_len] at hi
      obtain ⟨g, hg, rfl⟩ : ∃ g, s[i]? = some g ∧ x = V.int (g : Nat) := by
        unfold iv at hx
        rw [List.getElem?_map] at hx
        cases z : s[i]? with
        | none => rw [z] at hx; cases hx
        | some g => rw [z] at hx; exact ⟨g, rfl, (Option.some.inj hx).symm⟩
      walk_at "rd"
      refine ⟨_, seqOr (e5 _ _ hq), rfl, iv_flat t, ?_⟩
      have st : restL (s.take (i + 1)) t = restL (s.take i) t ++ (if t.contains g = true then [] else [g]) := by
        unfold restL
        rw [List.take_add_one, hg, List.filter_append]
        cases z : t.contains g with
        | true => rw [show (some g).toList = [g] from rfl, List.filter_cons_of_neg (by rw [z]; decide)]; rfl
        | false => rw [show (some g).toList = [g] from rfl, List.filter_cons_of_pos (by rw [z]; decide)]; rfl
      rw [inV_iv, st]
      cases z : t.contains g with
      | true =>
        rw [if_neg (by decide), if_pos rfl, List.append_nil]
        exact ⟨n5, e5, a5⟩
      | false =>
        rw [if_pos (by decide), if_neg (by decide)]
        refine ⟨_, a5, small ?_, n5, fun b o hb => (upd_ne (ne_of_none hb n5)).trans (e5 _ _ hb), ?_⟩
        · rw [iv_len]
          have := List.length_filter_le (fun g => !t.contains g) (s.take i)
          rw [List.length_take] at this
          show (restL (s.take i) t).length < 1000
          unfold restL
          omega
        · unfold iv
          rw [List.map_append]
          rfl
    · rw [iv_len, List.take_length] at a5
      exact ⟨D, rfl, _, .inl ⟨SqL.of a5, fun r hr => k r _ (e5.free hr) (e5.trans (same_upd hr)) upd_same⟩⟩
theorem at_iv' {s : List Nat} {i : Nat} {x : V} (hx : (iv s)[i]? = some x) : ∃ g, s[i]? = some g ∧ x = V.int (g : Nat) := at_iv hx
def spLess : Sp := fun vs H Q _ => ∃ (p : Addr) (s : List Nat), vs = [.ref p] ∧ H p = some (.tup (iv s)) ∧ s.length ≤ 6 ∧ ∀ q ys H', H q = none → Same H H' → H' q = some (.lst ys) → Tups H' ys (s.map fun g => restL s [g]) → Q (.ref q) H'
theorem sc_smaller_by_one : FnScope ["things", "thing"] ["things"] (defScope s_smaller_by_one) := ⟨rfl, rfl, rfl, by decide +kernel, rfl, by decide +kernel, by decide +kernel⟩
theorem ok_smaller_by_one (T : Txt K mg a) : FnOk P w K mg base CX0 2 a.a_smaller_by_one a.d_smaller_by_one ["things"] spLess := by
  refine T.fn_smaller_by_one.ok sc_smaller_by_one (fun vs H Q E h => ?_) (fun cdv A outer s H vs Q E hr h => ?_)
  · obtain ⟨p, s, rfl, _⟩ := h
    rfl
  · obtain ⟨p, s, rfl, hp, h6, k⟩ := h
    refine ⟨_, (pss_one (ps_ret (pe_lc (own := [("thing", 1)]) (by rfl) sc_smaller_by_one.nd (pi_seq (pv 0)) (blkOk_by (own := [("thing", 1)]) (N := ["things", "thing"]) (sc := defScope s_smaller_by_one) (by decide +kernel)) (fun _ _ _ _ _ => pg_name (i := 1) sc_smaller_by_one.nd rfl (Or.inl rfl)) (fun _ _ _ _ _ => pts_nil) (fun _ _ _ _ _ => (pe_call (ok_rest_of T) (hr.mono (by decide)) (by rfl) T.mg_rest_of T.fn_rest_of.kp T.b_rest_of .nil pass0 (pa_cons (pv 0) (pa_cons (pe_tup (pa_cons (pv 1) pa_nil)) pa_nil))))))), ?_⟩
    show (_ : TS) _ [some (V.ref p), none] H
    walk_at "rd"
    refine ⟨false, _, hp, lcl_goes goes_seq (fun D i H5 => H D = none ∧ Same H H5 ∧ ∃ ys, H5 D = some (.lst ys) ∧ Tups H5 ys ((s.take i).map fun g => restL s [g])) (fun D hD => ⟨hD, same_upd hD, [], upd_same, trivial⟩)
      (fun D i H5 _ h => h.2.1 _ _ hp) (fun D i x H5 H5' hi ⟨n5, e5, ys, a5, t5⟩ ⟨eq5, hx⟩ => ?_) (fun D H5 _ ⟨n5, e5, ys, a5, t5⟩ => ?_)⟩
    · subst eq5
      rw [iv_len] at hi
      obtain ⟨g, hg, rfl⟩ := at_iv' hx
      walk_at "rd"
      refine ⟨by decide, fun t ht => ?_⟩
      have et := same_upd (o := .tup [V.int (g : Int)]) ht
      refine ⟨p, t, false, false, s, [g], rfl, et _ _ (e5 _ _ hp), by rw [upd_same]; rfl, h6, fun r H6 hr6 e6 a6 => ?_⟩
      have l5 := t5.len
      rw [List.length_map, List.length_take] at l5
      refine ⟨ys, e6 _ _ (et _ _ a5), small (by omega), n5, fun b o hb => (upd_ne (ne_of_none hb n5)).trans (e6 _ _ (et _ _ (e5 _ _ hb))), ?_⟩
      rw [List.take_add_one, hg, List.map_append]
      exact Tups.upd (e6 _ _ (et _ _ a5)) (Tups.app ((t5.same et).same e6) ⟨⟨r, rfl, a6⟩, trivial⟩)
    · rw [iv_len, List.take_length] at t5
      exact k D ys H5 n5 e5 a5 t5
end

end K21
namespace K21
open PySem PySem.Spec PyProof.Rows L2 Own OwnSeq OwnSet OwnComb OwnSort OwnHot OwnExN OwnProj
local macro_rules | `(tactic| walk_at "rd") => `(tactic| simp only [tSeq, tAsg, tOp, tUn, tVar, gName, gSub, rIxL, rIxT, rSetL, tC, rI0, rI, rU, rEq, rNe, tCons, tNil, tCB, tLst, tTup, tIfS, tAnd, tOr, tNot, tAndV, tOrV, tNotV, tTest, tB, tIf, tRet, tDrop, tNext, tBreak, tCont, tCall, tCallS, L2.WE, tMakeS, rIsS, rIsB, tChain, gSeq, gRest, gCons, gNil, tFor_seq, tFor_enumS, tLc_seq, tLc_enumS, rAny, rAll, L2.tMeth, StX.tStar, rIn, tLstRg, tRg1, tRg2, rSetI, rSortedSet, rInDT, rInD, rNotInD, rEqD, rNeD, iComb, tFld, tMake, tMkO, sFld, tOst, tNever, tBits, clv, isB,
  Rd.tFor_rng1, Rd.tFor_rng2, Rd.tFor_list, Rd.tFor_tup, Rd.tLc_list, Rd.tLc_tup, Rd.tLc_rng1, Rd.LcTurn, tYes, wipe, Rd.rLenL, Rd.rLenT, Rd.rIntI, Rd.rIxH, rIxHT,  HO.tup.injEq, Rd.at0, Rd.at1, Rd.at2, Rd.at3, Rd.ixN40, Rd.ixN41, Rd.ixN42, Rd.ixN43, Rd.scal_ii, cxOf,
  List.length_cons, List.length_nil, List.length_map, List.map_cons, List.map_nil, upd_same, decide_eq_true_eq, decide_true, decide_false, if_true, if_false, Bool.false_eq_true, Bool.not_true, Bool.not_false, HO.lst.injEq, HO.ins.injEq, List.set_cons_zero, List.set_cons_succ, List.getElem?_cons_zero, List.getElem?_cons_succ, List.append_nil, List.nil_append, List.cons_append, Option.some.injEq, V.ref.injEq, V.int.injEq, V.bl.injEq, List.cons.injEq, exists_eq_left', exists_and_left, exists_eq_left, true_and, and_true, and_self, and_assoc, implies_true, reduceCtorEq, Nat.reduceAdd])

section
variable {P : Program} {w : World} {K : PySem.W.Frag} {mg : Str → Option Value} {base : Heap} {a : Ad}
open LamX OwnLam in
/-- what family_of makes of a size and a lambda that tells of each set whether it fits -/
def TTfit (C : Addr) : V → (V → XK → Hp → VK → Prop) → Hp → VK → Prop := fun v0 tl H Q => ∃ (n : Nat) (S : List Bool) (fit : List Nat → Bool), v0 = .int n ∧ Fam n S ∧
  (∀ s, s ∈ allS n → (In S (mk s) = true ↔ fit s = true ∧ ∀ g ∈ s, In S (mk (restL s [g])) = true)) ∧
  (∀ (t : Addr) (s : List Nat) (H1 : Hp) (Q1 : VK), s ∈ allS n → Same H H1 → H1 t = some (.tup (iv s)) → (∀ H2, Same H1 H2 → Q1 (.bl (fit s)) H2) → tl (.ref t) (fun _ _ _ => False) H1 Q1) ∧
  ∀ g H', H g = none → Same H H' → FamV C H' g n S → Q (.ref g) H'
theorem Tups.keep {H H' : Hp} : ∀ {xs : List V} {ss : List (List Nat)}, (∀ q l, H q = some (.tup l) → H' q = some (.tup l)) → Tups H xs ss → Tups H' xs ss
  | [], [], _, _ => trivial
  | _ :: _, _ :: _, k, ⟨⟨q, e, h⟩, r⟩ => ⟨⟨q, e, k q _ h⟩, Tups.keep k r⟩
  | [], _ :: _, _, h => h.elim
  | _ :: _, [], _, h => h.elim
theorem Tups.seqs {H : Hp} : ∀ {xs : List V} {ss : List (List Nat)}, Tups H xs ss → Seqs H xs ss
  | [], [], _ => trivial
  | _ :: _, _ :: _, ⟨⟨q, e, h⟩, r⟩ => ⟨⟨q, false, e, h⟩, Tups.seqs r⟩
  | [], _ :: _, h => h.elim
  | _ :: _, [], h => h.elim
theorem make_fam {C l : Addr} {H1 : Hp} {n : Nat} {S : List Bool} {xs : List V} {ss : List (List Nat)} {Q : VK} (hl : H1 l = some (.lst xs)) (tu : Tups H1 xs ss) (F : Fam n S) (l64 : ss.length ≤ 64) (mem : ∀ s, s ∈ ss ↔ s ∈ famL n S)
    (k : ∀ g H', H1 g = none → Same H1 H' → FamV C H' g n S → Q (.ref g) H') (x dx : Addr) (hx : H1 x = none) (hdx : H1 dx = none) (ne : dx ≠ x) :
    spFam C [.ref x, .int n, .ref l] (upd (upd H1 dx (.own x)) x (.ins C dx [])) (fun v H2 => v = .non ∧ Q (.ref x) H2) E0 := by
  have s1 : Same H1 (upd H1 dx (.own x)) := same_upd hdx
  have s2 : Same (upd H1 dx (.own x)) (upd (upd H1 dx (.own x)) x (.ins C dx [])) := same_upd ((upd_ne ne.symm).trans hx)
  have s12 := s1.trans s2
  refine ⟨x, dx, l, n, S, xs, ss, rfl, upd_same, s12 _ _ hl, tu.seqs.same s12, F, l64, mem, fun t ys H3 H4 e3 ht tt e4 => ⟨rfl, ?_⟩⟩
  subst e4
  have x3 := e3 _ _ upd_same
  exact k x _ hx (fun b o hb => (upd_ne (ne_of_none hb hx)).trans (e3 _ _ (s12 _ _ hb))) ⟨F, dx, t, ys, upd_same, (upd_ne fun z => by rw [z, x3] at ht; cases ht).trans ht, Tups.keep (fun z l h => (upd_ne fun e => by rw [e, x3] at h; cases h).trans h) tt⟩
theorem less_all : ((List.range 7).all fun n => (List.range (allS n).length).all fun i => ((allS n).getD i []).all fun g => ((allS n).take i).contains (restL ((allS n).getD i []) [g])) = true := by decide +kernel
theorem less_at {n i : Nat} {s : List Nat} (h : n ≤ 6) (hs : (allS n)[i]? = some s) {g : Nat} (hg : g ∈ s) : restL s [g] ∈ (allS n).take i := by
  have z := List.all_eq_true.mp (List.all_eq_true.mp less_all n (List.mem_range.mpr (by omega))) i (List.mem_range.mpr (List.getElem?_eq_some_iff.mp hs).1)
  rw [List.getD_eq_getElem?_getD, hs] at z
  exact List.contains_iff_mem.mp (List.all_eq_true.mp z g hg)
theorem sc_family_of : FnScope ["size", "fits", "held", "things", "part"] ["size", "fits"] (defScope s_family_of) := ⟨rfl, rfl, rfl, by decide +kernel, rfl, by decide +kernel, by decide +kernel⟩
open LamX OwnLam in
theorem fam_of (T : Txt K mg a) {A : Around} {outer : List Env} {s0 : Shared} {H : Hp} {cdv : Value} {f c' : Addr} {q : Str} {v0 : V} {Q : VK} {tl : V → XK → Hp → VK → Prop} (hr : Room 9 (A.deeper (envOfC "family_of" (defScope s_family_of) s0.heap.objs.size a.a_family_of cdv)))
    (act : ∀ (W : WX) (pn : List (Addr × Obj)) (xe : Value → Shared → Prop) (E : XK) (p1 p2 : Pos) (e1 : Expr) (t1 : TE), Takes ((cxOf C8.CX0 P w K mg base ["size", "fits", "held", "things", "part"] "family_of" (defScope s_family_of) a.a_family_of cdv A outer s0 H C8.E0).tr pn xe) W → (∀ cls d σ' H', E cls d H' → W cls d σ' H') →
      PE ((cxOf C8.CX0 P w K mg base ["size", "fits", "held", "things", "part"] "family_of" (defScope s_family_of) a.a_family_of cdv A outer s0 H C8.E0).tr pn xe) e1 t1 →
      starEach [e1] (envOfC "family_of" (defScope s_family_of) s0.heap.objs.size a.a_family_of cdv) = [(false, eval e1 (envOfC "family_of" (defScope s_family_of) s0.heap.objs.size a.a_family_of cdv))] →
      PE ((cxOf C8.CX0 P w K mg base ["size", "fits", "held", "things", "part"] "family_of" (defScope s_family_of) a.a_family_of cdv A outer s0 H C8.E0).tr pn xe) (.Call (.Name "fits" p1) [e1] [] p2)
        (fun σZ HZ Q => σZ[1]? = some (some (.ref f)) ∧ t1 σZ HZ fun v H1 => H1 c' = some (CodeO c' q) ∧ tl v E H1 Q))
    (hc : H c' = some (CodeO c' q)) (h : TTfit a.C_Family v0 tl H Q) :
    ∃ t, PSs (cxOf C8.CX0 P w K mg base ["size", "fits", "held", "things", "part"] "family_of" (defScope s_family_of) a.a_family_of cdv A outer s0 H C8.E0).nox (defBody s_family_of) t ∧ t { nx := fun _ H' => Q .non H', rt := Q } (L2.start ["size", "fits", "held", "things", "part"] [v0, .ref f]) H := by
  obtain ⟨n, S, fit, rfl, F, hS, hfit, k⟩ := h
  refine ⟨_, (pss_cons (ps_set (i := 2) sc_family_of.nd rfl (Or.inr rfl) (pe_lst pa_nil))
      (pss_cons (ps_for PassesOwn.never rfl (pi_list (pe_call (ok_all_sets T) (hr.mono (by decide)) (by rfl) T.mg_all_sets T.fn_all_sets.kp T.b_all_sets .nil pass0 (pa_cons (pv 0) pa_nil))) (pg_name (i := 3) sc_family_of.nd rfl (Or.inl rfl))
        (pss_one (ps_if (PW.pt (pw_and (pt_val (act _ _ _ _ _ _ _ _ LamX.takes0 (fun _ _ _ _ z => z) (pv 3) (by rfl))) (pw_and1 (pt_val (pe_callB (cr_all rfl) (by rfl) T.no_all (by decide +kernel) (pa_cons (pe_lc (own := [("part", 4)]) (by rfl) sc_family_of.nd (pi_list (pe_call (ok_smaller_by_one T) (hr.mono (by decide)) (by rfl) T.mg_smaller_by_one T.fn_smaller_by_one.kp T.b_smaller_by_one .nil pass0 (pa_cons (pv 3) pa_nil))) (blkOk_by (own := [("part", 4)]) (N := ["size", "fits", "held", "things", "part"]) (sc := defScope s_family_of) (by decide +kernel)) (fun _ _ _ _ _ => pg_name (i := 4) sc_family_of.nd rfl (Or.inl rfl)) (fun _ _ _ _ _ => pts_nil) (fun _ _ _ _ _ => (pe_cmpR (inD_at K (u65 hr)) (pv 4) (pv 2) (by with_unfolding_all rfl)))) pa_nil)))))) (pss_one (ps_expr (pe_bm PySem.F.plainAttrs_list PySem.F.slot_list_append PySem.F.type_list_append mt_append (pv 2) (pa_cons (pv 3) pa_nil)))) pss_nil)))
      (pss_one (ps_ret (pe_make T.mk_Family (ok_Family_init T) (hr.mono (by decide)) (by rfl) T.mg_Family T.b_Family_init .nil pass0 (pa_cons (pv 0) (pa_cons (pv 2) pa_nil))))))), ?_⟩
  show (_ : TS) _ [some (V.int n), some (V.ref f), none, none, none] H
  walk_at "rd"
  refine ⟨by decide, fun c hc0 => ⟨n, rfl, F.n6, fun u ys H2 u0 e2 hu tu => ⟨u, rfl, ⟨_, SqL.of hu⟩, ?_⟩⟩⟩
  have ec := same_upd (o := .lst []) hc0
  have hc2 := e2 _ _ (upd_same (H := H) (a := c) (o := .lst []))
  have e02 : Same H H2 := ec.trans e2
  have uc : u ≠ c := fun z => by rw [z, upd_same] at u0; cases u0
  have ul := tu.len
  refine Rd.loop_listC (xs := ys) (fun σ H' => ∃ acc o4 o5, σ = [some (V.int n), some (V.ref f), some (V.ref c), o4, o5] ∧ Same H H' ∧ H' c = some (.lst acc) ∧ Tups H' acc (famL n S))
    (fun i σ H' => ∃ acc o4 o5, σ = [some (V.int n), some (V.ref f), some (V.ref c), o4, o5] ∧ (∀ b o, b ≠ c → H2 b = some o → H' b = some o) ∧ H' c = some (.lst acc) ∧ acc.length ≤ i ∧ Tups H' acc (((allS n).take i).filter fun s => In S (mk s)))
    ⟨[], none, none, rfl, fun _ _ _ h => h, hc2, Nat.le_refl _, trivial⟩ (fun i σ H' _ ⟨_, _, _, _, e, _⟩ => SqL.of (e _ _ uc hu)) ?_ ?_ ?_
  · rintro bk hbk i x σ H3 hx ⟨acc, o4, o5, rfl, e3, hc3, al3, ta⟩
    obtain ⟨s', hs', t, rfl, ht⟩ := tu.at hx
    have sm := List.mem_of_getElem? hs'
    have tc : t ≠ c := fun z => by rw [z, hc2] at ht; cases ht
    have ht3 := e3 _ _ tc ht
    have e03 : Same H H3 := fun b o h => e3 _ _ (fun z => by rw [z, hc0] at h; cases h) (e02 _ _ h)
    have s6 := Nat.le_trans (allS_at sm F.n6).2.2.2.1 F.n6
    have i64 : i < 64 := by
      have := (List.getElem?_eq_some_iff.mp hs').1
      rw [allS_len F.n6] at this
      exact Nat.lt_of_lt_of_le this (Nat.le_trans (Nat.pow_le_pow_right (by decide) F.n6) (by decide))
    have nx : ((allS n).take (i + 1)).filter (fun s => In S (mk s)) = ((allS n).take i).filter (fun s => In S (mk s)) ++ (if In S (mk s') = true then [s'] else []) := by
      rw [List.take_add_one, hs', List.filter_append]
      cases z : In S (mk s') with
      | true => rw [show (some s').toList = [s'] from rfl, List.filter_cons_of_pos (p := fun s => In S (mk s)) z]; rfl
      | false => rw [show (some s').toList = [s'] from rfl, List.filter_cons_of_neg (p := fun s => In S (mk s)) (by rw [z]; decide)]; rfl
    walk_at "rd"
    refine ⟨e03 _ _ hc, hfit t s' H3 _ sm e03 ht3 fun H4 e4 => ⟨fit s', rfl, ?_⟩⟩
    have hc4 := e4 _ _ hc3
    have ta4 := ta.same e4
    have HS := hS s' sm
    refine ite2 (fun hf => ?_) (fun hf => ?_)
    · refine ⟨t, s', rfl, e4 _ _ ht3, s6, fun r zs H5 r0 e5 hr5 tz => ⟨r, rfl, ⟨_, SqL.of hr5⟩, ?_⟩⟩
      have zl := tz.len
      rw [List.length_map] at zl
      refine Rd.lcl_list (xs := zs) (fun D j H' => H5 D = none ∧ Same H5 H' ∧ H' D = some (.lst (((s'.take j).map fun g => In S (mk (restL s' [g]))).map V.bl))) (fun D hD => ⟨hD, same_upd hD, upd_same⟩) (fun D j H' _ h => SqL.of (h.2.1 _ _ hr5)) (fun D j x H6 hx ⟨n6, e6, a6⟩ => ?_) (fun D H6 _ ⟨n6, e6, a6⟩ => ?_)
      · obtain ⟨pp, hpp, v, rfl, hv⟩ := tz.at hx
        rw [List.getElem?_map] at hpp
        obtain ⟨g, hg, rfl⟩ : ∃ g, s'[j]? = some g ∧ pp = restL s' [g] := by
          cases z : s'[j]? with
          | none => rw [z] at hpp; cases hpp
          | some g => rw [z] at hpp; exact ⟨g, rfl, (Option.some.inj hpp).symm⟩
        have jl := (List.getElem?_eq_some_iff.mp hg).1
        have le := less_at F.n6 hs' (List.mem_of_getElem? hg)
        walk_at "rd"
        refine ⟨_, dp_set (e6 _ _ hv), _, .lst (SqL.of (e6 _ _ (e5 _ _ hc4))) (dp_sets ((ta4.same e5).same e6)), sh_set _, sh_list _, _, a6, small ?_, n6, fun b o hb => (upd_ne (ne_of_none hb n6)).trans (e6 _ _ hb), ?_⟩
        · rw [List.length_map, List.length_map, List.length_take]
          omega
        · rw [any_sets, List.take_add_one, hg]
          have eq : (((allS n).take i).filter fun s => In S (mk s)).contains (restL s' [g]) = In S (mk (restL s' [g])) := by
            rw [Bool.eq_iff_iff, List.contains_iff_mem, List.mem_filter]
            exact ⟨fun h => h.2, fun h => ⟨le, h⟩⟩
          rw [eq, List.map_append, List.map_append]
          rfl
      · rw [zl, List.take_length] at a6
        have e46 : Same H4 H6 := e5.trans e6
        have hc6 := e46 _ _ hc4
        refine ⟨D, rfl, _, SqL.of a6, ite2 (fun h => ?_) (fun h => ?_)⟩
        · have z : In S (mk s') = true := HS.mpr ⟨hf, fun g hg => by
            have := List.all_eq_true.mp h _ (List.mem_map.mpr ⟨g, hg, rfl⟩)
            exact this⟩
          simp only [tBM, rAppend]
          walk_at "rd"
          refine ⟨.inl ⟨rfl, _, SqL.of hc6⟩, acc, hc6, small (by omega), fun b o nb h => (upd_ne nb).trans (e46 _ _ (e4 _ _ (e3 _ _ nb h))), by rw [List.length_append]; exact Nat.succ_le_succ al3, ?_⟩
          rw [nx, if_pos z]
          exact Tups.upd hc6 (Tups.app (ta4.same e46) ⟨⟨t, rfl, e46 _ _ (e4 _ _ ht3)⟩, trivial⟩)
        · have z : ¬ In S (mk s') = true := fun z => h (List.all_eq_true.mpr fun x hx => by
            obtain ⟨g, hg, rfl⟩ := List.mem_map.mp hx
            exact (HS.mp z).2 g hg)
          refine ⟨fun b o nb h => e46 _ _ (e4 _ _ (e3 _ _ nb h)), acc, hc6, by omega, ?_⟩
          rw [nx, if_neg z, List.append_nil]
          exact ta4.same e46
    · have z : ¬ In S (mk s') = true := fun z => hf (HS.mp z).1
      refine ⟨fun b o nb h => e4 _ _ (e3 _ _ nb h), acc, hc4, by omega, ?_⟩
      rw [nx, if_neg z, List.append_nil]
      exact ta4
  · rintro σ H3 ⟨acc, o4, o5, rfl, e3, hc3, _, ta⟩
    rw [ul, List.take_length] at ta
    exact ⟨acc, o4, o5, rfl, fun b o h => e3 _ _ (fun z => by rw [z, hc0] at h; cases h) (e02 _ _ h), hc3, ta⟩
  · rintro σ H3 ⟨acc, o4, o5, rfl, e3, hc3, ta⟩
    walk_at "rd"
    refine make_fam hc3 ta F ?_ (fun s => Iff.rfl) (fun g H' hg e FV => k g H' (e3.free hg) (e3.trans e) FV)
    have l1 := List.length_filter_le (fun s => In S (mk s)) (allS n)
    rw [allS_len F.n6] at l1
    exact Nat.le_trans l1 (Nat.le_trans (Nat.pow_le_pow_right (by decide) F.n6) (by decide))
open LamX OwnLam in
theorem gives_family_of {X : Cx} (T : Txt X.K X.mg a) {cdv : Value} {q : Str} (hr : Room 10 X.A) : Gives2 X ["size", "fits", "held", "things", "part"] "family_of" (defScope s_family_of) a.a_family_of cdv (defBody s_family_of) "fits" q (TTfit a.C_Family) :=
  fun f c' v0 s H Q tl act hc h => fam_of T (hr.deeper _) act hc h
end

end K21
namespace K21
open PySem PySem.Spec PyProof.Rows L2 Own OwnSeq OwnSet OwnComb OwnSort OwnHot OwnExN OwnProj
local macro_rules | `(tactic| walk_at "rd") => `(tactic| simp only [tSeq, tAsg, tOp, tUn, tVar, gName, gSub, rIxL, rIxT, rSetL, tC, rI0, rI, rU, rEq, rNe, tCons, tNil, tCB, tLst, tTup, tIfS, tAnd, tOr, tNot, tAndV, tOrV, tNotV, tTest, tB, tIf, tRet, tDrop, tNext, tBreak, tCont, tCall, tCallS, L2.WE, tMakeS, rIsS, rIsB, tChain, gSeq, gRest, gCons, gNil, tFor_seq, tFor_enumS, tLc_seq, tLc_enumS, rAny, rAll, L2.tMeth, StX.tStar, rIn, tLstRg, tRg1, tRg2, rSetI, rSortedSet, rInDT, rInD, rNotInD, rEqD, rNeD, iComb, tFld, tMake, tMkO, sFld, tOst, tNever, tBits, clv, isB,
  Rd.tFor_rng1, Rd.tFor_rng2, Rd.tFor_list, Rd.tFor_tup, Rd.tLc_list, Rd.tLc_tup, Rd.tLc_rng1, Rd.LcTurn, tYes, wipe, Rd.rLenL, Rd.rLenT, Rd.rIntI, Rd.rIxH, rIxHT,  HO.tup.injEq, Rd.at0, Rd.at1, Rd.at2, Rd.at3, Rd.ixN40, Rd.ixN41, Rd.ixN42, Rd.ixN43, Rd.scal_ii, cxOf,
  List.length_cons, List.length_nil, List.length_map, List.map_cons, List.map_nil, upd_same, decide_eq_true_eq, decide_true, decide_false, if_true, if_false, Bool.false_eq_true, Bool.not_true, Bool.not_false, HO.lst.injEq, HO.ins.injEq, List.set_cons_zero, List.set_cons_succ, List.getElem?_cons_zero, List.getElem?_cons_succ, List.append_nil, List.nil_append, List.cons_append, Option.some.injEq, V.ref.injEq, V.int.injEq, V.bl.injEq, List.cons.injEq, exists_eq_left', exists_and_left, exists_eq_left, true_and, and_true, and_self, and_assoc, implies_true, reduceCtorEq, Nat.reduceAdd])

/-! ### family_of(size, lambda a: ..) -/
open LamX OwnLam in
def oneSB (maker inner : Scope) (N : List Str) (a : Str) (j : Nat) : Bool := decide (inner.kind = .function) && !inner.isCoroutine && !inner.isGenerator && decide N.Nodup && decide (N[j]? = some a) && decide (inner.names.lookup a = some .local) &&
  inner.names.all fun y => !decide (y.2 = .cell) && (!decide (y.2 = .local) || decide (y.1 = a)) && (!decide (y.2 = .free) || decide (maker.names.lookup y.1 = some .cell) || decide (maker.names.lookup y.1 = some .free))
open LamX OwnLam in
theorem oneS_by {maker inner : Scope} {N : List Str} {a : Str} {j : Nat} (h : oneSB maker inner N a j = true) : OneS maker inner N a j := by
  unfold oneSB at h
  simp only [Bool.and_eq_true, Bool.or_eq_true, Bool.not_eq_true', decide_eq_true_eq, decide_eq_false_iff_not, List.all_eq_true] at h
  obtain ⟨⟨⟨⟨⟨⟨h1, h2⟩, h3⟩, h4⟩, h5⟩, h6⟩, h7⟩ := h
  refine ⟨h1, h2, h3, h4, h5, h6, fun y hy => ⟨(h7 y hy).1.1, fun e => (h7 y hy).1.2.resolve_left (fun z => z e)⟩, fun y hy e => ?_⟩
  rcases (h7 y hy).2 with (z | z) | z
  · exact absurd e z
  · exact .inl z
  · exact .inr z
open LamX OwnLamC in
def oneCB (maker inner : Scope) (N : List Str) (a : Str) (j : Nat) : Bool := decide (inner.kind = .function) && !inner.isCoroutine && !inner.isGenerator && decide N.Nodup && decide (N[j]? = some a) && decide (inner.names.lookup a = some .cell) && decide (inner.names.filter isC = [(a, .cell)]) &&
  inner.names.all fun y => !decide (y.2 = .local) && (!decide (y.2 = .cell) || decide (y.1 = a)) && (!decide (y.2 = .free) || (!decide (y.1 = a) && (decide (maker.names.lookup y.1 = some .cell) || decide (maker.names.lookup y.1 = some .free))))
open LamX OwnLamC in
theorem oneC_by {maker inner : Scope} {N : List Str} {a : Str} {j : Nat} (h : oneCB maker inner N a j = true) : OneC maker inner N a j := by
  unfold oneCB at h
  simp only [Bool.and_eq_true, Bool.or_eq_true, Bool.not_eq_true', decide_eq_true_eq, decide_eq_false_iff_not, List.all_eq_true] at h
  obtain ⟨⟨⟨⟨⟨⟨⟨h1, h2⟩, h3⟩, h4⟩, h5⟩, h6⟩, h0⟩, h7⟩ := h
  refine ⟨h1, h2, h3, h4, h5, h6, h0, fun y hy => ⟨(h7 y hy).1.1, fun e => (h7 y hy).1.2.resolve_left (fun z => z e), fun e => ((h7 y hy).2.resolve_left (fun z => z e)).1⟩, fun y hy e => ?_⟩
  rcases ((h7 y hy).2.resolve_left (fun z => z e)).2 with z | z
  · exact .inl z
  · exact .inr z
/-! ### the tables of code objects -/
abbrev nmT : Str := (envOfC "from_tops" (defScope s_from_tops) 0 0 .none).qual ++ "<lambda>"
abbrev nmU : Str := (envOfC "uniform" (defScope s_uniform) 0 0 .none).qual ++ "<lambda>"
abbrev nmQ : Str := (envOfC "quotas" (defScope s_quotas) 0 0 .none).qual ++ "<lambda>"
def tabL (a : Ad) : List (Addr × Str) := [(a.tb_from_tops, nmT), (a.tb_uniform, nmU), (a.tb_quotas, nmQ)]
theorem in_range {N m : Nat} {f : Nat → Bool} : In ((List.range N).map f) m = (decide (m < N) && f m) := by
  unfold In
  rw [List.getD_eq_getElem?_getD, List.getElem?_map]
  by_cases h : m < N
  · rw [List.getElem?_range h, decide_eq_true h]
    rfl
  · rw [List.getElem?_eq_none (by rw [List.length_range]; omega), decide_eq_false h]
    rfl
theorem pops_sub : ((List.range 64).all fun m => (List.range 64).all fun m' => !decide (Sub m' m) || decide (pop m' ≤ pop m)) = true := by decide +kernel
theorem pop_sub {m m' : Nat} (h : m < 64) (s : Sub m' m) : pop m' ≤ pop m := by
  have := sub_le s
  have z := List.all_eq_true.mp (List.all_eq_true.mp pops_sub m (List.mem_range.mpr h)) m' (List.mem_range.mpr (by omega))
  rw [decide_eq_true s, Bool.not_true, Bool.false_or] at z
  exact of_decide_eq_true z
theorem Fam.lt {n : Nat} {S : List Bool} (F : Fam n S) {m : Nat} (h : In S m = true) : m < 2 ^ n := by
  rcases Nat.lt_or_ge m S.length with z | z
  · rw [F.len] at z
    exact z
  · unfold In at h
    rw [List.getD_eq_getElem?_getD, List.getElem?_eq_none z] at h
    cases h
theorem subs_iff : ((List.range 7).all fun n => (allS n).all fun s => (allS n).all fun t => subL s t == decide (Sub (mk s) (mk t))) = true := by decide +kernel
theorem sub_of {n : Nat} {s t : List Nat} (n6 : n ≤ 6) (hs : s ∈ allS n) (ht : t ∈ allS n) : subL s t = decide (Sub (mk s) (mk t)) :=
  beq_iff_eq.mp (List.all_eq_true.mp (List.all_eq_true.mp (List.all_eq_true.mp subs_iff n (List.mem_range.mpr (by omega))) s hs) t ht)
theorem pop_len {n : Nat} {s : List Nat} (n6 : n ≤ 6) (hs : s ∈ allS n) : pop (mk s) = s.length := by
  unfold pop
  rw [(allS_at hs n6).1]
theorem less_subs : ((List.range 7).all fun n => (allS n).all fun s => s.all fun g => decide (Sub (mk (restL s [g])) (mk s))) = true := by decide +kernel
/-- what is closed already -/
theorem fit_closed {n : Nat} {S : List Bool} {fit : List Nat → Bool} (F : Fam n S) (h : ∀ s ∈ allS n, In S (mk s) = fit s) : ∀ s, s ∈ allS n → (In S (mk s) = true ↔ fit s = true ∧ ∀ g ∈ s, In S (mk (restL s [g])) = true) := fun s hs => by
  rw [h s hs]
  refine ⟨fun q => ⟨q, fun g hg => ?_⟩, fun q => q.1⟩
  have z := List.all_eq_true.mp (List.all_eq_true.mp (List.all_eq_true.mp less_subs n (List.mem_range.mpr (by have := F.n6; omega))) s hs) g hg
  exact F.down _ _ (of_decide_eq_true z) (by rw [h s hs]; exact q)
theorem uni_fam {n : Nat} {k : Int} (n1 : 1 ≤ n) (n6 : n ≤ 6) (k0 : 0 ≤ k) : Fam n ((List.range (2 ^ n)).map fun m => decide ((pop m : Int) ≤ k)) where
  n1 := n1
  n6 := n6
  len := by rw [List.length_map, List.length_range]
  zero := by
    rw [in_range, decide_eq_true (Nat.pow_pos (by decide) : 0 < 2 ^ n), show pop 0 = 0 from rfl]
    simpa using k0
  down := fun m m' s h => by
    have p64 := pow64 n6
    rw [in_range, Bool.and_eq_true, decide_eq_true_eq, decide_eq_true_eq] at h ⊢
    have := sub_le s
    have := pop_sub (show m < 64 by omega) s
    exact ⟨by omega, by omega⟩
section
variable {P : Program} {w : World} {K : PySem.W.Frag} {mg : Str → Option Value} {base : Heap} {a : Ad}
theorem hu_T (T : Txt K mg a) : ∀ p ∈ tabL a, p.1 = a.tb_from_tops → p.2 = nmT := fun p hp e => by
  simp only [tabL, List.mem_cons, List.not_mem_nil, or_false] at hp
  rcases hp with rfl | rfl | rfl
  · rfl
  · exact absurd e.symm T.tn_from_tops_uniform
  · exact absurd e.symm T.tn_from_tops_quotas
theorem hu_U (T : Txt K mg a) : ∀ p ∈ tabL a, p.1 = a.tb_uniform → p.2 = nmU := fun p hp e => by
  simp only [tabL, List.mem_cons, List.not_mem_nil, or_false] at hp
  rcases hp with rfl | rfl | rfl
  · exact absurd e T.tn_from_tops_uniform
  · rfl
  · exact absurd e.symm T.tn_uniform_quotas
theorem hu_Q (T : Txt K mg a) : ∀ p ∈ tabL a, p.1 = a.tb_quotas → p.2 = nmQ := fun p hp e => by
  simp only [tabL, List.mem_cons, List.not_mem_nil, or_false] at hp
  rcases hp with rfl | rfl | rfl
  · exact absurd e T.tn_from_tops_quotas
  · exact absurd e T.tn_uniform_quotas
  · rfl
theorem m_T : (a.tb_from_tops, nmT) ∈ tabL a := .head _
theorem m_U : (a.tb_uniform, nmU) ∈ tabL a := .tail _ (.head _)
theorem m_Q : (a.tb_quotas, nmQ) ∈ tabL a := .tail _ (.tail _ (.head _))
open LamX OwnLam in
theorem pe_famS {X : Cx} {a : Ad} {inner : Scope} {v : Str} {j : Nat} {c P0 : Addr} {params : Arguments} {e0 body : Expr} {t0 : TE} {t : XK → TE} {p lpos pos : Pos} (T : Txt X.K X.mg a) (TB : TabB X.base X.mg c P0) (hcode : X.env.code = .ref c) (hm : (P0, X.env.qual ++ "<lambda>") ∈ tabL a) (hu : ∀ p ∈ tabL a, p.1 = P0 → p.2 = X.env.qual ++ "<lambda>") (hr : Room 10 X.A) (hg : Gl X "family_of") (h0 : PE X e0 t0)
    (L : OneS X.env.scope inner X.N v j) (hdef : defaultsOf params X.env = ([], []))
    (hbind : ∀ (q : Str) (cl : List (Str × Addr)) (pm cv ctv u : Value), bindArgs (PySem.W.kla_fn "<lambda>" q params body inner cl pm cv ctv) ⟨[u], []⟩ = pure [(v, u)])
    (hbody : ∀ (A : Around) (outer : List Env) (s : Shared) (H : Hp) (E : XK) (f c' : Addr), Room 8 (A.deeper (lamEnv X inner s.heap.objs.size f c')) → PE (lamCx X A outer s H E inner f c') body (t E))
    (he : starEach [e0, .Lambda params body inner lpos] X.env = (false, eval e0 X.env) :: starEach [.Lambda params body inner lpos] X.env := by rfl) :
    PE X (.Call (.Name "family_of" p) [e0, .Lambda params body inner lpos] [] pos) (tTwo (tabL a) j (TTfit a.C_Family) t0 t) := by
  obtain ⟨oc, od, kV, doc, pm, an, cdv, ct, osl, e, lk, hcd⟩ := T.fn_family_of.ex
  have hb := T.b_family_of
  rw [e] at lk hb
  exact pe_two hg T.mg_family_of T.fn_family_of.kp lk hcd hb sc_family_of rfl (.inl rfl) (gives_family_of T hr) h0 TB hcode hm hu hr L hdef hbind hbody he
open LamX OwnLam OwnLamC in
theorem pe_famC {X : Cx} {a : Ad} {inner : Scope} {v : Str} {j : Nat} {c P0 : Addr} {params : Arguments} {e0 body : Expr} {t0 : TE} {t : XK → TE} {p lpos pos : Pos} (T : Txt X.K X.mg a) (TB : TabB X.base X.mg c P0) (hcode : X.env.code = .ref c) (hm : (P0, X.env.qual ++ "<lambda>") ∈ tabL a) (hu : ∀ p ∈ tabL a, p.1 = P0 → p.2 = X.env.qual ++ "<lambda>") (hr : Room 10 X.A) (hg : Gl X "family_of") (h0 : PE X e0 t0)
    (L : OneC X.env.scope inner X.N v j) (hdef : defaultsOf params X.env = ([], []))
    (hbind : ∀ (q : Str) (cl : List (Str × Addr)) (pm cv ctv u : Value), bindArgs (PySem.W.kla_fn "<lambda>" q params body inner cl pm cv ctv) ⟨[u], []⟩ = pure [(v, u)])
    (hbody : ∀ (A : Around) (outer : List Env) (s : Shared) (H : Hp) (E : XK) (f c' : Addr), Room 8 (A.deeper (lamEnvC v X inner s.heap.objs.size f c')) → PE (lamCxC v X A outer s H E inner f c') body (t E))
    (he : starEach [e0, .Lambda params body inner lpos] X.env = (false, eval e0 X.env) :: starEach [.Lambda params body inner lpos] X.env := by rfl) :
    PE X (.Call (.Name "family_of" p) [e0, .Lambda params body inner lpos] [] pos) (tTwo (tabL a) j (TTfit a.C_Family) t0 t) := by
  obtain ⟨oc, od, kV, doc, pm, an, cdv, ct, osl, e, lk, hcd⟩ := T.fn_family_of.ex
  have hb := T.b_family_of
  rw [e] at lk hb
  exact pe_twoC hg T.mg_family_of T.fn_family_of.kp lk hcd hb sc_family_of rfl (.inl rfl) (gives_family_of T hr) h0 TB hcode hm hu hr L hdef hbind hbody he
/-- a def whose code object is told -/
theorem okC {x qual : Str} {st : Stmt} {f c : Addr} {fd : FuncData} {N ps : List Str} {k : Nat} {sp : Sp} (F : Fun K x qual st f fd) (hc : fd.code = .ref c) (S : FnScope N ps (defScope st)) (len : ∀ vs H Q E, sp vs H Q E → vs.length = ps.length)
    (hbody : ∀ (A : Around) (outer : List Env) (s : Shared) (H : Hp) (vs : List V) (Q : VK) (E : XK), Room k (A.deeper (envOfC qual (defScope st) s.heap.objs.size f (.ref c))) → sp vs H Q E →
      ∃ t, PSs (cxOf C8.CX0 P w K mg base N qual (defScope st) f (.ref c) A outer s H E).nox (defBody st) t ∧ t { nx := fun _ H' => Q .non H', rt := Q } (L2.start N vs) H) : FnOk P w K mg base C8.CX0 (k + 1) f fd ps sp := by
  obtain ⟨oc, od, kV, doc, pm, an, cdv, ct, osl, rfl, lk, hcd⟩ := F.ex
  obtain rfl : cdv = .ref c := hc
  refine fn_of lk hcd S len fun A outer s H vs Q E hr hsp => ?_
  obtain ⟨t, h, q⟩ := hbody A outer s H vs Q E hr hsp
  exact ⟨t, h.nox, q⟩
theorem okNC {x qual : Str} {st : Stmt} {f c : Addr} {fd : FuncData} {N ps : List Str} {k : Nat} {sp : Sp} (F : Fun K x qual st f fd) (hc : fd.code = .ref c) (S : FnScope N ps (defScope st)) (len : ∀ vs H Q E, sp vs H Q E → vs.length = ps.length)
    (hbody : ∀ (A : Around) (outer : List Env) (s : Shared) (H : Hp) (vs : List V) (Q : VK) (E : XK), Room k (A.deeper (envOfC qual (defScope st) s.heap.objs.size f (.ref c))) → sp vs H Q E →
      ∃ t, PSs (cxOf (L2N.CX P w) P w K mg base N qual (defScope st) f (.ref c) A outer s H E) (defBody st) t ∧ t { nx := fun _ H' => Q .non H', rt := Q } (L2.start N vs) H) : FnOk P w K mg base (L2N.CX P w) (k + 1) f fd ps sp := by
  obtain ⟨oc, od, kV, doc, pm, an, cdv, ct, osl, rfl, lk, hcd⟩ := F.ex
  obtain rfl : cdv = .ref c := hc
  exact fn_of lk hcd S len fun A outer s H vs Q E hr hsp => hbody A outer s H vs Q E hr hsp
theorem lenK {X : Cx} (K : PySem.W.Frag) (hK : X.K = K := by rfl) : CallR X (.builtin "len") fun xs H Q => ∃ p ys, xs = [V.ref p] ∧ (SqL K H p ys ∨ SqT K H p ys) ∧ Q (V.int ys.length) H := by
  subst hK
  exact call_len_seq
/-! ### uniform -/
open LamX OwnLam
def uniS (n : Nat) (k : Int) : List Bool := (List.range (2 ^ n)).map fun m => decide ((pop m : Int) ≤ k)
def spUni (a : Ad) : Sp := fun vs H Q _ => ∃ (n : Nat) (k : Int), vs = [.int n, .int k] ∧ 1 ≤ n ∧ n ≤ 6 ∧ 0 ≤ k ∧ Tabs (tabL a) H ∧ ∀ g H', ExtN H H' → Tabs (tabL a) H' → FamV a.C_Family H' g n (uniS n k) → Q (.ref g) H'
theorem sc_uniform : FnScope ["size", "most", "things"] ["size", "most"] (defScope s_uniform) := ⟨rfl, rfl, rfl, by decide +kernel, rfl, by decide +kernel, by decide +kernel⟩
theorem ok_uniform (T : Txt K mg a) (TB : TabB base mg a.co_uniform a.tb_uniform) : FnOk P w K mg base CX0 11 a.a_uniform a.d_uniform ["size", "most"] (spUni a) := by
  refine okC T.fn_uniform T.cd_uniform sc_uniform (fun vs H Q E h => ?_) (fun A outer s H vs Q E hr h => ?_)
  · obtain ⟨n, k, rfl, _⟩ := h
    rfl
  · obtain ⟨n, kk, rfl, n1, n6, k0, hT, k⟩ := h
    refine ⟨_, (pss_one (ps_ret (pe_famS T TB rfl m_U (hu_U T) hr (by rfl) (pv 0) (oneS_by (maker := defScope s_uniform) (N := ["size", "most", "things"]) (a := "things") (j := 2) (by decide +kernel)) rfl (fun _ _ _ _ _ _ => by kernel_rfl) (fun A outer s H E f c' hr => (pe_cmpR op_le (pe_callB (lenK K) (by rfl) T.no_len PySem.boot_len (pa_cons (pv 2) pa_nil)) (pv 1) (nomark _)))))), ?_⟩
    show (_ : TS) _ [some (V.int n), some (V.int kk), none] H
    walk_at "rd"
    unfold tTwo
    walk_at "rd"
    refine ⟨hT, fun H1 e1 T1 => ?_⟩
    have F := uni_fam n1 n6 k0
    refine ⟨n, uniS n kk, fun s => decide ((s.length : Int) ≤ kk), rfl, F, fit_closed F fun s hs => ?_, fun t s' H2 Q1 hs e2 ht k1 => ?_, fun g H' _ e FV => k g H' (e1.trans (ExtN.of e)) (T1.ext e) FV⟩
    · unfold uniS
      rw [in_range, decide_eq_true (allS_at hs n6).2.1, Bool.true_and, pop_len n6 hs]
    · refine ⟨t, rfl, _, .inr (SqT.of ht), ?_⟩
      rw [iv_len]
      exact k1 _ (fun _ _ h => h)
end

end K21
namespace K21
open PySem PySem.Spec PyProof.Rows L2 Own OwnSeq OwnSet OwnComb OwnSort OwnHot OwnExN OwnProj
local macro_rules | `(tactic| walk_at "rd") => `(tactic| simp only [tSeq, tAsg, tOp, tUn, tVar, gName, gSub, rIxL, rIxT, rSetL, tC, rI0, rI, rU, rEq, rNe, tCons, tNil, tCB, tLst, tTup, tIfS, tAnd, tOr, tNot, tAndV, tOrV, tNotV, tTest, tB, tIf, tRet, tDrop, tNext, tBreak, tCont, tCall, tCallS, L2.WE, tMakeS, rIsS, rIsB, tChain, gSeq, gRest, gCons, gNil, tFor_seq, tFor_enumS, tLc_seq, tLc_enumS, rAny, rAll, L2.tMeth, StX.tStar, rIn, tLstRg, tRg1, tRg2, rSetI, rSortedSet, rInDT, rInD, rNotInD, rEqD, rNeD, iComb, tFld, tMake, tMkO, sFld, tOst, tNever, tBits, clv, isB,
  Rd.tFor_rng1, Rd.tFor_rng2, Rd.tFor_list, Rd.tFor_tup, Rd.tLc_list, Rd.tLc_tup, Rd.tLc_rng1, Rd.LcTurn, tYes, wipe, Rd.rLenL, Rd.rLenT, Rd.rIntI, Rd.rIxH, rIxHT,  HO.tup.injEq, Rd.at0, Rd.at1, Rd.at2, Rd.at3, Rd.ixN40, Rd.ixN41, Rd.ixN42, Rd.ixN43, Rd.scal_ii, cxOf,
  List.length_cons, List.length_nil, List.length_map, List.map_cons, List.map_nil, upd_same, decide_eq_true_eq, decide_true, decide_false, if_true, if_false, Bool.false_eq_true, Bool.not_true, Bool.not_false, HO.lst.injEq, HO.ins.injEq, List.set_cons_zero, List.set_cons_succ, List.getElem?_cons_zero, List.getElem?_cons_succ, List.append_nil, List.nil_append, List.cons_append, Option.some.injEq, V.ref.injEq, V.int.injEq, V.bl.injEq, List.cons.injEq, exists_eq_left', exists_and_left, exists_eq_left, true_and, and_true, and_self, and_assoc, implies_true, reduceCtorEq, Nat.reduceAdd])

open LamX
open OwnLam (tTwo)
/-- a set within one of the tops, or () -/
def topF (ts : List (List Nat)) (s : List Nat) : Bool := decide (s = []) || ts.any (subL s)
def topM (n : Nat) (ts : List (List Nat)) : List Bool := (List.range (2 ^ n)).map fun m => decide (m = 0) || ts.any fun t => decide (Sub m (mk t))
theorem top_fam {n : Nat} {ts : List (List Nat)} (n1 : 1 ≤ n) (n6 : n ≤ 6) : Fam n (topM n ts) where
  n1 := n1
  n6 := n6
  len := by unfold topM; rw [List.length_map, List.length_range]
  zero := by
    unfold topM
    rw [in_range, decide_eq_true (Nat.pow_pos (by decide) : 0 < 2 ^ n)]
    simp
  down := fun m m' s h => by
    unfold topM at h ⊢
    rw [in_range, Bool.and_eq_true, decide_eq_true_eq, Bool.or_eq_true, decide_eq_true_eq, List.any_eq_true] at h ⊢
    have := sub_le s
    refine ⟨by omega, ?_⟩
    rcases h.2 with z | ⟨t, ht, z⟩
    · exact .inl (by omega)
    · exact .inr ⟨t, ht, decide_eq_true (sub_trans s (of_decide_eq_true z))⟩
theorem top_at {n : Nat} {ts : List (List Nat)} (n6 : n ≤ 6) (ht : ∀ t ∈ ts, t ∈ allS n) {s : List Nat} (hs : s ∈ allS n) : In (topM n ts) (mk s) = topF ts s := by
  unfold topM topF
  rw [in_range, decide_eq_true (allS_at hs n6).2.1, Bool.true_and]
  have e0 : decide (mk s = 0) = decide (s = []) := decide_eq_decide.mpr ⟨fun z => by
    rw [← (allS_at hs n6).1, z]
    decide, fun z => by rw [z]; rfl⟩
  rw [e0]
  congr 1
  rw [Bool.eq_iff_iff, List.any_eq_true, List.any_eq_true]
  exact ⟨fun ⟨t, h1, h2⟩ => ⟨t, h1, by rw [sub_of n6 hs (ht t h1)]; exact h2⟩, fun ⟨t, h1, h2⟩ => ⟨t, h1, by rw [sub_of n6 hs (ht t h1)] at h2; exact h2⟩⟩
section
variable {P : Program} {w : World} {K : PySem.W.Frag} {mg : Str → Option Value} {base : Heap} {a : Ad}
theorem anyK {X : Cx} (K : PySem.W.Frag) (hc : X.calm = true := by rfl) (hK : X.K = K := by rfl) : CallR X (.builtin "any") (rAny K) := by
  subst hK
  exact cr_any hc
theorem allK {X : Cx} (K : PySem.W.Frag) (hc : X.calm = true := by rfl) (hK : X.K = K := by rfl) : CallR X (.builtin "all") (rAll K) := by
  subst hK
  exact cr_all hc
theorem pi_told {X : Cx} {e tg : Expr} {te : TE} (K : PySem.W.Frag) (he : PE X e te) (hK : X.K = K := by rfl) : PI X tg e (iSeq K te) := hK ▸ pi_seq he
theorem pi_toldL {X : Cx} {e tg : Expr} {te : TE} (K : PySem.W.Frag) (he : PE X e te) (hK : X.K = K := by rfl) : PI X tg e (iList K te) := hK ▸ pi_list he
/-! ### from_tops -/
def spTops (a : Ad) : Sp := fun vs H Q E => ∃ (vz : V) (wz : Wv) (p : Addr) (l : Bool) (xs : List V) (ws : List Wv), vs = [vz, .ref p] ∧ IsW a.C_Frac H vz wz ∧ H p = some (sq l xs) ∧ IsWs a.C_Frac H xs ws ∧ ws.length ≤ 64 ∧ Tabs (tabL a) H ∧
  (∀ n : Nat, wz = .int n → 1 ≤ n → n ≤ 6 → (∀ w ∈ ws, ascW n w = true) → ∀ g H', ExtN H H' → Tabs (tabL a) H' → FamV a.C_Family H' g n (topM n (ws.map numsW)) → Q (.ref g) H') ∧
  (inW 1 6 wz = false → ∀ d H', H d = none → H' d = some (.xd [("many", vz)]) → Same H H' → E (.ref a.C_WrongSize) (some d) H') ∧
  (∀ (n : Nat) (i : Nat) (w : Wv), wz = .int n → 1 ≤ n → n ≤ 6 → ws[i]? = some w → ascW n w = false → (∀ u ∈ ws.take i, ascW n u = true) → ∀ d H', H d = none → H' d = some (.xd [("at", .int (i : Nat))]) → Same H H' → E (.ref a.C_InvalidFamily) (some d) H')
theorem sc_from_tops : FnScope ["size", "tops", "given", "things", "top"] ["size", "tops"] (defScope s_from_tops) := ⟨rfl, rfl, rfl, by decide +kernel, rfl, by decide +kernel, by decide +kernel⟩
theorem ok_from_tops (T : Txt K mg a) (TB : TabB base mg a.co_from_tops a.tb_from_tops) : FnOk P w K mg base (L2N.CX P w) 11 a.a_from_tops a.d_from_tops ["size", "tops"] (spTops a) := by
  refine okNC T.fn_from_tops T.cd_from_tops sc_from_tops (fun vs H Q E h => ?_) (fun A outer s H vs Q E hr h => ?_)
  · obtain ⟨vz, wz, p, l, xs, ws, rfl, _⟩ := h
    rfl
  · obtain ⟨vz, wz, p, l, xs, ws, rfl, hz, hp, hx, l64, hT, k1, k2, k3⟩ := h
    refine ⟨_, (pss_cons (ps_set (i := 2) sc_from_tops.nd rfl (Or.inr rfl) (pe_callS (ok_clean_sets0 T) (hr.mono (by decide)) (by rfl) T.mg_clean_sets T.fn_clean_sets.kp T.b_clean_sets (fun σ => L2N.passAt (L2N.takes_of rfl rfl rfl rfl) σ) (pa_cons (pv 0) (pa_cons (pv 1) pa_nil))))
      (pss_one (ps_ret (pe_famC T TB rfl m_T (hu_T T) hr (by rfl) (pv 0) (oneC_by (maker := defScope s_from_tops) (N := ["size", "tops", "given", "things", "top"]) (a := "things") (j := 3) (by decide +kernel)) rfl (fun _ _ _ _ _ _ => by kernel_rfl) (fun A outer s H E f c' hr => (pe_or (pe_cmpR (eqD_at K hr.units) (pv 3) (pe_tup pa_nil) (nomark _)) (pe_one (pe_callB (anyK K) (by rfl) T.no_any (by decide +kernel) (pa_cons (pe_lc (own := [("top", 4)]) (by rfl) sc_from_tops.nd (pi_toldL K (pv 2)) (blkOk_by (own := [("top", 4)]) (N := ["size", "tops", "given", "things", "top"]) (sc := { kind := .function, names := [(Str.ofString "things", .cell), (Str.ofString "given", .free), (Str.ofString "any", .globalImplicit)], isGenerator := false, isCoroutine := false, more := [(Str.ofString "fast", Const.str (Str.ofString "things")), (Str.ofString "fast", Const.str (Str.ofString "top")), (Str.ofString "fast", Const.str (Str.ofString "given"))] }) (by decide +kernel)) (fun _ _ _ _ _ => pg_name (i := 4) sc_from_tops.nd rfl (Or.inl rfl)) (fun _ _ _ _ _ => pts_nil) (fun _ _ _ _ _ => (pe_call (ok_is_part T) (hr.mono (by decide)) (by rfl) T.mg_is_part T.fn_is_part.kp T.b_is_part .nil pass0 (pa_cons (pv 3) (pa_cons (pv 4) pa_nil))))) pa_nil))))))))), ?_⟩
    show (_ : TS) _ [some vz, some (V.ref p), none, none, none] H
    walk_at "rd"
    refine ⟨vz, wz, p, l, xs, ws, rfl, hz, hp, hx, l64, fun n en n1 n6 ok q ys H1 q0 e1 hq ty => ?_, k2, k3⟩
    subst en
    obtain rfl : vz = .int n := by cases hz; rfl
    unfold tTwo
    walk_at "rd"
    have F := top_fam (ts := ws.map numsW) n1 n6
    have ts : ∀ t ∈ ws.map numsW, t ∈ allS n := fun t ht => by
      obtain ⟨w', hw, rfl⟩ := List.mem_map.mp ht
      have a := ok w' hw
      cases w' with
      | lst us =>
        have a : ascF 0 n us = true := a
        obtain ⟨_, h2, h3⟩ := ascF_at (by decide) a
        exact asc_in n6 h2 fun g hg => by have := h3 g hg; omega
      | tup us =>
        have a : ascF 0 n us = true := a
        obtain ⟨_, h2, h3⟩ := ascF_at (by decide) a
        exact asc_in n6 h2 fun g hg => by have := h3 g hg; omega
      | _ => cases a
    refine ⟨hT.ext e1, fun H2 e2 T2 => ⟨n, topM n (ws.map numsW), topF (ws.map numsW), rfl, F, fit_closed F fun s hs => top_at n6 ts hs, fun t s' H3 Q1 hs e3 ht k => ?_, fun g H' _ e FV => k1 n rfl n1 n6 ok g H' ((ExtN.of e1).trans (e2.trans (ExtN.of e))) (T2.ext e) FV⟩⟩
    have sa := allS_at hs n6
    have nl : ∀ (l : List V) (ps : Array Value), HO.lst l ≠ .tbl ps := fun _ _ z => by cases z
    have nt : ∀ (l : List V) (ps : Array Value), HO.tup l ≠ .tbl ps := fun _ _ z => by cases z
    have hq3 := e3 _ _ (e2 _ _ hq (nl _))
    have ty3 : Tups H3 ys (ws.map numsW) := Tups.keep (fun q l h => e3 _ _ (e2 _ _ h (nt _))) ty
    refine ⟨by decide, fun z hz => ?_⟩
    have ez := same_upd (o := .tup []) hz
    refine ⟨_, dp_set (ez _ _ ht), _, dp_set (s := []) upd_same, sh_set _, sh_set _, ?_⟩
    rw [eqv_set]
    have k' : ∀ H4, Same H3 H4 → Q1 (.bl (decide (s' = []) || (ws.map numsW).any (subL s'))) H4 := k
    by_cases e0 : s' = []
    · rw [decide_eq_true e0, if_pos rfl]
      rw [decide_eq_true e0, Bool.true_or] at k'
      exact k' _ ez
    rw [decide_eq_false e0, if_neg (by decide)]
    rw [decide_eq_false e0, Bool.false_or] at k'
    have hq4 := ez _ _ hq3
    have ty4 := ty3.same ez
    have ht4 := ez _ _ ht
    generalize upd H3 z (.tup []) = H4 at ez hq4 ty4 ht4 ⊢
    refine ⟨⟨_, SqL.of hq4⟩, Rd.lcl_list (xs := ys) (fun D j H' => H4 D = none ∧ Same H4 H' ∧ H' D = some (.lst ((((ws.map numsW).take j).map (subL s')).map V.bl))) (fun D hD => ⟨hD, same_upd hD, upd_same⟩) (fun D j H' _ h => SqL.of (h.2.1 _ _ hq4)) (fun D j x H5 hx ⟨n5, e5, a5⟩ => ?_) (fun D H5 _ ⟨n5, e5, a5⟩ => ?_)⟩
    · obtain ⟨tp, htp, v, rfl, hv⟩ := (ty4.same e5).at hx
      have jl := (List.getElem?_eq_some_iff.mp htp).1
      rw [List.length_map] at jl
      walk_at "rd"
      refine ⟨t, v, false, false, s', tp, rfl, e5 _ _ ht4, hv, Nat.le_trans sa.2.2.2.1 n6, fun H6 e6 => ⟨_, e6 _ _ a5, small (by rw [List.length_map, List.length_map, List.length_take, List.length_map]; omega), n5, fun b o hb => (upd_ne (ne_of_none hb n5)).trans (e6 _ _ (e5 _ _ hb)), ?_⟩⟩
      rw [List.take_add_one, htp, List.map_append, List.map_append]
      rfl
    · rw [ty4.len, List.take_length] at a5
      refine ⟨D, rfl, _, SqL.of a5, ?_⟩
      rw [List.any_map]
      exact k' _ (ez.trans e5)
end

end K21
namespace K21
open PySem PySem.Spec PyProof.Rows L2 Own OwnSeq OwnSet OwnComb OwnSort OwnHot OwnExN OwnProj
local macro_rules | `(tactic| walk_at "rd") => `(tactic| simp only [tSeq, tAsg, tOp, tUn, tVar, gName, gSub, rIxL, rIxT, rSetL, tC, rI0, rI, rU, rEq, rNe, tCons, tNil, tCB, tLst, tTup, tIfS, tAnd, tOr, tNot, tAndV, tOrV, tNotV, tTest, tB, tIf, tRet, tDrop, tNext, tBreak, tCont, tCall, tCallS, L2.WE, tMakeS, rIsS, rIsB, tChain, gSeq, gRest, gCons, gNil, tFor_seq, tFor_enumS, tLc_seq, tLc_enumS, rAny, rAll, L2.tMeth, StX.tStar, rIn, tLstRg, tRg1, tRg2, rSetI, rSortedSet, rInDT, rInD, rNotInD, rEqD, rNeD, iComb, tFld, tMake, tMkO, sFld, tOst, tNever, tBits, clv, isB,
  Rd.tFor_rng1, Rd.tFor_rng2, Rd.tFor_list, Rd.tFor_tup, Rd.tLc_list, Rd.tLc_tup, Rd.tLc_rng1, Rd.LcTurn, tYes, wipe, Rd.rLenL, Rd.rLenT, Rd.rIntI, Rd.rIxH, rIxHT,  HO.tup.injEq, Rd.at0, Rd.at1, Rd.at2, Rd.at3, Rd.ixN40, Rd.ixN41, Rd.ixN42, Rd.ixN43, Rd.scal_ii, cxOf,
  List.length_cons, List.length_nil, List.length_map, List.map_cons, List.map_nil, upd_same, decide_eq_true_eq, decide_true, decide_false, if_true, if_false, Bool.false_eq_true, Bool.not_true, Bool.not_false, HO.lst.injEq, HO.ins.injEq, List.set_cons_zero, List.set_cons_succ, List.getElem?_cons_zero, List.getElem?_cons_succ, List.append_nil, List.nil_append, List.cons_append, Option.some.injEq, V.ref.injEq, V.int.injEq, V.bl.injEq, List.cons.injEq, exists_eq_left', exists_and_left, exists_eq_left, true_and, and_true, and_self, and_assoc, implies_true, reduceCtorEq, Nat.reduceAdd])

open LamX
open OwnLam (tTwo)
def metL (s t : List Nat) : Bool := s.any fun g => t.contains g
def manyL (s t : List Nat) : Nat := (s.filter fun g => t.contains g).length
def nestB (s t : List Nat) : Bool := !metL s t || (subL s t || subL t s)
abbrev Cl := List Nat × Int
/-- classes as values -/
def ClsV (H : Hp) : List V → List Cl → Prop
  | [], [] => True
  | v :: vs, c :: cs => (∃ q l g l', v = .ref q ∧ H q = some (sq l [.ref g, .int c.2]) ∧ H g = some (sq l' (iv c.1))) ∧ ClsV H vs cs
  | _, _ => False
theorem ClsV.len {H : Hp} : ∀ {xs : List V} {cs : List Cl}, ClsV H xs cs → xs.length = cs.length
  | [], [], _ => rfl
  | _ :: _, _ :: _, h => congrArg (· + 1) h.2.len
  | [], _ :: _, h => h.elim
  | _ :: _, [], h => h.elim
theorem ClsV.at {H : Hp} : ∀ {xs : List V} {cs : List Cl} {i : Nat} {x : V}, ClsV H xs cs → xs[i]? = some x → ∃ c, cs[i]? = some c ∧ ∃ q l g l', x = .ref q ∧ H q = some (sq l [.ref g, .int c.2]) ∧ H g = some (sq l' (iv c.1))
  | _ :: _, c :: _, 0, _, h, e => ⟨c, rfl, by cases Option.some.inj e; exact h.1⟩
  | _ :: _, _ :: _, i + 1, _, h, e => ClsV.at (i := i) h.2 e
  | [], [], _, _, _, e => by cases e
  | [], _ :: _, _, _, h, _ => h.elim
  | _ :: _, [], _, _, h, _ => h.elim
theorem ClsV.keep {H H' : Hp} : ∀ {xs : List V} {cs : List Cl}, (∀ q l ys, H q = some (sq l ys) → H' q = some (sq l ys)) → ClsV H xs cs → ClsV H' xs cs
  | [], [], _, _ => trivial
  | _ :: _, _ :: _, k, ⟨⟨q, l, g, l', e, h1, h2⟩, r⟩ => ⟨⟨q, l, g, l', e, k _ _ _ h1, k _ _ _ h2⟩, ClsV.keep k r⟩
  | [], _ :: _, _, h => h.elim
  | _ :: _, [], _, h => h.elim
theorem ClsV.same {H H' : Hp} (e : Same H H') {xs : List V} {cs : List Cl} (h : ClsV H xs cs) : ClsV H' xs cs := h.keep fun _ _ _ z => e _ _ z
theorem cnt_all : ((List.range 7).all fun n => (allS n).all fun s => (allS n).all fun t => decide (pop (mk s &&& mk t) = manyL s t)) = true := by decide +kernel
theorem cnt_mask {n : Nat} {s t : List Nat} (n6 : n ≤ 6) (hs : s ∈ allS n) (ht : t ∈ allS n) : pop (mk s &&& mk t) = manyL s t :=
  of_decide_eq_true (List.all_eq_true.mp (List.all_eq_true.mp (List.all_eq_true.mp cnt_all n (List.mem_range.mpr (by omega))) s hs) t ht)
def quoF (cs : List Cl) (s : List Nat) : Bool := cs.all fun c => decide ((manyL s c.1 : Int) ≤ c.2)
def quoS (n : Nat) (cs : List Cl) : List Bool := (List.range (2 ^ n)).map fun m => cs.all fun c => decide ((pop (m &&& mk c.1) : Int) ≤ c.2)
theorem quo_fam {n : Nat} {cs : List Cl} (n1 : 1 ≤ n) (n6 : n ≤ 6) (h0 : ∀ c ∈ cs, 0 ≤ c.2) : Fam n (quoS n cs) where
  n1 := n1
  n6 := n6
  len := by unfold quoS; rw [List.length_map, List.length_range]
  zero := by
    unfold quoS
    rw [in_range, decide_eq_true (Nat.pow_pos (by decide) : 0 < 2 ^ n), Bool.true_and, List.all_eq_true]
    intro c hc
    rw [Nat.zero_and, show pop 0 = 0 from rfl]
    exact decide_eq_true (h0 c hc)
  down := fun m m' s h => by
    have p64 := pow64 n6
    unfold quoS at h ⊢
    rw [in_range, Bool.and_eq_true, decide_eq_true_eq, List.all_eq_true] at h ⊢
    have := sub_le s
    refine ⟨by omega, fun c hc => decide_eq_true ?_⟩
    have a := of_decide_eq_true (h.2 c hc)
    have b := pop_sub (m := m &&& mk c.1) (m' := m' &&& mk c.1) (Nat.lt_of_le_of_lt Nat.and_le_left (by omega)) (by
      unfold Sub at *
      rw [show m' &&& mk c.1 &&& (m &&& mk c.1) = (m' &&& m) &&& mk c.1 by rw [Nat.and_assoc, ← Nat.and_assoc (mk c.1), Nat.and_comm (mk c.1) m, Nat.and_assoc m, Nat.and_self, Nat.and_assoc], s])
    omega
theorem quo_at {n : Nat} {cs : List Cl} (n6 : n ≤ 6) (hc : ∀ c ∈ cs, c.1 ∈ allS n) {s : List Nat} (hs : s ∈ allS n) : In (quoS n cs) (mk s) = quoF cs s := by
  unfold quoS quoF
  rw [in_range, decide_eq_true (allS_at hs n6).2.1, Bool.true_and, Bool.eq_iff_iff, List.all_eq_true, List.all_eq_true]
  exact ⟨fun h c m => by have := h c m; rwa [cnt_mask n6 hs (hc c m)] at this, fun h c m => by rw [cnt_mask n6 hs (hc c m)]; exact h c m⟩
/-- a class that overlaps an earlier one -/
def overB (cs : List Cl) (i : Nat) : Bool := (cs.take i).any fun c => !nestB (cs.getD i ([], 0)).1 c.1
section
variable {P : Program} {w : World} {K : PySem.W.Frag} {mg : Str → Option Value} {base : Heap} {a : Ad}
/-! ### touches, many_of, is_nested -/
def spTouches : Sp := fun vs H Q _ => ∃ (p q : Addr) (l l' : Bool) (s t : List Nat), vs = [.ref p, .ref q] ∧ H p = some (sq l (iv s)) ∧ H q = some (sq l' (iv t)) ∧ s.length ≤ 6 ∧ ∀ H', Same H H' → Q (.bl (metL s t)) H'
theorem sc_touches : FnScope ["one", "other", "thing"] ["one", "other"] (defScope s_touches) := ⟨rfl, rfl, rfl, by decide +kernel, rfl, by decide +kernel, by decide +kernel⟩
theorem ok_touches (T : Txt K mg a) : FnOk P w K mg base CX0 1 a.a_touches a.d_touches ["one", "other"] spTouches := by
  refine T.fn_touches.ok sc_touches (fun vs H Q E h => ?_) (fun cdv A outer s H vs Q E hr h => ?_)
  · obtain ⟨p, q, l, l', s, t, rfl, _⟩ := h
    rfl
  · obtain ⟨p, q, l, l', s, t, rfl, hp, hq, h6, k⟩ := h
    refine ⟨_, (pss_one (ps_ret (pe_callB (cr_any rfl) (by rfl) T.no_any (by decide +kernel) (pa_cons (pe_lc (own := [("thing", 2)]) (by rfl) sc_touches.nd (pi_seq (pv 0)) (blkOk_by (own := [("thing", 2)]) (N := ["one", "other", "thing"]) (sc := defScope s_touches) (by decide +kernel)) (fun _ _ _ _ _ => pg_name (i := 2) sc_touches.nd rfl (Or.inl rfl)) (fun _ _ _ _ _ => pts_nil) (fun _ _ _ _ _ => (pe_cmpR (op_inK K) (pv 2) (pv 1) (by with_unfolding_all rfl)))) pa_nil)))), ?_⟩
    show (_ : TS) _ [some (V.ref p), some (V.ref q), none] H
    walk_at "rd"
    refine ⟨l, _, hp, lcl_goes goes_seq (fun D i H5 => H D = none ∧ Same H H5 ∧ H5 D = some (.lst (((s.take i).map fun g => t.contains g).map V.bl))) (fun D hD => ⟨hD, same_upd hD, upd_same⟩)
      (fun D i H5 _ h => h.2.1 _ _ hp) (fun D i x H5 H5' hi ⟨n5, e5, a5⟩ ⟨eq5, hx⟩ => ?_) (fun D H5 _ ⟨n5, e5, a5⟩ => ?_)⟩
    · subst eq5
      rw [iv_len] at hi
      obtain ⟨g, hg, rfl⟩ : ∃ g, s[i]? = some g ∧ x = V.int (g : Nat) := by
        unfold iv at hx
        rw [List.getElem?_map] at hx
        cases z : s[i]? with
        | none => rw [z] at hx; cases hx
        | some g => rw [z] at hx; exact ⟨g, rfl, (Option.some.inj hx).symm⟩
      walk_at "rd"
      refine ⟨_, seqOr (e5 _ _ hq), rfl, iv_flat t, _, a5, small (by rw [List.length_map, List.length_map, List.length_take]; omega), n5, fun b o hb => (upd_ne (ne_of_none hb n5)).trans (e5 _ _ hb), ?_⟩
      rw [List.take_add_one, hg, List.map_append, List.map_append, inV_iv]
      rfl
    · rw [iv_len, List.take_length] at a5
      exact ⟨D, rfl, _, SqL.of a5, by rw [List.any_map]; exact k _ e5⟩
def spMany : Sp := fun vs H Q _ => ∃ (p q : Addr) (l l' : Bool) (s t : List Nat), vs = [.ref p, .ref q] ∧ H p = some (sq l (iv s)) ∧ H q = some (sq l' (iv t)) ∧ s.length ≤ 6 ∧ ∀ H', Same H H' → Q (.int (manyL s t : Nat)) H'
theorem sc_many_of : FnScope ["held", "things", "thing"] ["held", "things"] (defScope s_many_of) := ⟨rfl, rfl, rfl, by decide +kernel, rfl, by decide +kernel, by decide +kernel⟩
theorem ok_many_of (T : Txt K mg a) : FnOk P w K mg base CX0 1 a.a_many_of a.d_many_of ["held", "things"] spMany := by
  refine T.fn_many_of.ok sc_many_of (fun vs H Q E h => ?_) (fun cdv A outer s H vs Q E hr h => ?_)
  · obtain ⟨p, q, l, l', s, t, rfl, _⟩ := h
    rfl
  · obtain ⟨p, q, l, l', s, t, rfl, hp, hq, h6, k⟩ := h
    refine ⟨_, (pss_one (ps_ret (pe_callB (lenK K) (by rfl) T.no_len PySem.boot_len (pa_cons (pe_lc (own := [("thing", 2)]) (by rfl) sc_many_of.nd (pi_seq (pv 0)) (blkOk_by (own := [("thing", 2)]) (N := ["held", "things", "thing"]) (sc := defScope s_many_of) (by decide +kernel)) (fun _ _ _ _ _ => pg_name (i := 2) sc_many_of.nd rfl (Or.inl rfl)) (fun _ _ _ _ _ => pts_one (pt_cmpR (op_inK K) (pv 2) (pv 1) (by with_unfolding_all rfl))) (fun _ _ _ _ _ => (pv 2))) pa_nil)))), ?_⟩
    show (_ : TS) _ [some (V.ref p), some (V.ref q), none] H
    walk_at "rd"
    refine ⟨l, _, hp, lcl_goes goes_seq (fun D i H5 => H D = none ∧ Same H H5 ∧ H5 D = some (.lst (iv ((s.take i).filter fun g => t.contains g)))) (fun D hD => ⟨hD, same_upd hD, upd_same⟩)
      (fun D i H5 _ h => h.2.1 _ _ hp) (fun D i x H5 H5' hi ⟨n5, e5, a5⟩ ⟨eq5, hx⟩ => ?_) (fun D H5 _ ⟨n5, e5, a5⟩ => ?_)⟩
    · subst eq5
      obtain ⟨g, hg, rfl⟩ := at_iv hx
      walk_at "rd"
      refine ⟨_, seqOr (e5 _ _ hq), rfl, iv_flat t, ?_⟩
      have st : (s.take (i + 1)).filter (fun g => t.contains g) = (s.take i).filter (fun g => t.contains g) ++ (if t.contains g = true then [g] else []) := by
        rw [List.take_add_one, hg, List.filter_append]
        cases z : t.contains g with
        | true => rw [show (some g).toList = [g] from rfl, List.filter_cons_of_pos (by rw [z])]; rfl
        | false => rw [show (some g).toList = [g] from rfl, List.filter_cons_of_neg (by rw [z]; decide)]; rfl
      rw [inV_iv, st]
      cases z : t.contains g with
      | true =>
        rw [if_pos rfl, if_pos rfl]
        refine ⟨_, a5, small ?_, n5, fun b o hb => (upd_ne (ne_of_none hb n5)).trans (e5 _ _ hb), ?_⟩
        · rw [iv_len]
          have := List.length_filter_le (fun g => t.contains g) (s.take i)
          rw [List.length_take] at this
          omega
        · unfold iv
          rw [List.map_append]
          rfl
      | false =>
        rw [if_neg (by decide), if_neg (by decide), List.append_nil]
        exact ⟨n5, e5, a5⟩
    · rw [iv_len, List.take_length] at a5
      refine ⟨D, rfl, _, .inl (SqL.of a5), ?_⟩
      rw [iv_len]
      exact k _ e5
def spNest : Sp := fun vs H Q _ => ∃ (p q : Addr) (l l' : Bool) (s t : List Nat), vs = [.ref p, .ref q] ∧ H p = some (sq l (iv s)) ∧ H q = some (sq l' (iv t)) ∧ s.length ≤ 6 ∧ t.length ≤ 6 ∧ ∀ H', Same H H' → Q (.bl (nestB s t)) H'
theorem sc_is_nested : FnScope ["one", "other"] ["one", "other"] (defScope s_is_nested) := ⟨rfl, rfl, rfl, by decide +kernel, rfl, by decide +kernel, by decide +kernel⟩
theorem ok_is_nested (T : Txt K mg a) : FnOk P w K mg base CX0 2 a.a_is_nested a.d_is_nested ["one", "other"] spNest := by
  refine T.fn_is_nested.ok sc_is_nested (fun vs H Q E h => ?_) (fun cdv A outer s H vs Q E hr h => ?_)
  · obtain ⟨p, q, l, l', s, t, rfl, _⟩ := h
    rfl
  · obtain ⟨p, q, l, l', s, t, rfl, hp, hq, h6, h6', k⟩ := h
    refine ⟨_, (pss_one (ps_ret (pe_or (pe_not (pe_call (ok_touches T) (hr.mono (by decide)) (by rfl) T.mg_touches T.fn_touches.kp T.b_touches .nil pass0 (pa_cons (pv 0) (pa_cons (pv 1) pa_nil)))) (pe_or (pe_call (ok_is_part T) (hr.mono (by decide)) (by rfl) T.mg_is_part T.fn_is_part.kp T.b_is_part .nil pass0 (pa_cons (pv 0) (pa_cons (pv 1) pa_nil))) (pe_one (pe_call (ok_is_part T) (hr.mono (by decide)) (by rfl) T.mg_is_part T.fn_is_part.kp T.b_is_part .nil pass0 (pa_cons (pv 1) (pa_cons (pv 0) pa_nil)))))))), ?_⟩
    show (_ : TS) _ [some (V.ref p), some (V.ref q)] H
    walk_at "rd"
    refine ⟨p, q, l, l', s, t, rfl, hp, hq, h6, fun H1 e1 => ⟨_, rfl, ?_⟩⟩
    unfold nestB at k
    cases z : metL s t with
    | false =>
      rw [if_pos (by decide)]
      rw [z] at k
      exact k _ e1
    | true =>
      rw [if_neg (by decide)]
      rw [z] at k
      refine ⟨p, q, l, l', s, t, rfl, e1 _ _ hp, e1 _ _ hq, h6, fun H2 e2 => ⟨_, rfl, ?_⟩⟩
      have e12 := e1.trans e2
      cases y : subL s t with
      | true =>
        rw [if_pos rfl]
        rw [y] at k
        exact k _ e12
      | false =>
        rw [if_neg (by decide)]
        rw [y] at k
        exact ⟨q, p, l', l, t, s, rfl, e12 _ _ hq, e12 _ _ hp, h6', fun H3 e3 => k _ (e12.trans e3)⟩
end

end K21
namespace K21
open PySem PySem.Spec PyProof.Rows L2 Own OwnSeq OwnSet OwnComb OwnSort OwnHot OwnExN OwnProj
local macro_rules | `(tactic| walk_at "rd") => `(tactic| simp only [tSeq, tAsg, tOp, tUn, tVar, gName, gSub, rIxL, rIxT, rSetL, tC, rI0, rI, rU, rEq, rNe, tCons, tNil, tCB, tLst, tTup, tIfS, tAnd, tOr, tNot, tAndV, tOrV, tNotV, tTest, tB, tIf, tRet, tDrop, tNext, tBreak, tCont, tCall, tCallS, L2.WE, tMakeS, rIsS, rIsB, tChain, gSeq, gRest, gCons, gNil, tFor_seq, tFor_enumS, tLc_seq, tLc_enumS, rAny, rAll, L2.tMeth, StX.tStar, rIn, tLstRg, tRg1, tRg2, rSetI, rSortedSet, rInDT, rInD, rNotInD, rEqD, rNeD, iComb, tFld, tMake, tMkO, sFld, tOst, tNever, tBits, clv, isB,
  Rd.tFor_rng1, Rd.tFor_rng2, Rd.tFor_list, Rd.tFor_tup, Rd.tLc_list, Rd.tLc_tup, Rd.tLc_rng1, Rd.LcTurn, tYes, wipe, Rd.rLenL, Rd.rLenT, Rd.rIntI, Rd.rIxH, rIxHT,  HO.tup.injEq, Rd.at0, Rd.at1, Rd.at2, Rd.at3, Rd.ixN40, Rd.ixN41, Rd.ixN42, Rd.ixN43, Rd.scal_ii, cxOf,
  List.length_cons, List.length_nil, List.length_map, List.map_cons, List.map_nil, upd_same, decide_eq_true_eq, decide_true, decide_false, if_true, if_false, Bool.false_eq_true, Bool.not_true, Bool.not_false, HO.lst.injEq, HO.ins.injEq, List.set_cons_zero, List.set_cons_succ, List.getElem?_cons_zero, List.getElem?_cons_succ, List.append_nil, List.nil_append, List.cons_append, Option.some.injEq, V.ref.injEq, V.int.injEq, V.bl.injEq, List.cons.injEq, exists_eq_left', exists_and_left, exists_eq_left, true_and, and_true, and_self, and_assoc, implies_true, reduceCtorEq, Nat.reduceAdd])

open LamX
open OwnLam (tTwo)
theorem Seqs.app {H : Hp} : ∀ {vs ws : List V} {gs hs : List (List Nat)}, Seqs H vs gs → Seqs H ws hs → Seqs H (vs ++ ws) (gs ++ hs)
  | [], _, [], _, _, h => h
  | _ :: _, _, _ :: _, _, ⟨a, r⟩, h => ⟨a, Seqs.app r h⟩
  | [], _, _ :: _, _, h, _ => h.elim
  | _ :: _, _, [], _, h, _ => h.elim
theorem cutV_to (xs : List V) {i : Nat} (h : i ≤ xs.length) : cutV xs none (some (i : Nat)) = xs.take i := by
  unfold cutV
  rw [HT.sIx_none, HT.sIx_nat, List.drop_zero, Nat.sub_zero, Nat.min_eq_left h]
theorem Seqs.take {H : Hp} : ∀ {xs : List V} {ss : List (List Nat)} (i : Nat), Seqs H xs ss → Seqs H (xs.take i) (ss.take i)
  | _, _, 0, _ => trivial
  | [], [], _ + 1, _ => trivial
  | _ :: _, _ :: _, i + 1, ⟨a, r⟩ => ⟨a, Seqs.take i r⟩
  | [], _ :: _, _ + 1, h => h.elim
  | _ :: _, [], _ + 1, h => h.elim
section
variable {P : Program} {w : World} {K : PySem.W.Frag} {mg : Str → Option Value} {base : Heap} {a : Ad}
/-! ### quotas -/
def spQuo (a : Ad) : Sp := fun vs H Q E => ∃ (n : Nat) (p : Addr) (l : Bool) (xs : List V) (cs : List Cl), vs = [.int n, .ref p] ∧ 1 ≤ n ∧ n ≤ 6 ∧ H p = some (sq l xs) ∧ ClsV H xs cs ∧ cs.length ≤ 6 ∧ (∀ c ∈ cs, c.1 ∈ allS n ∧ 0 ≤ c.2) ∧ Tabs (tabL a) H ∧
  ((∀ i, i < cs.length → overB cs i = false) → ∀ g H', ExtN H H' → Tabs (tabL a) H' → FamV a.C_Family H' g n (quoS n cs) → Q (.ref g) H') ∧
  (∀ i, i < cs.length → overB cs i = true → (∀ j, j < i → overB cs j = false) → ∀ d H', H d = none → H' d = some (.xd [("at", .int (i : Nat))]) → Same H H' → E (.ref a.C_NotNested) (some d) H')
theorem sc_quotas : FnScope ["size", "classes", "group", "groups", "at", "_", "earlier", "held", "things", "limit"] ["size", "classes"] (defScope s_quotas) := ⟨rfl, rfl, rfl, by decide +kernel, rfl, by decide +kernel, by decide +kernel⟩
theorem ok_quotas (T : Txt K mg a) (TB : TabB base mg a.co_quotas a.tb_quotas) : FnOk P w K mg base (L2N.CX P w) 11 a.a_quotas a.d_quotas ["size", "classes"] (spQuo a) := by
  refine okNC T.fn_quotas T.cd_quotas sc_quotas (fun vs H Q E h => ?_) (fun A outer s H vs Q E hr h => ?_)
  · obtain ⟨n, p, l, xs, cs, rfl, _⟩ := h
    rfl
  · obtain ⟨n, p, l, xs, cs, rfl, n1, n6, hp, hx, l6, hc, hT, k1, k2⟩ := h
    refine ⟨_, (pss_cons (ps_setLc (i := 3) (own := [("group", 2), ("_", 5)]) (by rfl) sc_quotas.nd rfl rfl (sw_true rfl rfl rfl (by decide +kernel)) (pi_told K (pv 1)) (blkOk_by (own := [("group", 2), ("_", 5)]) (N := ["size", "classes", "group", "groups", "at", "_", "earlier", "held", "things", "limit"]) (sc := defScope s_quotas) (by decide +kernel)) (fun _ _ _ _ _ => pg_seq (n := 2) rfl (pgs_cons (pg_name (i := 2) sc_quotas.nd rfl (Or.inl rfl)) (pgs_cons (pg_name (i := 5) sc_quotas.nd rfl (Or.inl rfl)) pgs_nil))) (fun _ _ _ _ _ => pts_nil) (fun _ _ _ _ _ => (pv 2)))
      (pss_cons (ps_for (passes_of rfl) rfl (pi_enumS (by rfl) T.no_enumerate (pa_cons (pv 3) pa_nil)) (pg_seq (n := 2) rfl (pgs_cons (pg_name (i := 4) sc_quotas.nd rfl (Or.inl rfl)) (pgs_cons (pg_name (i := 2) sc_quotas.nd rfl (Or.inr rfl)) pgs_nil)))
        (pss_one (ps_if (pt_not (pt_val (pe_callB (cr_all rfl) (by rfl) T.no_all (by decide +kernel) (pa_cons (pe_lc (own := [("earlier", 6)]) (by rfl) sc_quotas.nd (pi_told K (pe_slice sl_list (pv 3) po_none (po_some (pv 4)))) (blkOk_by (own := [("earlier", 6)]) (N := ["size", "classes", "group", "groups", "at", "_", "earlier", "held", "things", "limit"]) (sc := defScope s_quotas) (by decide +kernel)) (fun _ _ _ _ _ => pg_name (i := 6) sc_quotas.nd rfl (Or.inl rfl)) (fun _ _ _ _ _ => pts_nil) (fun _ _ _ _ _ => (pe_call (ok_is_nested T) (hr.mono (by decide)) (by rfl) T.mg_is_nested T.fn_is_nested.kp T.b_is_nested .nil pass0 (pa_cons (pv 2) (pa_cons (pv 6) pa_nil))))) pa_nil)))) (pss_one (L2N.ps_raise rfl (L2N.takes_of rfl rfl rfl rfl) (pmk_oexN T.ex_NotNested T.xi_NotNested T.ti_NotNested (ok_NotNested_init T) (hr.mono (by decide)) T.b_NotNested_init pass0 (by rfl) T.mg_NotNested (pa_cons (pv 4) pa_nil)))) pss_nil)))
      (pss_one (ps_ret (pe_famC T TB rfl m_Q (hu_Q T) hr (by rfl) (pv 0) (oneC_by (maker := defScope s_quotas) (N := ["size", "classes", "group", "groups", "at", "_", "earlier", "held", "things", "limit"]) (a := "held") (j := 7) (by decide +kernel)) rfl (fun _ _ _ _ _ _ => by kernel_rfl) (fun A outer s H E f c' hr => (pe_callB (allK K) (by rfl) T.no_all (by decide +kernel) (pa_cons (pe_lc (own := [("things", 8), ("limit", 9)]) (by rfl) sc_quotas.nd (pi_told K (pv 1)) (blkOk_by (own := [("things", 8), ("limit", 9)]) (N := ["size", "classes", "group", "groups", "at", "_", "earlier", "held", "things", "limit"]) (sc := { kind := .function, names := [(Str.ofString "held", .cell), (Str.ofString "classes", .free), (Str.ofString "all", .globalImplicit)], isGenerator := false, isCoroutine := false, more := [(Str.ofString "fast", Const.str (Str.ofString "held")), (Str.ofString "fast", Const.str (Str.ofString "things")), (Str.ofString "fast", Const.str (Str.ofString "limit")), (Str.ofString "fast", Const.str (Str.ofString "classes"))] }) (by decide +kernel)) (fun _ _ _ _ _ => pg_seq (n := 2) rfl (pgs_cons (pg_name (i := 8) sc_quotas.nd rfl (Or.inl rfl)) (pgs_cons (pg_name (i := 9) sc_quotas.nd rfl (Or.inl rfl)) pgs_nil))) (fun _ _ _ _ _ => pts_nil) (fun _ _ _ _ _ => (pe_cmpR op_le (pe_call (ok_many_of T) (hr.mono (by decide)) (by rfl) T.mg_many_of T.fn_many_of.kp T.b_many_of .nil pass0 (pa_cons (pv 7) (pa_cons (pv 8) pa_nil))) (pv 9) (nomark _)))) pa_nil)))))))), ?_⟩
    show (_ : TS) _ [some (V.int n), some (V.ref p), none, none, none, none, none, none, none, none] H
    walk_at "rd"
    have len := hx.len
    refine ⟨l, xs, hp, lcl_goes goes_seq (fun D i H5 => H D = none ∧ Same H H5 ∧ ∃ us, H5 D = some (.lst us) ∧ Seqs H us ((cs.take i).map (·.1))) (fun D hD => ⟨hD, same_upd hD, [], upd_same, trivial⟩)
      (fun D i H5 _ h => h.2.1 _ _ hp) (fun D i x H5 H5' hi ⟨n5, e5, us, a5, t5⟩ ⟨eq5, hx5⟩ => ?_) (fun D H5 nD ⟨n5, e5, us, a5, t5⟩ => ?_)⟩
    · subst eq5
      obtain ⟨c, hci, q, l1, g, l2, rfl, hq, hg⟩ := hx.at hx5
      walk_at "rd"
      have ul := t5.len
      rw [List.length_map, List.length_take] at ul
      have gD : ∀ {b : Addr} {o : HO}, H b = some o → b ≠ D := fun h z => by rw [z, n5] at h; cases h
      refine ⟨l1, _, e5 _ _ hq, rfl, _, _, rfl, _, _, rfl, rfl, us, a5, small (by omega), n5, fun b o hb => (upd_ne (gD hb)).trans (e5 _ _ hb), ?_⟩
      rw [List.take_add_one, hci, List.map_append]
      exact Seqs.app t5 ⟨⟨g, l2, rfl, hg⟩, trivial⟩
    rw [len, List.take_length] at t5
    have t5 := Seqs.same e5 t5
    have tl := t5.len
    rw [List.length_map] at tl
    refine ⟨D, rfl, true, us, a5, loop_goes goes_enum (fun σ H' => ∃ o2 o4 o6, σ = [some (V.int n), some (V.ref p), o2, some (V.ref D), o4, none, o6, none, none, none] ∧ Same H5 H' ∧ ∀ i, i < cs.length → overB cs i = false)
      (fun i σ H' => ∃ o2 o4 o6, σ = [some (V.int n), some (V.ref p), o2, some (V.ref D), o4, none, o6, none, none, none] ∧ Same H5 H' ∧ ∀ j, j < i → overB cs j = false) ⟨none, none, none, rfl, fun _ _ h => h, fun j h => absurd h (Nat.not_lt_zero _)⟩ (fun i σ H' _ ⟨_, _, _, _, e, _⟩ => e _ _ a5) ?_ (fun σ H' ⟨o2, o4, o6, q1, q2, q3⟩ => ⟨o2, o4, o6, q1, q2, by rw [tl] at q3; exact q3⟩) ?_⟩
    · rintro bk hbk i y σ H3 H3' hi ⟨o2, o4, o6, rfl, e3, ok3⟩ ⟨t, z, rfl, ht, rfl, hz'⟩
      obtain ⟨s', hs, g, l1, rfl, hg⟩ := (t5.same e3).at hz'
      have te := same_upd (o := .tup [.int (i : Nat), .ref g]) ht
      have e4 := e3.trans te
      walk_at "rd"
      refine ⟨false, _, rfl, rfl, _, _, rfl, _, _, rfl, rfl, ?_⟩
      simp only [tSl, rSlL, tNoPart, tPart]
      walk_at "rd"
      have usl : us.length = cs.length := by rw [tl]
      have il := (List.getElem?_eq_some_iff.mp hs).1
      rw [List.length_map] at il
      have a5' := te _ _ (e3 _ _ a5)
      refine ⟨us, SqL.of a5', fun p1 np1 => ⟨true, _, rfl, ?_⟩⟩
      rw [cutV_to us (by omega)]
      have tt := ((t5.same e4).same (same_upd (o := .lst (us.take i)) np1)).take i
      have e6 := e4.trans (same_upd (o := .lst (us.take i)) np1)
      have hg' := (te.trans (same_upd (o := .lst (us.take i)) np1)) _ _ hg
      have hp1 : upd (upd H3 t (.tup [.int (i : Nat), .ref g])) p1 (.lst (us.take i)) p1 = some (sq true (us.take i)) := upd_same
      rw [← List.map_take] at tt
      obtain ⟨c, hci, rfl⟩ : ∃ c, cs[i]? = some c ∧ s' = c.1 := by
        rw [List.getElem?_map] at hs
        cases z : cs[i]? with
        | none => rw [z] at hs; cases hs
        | some c => rw [z] at hs; exact ⟨c, rfl, (Option.some.inj hs).symm⟩
      have c6 := (allS_at (hc c (List.mem_of_getElem? hci)).1 n6).2.2.2.1
      have oi : overB cs i = !(((cs.take i).map fun d => nestB c.1 d.1).all id) := by
        unfold overB
        rw [List.getD_eq_getElem?_getD, hci, Option.getD_some, List.all_map, List.not_all_eq_any_not]
        rfl
      refine lcl_goes goes_seq (fun D2 j H5' => upd (upd H3 t (.tup [.int (i : Nat), .ref g])) p1 (.lst (us.take i)) D2 = none ∧ Same (upd (upd H3 t (.tup [.int (i : Nat), .ref g])) p1 (.lst (us.take i))) H5' ∧ H5' D2 = some (.lst ((((cs.take i).take j).map fun d => nestB c.1 d.1).map V.bl)))
        (fun D2 hD2 => ⟨hD2, same_upd hD2, upd_same⟩) (fun D2 j H5' _ h => h.2.1 _ _ hp1) (fun D2 j x H5' H6 hj ⟨n5', e5', b5⟩ ⟨eq5, hx5⟩ => ?_) (fun D2 H5' nD2 ⟨n5', e5', b5⟩ => ?_)
      · subst eq5
        obtain ⟨gs, hgs, q, l2, rfl, hq⟩ := (tt.same e5').at hx5
        obtain ⟨d, hdj, rfl⟩ : ∃ d, (cs.take i)[j]? = some d ∧ gs = d.1 := by
          rw [List.getElem?_map] at hgs
          cases z : (cs.take i)[j]? with
          | none => rw [z] at hgs; cases hgs
          | some d => rw [z] at hgs; exact ⟨d, rfl, (Option.some.inj hgs).symm⟩
        have d6 := (allS_at (hc d (List.mem_of_mem_take (List.mem_of_getElem? hdj))).1 n6).2.2.2.1
        walk_at "rd"
        refine ⟨g, q, l1, l2, c.1, d.1, rfl, e5' _ _ hg', hq, Nat.le_trans c6 n6, Nat.le_trans d6 n6, fun H7 e7 => ?_⟩
        refine ⟨_, e7 _ _ b5, small (by rw [List.length_map, List.length_map, List.length_take, List.length_take]; omega), n5', fun b o hb => (upd_ne (ne_of_none hb n5')).trans (e7 _ _ (e5' _ _ hb)), ?_⟩
        rw [List.take_add_one (l := cs.take i), hdj, List.map_append, List.map_append]
        rfl
      · have tkl : us.length ≥ i := by omega
        rw [show (us.take i).length = (cs.take i).length by rw [List.length_take, List.length_take]; omega, List.take_length] at b5
        refine ⟨D2, rfl, _, SqL.of b5, ?_⟩
        by_cases za : (!(((cs.take i).map fun d => nestB c.1 d.1).all id)) = true
        · rw [if_pos za]
          exact ⟨by decide, fun x hx => ex_made hx fun d H' hd ed e => k2 i (by omega) (oi.trans za) ok3 d H' ((e5.trans (e6.trans e5')).free hd) ed ((e5.trans (e6.trans e5')).trans e)⟩
        · rw [if_neg za]
          refine ⟨e6.trans e5', fun j hj => ?_⟩
          by_cases y : j = i
          · rw [y, oi]; simpa using za
          · exact ok3 j (by omega)
    · rintro σ H3 ⟨o2, o4, o6, rfl, e3, ok3⟩
      walk_at "rd"
      unfold tTwo
      walk_at "rd"
      have e53 := e5.trans e3
      have F := quo_fam (cs := cs) n1 n6 fun c hm => (hc c hm).2
      refine ⟨hT.ext e53, fun H1 e1 T1 => ⟨n, quoS n cs, quoF cs, rfl, F, fit_closed F fun s hs => quo_at n6 (fun c hm => (hc c hm).1) hs, fun t s' H4 Q1 hs e4 ht k => ?_, fun g H' _ e FV => k1 ok3 g H' ((ExtN.of e53).trans (e1.trans (ExtN.of e))) (T1.ext e) FV⟩⟩
      have sa := allS_at hs n6
      have ns : ∀ (l : Bool) (ys : List V) (ps : Array Value), sq l ys ≠ .tbl ps := fun l _ _ z => by cases l <;> cases z
      have lift : ∀ {q : Addr} {l : Bool} {ys : List V}, H q = some (sq l ys) → H4 q = some (sq l ys) := fun h => e4 _ _ (e1 _ _ (e53 _ _ h) (ns _ _))
      have hp4 := lift hp
      have hx4 : ClsV H4 xs cs := hx.keep fun _ _ _ h => lift h
      refine ⟨l, xs, hp4, lcl_goes goes_seq (fun D i H5 => H4 D = none ∧ Same H4 H5 ∧ H5 D = some (.lst (((cs.take i).map fun c => decide ((manyL s' c.1 : Int) ≤ c.2)).map V.bl))) (fun D hD => ⟨hD, same_upd hD, upd_same⟩)
        (fun D i H5 _ h => h.2.1 _ _ hp4) (fun D i x H5 H5' hi ⟨n5, e5, a5⟩ ⟨eq5, hx5⟩ => ?_) (fun D H5 nD ⟨n5, e5, a5⟩ => ?_)⟩
      · subst eq5
        obtain ⟨c, hci, q, l1, g, l2, rfl, hq, hg⟩ := (hx4.same e5).at hx5
        have il := (List.getElem?_eq_some_iff.mp hci).1
        walk_at "rd"
        refine ⟨l1, _, hq, rfl, _, _, rfl, _, _, rfl, rfl, t, g, false, l2, s', c.1, rfl, e5 _ _ ht, hg, Nat.le_trans sa.2.2.2.1 n6, fun H6 e6 => ?_⟩
        refine ⟨_, rfl, _, rfl, _, e6 _ _ a5, small (by rw [List.length_map, List.length_map, List.length_take]; omega), n5, fun b o hb => (upd_ne (ne_of_none hb n5)).trans (e6 _ _ (e5 _ _ hb)), ?_⟩
        rw [List.take_add_one, hci, List.map_append, List.map_append]
        rfl
      · rw [len, List.take_length] at a5
        refine ⟨D, rfl, _, SqL.of a5, ?_⟩
        rw [List.all_map]
        exact k _ e5
end

end K21
namespace K21
open PySem PySem.Spec PyProof.Rows L2 Own OwnSeq OwnSet OwnComb OwnSort OwnHot OwnExN OwnProj
local macro_rules | `(tactic| walk_at "rd") => `(tactic| simp only [tSeq, tAsg, tOp, tUn, tVar, gName, gSub, rIxL, rIxT, rSetL, tC, rI0, rI, rU, rEq, rNe, tCons, tNil, tCB, tLst, tTup, tIfS, tAnd, tOr, tNot, tAndV, tOrV, tNotV, tTest, tB, tIf, tRet, tDrop, tNext, tBreak, tCont, tCall, tCallS, L2.WE, tMakeS, rIsS, rIsB, tChain, gSeq, gRest, gCons, gNil, tFor_seq, tFor_enumS, tLc_seq, tLc_enumS, rAny, rAll, L2.tMeth, StX.tStar, rIn, tLstRg, tRg1, tRg2, rSetI, rSortedSet, rInDT, rInD, rNotInD, rEqD, rNeD, iComb, tFld, tMake, tMkO, sFld, tOst, tNever, tBits, clv, isB,
  Rd.tFor_rng1, Rd.tFor_rng2, Rd.tFor_list, Rd.tFor_tup, Rd.tLc_list, Rd.tLc_tup, Rd.tLc_rng1, Rd.LcTurn, tYes, wipe, Rd.rLenL, Rd.rLenT, Rd.rIntI, Rd.rIxH, rIxHT,  HO.tup.injEq, Rd.at0, Rd.at1, Rd.at2, Rd.at3, Rd.ixN40, Rd.ixN41, Rd.ixN42, Rd.ixN43, Rd.scal_ii, cxOf,
  List.length_cons, List.length_nil, List.length_map, List.map_cons, List.map_nil, upd_same, decide_eq_true_eq, decide_true, decide_false, if_true, if_false, Bool.false_eq_true, Bool.not_true, Bool.not_false, HO.lst.injEq, HO.ins.injEq, List.set_cons_zero, List.set_cons_succ, List.getElem?_cons_zero, List.getElem?_cons_succ, List.append_nil, List.nil_append, List.cons_append, Option.some.injEq, V.ref.injEq, V.int.injEq, V.bl.injEq, List.cons.injEq, exists_eq_left', exists_and_left, exists_eq_left, true_and, and_true, and_self, and_assoc, implies_true, reduceCtorEq, Nat.reduceAdd])

theorem sortedK {X : Cx} (K : PySem.W.Frag) (hu : X.A.units + 64 < cLine) (hK : X.K = K := by rfl) : CallR X (.builtin "sorted") (OwnSort.rSortedD K) := by
  subst hK
  exact OwnSort.cr_sortedD hu
/-- a pair of a set's size and the set -/
def PrAt (H : Hp) (x : Addr × List Nat) : Prop := ∃ t, H x.1 = some (.tup [.int x.2.length, .ref t]) ∧ H t = some (.tup (iv x.2))
theorem PrAt.same {H H' : Hp} {x : Addr × List Nat} (e : Same H H') : PrAt H x → PrAt H' x := fun ⟨t, a, b⟩ => ⟨t, e _ _ a, e _ _ b⟩
theorem PrAt.upd {H : Hp} {x : Addr × List Nat} {D : Addr} {l l' : List V} (hD : H D = some (.lst l)) : PrAt H x → PrAt (upd H D (.lst l')) x := fun ⟨t, a, b⟩ =>
  ⟨t, (upd_ne fun e => by rw [e, hD] at a; cases a).trans a, (upd_ne fun e => by rw [e, hD] at b; cases b).trans b⟩
theorem alike_ints : ∀ s t : List Nat, PySem.W.alikeAll (s.map fun g => PyData.int (g : Nat)) (t.map fun g => PyData.int (g : Nat)) = true
  | [], [] => by simp [PySem.W.alikeAll]
  | [], _ :: _ => by simp [PySem.W.alikeAll]
  | _ :: _, [] => by simp [PySem.W.alikeAll]
  | x :: s, y :: t => by
    simp only [List.map_cons, PySem.W.alikeAll, PySem.W.alike, alike_ints s t, Bool.and_self]
theorem alike_enc (s t : List Nat) : PySem.W.alike (enc s) (enc t) = true := by
  unfold enc
  simp only [PySem.W.alike, PySem.W.alikeAll, alike_ints s t, Bool.and_self]
theorem enc_depth (s : List Nat) : (enc s).depth = 2 := by
  have h := (lay_ints s).2
  unfold enc
  simp [PyData.depth, PyData.depthAll, h]
theorem PrAt.dp {K : PySem.W.Frag} {H : Hp} {x : Addr × List Nat} : PrAt H x → Dp K H (.ref x.1) (enc x.2) := fun ⟨t, a, b⟩ => .tup (SqT.of a) (.cons (.int _) (.cons (dp_set b) .nil))
theorem sort_pairs (L : List (Addr × List Nat)) : ((L.map fun x => (x.1, enc x.2)).mergeSort (PySem.W.dataLe false (·.2))) = (L.mergeSort fun x y => leS x.2 y.2).map fun x => (x.1, enc x.2) :=
  (List.map_mergeSort (f := fun x : Addr × List Nat => (x.1, enc x.2)) (r := fun x y => leS x.2 y.2) fun _ _ _ _ => rfl).symm
theorem sort_sets (L : List (Addr × List Nat)) : (L.mergeSort fun x y => leS x.2 y.2).map (·.2) = (L.map (·.2)).mergeSort leS :=
  List.map_mergeSort fun _ _ _ _ => rfl
section
variable {P : Program} {w : World} {K : PySem.W.Frag} {mg : Str → Option Value} {base : Heap} {a : Ad}
/-! ### _law_ordered -/
def spOrd : Sp := fun vs H Q _ => ∃ (p : Addr) (n : Nat) (S : List Bool), vs = [.ref p] ∧ H p = some (.lst (S.map V.bl)) ∧ Fam n S ∧ ∀ r us H', H r = none → Same H H' → H' r = some (.lst us) → Tups H' us (famL n S) → Q (.ref r) H'
theorem sc_law_ordered : FnScope ["inside", "pairs", "mask", "pair"] ["inside"] (defScope s_law_ordered) := ⟨rfl, rfl, rfl, by decide +kernel, rfl, by decide +kernel, by decide +kernel⟩
theorem ok_law_ordered (T : Txt K mg a) : FnOk P w K mg base CX0 2 a.a_law_ordered a.d_law_ordered ["inside"] spOrd := by
  refine T.fn_law_ordered.ok sc_law_ordered (fun vs H Q E h => ?_) (fun cdv A outer s H vs Q E hr h => ?_)
  · obtain ⟨p, n, S, rfl, _⟩ := h
    rfl
  · obtain ⟨p, n, S, rfl, hp, F, k⟩ := h
    refine ⟨_, (pss_cons (ps_set (i := 1) sc_law_ordered.nd rfl (Or.inl rfl) (pe_callB (sortedK K hr.units) (by rfl) T.no_sorted (by decide +kernel) (pa_cons (pe_lc (own := [("mask", 2)]) (by rfl) sc_law_ordered.nd (pi_range1 (by rfl) T.no_range (pa_cons (pe_callB Rd.call_lenL (by rfl) T.no_len PySem.boot_len (pa_cons (pv 0) pa_nil)) pa_nil)) (blkOk_by (own := [("mask", 2)]) (N := ["inside", "pairs", "mask", "pair"]) (sc := defScope s_law_ordered) (by decide +kernel)) (fun _ _ _ _ _ => pg_name (i := 2) sc_law_ordered.nd rfl (Or.inl rfl)) (fun _ _ _ _ _ => pts_one (pt_val (pe_ix Rd.ixH (pv 0) (pv 2) (fun _ _ => rfl)))) (fun _ _ _ _ _ => (pe_tup (pa_cons (pe_callB (lenK K) (by rfl) T.no_len PySem.boot_len (pa_cons (pe_call (ok_law_things T) (hr.mono (by decide)) (by rfl) T.mg_law_things T.fn_law_things.kp T.b_law_things .nil pass0 (pa_cons (pv 2) pa_nil)) pa_nil)) (pa_cons (pe_call (ok_law_things T) (hr.mono (by decide)) (by rfl) T.mg_law_things T.fn_law_things.kp T.b_law_things .nil pass0 (pa_cons (pv 2) pa_nil)) pa_nil))))) pa_nil)))
      (pss_one (ps_ret (pe_lc (own := [("pair", 3)]) (by rfl) sc_law_ordered.nd (pi_list (pv 1)) (blkOk_by (own := [("pair", 3)]) (N := ["inside", "pairs", "mask", "pair"]) (sc := defScope s_law_ordered) (by decide +kernel)) (fun _ _ _ _ _ => pg_name (i := 3) sc_law_ordered.nd rfl (Or.inl rfl)) (fun _ _ _ _ _ => pts_nil) (fun _ _ _ _ _ => (pe_ix ixHT (pv 3) pe_int (fun _ _ => rfl))))))), ?_⟩
    show (_ : TS) _ [some (V.ref p), none, none, none] H
    have n6 := F.n6
    have p64 := pow64 n6
    walk_at "rd"
    refine ⟨_, SqL.of hp, ?_⟩
    rw [List.length_map, F.len, Int.toNat_natCast]
    refine ⟨by have : 0 < 2 ^ n := Nat.pow_pos (by decide); omega, by omega, ?_⟩
    refine Rd.lcl_rng (fun D i H5 => H D = none ∧ Same H H5 ∧ ∃ L : List (Addr × List Nat), H5 D = some (.lst (L.map fun x => V.ref x.1)) ∧ (∀ x ∈ L, PrAt H5 x) ∧ L.map (·.2) = ((List.range i).filter (In S)).map bits) (fun D hD => ⟨hD, same_upd hD, [], upd_same, (fun _ h => by cases h), rfl⟩) (fun D i H5 hi ⟨n5, e5, L, a5, pL, eL⟩ => ?_) (fun D H5 _ ⟨n5, e5, L, a5, pL, eL⟩ => ?_)
    · have Ll : L.length ≤ i := by
        have z := congrArg List.length eL
        rw [List.length_map, List.length_map] at z
        have := List.length_filter_le (In S) (List.range i)
        rw [List.length_range] at this
        omega
      have rs := List.range_succ (n := i)
      walk_at "rd"
      rw [Int.zero_add]
      refine ⟨_, e5 _ _ hp, _, in_bool (by rw [F.len]; exact hi), _, rfl, ite2 (fun hc => ?_) (fun hc => ⟨n5, e5, L, a5, pL, ?_⟩)⟩
      · refine ⟨i, rfl, fun r1 H6 h1 e6 a6 => ⟨r1, rfl, _, .inr (SqT.of a6), i, rfl, fun r2 H7 h2 e7 a7 => ⟨by decide, fun q hq => ?_⟩⟩⟩
        have e8 : Same H7 (upd H7 q (.tup [V.int (iv (bits i)).length, V.ref r2])) := same_upd hq
        have a8 := (e8 _ _ (e7 _ _ (e6 _ _ a5)))
        have e9 := ((e5.trans e6).trans e7).trans e8
        refine ⟨_, a8, small (by rw [List.length_map]; omega), n5, fun b o hb => (upd_ne (ne_of_none hb n5)).trans (e9 _ _ hb), L ++ [(q, bits i)], by rw [List.map_append]; rfl, fun x hx => ?_, ?_⟩
        · refine PrAt.upd a8 ?_
          rcases List.mem_append.mp hx with hx | hx
          · exact (pL x hx).same ((e6.trans e7).trans e8)
          · obtain rfl := List.mem_singleton.mp hx
            refine ⟨r2, ?_, e8 _ _ a7⟩
            rw [iv_len]
            exact upd_same
        · rw [List.map_append, eL, rs, List.filter_append, List.filter_cons_of_pos hc, List.map_append]
          rfl
      · rw [rs, List.filter_append, List.filter_cons_of_neg hc, List.filter_nil, List.append_nil]
        exact eL
    · have Lm : (L.map (·.2)).Perm (famL n S) := by
        rw [eL]
        have z := (perm_masks n6).filter fun s => In S (mk s)
        rw [List.filter_map] at z
        rw [show (List.range (2 ^ n)).filter (In S) = (List.range (2 ^ n)).filter ((fun s => In S (mk s)) ∘ bits) from List.filter_congr fun m hm => by
          show In S m = In S (mk (bits m))
          rw [(bits_in n6 (List.mem_range.mp hm)).1]]
        exact z
      have sorted := sorted_eq n6 Lm
      refine ⟨D, L.map fun x => (x.1, enc x.2), rfl, ?_, fun b hb => ?_, ?_, ?_, fun b hb => ?_, ?_, fun q hq => ?_⟩
      · rw [List.map_map]
        exact SqL.of a5
      · obtain ⟨x, hx, rfl⟩ := List.mem_map.mp hb
        exact (pL x hx).dp
      · rw [List.map_map]
        intro d hd d' hd'
        obtain ⟨x, _, rfl⟩ := List.mem_map.mp hd
        obtain ⟨y, _, rfl⟩ := List.mem_map.mp hd'
        exact alike_enc _ _
      · rw [List.map_map]
        refine .inl fun d hd => ?_
        obtain ⟨x, _, rfl⟩ := List.mem_map.mp hd
        exact ⟨_, _, rfl⟩
      · obtain ⟨x, hx, rfl⟩ := List.mem_map.mp hb
        show (enc x.2).depth ≤ 60
        rw [enc_depth]
        decide
      · rw [List.length_map, show L.length = ((List.range (2 ^ n)).filter (In S)).length by have z := congrArg List.length eL; rwa [List.length_map, List.length_map] at z]
        have := List.length_filter_le (In S) (List.range (2 ^ n))
        rw [List.length_range] at this
        exact Nat.le_of_lt (small (by omega))
      · rw [sort_pairs, List.map_map]
        rw [← sort_sets] at sorted
        refine ⟨q, rfl, ⟨_, SqL.of upd_same⟩, ?_⟩
        have pM : ∀ x ∈ L.mergeSort fun x y => leS x.2 y.2, PrAt H5 x := fun x hx => pL x (List.mem_mergeSort.mp hx)
        generalize (L.mergeSort fun x y => leS x.2 y.2) = M at *
        have e6 : Same H5 (upd H5 q (HO.lst (List.map ((fun b => V.ref b.fst) ∘ fun x => (x.fst, enc x.snd)) M))) := same_upd hq
        have pM := fun x hx => (pM x hx).same e6
        have aM : upd H5 q (HO.lst (List.map ((fun b => V.ref b.fst) ∘ fun x => (x.fst, enc x.snd)) M)) q = some (.lst (M.map fun x => V.ref x.1)) := upd_same
        have fq : H q = none := e5.free hq
        revert pM aM
        generalize upd H5 q (HO.lst (List.map ((fun b => V.ref b.fst) ∘ fun x => (x.fst, enc x.snd)) M)) = H6 at e6
        intro pM aM
        have Ml : M.length < 65 := by
          have z := congrArg List.length sorted
          rw [List.length_map] at z
          have := List.length_filter_le (fun s => In S (mk s)) (allS n)
          rw [allS_len n6] at this
          omega
        refine Rd.lcl_list (xs := M.map fun x => V.ref x.1) (fun D2 i H7 => H6 D2 = none ∧ Same H6 H7 ∧ ∃ us, H7 D2 = some (.lst us) ∧ us.length = i ∧ Tups H7 us ((M.map (·.2)).take i)) (fun D2 hD => ⟨hD, same_upd hD, [], upd_same, rfl, trivial⟩) (fun D2 i H7 _ p => p.2.1.seq (SqL.of aM)) (fun D2 i x H7 hx ⟨n7, e7, us, a7, ul, tu⟩ => ?_) (fun D2 H7 _ ⟨n7, e7, us, a7, ul, tu⟩ => ?_)
        · rw [List.getElem?_map] at hx
          obtain ⟨m, hm, rfl⟩ : ∃ m, M[i]? = some m ∧ x = V.ref m.1 := by
            cases e : M[i]? with
            | none => rw [e] at hx; cases hx
            | some m => rw [e] at hx; exact ⟨m, rfl, (Option.some.inj hx).symm⟩
          have il := (List.getElem?_eq_some_iff.mp hm).1
          obtain ⟨t, b1, b2⟩ := pM m (List.mem_of_getElem? hm)
          walk_at "rd"
          have e8 : Same H6 (upd H7 D2 (.lst (us ++ [V.ref t]))) := fun b o hb => (upd_ne (ne_of_none hb n7)).trans (e7 _ _ hb)
          refine ⟨_, e7 _ _ b1, _, rfl, _, a7, small (by omega), n7, e8, by rw [List.length_append, ul]; rfl, ?_⟩
          rw [List.take_add_one, List.getElem?_map, hm]
          exact Tups.app (Tups.upd a7 tu) ⟨⟨t, rfl, e8 _ _ b2⟩, trivial⟩
        · rw [List.take_of_length_le (by rw [List.length_map, List.length_map]; exact Nat.le_refl _), sorted] at tu
          exact k D2 us H7 (e5.free (e6.free n7)) ((e5.trans e6).trans e7) a7 tu
end

end K21
namespace K21
open PySem PySem.Spec PyProof.Rows L2 Own OwnSeq OwnSet OwnComb OwnSort OwnHot OwnExN OwnProj
local macro_rules | `(tactic| walk_at "rd") => `(tactic| simp only [tSeq, tAsg, tOp, tUn, tVar, gName, gSub, rIxL, rIxT, rSetL, tC, rI0, rI, rU, rEq, rNe, tCons, tNil, tCB, tLst, tTup, tIfS, tAnd, tOr, tNot, tAndV, tOrV, tNotV, tTest, tB, tIf, tRet, tDrop, tNext, tBreak, tCont, tCall, tCallS, L2.WE, tMakeS, rIsS, rIsB, tChain, gSeq, gRest, gCons, gNil, tFor_seq, tFor_enumS, tLc_seq, tLc_enumS, rAny, rAll, L2.tMeth, StX.tStar, rIn, tLstRg, tRg1, tRg2, rSetI, rSortedSet, rInDT, rInD, rNotInD, rEqD, rNeD, iComb, tFld, tMake, tMkO, sFld, tOst, tNever, tBits, clv, isB,
  Rd.tFor_rng1, Rd.tFor_rng2, Rd.tFor_list, Rd.tFor_tup, Rd.tLc_list, Rd.tLc_tup, Rd.tLc_rng1, Rd.LcTurn, tYes, wipe, Rd.rLenL, Rd.rLenT, Rd.rIntI, Rd.rIxH, rIxHT,  HO.tup.injEq, Rd.at0, Rd.at1, Rd.at2, Rd.at3, Rd.ixN40, Rd.ixN41, Rd.ixN42, Rd.ixN43, Rd.scal_ii, cxOf,
  List.length_cons, List.length_nil, List.length_map, List.map_cons, List.map_nil, upd_same, decide_eq_true_eq, decide_true, decide_false, if_true, if_false, Bool.false_eq_true, Bool.not_true, Bool.not_false, HO.lst.injEq, HO.ins.injEq, List.set_cons_zero, List.set_cons_succ, List.getElem?_cons_zero, List.getElem?_cons_succ, List.append_nil, List.nil_append, List.cons_append, Option.some.injEq, V.ref.injEq, V.int.injEq, V.bl.injEq, List.cons.injEq, exists_eq_left', exists_and_left, exists_eq_left, true_and, and_true, and_self, and_assoc, implies_true, reduceCtorEq, Nat.reduceAdd])

theorem famL_len {n : Nat} {S : List Bool} (h : n ≤ 6) : (famL n S).length ≤ 2 ^ n := by
  have := List.length_filter_le (fun s => In S (mk s)) (allS n)
  rw [allS_len h] at this
  exact this
theorem Tups.get {H : Hp} {xs : List V} {gs : List (List Nat)} {i : Nat} {g : List Nat} (h : Tups H xs gs) (hg : gs[i]? = some g) : ∃ q, xs[i]? = some (.ref q) ∧ H q = some (.tup (iv g)) := by
  have il := (List.getElem?_eq_some_iff.mp hg).1
  have e := List.getElem?_eq_getElem (l := xs) (i := i) (by rw [h.len]; exact il)
  obtain ⟨g', hg', q, hq, a⟩ := h.at e
  rw [hg] at hg'
  rw [e, hq]
  exact ⟨q, rfl, Option.some.inj hg' ▸ a⟩
def rIsO (K : PySem.W.Frag) : List V → Hp → VK → Prop := fun xs H Q => ∃ f C : Addr, xs = [.ref f, .ref C] ∧ TyOf K H (.ref f) (.ref C) ∧ Q (.bl true) H
theorem selfKit {K : PySem.W.Frag} {C : Addr} : PySem.W.kitOne K (.ref C) (.ref C) = some true := by
  unfold PySem.W.kitOne
  exact if_pos (beq_self_eq_true _)
theorem call_isO {X : Cx} (K : PySem.W.Frag) (hK : X.K = K := by rfl) : CallR X (.builtin "isinstance") (rIsO K) := by
  subst hK
  exact Rd.CallR.imp call_isi fun xs H Q ⟨f, C, e, h, q⟩ => ⟨.ref f, .ref C, .ref C, .ref C, true, e, .own _, .base h, selfKit, q⟩
section
variable {P : Program} {w : World} {K : PySem.W.Frag} {mg : Str → Option Value} {base : Heap} {a : Ad}
theorem tup_but {b : Addr} {H H' : Hp} {l : List V} (e : But b H H') (hb : H b = some (.lst l)) : ∀ q k, H q = some (.tup k) → H' q = some (.tup k) := fun q k h => e q _ (fun z => by rw [z, hb] at h; cases h) h
theorem cut {t u : TS} {D : Ends} {σ : L2.St} {H : Hp} (G : L2.St → Hp → Prop) (h : ∀ R : L2.St → Hp → Prop, (∀ σ H, G σ H → R σ H) → t { D with nx := R } σ H) (k : ∀ σ H, G σ H → u D σ H) : tSeq t u D σ H := h (u D) k
/-! ### _law_integer, _law_is, _law_shape -/
theorem sc_law_integer : FnScope ["value"] ["value"] (defScope s_law_integer) := ⟨rfl, rfl, rfl, by decide +kernel, rfl, by decide +kernel, by decide +kernel⟩
theorem ok_law_integer (T : Txt K mg a) : FnOk P w K mg base CX0 1 a.a_law_integer a.d_law_integer ["value"] (spWhole a.C_Frac) := by
  refine T.fn_law_integer.ok sc_law_integer (fun vs H Q E h => ?_) (fun cdv A outer s H vs Q E hr h => ?_)
  · obtain ⟨v, g, rfl, _⟩ := h
    rfl
  · obtain ⟨v, g, rfl, t, k⟩ := h
    refine ⟨_, (pss_one (ps_ret (pe_and (pe_callB (call_isK T .int) (by rfl) T.no_isinstance (by decide +kernel) (pa_cons (pv 0) (pa_cons (pe_bltn (v := .ty "int") (u := .type "int") (by rfl) T.no_int (by decide +kernel) rfl) pa_nil))) (pe_one (pe_not (pe_callB (call_isK T .bl) (by rfl) T.no_isinstance (by decide +kernel) (pa_cons (pv 0) (pa_cons (pe_bltn (v := .ty "bool") (u := .type "bool") (by rfl) T.no_bool (by decide +kernel) rfl) pa_nil)))))))), ?_⟩
    show (_ : TS) _ [some v] H
    walk_at "rd"
    refine ⟨v, g, rfl, t, fun _ => by decide, ?_⟩
    refine ⟨_, rfl, ?_⟩
    cases g with
    | int => exact ite2 (fun _ => ⟨v, _, rfl, t, (fun z => nomatch z), _, rfl, k⟩) (fun h => absurd rfl h)
    | bl => exact ite2 (fun _ => ⟨v, _, rfl, t, (fun z => nomatch z), _, rfl, k⟩) (fun h => absurd rfl h)
    | _ => exact ite2 (fun (h : false = true) => nomatch h) (fun _ => k)
def spLIs (C : Addr) : Sp := fun vs H Q _ => ∃ (f r n : Nat) (S : List Bool), vs = [.ref f, .int n, .ref r] ∧ FamV C H f n S ∧ H r = some (.lst (S.map V.bl)) ∧ ∀ H', Same H H' → Q (.bl true) H'
theorem sc_law_is : FnScope ["family", "size", "inside", "sets", "k", "at"] ["family", "size", "inside"] (defScope s_law_is) := ⟨rfl, rfl, rfl, by decide +kernel, rfl, by decide +kernel, by decide +kernel⟩
theorem ok_law_is (T : Txt K mg a) : FnOk P w K mg base CX0 3 a.a_law_is a.d_law_is ["family", "size", "inside"] (spLIs a.C_Family) := by
  refine T.fn_law_is.ok sc_law_is (fun vs H Q E h => ?_) (fun cdv A outer s H vs Q E hr h => ?_)
  · obtain ⟨f, r, n, S, rfl, _⟩ := h
    rfl
  · obtain ⟨f, r, n, S, rfl, F, hr0, k⟩ := h
    refine ⟨_, (pss_cons (ps_if (PW.pt (pw_or (pt_not (pt_val (pe_callB (call_isO K) (by rfl) T.no_isinstance (by decide +kernel) (pa_cons (pv 0) (pa_cons (pe_glob (v := .ref a.C_Family) rfl T.mg_Family rfl) pa_nil))))) (pw_or (pt_not (pt_val (pe_call (ok_law_integer T) (hr.mono (by decide)) (by rfl) T.mg_law_integer T.fn_law_integer.kp T.b_law_integer .nil pass0 (pa_cons (pe_fldK K (pv 0)) pa_nil)))) (pw_or1 (pt_cmpR op_ne (pe_fldK K (pv 0)) (pv 1) (nomark _)))))) (pss_one (ps_ret pe_bl)) pss_nil)
      (pss_cons (ps_set (i := 3) sc_law_is.nd rfl (Or.inl rfl) (pe_call (ok_law_ordered T) (hr.mono (by decide)) (by rfl) T.mg_law_ordered T.fn_law_ordered.kp T.b_law_ordered .nil pass0 (pa_cons (pv 2) pa_nil)))
      (pss_cons (ps_if (PW.pt (pw_or (pt_not (pt_val (pe_callB (call_isB .tup) (by rfl) T.no_isinstance (by decide +kernel) (pa_cons (pe_fldK K (pv 0)) (pa_cons (pe_bltn (v := .ty "tuple") (u := .type "tuple") (by rfl) T.no_tuple (by decide +kernel) rfl) pa_nil))))) (pw_or1 (pt_cmpR op_ne (pe_callB (lenK K) (by rfl) T.no_len PySem.boot_len (pa_cons (pe_fldK K (pv 0)) pa_nil)) (pe_callB (lenK K) (by rfl) T.no_len PySem.boot_len (pa_cons (pv 3) pa_nil)) (nomark _))))) (pss_one (ps_ret pe_bl)) pss_nil)
      (pss_cons (ps_for PassesOwn.never rfl (pi_range1 (by rfl) T.no_range (pa_cons (pe_callB (lenK K) (by rfl) T.no_len PySem.boot_len (pa_cons (pv 3) pa_nil)) pa_nil)) (pg_name (i := 4) sc_law_is.nd rfl (Or.inl rfl))
        (pss_cons (ps_if (PW.pt (pw_or (pt_not (pt_val (pe_callB (call_isB .tup) (by rfl) T.no_isinstance (by decide +kernel) (pa_cons (pe_ix ixHT (pe_fldK K (pv 0)) (pv 4) (fun _ _ => rfl)) (pa_cons (pe_bltn (v := .ty "tuple") (u := .type "tuple") (by rfl) T.no_tuple (by decide +kernel) rfl) pa_nil))))) (pw_or1 (pt_cmpR op_ne (pe_callB (lenK K) (by rfl) T.no_len PySem.boot_len (pa_cons (pe_ix ixHT (pe_fldK K (pv 0)) (pv 4) (fun _ _ => rfl)) pa_nil)) (pe_callB (lenK K) (by rfl) T.no_len PySem.boot_len (pa_cons (pe_ix Rd.ixH (pv 3) (pv 4) (fun _ _ => rfl)) pa_nil)) (nomark _))))) (pss_one (ps_ret pe_bl)) pss_nil)
        (pss_one (ps_for PassesOwn.never rfl (pi_range1 (by rfl) T.no_range (pa_cons (pe_callB (lenK K) (by rfl) T.no_len PySem.boot_len (pa_cons (pe_ix Rd.ixH (pv 3) (pv 4) (fun _ _ => rfl)) pa_nil)) pa_nil)) (pg_name (i := 5) sc_law_is.nd rfl (Or.inl rfl))
          (pss_one (ps_if (PW.pt (pw_or (pt_not (pt_val (pe_call (ok_law_integer T) (hr.mono (by decide)) (by rfl) T.mg_law_integer T.fn_law_integer.kp T.b_law_integer .nil pass0 (pa_cons (pe_ix ixHT (pe_ix ixHT (pe_fldK K (pv 0)) (pv 4) (fun _ _ => rfl)) (pv 5) (fun _ _ => rfl)) pa_nil)))) (pw_or1 (pt_cmpR op_ne (pe_ix ixHT (pe_ix ixHT (pe_fldK K (pv 0)) (pv 4) (fun _ _ => rfl)) (pv 5) (fun _ _ => rfl)) (pe_ix ixHT (pe_ix Rd.ixH (pv 3) (pv 4) (fun _ _ => rfl)) (pv 5) (fun _ _ => rfl)) (nomark _))))) (pss_one (ps_ret pe_bl)) pss_nil))))))
      (pss_one (ps_ret pe_bl)))))), ?_⟩
    show (_ : TS) _ [some (V.ref f), some (V.int n), some (V.ref r), none, none, none] H
    obtain ⟨dx, t, ys, hf, ht, tv⟩ := F.ob
    have n6 := F.fam.n6
    have p64 := pow64 n6
    have fl := famL_len (S := S) n6
    have len := tv.len
    walk_at "rd"
    refine ⟨f, a.C_Family, rfl, .ins hf T.cl_Family T.cg_Family T.cget T.ctk T.mr_Family, ?_⟩
    refine ⟨_, rfl, ?_⟩
    rw [if_neg (by decide)]
    refine ⟨_, dx, ff t n, hf, T.cl_Family, T.na_Family_size, _, ff_size t n, _, .int, rfl, .int _, _, rfl, ?_⟩
    rw [if_neg (by decide)]
    refine ⟨_, dx, ff t n, hf, T.cl_Family, T.na_Family_size, _, ff_size t n, rfl, ?_⟩
    rw [if_neg (by simp)]
    refine ⟨r, n, S, rfl, hr0, F.fam, fun r' us H1 _ e1 hr1 tu => ?_⟩
    have hf1 := e1 _ _ hf
    have ht1 := e1 _ _ ht
    have tv1 := tv.same e1
    have ul := tu.len
    refine ⟨_, dx, ff t n, hf1, T.cl_Family, T.na_Family_sets, _, ff_sets t n, ?_⟩
    refine ⟨.tup, .tup ht1, ?_⟩
    rw [if_neg (by decide)]
    refine ⟨_, dx, ff t n, hf1, T.cl_Family, T.na_Family_sets, _, ff_sets t n, t, rfl, _, .inr (SqT.of ht1), r', rfl, _, .inl (SqL.of hr1), ?_⟩
    rw [if_neg (by simp; omega)]
    refine ⟨r', rfl, _, .inl (SqL.of hr1), by omega, by omega, ?_⟩
    rw [Int.toNat_natCast]
    refine Rd.loop_rngC (fun σ H' => ∃ o4 o5, σ = [some (V.ref f), some (V.int n), some (V.ref r), some (V.ref r'), o4, o5] ∧ H' = H1) (fun _ σ H' => ∃ o4 o5, σ = [some (V.ref f), some (V.int n), some (V.ref r), some (V.ref r'), o4, o5] ∧ H' = H1) ⟨none, none, rfl, rfl⟩ ?_ (fun _ _ z => z) ?_
    · rintro bk hbk i σ H2 hi ⟨o4, o5, rfl, rfl⟩
      obtain ⟨s', hs⟩ : ∃ s', (famL n S)[i]? = some s' := ⟨_, List.getElem?_eq_getElem (by omega)⟩
      have sa := allS_at (famL_mem.mp (List.mem_of_getElem? hs)).1 n6
      obtain ⟨p1, up1, hp1⟩ := tu.get hs
      obtain ⟨p2, up2, hp2⟩ := tv1.get hs
      walk_at "rd"
      rw [Int.zero_add]
      refine ⟨_, dx, ff t n, hf1, T.cl_Family, T.na_Family_sets, _, ff_sets t n, t, rfl, _, ht1, _, atI_nat up2, .tup, .tup hp2, ?_⟩
      rw [if_neg (by decide)]
      refine ⟨_, dx, ff t n, hf1, T.cl_Family, T.na_Family_sets, _, ff_sets t n, t, rfl, _, ht1, _, atI_nat up2, p2, rfl, _, .inr (SqT.of hp2), _, hr1, _, atI_nat up1, p1, rfl, _, .inr (SqT.of hp1), ?_⟩
      rw [if_neg (by simp)]
      refine ⟨_, hr1, _, atI_nat up1, p1, rfl, _, .inr (SqT.of hp1), ?_⟩
      rw [iv_len, Int.toNat_natCast]
      refine ⟨by omega, by omega, Rd.loop_rngC (fun σ H' => ∃ o5, σ = [some (V.ref f), some (V.int n), some (V.ref r), some (V.ref r'), some (V.int i), o5] ∧ H' = H2) (fun _ σ H' => ∃ o5, σ = [some (V.ref f), some (V.int n), some (V.ref r), some (V.ref r'), some (V.int i), o5] ∧ H' = H2) ⟨_, rfl, rfl⟩ ?_ (fun _ _ z => z) ?_⟩
      · rintro bk2 hbk2 j σ H3 hj ⟨o5, rfl, rfl⟩
        have ge := iv_at (List.getElem?_eq_getElem hj)
        walk_at "rd"
        rw [Int.zero_add]
        refine ⟨_, dx, ff t n, hf1, T.cl_Family, T.na_Family_sets, _, ff_sets t n, t, rfl, _, ht1, _, atI_nat up2, p2, rfl, _, hp2, _, ge, _, .int, rfl, .int _, _, rfl, ?_⟩
        rw [if_neg (by decide)]
        refine ⟨_, dx, ff t n, hf1, T.cl_Family, T.na_Family_sets, _, ff_sets t n, t, rfl, _, ht1, _, atI_nat up2, p2, rfl, _, hp2, _, ge, _, hr1, _, atI_nat up1, p1, rfl, _, hp1, _, ge, rfl, ?_⟩
        rw [if_neg (by simp)]
      · rintro σ H3 ⟨o5, rfl, rfl⟩
        walk_at "rd"
        exact ⟨_, rfl⟩
    · rintro σ H2 ⟨o4, o5, rfl, rfl⟩
      walk_at "rd"
      exact k _ e1
/-! ### _law_shape -/
def spShape (K : PySem.W.Frag) : Sp := fun vs H Q _ => ∃ (b c p : Addr) (ns : List Int) (l : Bool) (xs : List V), vs = [.ref b, .ref p] ∧ BoxAt K H b c ns ∧ p ≠ b ∧ H p = some (sq l xs) ∧ xs.length ≤ 64 ∧
  ∀ q l' H', BoxAt K H' b c ns → But b H H' → q ≠ b → H' q = some (sq l' xs) → (l' = true → H q = none) → Q (.ref q) H'
theorem sc_law_shape : FnScope ["box", "parts"] ["box", "parts"] (defScope s_law_shape) := ⟨rfl, rfl, rfl, by decide +kernel, rfl, by decide +kernel, by decide +kernel⟩
theorem ok_law_shape (T : Txt K mg a) : FnOk P w K mg base CX0 2 a.a_law_shape a.d_law_shape ["box", "parts"] (spShape K) := by
  refine T.fn_law_shape.ok sc_law_shape (fun vs H Q E h => ?_) (fun cdv A outer s H vs Q E hr h => ?_)
  · obtain ⟨b, c, p, ns, l, xs, rfl, _⟩ := h
    rfl
  · obtain ⟨b, c, p, ns, l, xs, rfl, B, pb, hp, x6, k⟩ := h
    refine ⟨_, (pss_cons (ps_if (pt_cmpR op_eq (pe_call (ok_law_draw T) (hr.mono (by decide)) (by rfl) T.mg_law_draw T.fn_law_draw.kp T.b_law_draw .nil pass0 (pa_cons (pv 0) (pa_cons pe_int pa_nil))) pe_int (nomark _)) (pss_one (ps_ret (pe_callTy call_list_of (by rfl) T.no_list (by decide +kernel) (pa_cons (pv 1) pa_nil)))) pss_nil)
      (pss_one (ps_ret (pe_callTy call_tuple_of (by rfl) T.no_tuple (by decide +kernel) (pa_cons (pv 1) pa_nil))))), ?_⟩
    show (_ : TS) _ [some (V.ref b), some (V.ref p)] H
    walk_at "rd"
    refine drw B (by decide) (by decide) fun x H1 x2 B1 e1 => ⟨rfl, ?_⟩
    have hp1 := e1 _ _ pb hp
    have mk1 : ∀ (l : Addr) (l' : Bool), H1 l = none → Q (.ref l) (upd H1 l (sq l' xs)) := fun l l' hl => by
      have lb := B1.ne_new hl
      have z : But b H (upd H1 l (sq l' xs)) := e1.updn (e1.free lb hl)
      exact k l l' _ (B.upd B1 lb z) z lb upd_same fun _ => e1.free lb hl
    refine ite2 (fun _ => ⟨xs, (seqOr hp1), fun q hq => mk1 q true hq⟩) (fun _ => ⟨xs, ?_⟩)
    cases l with
    | true => exact .inl ⟨SqL.of hp1, fun q hq => mk1 q false hq⟩
    | false => exact .inr ⟨SqT.of hp1, k p false H1 B1 e1 pb hp1 fun h => by cases h⟩
end

end K21
namespace K21
open PySem PySem.Spec PyProof.Rows L2 Own OwnSeq OwnSet OwnComb OwnSort OwnHot OwnExN OwnProj
local macro_rules | `(tactic| walk_at "rd") => `(tactic| simp only [tSeq, tAsg, tOp, tUn, tVar, gName, gSub, rIxL, rIxT, rSetL, tC, rI0, rI, rU, rEq, rNe, tCons, tNil, tCB, tLst, tTup, tIfS, tAnd, tOr, tNot, tAndV, tOrV, tNotV, tTest, tB, tIf, tRet, tDrop, tNext, tBreak, tCont, tCall, tCallS, L2.WE, tMakeS, rIsS, rIsB, tChain, gSeq, gRest, gCons, gNil, tFor_seq, tFor_enumS, tLc_seq, tLc_enumS, rAny, rAll, L2.tMeth, StX.tStar, rIn, tLstRg, tRg1, tRg2, rSetI, rSortedSet, rInDT, rInD, rNotInD, rEqD, rNeD, iComb, tFld, tMake, tMkO, sFld, tOst, tNever, tBits, clv, isB,
  Rd.tFor_rng1, Rd.tFor_rng2, Rd.tFor_list, Rd.tFor_tup, Rd.tLc_list, Rd.tLc_tup, Rd.tLc_rng1, Rd.LcTurn, tYes, wipe, Rd.rLenL, Rd.rLenT, Rd.rIntI, Rd.rIxH, rIxHT,  HO.tup.injEq, Rd.at0, Rd.at1, Rd.at2, Rd.at3, Rd.ixN40, Rd.ixN41, Rd.ixN42, Rd.ixN43, Rd.scal_ii, cxOf,
  List.length_cons, List.length_nil, List.length_map, List.map_cons, List.map_nil, upd_same, decide_eq_true_eq, decide_true, decide_false, if_true, if_false, Bool.false_eq_true, Bool.not_true, Bool.not_false, HO.lst.injEq, HO.ins.injEq, List.set_cons_zero, List.set_cons_succ, List.getElem?_cons_zero, List.getElem?_cons_succ, List.append_nil, List.nil_append, List.cons_append, Option.some.injEq, V.ref.injEq, V.int.injEq, V.bl.injEq, List.cons.injEq, exists_eq_left', exists_and_left, exists_eq_left, true_and, and_true, and_self, and_assoc, implies_true, reduceCtorEq, Nat.reduceAdd])

/-- str(None), str(a bool), str(an int) -/
def txS : Wv → Str
  | .bl b => if b then "True" else "False"
  | .int i => toString i
  | _ => "None"
theorem callStr {X : Cx} : CallR X (.type "str") (fun xs H Q => ∃ v w, xs = [v] ∧ (w = .non ∧ v = .non ∨ (∃ b, w = .bl b ∧ v = .bl b) ∨ ∃ i : Int, w = .int i ∧ v = .int i ∧ i.natAbs.log2 < 1920) ∧ Q (.str (txS w)) H) := by
  intro pins s σ H xs us Q I r h
  obtain ⟨v, w, rfl, hz, q⟩ := h
  obtain ⟨u, rfl, r1⟩ := vals1 r
  rcases hz with ⟨rfl, rfl⟩ | ⟨b, rfl, rfl⟩ | ⟨i, rfl, rfl, hz⟩
  · cases r1
    exact PySem.P.str_of_none ⟨.str _, H, I.tok _, ⟨_, rfl⟩, q⟩
  · cases r1
    exact PySem.P.str_of_bool ⟨.str _, H, I.tok _, ⟨_, rfl⟩, q⟩
  · obtain ⟨t, rfl⟩ := r1
    exact PySem.P.str_of_int hz ⟨.str _, H, I.tok _, ⟨_, rfl⟩, q⟩
/-- how deep a value is -/
inductive Dep : Nat → Wv → Prop
  | non {d} : Dep d .non
  | bl {d} (b : Bool) : Dep d (.bl b)
  | int {d} {i : Int} (h : -10 < i) (h' : i < 10 ^ 21) : Dep d (.int i)
  | str {d} {s : Str} (h : s.length ≤ 3) : Dep d (.str s)
  | fr {d} {n e : Nat} (h : n < 10) (h' : e < 10) : Dep d (.fr n e)
  | lst {d} {ws : List Wv} (l : ws.length ≤ 9) (h : ∀ w ∈ ws, Dep d w) : Dep (d + 1) (.lst ws)
  | tup {d} {ws : List Wv} (l : ws.length ≤ 9) (h : ∀ w ∈ ws, Dep d w) : Dep (d + 1) (.tup ws)
theorem Dep.up {d : Nat} : ∀ {w : Wv}, Dep d w → Dep (d + 1) w := by
  induction d with
  | zero =>
    intro w h
    cases h with
    | non => exact .non
    | bl b => exact .bl b
    | int h h' => exact .int h h'
    | str h => exact .str h
    | fr h h' => exact .fr h h'
  | succ d ih =>
    intro w h
    cases h with
    | non => exact .non
    | bl b => exact .bl b
    | int h h' => exact .int h h'
    | str h => exact .str h
    | fr h h' => exact .fr h h'
    | lst l h => exact .lst l fun w m => ih (h w m)
    | tup l h => exact .tup l fun w m => ih (h w m)
theorem len_app (i j : Str) : (i ++ j).length = i.length + j.length := Array.size_append
theorem log_fit {i : Int} (h : -10 < i) (h' : i < 10 ^ 21) : i.natAbs.log2 < 1920 := by
  by_cases z : i.natAbs = 0
  · rw [z]; decide
  · exact (Nat.log2_lt z).mpr (Nat.lt_of_lt_of_le (show i.natAbs < 10 ^ 21 by omega) (Nat.le_trans (show 10 ^ 21 ≤ 2 ^ 70 by decide) (Nat.pow_le_pow_right (by decide) (by decide))))
theorem negs : ((List.range 9).all fun k => decide ((Str.ofString (toString (-(k : Int) - 1))).length ≤ 2)) = true := by decide +kernel
theorem int_len {i : Int} (h : -10 < i) (h' : i < 10 ^ 21) : (Str.ofString (toString i)).length ≤ 21 := by
  by_cases z : 0 ≤ i
  · exact PyProof.Rows.toString_length_le z (by decide) h'
  · have y := of_decide_eq_true (List.all_eq_true.mp negs (-i - 1).toNat (List.mem_range.mpr (by omega)))
    rw [show (-(((-i - 1).toNat : Nat) : Int) - 1) = i by omega] at y
    omega
section
variable {P : Program} {w : World} {K : PySem.W.Frag} {mg : Str → Option Value} {base : Heap} {a : Ad}
/-! ### _law_text -/
mutual
def tx : Wv → Str
  | .fr n d => (((Str.ofString "F(" ++ toString n) ++ Str.ofString ",") ++ toString d) ++ Str.ofString ")"
  | .lst ws => (Str.ofString "[" ++ Txt.join (Str.ofString ",") (txs ws)) ++ Str.ofString "]"
  | .tup ws => (Str.ofString "(" ++ Txt.join (Str.ofString ",") (txs ws)) ++ Str.ofString ")"
  | .str s => (Str.ofString "'" ++ s) ++ Str.ofString "'"
  | w => txS w
def txs : List Wv → List Str
  | [] => []
  | w :: ws => tx w :: txs ws
end
theorem txs_eq : ∀ ws : List Wv, txs ws = ws.map tx
  | [] => rfl
  | w :: ws => by rw [List.map_cons, ← txs_eq ws]; rfl
theorem txs_len (ws : List Wv) : (txs ws).length = ws.length := by rw [txs_eq, List.length_map]
theorem sum_le {B : Nat} : ∀ {ws : List Wv}, (∀ w ∈ ws, (tx w).length ≤ B) → ((txs ws).map (·.length)).sum ≤ ws.length * B
  | [], _ => by simp [txs]
  | w :: ws, h => by
    have i := sum_le fun w m => h w (List.mem_cons_of_mem _ m)
    have j := h w List.mem_cons_self
    rw [List.length_cons, Nat.succ_mul]
    show (tx w).length + ((txs ws).map (·.length)).sum ≤ _
    omega
theorem join_le {B : Nat} {ws : List Wv} (l : ws.length ≤ 9) (h : ∀ w ∈ ws, (tx w).length ≤ B) : ((txs ws).map (·.length)).sum + (txs ws).length * (Str.ofString ",").length ≤ 9 * B + 9 ∧ (Txt.join (Str.ofString ",") (txs ws)).length ≤ 9 * B + 9 := by
  have a := sum_le h
  have b : ws.length * B ≤ 9 * B := Nat.mul_le_mul_right B l
  have c : (Str.ofString ",").length = 1 := by decide +kernel
  have d := PySem.StrLaws.join_length_le (Str.ofString ",") (txs ws)
  rw [show Str.join (Str.ofString ",") (txs ws) = Txt.join (Str.ofString ",") (txs ws) from (PySem.StrLaws.glued_eq_join _ _).symm] at d
  rw [txs_len, c, Nat.mul_one] at *
  exact ⟨by omega, by omega⟩
theorem tx_len {d : Nat} : ∀ {w : Wv}, Dep d w → (tx w).length ≤ 30 * 10 ^ d := by
  have one : ∀ {w : Wv}, (∀ ws, w ≠ .lst ws) → (∀ ws, w ≠ .tup ws) → Dep d w → (tx w).length ≤ 30 := fun {w} n1 n2 h => by
    cases h with
    | non => exact (by decide +kernel : (Str.ofString "None").length ≤ 30)
    | bl b => cases b <;> decide +kernel
    | int h h' =>
      have := int_len h h'
      show (Str.ofString (toString _)).length ≤ 30
      omega
    | str h =>
      show ((Str.ofString "'" ++ _) ++ Str.ofString "'").length ≤ 30
      rw [len_app, len_app, show (Str.ofString "'").length = 1 by decide +kernel]
      omega
    | fr h h' =>
      rename_i n e
      show (((((Str.ofString "F(" ++ Str.ofString (toString (n : Int))) ++ Str.ofString ",") ++ Str.ofString (toString (e : Int))) ++ Str.ofString ")")).length ≤ 30
      have z1 := PyProof.Rows.toString_length_le (v := (n : Int)) (by omega) (k := 1) (by decide) (by omega)
      have z2 := PyProof.Rows.toString_length_le (v := (e : Int)) (by omega) (k := 1) (by decide) (by omega)
      rw [len_app, len_app, len_app, len_app, show (Str.ofString "F(").length = 2 by decide +kernel, show (Str.ofString ",").length = 1 by decide +kernel, show (Str.ofString ")").length = 1 by decide +kernel]
      omega
    | lst l h => exact absurd rfl (n1 _)
    | tup l h => exact absurd rfl (n2 _)
  induction d with
  | zero =>
    intro w h
    rw [Nat.pow_zero, Nat.mul_one]
    exact one (fun ws z => by subst z; cases h) (fun ws z => by subst z; cases h) h
  | succ d ih =>
    intro w h
    have p : 0 < 10 ^ d := Nat.pow_pos (by decide)
    have e : 10 ^ (d + 1) = 10 ^ d * 10 := Nat.pow_succ ..
    have ih' : ∀ w, Dep d w → (tx w).length ≤ 30 * 10 ^ d := fun w h => by
      refine ih (fun {w} n1 n2 h => ?_) h
      exact one n1 n2 h.up
    cases h with
    | lst l h =>
      have := (join_le l fun w m => ih' w (h w m)).2
      show ((Str.ofString "[" ++ Txt.join (Str.ofString ",") (txs _)) ++ Str.ofString "]").length ≤ _
      rw [len_app, len_app, show (Str.ofString "[").length = 1 by decide +kernel, show (Str.ofString "]").length = 1 by decide +kernel]
      omega
    | tup l h =>
      have := (join_le l fun w m => ih' w (h w m)).2
      show ((Str.ofString "(" ++ Txt.join (Str.ofString ",") (txs _)) ++ Str.ofString ")").length ≤ _
      rw [len_app, len_app, show (Str.ofString "(").length = 1 by decide +kernel, show (Str.ofString ")").length = 1 by decide +kernel]
      omega
    | non => have := one (fun _ z => by cases z) (fun _ z => by cases z) (Dep.non (d := d + 1)); omega
    | bl b => have := one (fun _ z => by cases z) (fun _ z => by cases z) (Dep.bl (d := d + 1) b); omega
    | int h h' => have := one (fun _ z => by cases z) (fun _ z => by cases z) (Dep.int (d := d + 1) h h'); omega
    | str h => have := one (fun _ z => by cases z) (fun _ z => by cases z) (Dep.str (d := d + 1) h); omega
    | fr h h' => have := one (fun _ z => by cases z) (fun _ z => by cases z) (Dep.fr (d := d + 1) h h'); omega
theorem pow5 {d : Nat} (h : d + 1 ≤ 5) : 10 ^ d ≤ 10000 := Nat.le_trans (Nat.pow_le_pow_right (by decide) (show d ≤ 4 by omega)) (by decide)
def spText (C : Addr) : Nat → Sp
  | 0 => fun _ _ _ _ => False
  | d + 1 => fun vs H Q _ => ∃ (v : V) (w : Wv), vs = [v] ∧ IsW C H v w ∧ Dep d w ∧ ∀ H', Same H H' → Q (.str (tx w)) H'
theorem passAt0 {X : Cx} {σ : L2.St} : PassesAt CX0 X σ E0 := fun _ _ _ _ _ _ h => h.elim
theorem fn_zero {P : Program} {w : World} {K : PySem.W.Frag} {mg : Str → Option Value} {base : Heap} {CX : CXT} {k : Nat} {f : Addr} {fd : FuncData} {ps : List Str} : FnOk P w K mg base CX k f fd ps (fun _ _ _ _ => False) := ⟨fun _ _ _ _ h => h.elim, fun _ _ _ _ _ _ _ _ _ _ _ _ _ h => h.elim⟩
theorem fnH_zero {P : Program} {w : World} {K : PySem.W.Frag} {mg : Str → Option Value} {base : Heap} {CX : CXT} {k : Nat} {f : Addr} {fd : FuncData} {ps : List Str} : L2H.FnH P w K mg base CX k f fd ps (fun _ _ _ _ => False) := ⟨fun _ _ _ _ h => h.elim, fun _ _ _ _ _ _ _ _ _ _ _ _ _ _ _ _ h => h.elim⟩
theorem lcl_tup {K : PySem.W.Frag} {a : Addr} {xs : List V} {g : TG} {tt : TT} {te : TE} {vs : List Nat} {σ : L2.St} {H : Hp} {Q : VK} (Pv : Addr → Nat → Hp → Prop) (h0 : ∀ D, H D = none → Pv D 0 (upd H D (.lst []))) (hl : ∀ D i H1, i ≤ xs.length → Pv D i H1 → SqT K H1 a xs)
    (hs : ∀ D i x H1, xs[i]? = some x → Pv D i H1 → g x (wipe σ vs) H1 fun σ2 H2 => Rd.LcTurn te tt D (wipe σ vs) σ2 vs H2 (Pv D (i + 1))) (hd : ∀ D H1, H D = none → Pv D xs.length H1 → Q (.ref D) H1) : Rd.LcL (Itt K a) g tt te vs σ H Q :=
  fun D hD => lc_tup (Pv D) (h0 D hD) (hl D) (hs D) fun H1 p => hd D H1 hD p
theorem roomM {k : Nat} {A : Around} {h : Option Value} (r : Room k A) : L2H.RoomH k (A.mark h) := ⟨r.dp, r.un⟩
theorem hotN {A : Around} {a : Addr} {oe : Obj} {cls : Value} {d : Option Addr} (hz : L2N.Zn cls d oe) (hf : ∃ vs, oe.data = .fields vs) : L2H.Hot1 (A.mark (some (.ref a))) (a, oe) := ⟨rfl, let ⟨v, e⟩ := hf; ⟨v, e, hz.2.2 v e⟩⟩
/-- the rule of a def that is called while an exception is handled -/
theorem okH {x qual : Str} {st : Stmt} {f : Addr} {fd : FuncData} {N ps : List Str} {k : Nat} {sp : Sp} (F : Fun K x qual st f fd) (S : FnScope N ps (defScope st)) (len : ∀ vs H Q E, sp vs H Q E → vs.length = ps.length)
    (hbody : ∀ (cdv : Value) (A : Around) (outer : List Env) (s : Shared) (H : Hp) (vs : List V) (Q : VK) (E : XK) (p : Addr × Obj), L2H.Hot1 A p → L2H.RoomH k (A.deeper (envOfC qual (defScope st) s.heap.objs.size f cdv)) → sp vs H Q E →
      ∃ t, PSs (L2H.cxH CX0 P w K mg base N qual (defScope st) f cdv A outer s H E p) (defBody st) t ∧ t { nx := fun _ H' => Q .non H', rt := Q } (L2.start N vs) H) : L2H.FnH P w K mg base CX0 (k + 1) f fd ps sp := by
  obtain ⟨oc, od, kV, doc, pm, an, cdv, ct, osl, rfl, lk, hcd⟩ := F.ex
  exact L2H.fn_ofH lk hcd S len fun A outer s H vs Q E p hot hr hsp => hbody cdv A outer s H vs Q E p hot hr hsp
theorem sc_law_text : FnScope ["value", "part"] ["value"] (defScope s_law_text) := ⟨rfl, rfl, rfl, by decide +kernel, rfl, by decide +kernel, by decide +kernel⟩
theorem ok_law_textN (T : Txt K mg a) : ∀ n, n ≤ 6 → FnOk P w K mg base CX0 n a.a_law_text a.d_law_text ["value"] (spText a.C_Frac n)
  | 0, _ => fn_zero
  | d + 1, d6 => by
    have ih := ok_law_textN T d (by omega)
    refine T.fn_law_text.ok sc_law_text (fun vs H Q E h => ?_) (fun cdv A outer s H vs Q E hr h => ?_)
    · obtain ⟨v, w, rfl, _⟩ := h
      rfl
    · obtain ⟨v, w, rfl, hv, hd, k⟩ := h
      refine ⟨_, (pss_cons (ps_if (pt_val (pe_callB (call_isF T) (by rfl) T.no_isinstance (by decide +kernel) (pa_cons (pv 0) (pa_cons (pe_glob (v := .ref a.C_Frac) rfl T.mg_Frac rfl) pa_nil)))) (pss_one (ps_ret (pe_op op_add_str (pe_op op_add_str (pe_op op_add_str (pe_op op_add_str pe_str (pe_callTy callStr (by rfl) T.no_str (by decide +kernel) (pa_cons (pe_fldK K (pv 0)) pa_nil))) pe_str) (pe_callTy callStr (by rfl) T.no_str (by decide +kernel) (pa_cons (pe_fldK K (pv 0)) pa_nil))) pe_str))) pss_nil)
      (pss_cons (ps_if (pt_val (pe_callB (call_isK T .lst) (by rfl) T.no_isinstance (by decide +kernel) (pa_cons (pv 0) (pa_cons (pe_bltn (v := .ty "list") (u := .type "list") (by rfl) T.no_list (by decide +kernel) rfl) pa_nil)))) (pss_one (ps_ret (pe_op op_add_str (pe_op op_add_str pe_str (pe_join pe_str (pe_lc (own := [("part", 1)]) (by rfl) sc_law_text.nd (pi_told K (pv 0)) (blkOk_by (own := [("part", 1)]) (N := ["value", "part"]) (sc := defScope s_law_text) (by decide +kernel)) (fun _ _ _ _ _ => pg_name (i := 1) sc_law_text.nd rfl (Or.inl rfl)) (fun _ _ _ _ _ => pts_nil) (fun _ _ _ _ _ => (pe_call ih (hr.mono (by omega)) (by rfl) T.mg_law_text T.fn_law_text.kp T.b_law_text .nil pass0 (pa_cons (pv 1) pa_nil)))))) pe_str))) pss_nil)
      (pss_cons (ps_if (pt_val (pe_callB (call_isK T .tup) (by rfl) T.no_isinstance (by decide +kernel) (pa_cons (pv 0) (pa_cons (pe_bltn (v := .ty "tuple") (u := .type "tuple") (by rfl) T.no_tuple (by decide +kernel) rfl) pa_nil)))) (pss_one (ps_ret (pe_op op_add_str (pe_op op_add_str pe_str (pe_join pe_str (pe_lc (own := [("part", 1)]) (by rfl) sc_law_text.nd (pi_told K (pv 0)) (blkOk_by (own := [("part", 1)]) (N := ["value", "part"]) (sc := defScope s_law_text) (by decide +kernel)) (fun _ _ _ _ _ => pg_name (i := 1) sc_law_text.nd rfl (Or.inl rfl)) (fun _ _ _ _ _ => pts_nil) (fun _ _ _ _ _ => (pe_call ih (hr.mono (by omega)) (by rfl) T.mg_law_text T.fn_law_text.kp T.b_law_text .nil pass0 (pa_cons (pv 1) pa_nil)))))) pe_str))) pss_nil)
      (pss_cons (ps_if (pt_val (pe_callB (call_isK T .str) (by rfl) T.no_isinstance (by decide +kernel) (pa_cons (pv 0) (pa_cons (pe_bltn (v := .ty "str") (u := .type "str") (by rfl) T.no_str (by decide +kernel) rfl) pa_nil)))) (pss_one (ps_ret (pe_op op_add_str (pe_op op_add_str pe_str (pv 0)) pe_str))) pss_nil)
      (pss_one (ps_ret (pe_callTy callStr (by rfl) T.no_str (by decide +kernel) (pa_cons (pv 0) pa_nil)))))))), ?_⟩
      show (_ : TS) _ [some v, none] H
      walk_at "rd"
      have sl := sizeLine_eq
      refine ⟨v, _, rfl, hv.kn, _, rfl, ?_⟩
      cases hv with
      | fr hp =>
        cases hd with | fr h1 h2 =>
        rename_i p dx n e
        refine ite2 (fun _ => ?_) (fun h => absurd rfl h)
        have z1 := PyProof.Rows.toString_length_le (v := (n : Int)) (by omega) (k := 1) (by decide) (by omega)
        have z2 := PyProof.Rows.toString_length_le (v := (e : Int)) (by omega) (k := 1) (by decide) (by omega)
        have l1 : (Str.ofString "F(").length = 2 := by decide +kernel
        have l2 : (Str.ofString ",").length = 1 := by decide +kernel
        have l3 : (Str.ofString ")").length = 1 := by decide +kernel
        have z1' : (txS (.int n)).length ≤ 1 := z1
        have z2' : (txS (.int e)).length ≤ 1 := z2
        refine ⟨p, rfl, _, dx, _, hp, T.cl_Frac, T.na_Frac_num, _, fF_num _ _, .int n, .inr (.inr ⟨_, rfl, rfl, log_fit (by omega) (by omega)⟩), _, rfl, _, rfl, by omega, _, rfl, _, rfl, ?_, p, rfl, _, dx, _, hp, T.cl_Frac, T.na_Frac_den, _, fF_den _ _, .int e, .inr (.inr ⟨_, rfl, rfl, log_fit (by omega) (by omega)⟩), _, rfl, _, rfl, ?_, _, rfl, _, rfl, ?_, k _ (fun _ _ h => h)⟩
        all_goals
          simp only [len_app]
          omega
      | lst hp hs =>
        rename_i p vs ws
        cases hd with | @lst d' _ l9 hw =>
        have p5 := pow5 (show d' + 1 ≤ 5 by omega)
        refine ite2 (fun h => nomatch h) (fun _ => ?_)
        refine ⟨_, .lst, rfl, .lst hp, (by intro z; cases z), _, rfl, ite2 (fun _ => ?_) (fun h => absurd rfl h)⟩
        unfold tM1
        walk_at "rd"
        have lo : (Str.ofString "[").length = 1 := by decide +kernel
        have lc : (Str.ofString "]").length = 1 := by decide +kernel
        have vl := hs.len
        refine ⟨⟨_, rfl⟩, true, vs, hp, lcl_goes goes_seq (fun D i H5 => H D = none ∧ Same H H5 ∧ H5 D = some (.lst ((txs (ws.take i)).map V.str))) (fun D hD => ⟨hD, same_upd hD, upd_same⟩)
          (fun D i H5 _ h => h.2.1 _ _ hp) (fun D i x H5 H5' hi ⟨n5, e5, a5⟩ ⟨eq5, hx5⟩ => ?_) (fun D H5 nD ⟨n5, e5, a5⟩ => ?_)⟩
        · subst eq5
          obtain ⟨w', hwi, hw'⟩ := (hs.same e5).at hx5
          walk_at "rd"
          refine ⟨x, w', rfl, hw', hw w' (List.mem_of_getElem? hwi), fun H6 e6 => ⟨_, e6 _ _ a5, small (by rw [List.length_map, txs_len, List.length_take]; omega), n5, fun b o hb => (upd_ne (ne_of_none hb n5)).trans (e6 _ _ (e5 _ _ hb)), ?_⟩⟩
          rw [List.take_add_one, hwi, txs_eq, txs_eq, List.map_append, List.map_append]
          rfl
        · rw [vl, List.take_length] at a5
          obtain ⟨j1, j2⟩ := join_le l9 fun w m => tx_len (hw w m)
          refine ⟨_, rfl, D, rfl, txs ws, .inl (SqL.of a5), by omega, _, rfl, _, rfl, by omega, _, rfl, _, rfl, ?_, k _ e5⟩
          rw [len_app]
          omega
      | tup hp hs =>
        rename_i p vs ws
        cases hd with | @tup d' _ l9 hw =>
        have p5 := pow5 (show d' + 1 ≤ 5 by omega)
        refine ite2 (fun h => nomatch h) (fun _ => ?_)
        refine ⟨_, .tup, rfl, .tup hp, (by intro z; cases z), _, rfl, ite2 (fun h => nomatch h) (fun _ => ?_)⟩
        refine ⟨_, .tup, rfl, .tup hp, (by intro z; cases z), _, rfl, ite2 (fun _ => ?_) (fun h => absurd rfl h)⟩
        unfold tM1
        walk_at "rd"
        have lo : (Str.ofString "(").length = 1 := by decide +kernel
        have lc : (Str.ofString ")").length = 1 := by decide +kernel
        have vl := hs.len
        refine ⟨⟨_, rfl⟩, false, vs, hp, lcl_goes goes_seq (fun D i H5 => H D = none ∧ Same H H5 ∧ H5 D = some (.lst ((txs (ws.take i)).map V.str))) (fun D hD => ⟨hD, same_upd hD, upd_same⟩)
          (fun D i H5 _ h => h.2.1 _ _ hp) (fun D i x H5 H5' hi ⟨n5, e5, a5⟩ ⟨eq5, hx5⟩ => ?_) (fun D H5 nD ⟨n5, e5, a5⟩ => ?_)⟩
        · subst eq5
          obtain ⟨w', hwi, hw'⟩ := (hs.same e5).at hx5
          walk_at "rd"
          refine ⟨x, w', rfl, hw', hw w' (List.mem_of_getElem? hwi), fun H6 e6 => ⟨_, e6 _ _ a5, small (by rw [List.length_map, txs_len, List.length_take]; omega), n5, fun b o hb => (upd_ne (ne_of_none hb n5)).trans (e6 _ _ (e5 _ _ hb)), ?_⟩⟩
          rw [List.take_add_one, hwi, txs_eq, txs_eq, List.map_append, List.map_append]
          rfl
        · rw [vl, List.take_length] at a5
          obtain ⟨j1, j2⟩ := join_le l9 fun w m => tx_len (hw w m)
          refine ⟨_, rfl, D, rfl, txs ws, .inl (SqL.of a5), by omega, _, rfl, _, rfl, by omega, _, rfl, _, rfl, ?_, k _ e5⟩
          rw [len_app]
          omega
      | str s =>
        cases hd with | str h3 =>
        refine ite2 (fun h => nomatch h) (fun _ => ?_)
        refine ⟨_, .str, rfl, .str _, (by intro z; cases z), _, rfl, ite2 (fun h => nomatch h) (fun _ => ?_)⟩
        refine ⟨_, .str, rfl, .str _, (by intro z; cases z), _, rfl, ite2 (fun h => nomatch h) (fun _ => ?_)⟩
        refine ⟨_, .str, rfl, .str _, (by intro z; cases z), _, rfl, ite2 (fun _ => ?_) (fun h => absurd rfl h)⟩
        have l1 : (Str.ofString "'").length = 1 := by decide +kernel
        refine ⟨_, rfl, _, rfl, by omega, _, rfl, _, rfl, ?_, k _ (fun _ _ h => h)⟩
        rw [len_app]
        omega
      | non =>
        refine ite2 (fun h => nomatch h) (fun _ => ?_)
        refine ⟨_, .non, rfl, .non, (by intro z; cases z), _, rfl, ite2 (fun h => nomatch h) (fun _ => ?_)⟩
        refine ⟨_, .non, rfl, .non, (by intro z; cases z), _, rfl, ite2 (fun h => nomatch h) (fun _ => ?_)⟩
        refine ⟨_, .non, rfl, .non, (by intro z; cases z), _, rfl, ite2 (fun h => nomatch h) (fun _ => ?_)⟩
        exact ⟨.non, .inl ⟨rfl, rfl⟩, k _ (fun _ _ h => h)⟩
      | bl b =>
        refine ite2 (fun h => nomatch h) (fun _ => ?_)
        refine ⟨_, .bl, rfl, .bl b, (by intro z; cases z), _, rfl, ite2 (fun h => nomatch h) (fun _ => ?_)⟩
        refine ⟨_, .bl, rfl, .bl b, (by intro z; cases z), _, rfl, ite2 (fun h => nomatch h) (fun _ => ?_)⟩
        refine ⟨_, .bl, rfl, .bl b, (by intro z; cases z), _, rfl, ite2 (fun h => nomatch h) (fun _ => ?_)⟩
        exact ⟨.bl b, .inr (.inl ⟨b, rfl, rfl⟩), k _ (fun _ _ h => h)⟩
      | int i =>
        cases hd with | int h1 h2 =>
        refine ite2 (fun h => nomatch h) (fun _ => ?_)
        refine ⟨_, .int, rfl, .int i, (by intro z; cases z), _, rfl, ite2 (fun h => nomatch h) (fun _ => ?_)⟩
        refine ⟨_, .int, rfl, .int i, (by intro z; cases z), _, rfl, ite2 (fun h => nomatch h) (fun _ => ?_)⟩
        refine ⟨_, .int, rfl, .int i, (by intro z; cases z), _, rfl, ite2 (fun h => nomatch h) (fun _ => ?_)⟩
        exact ⟨.int i, .inr (.inr ⟨i, rfl, rfl, log_fit h1 h2⟩), k _ (fun _ _ h => h)⟩
theorem okH_law_textN (T : Txt K mg a) : ∀ n, n ≤ 6 → L2H.FnH P w K mg base CX0 n a.a_law_text a.d_law_text ["value"] (spText a.C_Frac n)
  | 0, _ => fnH_zero
  | d + 1, d6 => by
    have ih := okH_law_textN T d (by omega)
    refine okH T.fn_law_text sc_law_text (fun vs H Q E h => ?_) (fun cdv A outer s H vs Q E hp0 hot hr h => ?_)
    · obtain ⟨v, w, rfl, _⟩ := h
      rfl
    · obtain ⟨v, w, rfl, hv, hd, k⟩ := h
      refine ⟨_, (pss_cons (ps_if (pt_val (pe_callB (call_isF T) (by rfl) T.no_isinstance (by decide +kernel) (pa_cons (pv 0) (pa_cons (pe_glob (v := .ref a.C_Frac) rfl T.mg_Frac rfl) pa_nil)))) (pss_one (ps_ret (pe_op op_add_str (pe_op op_add_str (pe_op op_add_str (pe_op op_add_str pe_str (pe_callTy callStr (by rfl) T.no_str (by decide +kernel) (pa_cons (pe_fldK K (pv 0)) pa_nil))) pe_str) (pe_callTy callStr (by rfl) T.no_str (by decide +kernel) (pa_cons (pe_fldK K (pv 0)) pa_nil))) pe_str))) pss_nil)
      (pss_cons (ps_if (pt_val (pe_callB (call_isK T .lst) (by rfl) T.no_isinstance (by decide +kernel) (pa_cons (pv 0) (pa_cons (pe_bltn (v := .ty "list") (u := .type "list") (by rfl) T.no_list (by decide +kernel) rfl) pa_nil)))) (pss_one (ps_ret (pe_op op_add_str (pe_op op_add_str pe_str (pe_join pe_str (pe_lcH ⟨hp0, hot, List.mem_singleton.mpr rfl⟩ (own := [("part", 1)]) sc_law_text.nd (pi_listH (pv 0)) (blkOk_by (own := [("part", 1)]) (N := ["value", "part"]) (sc := defScope s_law_text) (by decide +kernel)) (fun _ _ _ _ _ => pg_name (i := 1) sc_law_text.nd rfl (Or.inl rfl)) (fun _ _ _ _ _ => (L2H.pe_callH ih (hr.mono (by omega)) ⟨hp0, hot, List.mem_singleton.mpr rfl⟩ (by rfl) T.mg_law_text T.fn_law_text.kp T.b_law_text (fun _ => passAt0) (pa_cons (pv 1) pa_nil)))))) pe_str))) pss_nil)
      (pss_cons (ps_if (pt_val (pe_callB (call_isK T .tup) (by rfl) T.no_isinstance (by decide +kernel) (pa_cons (pv 0) (pa_cons (pe_bltn (v := .ty "tuple") (u := .type "tuple") (by rfl) T.no_tuple (by decide +kernel) rfl) pa_nil)))) (pss_one (ps_ret (pe_op op_add_str (pe_op op_add_str pe_str (pe_join pe_str (pe_lcH ⟨hp0, hot, List.mem_singleton.mpr rfl⟩ (own := [("part", 1)]) sc_law_text.nd (pi_tupH (pv 0)) (blkOk_by (own := [("part", 1)]) (N := ["value", "part"]) (sc := defScope s_law_text) (by decide +kernel)) (fun _ _ _ _ _ => pg_name (i := 1) sc_law_text.nd rfl (Or.inl rfl)) (fun _ _ _ _ _ => (L2H.pe_callH ih (hr.mono (by omega)) ⟨hp0, hot, List.mem_singleton.mpr rfl⟩ (by rfl) T.mg_law_text T.fn_law_text.kp T.b_law_text (fun _ => passAt0) (pa_cons (pv 1) pa_nil)))))) pe_str))) pss_nil)
      (pss_cons (ps_if (pt_val (pe_callB (call_isK T .str) (by rfl) T.no_isinstance (by decide +kernel) (pa_cons (pv 0) (pa_cons (pe_bltn (v := .ty "str") (u := .type "str") (by rfl) T.no_str (by decide +kernel) rfl) pa_nil)))) (pss_one (ps_ret (pe_op op_add_str (pe_op op_add_str pe_str (pv 0)) pe_str))) pss_nil)
      (pss_one (ps_ret (pe_callTy callStr (by rfl) T.no_str (by decide +kernel) (pa_cons (pv 0) pa_nil)))))))), ?_⟩
      show (_ : TS) _ [some v, none] H
      walk_at "rd"
      have sl := sizeLine_eq
      refine ⟨v, _, rfl, hv.kn, _, rfl, ?_⟩
      cases hv with
      | fr hp =>
        cases hd with | fr h1 h2 =>
        rename_i p dx n e
        refine ite2 (fun _ => ?_) (fun h => absurd rfl h)
        have z1 := PyProof.Rows.toString_length_le (v := (n : Int)) (by omega) (k := 1) (by decide) (by omega)
        have z2 := PyProof.Rows.toString_length_le (v := (e : Int)) (by omega) (k := 1) (by decide) (by omega)
        have l1 : (Str.ofString "F(").length = 2 := by decide +kernel
        have l2 : (Str.ofString ",").length = 1 := by decide +kernel
        have l3 : (Str.ofString ")").length = 1 := by decide +kernel
        have z1' : (txS (.int n)).length ≤ 1 := z1
        have z2' : (txS (.int e)).length ≤ 1 := z2
        refine ⟨p, rfl, _, dx, _, hp, T.cl_Frac, T.na_Frac_num, _, fF_num _ _, .int n, .inr (.inr ⟨_, rfl, rfl, log_fit (by omega) (by omega)⟩), _, rfl, _, rfl, by omega, _, rfl, _, rfl, ?_, p, rfl, _, dx, _, hp, T.cl_Frac, T.na_Frac_den, _, fF_den _ _, .int e, .inr (.inr ⟨_, rfl, rfl, log_fit (by omega) (by omega)⟩), _, rfl, _, rfl, ?_, _, rfl, _, rfl, ?_, k _ (fun _ _ h => h)⟩
        all_goals
          simp only [len_app]
          omega
      | lst hp hs =>
        rename_i p vs ws
        cases hd with | @lst d' _ l9 hw =>
        have p5 := pow5 (show d' + 1 ≤ 5 by omega)
        refine ite2 (fun h => nomatch h) (fun _ => ?_)
        refine ⟨_, .lst, rfl, .lst hp, (by intro z; cases z), _, rfl, ite2 (fun _ => ?_) (fun h => absurd rfl h)⟩
        unfold tM1
        walk_at "rd"
        have lo : (Str.ofString "[").length = 1 := by decide +kernel
        have lc : (Str.ofString "]").length = 1 := by decide +kernel
        have vl := hs.len
        refine ⟨⟨_, rfl⟩, ⟨_, SqL.of hp⟩, Rd.lcl_list (xs := vs) (fun D i H5 => H D = none ∧ Same H H5 ∧ H5 D = some (.lst ((txs (ws.take i)).map V.str))) (fun D hD => ⟨hD, same_upd hD, upd_same⟩)
          (fun D i H5 _ h => SqL.of (h.2.1 _ _ hp)) (fun D i x H5 hx5 ⟨n5, e5, a5⟩ => ?_) (fun D H5 nD ⟨n5, e5, a5⟩ => ?_)⟩
        · have hi := (List.getElem?_eq_some_iff.mp hx5).1
          obtain ⟨w', hwi, hw'⟩ := (hs.same e5).at hx5
          walk_at "rd"
          refine ⟨x, w', rfl, hw', hw w' (List.mem_of_getElem? hwi), fun H6 e6 => ⟨_, e6 _ _ a5, small (by rw [List.length_map, txs_len, List.length_take]; omega), n5, fun b o hb => (upd_ne (ne_of_none hb n5)).trans (e6 _ _ (e5 _ _ hb)), ?_⟩⟩
          rw [List.take_add_one, hwi, txs_eq, txs_eq, List.map_append, List.map_append]
          rfl
        · rw [vl, List.take_length] at a5
          obtain ⟨j1, j2⟩ := join_le l9 fun w m => tx_len (hw w m)
          refine ⟨_, rfl, D, rfl, txs ws, .inl (SqL.of a5), by omega, _, rfl, _, rfl, by omega, _, rfl, _, rfl, ?_, k _ e5⟩
          rw [len_app]
          omega
      | tup hp hs =>
        rename_i p vs ws
        cases hd with | @tup d' _ l9 hw =>
        have p5 := pow5 (show d' + 1 ≤ 5 by omega)
        refine ite2 (fun h => nomatch h) (fun _ => ?_)
        refine ⟨_, .tup, rfl, .tup hp, (by intro z; cases z), _, rfl, ite2 (fun h => nomatch h) (fun _ => ?_)⟩
        refine ⟨_, .tup, rfl, .tup hp, (by intro z; cases z), _, rfl, ite2 (fun _ => ?_) (fun h => absurd rfl h)⟩
        unfold tM1
        walk_at "rd"
        have lo : (Str.ofString "(").length = 1 := by decide +kernel
        have lc : (Str.ofString ")").length = 1 := by decide +kernel
        have vl := hs.len
        refine ⟨⟨_, rfl⟩, ⟨_, SqT.of hp⟩, lcl_tup (xs := vs) (fun D i H5 => H D = none ∧ Same H H5 ∧ H5 D = some (.lst ((txs (ws.take i)).map V.str))) (fun D hD => ⟨hD, same_upd hD, upd_same⟩)
          (fun D i H5 _ h => SqT.of (h.2.1 _ _ hp)) (fun D i x H5 hx5 ⟨n5, e5, a5⟩ => ?_) (fun D H5 nD ⟨n5, e5, a5⟩ => ?_)⟩
        · have hi := (List.getElem?_eq_some_iff.mp hx5).1
          obtain ⟨w', hwi, hw'⟩ := (hs.same e5).at hx5
          walk_at "rd"
          refine ⟨x, w', rfl, hw', hw w' (List.mem_of_getElem? hwi), fun H6 e6 => ⟨_, e6 _ _ a5, small (by rw [List.length_map, txs_len, List.length_take]; omega), n5, fun b o hb => (upd_ne (ne_of_none hb n5)).trans (e6 _ _ (e5 _ _ hb)), ?_⟩⟩
          rw [List.take_add_one, hwi, txs_eq, txs_eq, List.map_append, List.map_append]
          rfl
        · rw [vl, List.take_length] at a5
          obtain ⟨j1, j2⟩ := join_le l9 fun w m => tx_len (hw w m)
          refine ⟨_, rfl, D, rfl, txs ws, .inl (SqL.of a5), by omega, _, rfl, _, rfl, by omega, _, rfl, _, rfl, ?_, k _ e5⟩
          rw [len_app]
          omega
      | str s =>
        cases hd with | str h3 =>
        refine ite2 (fun h => nomatch h) (fun _ => ?_)
        refine ⟨_, .str, rfl, .str _, (by intro z; cases z), _, rfl, ite2 (fun h => nomatch h) (fun _ => ?_)⟩
        refine ⟨_, .str, rfl, .str _, (by intro z; cases z), _, rfl, ite2 (fun h => nomatch h) (fun _ => ?_)⟩
        refine ⟨_, .str, rfl, .str _, (by intro z; cases z), _, rfl, ite2 (fun _ => ?_) (fun h => absurd rfl h)⟩
        have l1 : (Str.ofString "'").length = 1 := by decide +kernel
        refine ⟨_, rfl, _, rfl, by omega, _, rfl, _, rfl, ?_, k _ (fun _ _ h => h)⟩
        rw [len_app]
        omega
      | non =>
        refine ite2 (fun h => nomatch h) (fun _ => ?_)
        refine ⟨_, .non, rfl, .non, (by intro z; cases z), _, rfl, ite2 (fun h => nomatch h) (fun _ => ?_)⟩
        refine ⟨_, .non, rfl, .non, (by intro z; cases z), _, rfl, ite2 (fun h => nomatch h) (fun _ => ?_)⟩
        refine ⟨_, .non, rfl, .non, (by intro z; cases z), _, rfl, ite2 (fun h => nomatch h) (fun _ => ?_)⟩
        exact ⟨.non, .inl ⟨rfl, rfl⟩, k _ (fun _ _ h => h)⟩
      | bl b =>
        refine ite2 (fun h => nomatch h) (fun _ => ?_)
        refine ⟨_, .bl, rfl, .bl b, (by intro z; cases z), _, rfl, ite2 (fun h => nomatch h) (fun _ => ?_)⟩
        refine ⟨_, .bl, rfl, .bl b, (by intro z; cases z), _, rfl, ite2 (fun h => nomatch h) (fun _ => ?_)⟩
        refine ⟨_, .bl, rfl, .bl b, (by intro z; cases z), _, rfl, ite2 (fun h => nomatch h) (fun _ => ?_)⟩
        exact ⟨.bl b, .inr (.inl ⟨b, rfl, rfl⟩), k _ (fun _ _ h => h)⟩
      | int i =>
        cases hd with | int h1 h2 =>
        refine ite2 (fun h => nomatch h) (fun _ => ?_)
        refine ⟨_, .int, rfl, .int i, (by intro z; cases z), _, rfl, ite2 (fun h => nomatch h) (fun _ => ?_)⟩
        refine ⟨_, .int, rfl, .int i, (by intro z; cases z), _, rfl, ite2 (fun h => nomatch h) (fun _ => ?_)⟩
        refine ⟨_, .int, rfl, .int i, (by intro z; cases z), _, rfl, ite2 (fun h => nomatch h) (fun _ => ?_)⟩
        exact ⟨.int i, .inr (.inr ⟨i, rfl, rfl, log_fit h1 h2⟩), k _ (fun _ _ h => h)⟩
end

end K21
namespace K21
open PySem PySem.Spec PyProof.Rows L2 Own OwnSeq OwnSet OwnComb OwnSort OwnHot OwnExN OwnProj
local macro_rules | `(tactic| walk_at "rd") => `(tactic| simp only [tSeq, tAsg, tOp, tUn, tVar, gName, gSub, rIxL, rIxT, rSetL, tC, rI0, rI, rU, rEq, rNe, tCons, tNil, tCB, tLst, tTup, tIfS, tAnd, tOr, tNot, tAndV, tOrV, tNotV, tTest, tB, tIf, tRet, tDrop, tNext, tBreak, tCont, tCall, tCallS, L2.WE, tMakeS, rIsS, rIsB, tChain, gSeq, gRest, gCons, gNil, tFor_seq, tFor_enumS, tLc_seq, tLc_enumS, rAny, rAll, L2.tMeth, StX.tStar, rIn, tLstRg, tRg1, tRg2, rSetI, rSortedSet, rInDT, rInD, rNotInD, rEqD, rNeD, iComb, tFld, tMake, tMkO, sFld, tOst, tNever, tBits, clv, isB,
  Rd.tFor_rng1, Rd.tFor_rng2, Rd.tFor_list, Rd.tFor_tup, Rd.tLc_list, Rd.tLc_tup, Rd.tLc_rng1, Rd.LcTurn, tYes, wipe, Rd.rLenL, Rd.rLenT, Rd.rIntI, Rd.rIxH, rIxHT,  HO.tup.injEq, Rd.at0, Rd.at1, Rd.at2, Rd.at3, Rd.ixN40, Rd.ixN41, Rd.ixN42, Rd.ixN43, Rd.scal_ii, cxOf,
  List.length_cons, List.length_nil, List.length_map, List.map_cons, List.map_nil, upd_same, decide_eq_true_eq, decide_true, decide_false, if_true, if_false, Bool.false_eq_true, Bool.not_true, Bool.not_false, HO.lst.injEq, HO.ins.injEq, List.set_cons_zero, List.set_cons_succ, List.getElem?_cons_zero, List.getElem?_cons_succ, List.append_nil, List.nil_append, List.cons_append, Option.some.injEq, V.ref.injEq, V.int.injEq, V.bl.injEq, List.cons.injEq, exists_eq_left', exists_and_left, exists_eq_left, true_and, and_true, and_self, and_assoc, implies_true, reduceCtorEq, Nat.reduceAdd])

theorem fF_no (n d : Int) {m : Str} (h1 : ¬ m = "den") (h2 : ¬ m = "num") : (fF n d).lookup m = none := by
  unfold fF
  rw [lookup_putF, if_neg h1, lookup_putF, if_neg h2]
  all_goals rfl
/-- a fraction as an object -/
def FrV (C : Addr) (H : Hp) (p : Addr) (n d : Int) : Prop := ∃ dx, H p = some (.ins C dx (fF n d))
theorem FrV.same {C : Addr} {H H' : Hp} {p : Addr} {n d : Int} (e : Same H H') : FrV C H p n d → FrV C H' p n d := fun ⟨dx, h⟩ => ⟨dx, e _ _ h⟩
/-- the sign of the divisor on the greatest common divisor -/
def gS (n d : Int) : Int := if d < 0 then -((Nat.gcd n.natAbs d.natAbs : Nat) : Int) else ((Nat.gcd n.natAbs d.natAbs : Nat) : Int)
def LN (n d : Int) : Int := n.fdiv (gS n d)
def LD (n d : Int) : Int := d.fdiv (gS n d)
abbrev Big (x : Int) : Prop := x.natAbs < 2 ^ 4000
abbrev Mid (x : Int) : Prop := x.natAbs < 2 ^ 1900
theorem gcd_pos {n d : Int} (h : d ≠ 0) : 0 < Nat.gcd n.natAbs d.natAbs := Nat.gcd_pos_of_pos_right _ (by omega)
theorem gcd_le {n d : Int} (h : d ≠ 0) : Nat.gcd n.natAbs d.natAbs ≤ d.natAbs := Nat.le_of_dvd (by omega) (Nat.gcd_dvd_right _ _)
theorem gS_div {n d : Int} (h : d ≠ 0) (hb : Big d) : CDivM n (gS n d) := by
  have p := gcd_pos (n := n) h
  have l := gcd_le (n := n) h
  have e : (gS n d).natAbs = Nat.gcd n.natAbs d.natAbs := by
    unfold gS
    split
    · rw [Int.natAbs_neg, Int.natAbs_natCast]
    · rw [Int.natAbs_natCast]
  refine ⟨by omega, ?_⟩
  rw [e]
  have z : Nat.log2 (Nat.gcd n.natAbs d.natAbs) < 4000 := PySem.Flt.log2_lt_of (by decide) (Nat.lt_of_le_of_lt l hb)
  omega
theorem mid_mul {x y : Int} (hx : Mid x) (hy : Mid y) : CMulW x y ∧ (x * y).natAbs < 2 ^ 3800 := ⟨wide_mul hx hy (by decide) (by decide) (by decide), wide_lt hx hy⟩
theorem big_of {x : Int} (h : x.natAbs < 2 ^ 3800) : Big x := Nat.lt_of_lt_of_le h (Nat.pow_le_pow_right (by decide) (by decide))
/-! a value of which what may be changed is new since H0 -/
mutual
inductive IsN (C : Addr) (H0 H : Hp) : V → Wv → Prop
  | non : IsN C H0 H .non .non
  | bl (b : Bool) : IsN C H0 H (.bl b) (.bl b)
  | int (i : Int) : IsN C H0 H (.int i) (.int i)
  | str (s : Str) : IsN C H0 H (.str s) (.str s)
  | fr {p dx : Addr} {n d : Int} (h : H p = some (.ins C dx (fF n d))) : IsN C H0 H (.ref p) (.fr n d)
  | lst {p : Addr} {vs : List V} {ws : List Wv} (h : H p = some (.lst vs)) (n : H0 p = none) (e : IsNs C H0 H vs ws) : IsN C H0 H (.ref p) (.lst ws)
  | tup {p : Addr} {vs : List V} {ws : List Wv} (h : H p = some (.tup vs)) (e : IsNs C H0 H vs ws) : IsN C H0 H (.ref p) (.tup ws)
inductive IsNs (C : Addr) (H0 H : Hp) : List V → List Wv → Prop
  | nil : IsNs C H0 H [] []
  | cons {v : V} {w : Wv} {vs : List V} {ws : List Wv} (h : IsN C H0 H v w) (e : IsNs C H0 H vs ws) : IsNs C H0 H (v :: vs) (w :: ws)
end
mutual
theorem IsN.is {C : Addr} {H0 H : Hp} : ∀ {v : V} {w : Wv}, IsN C H0 H v w → IsW C H v w
  | _, _, .non => .non
  | _, _, .bl b => .bl b
  | _, _, .int i => .int i
  | _, _, .str s => .str s
  | _, _, .fr h => .fr h
  | _, _, .lst h _ e => .lst h (IsNs.is e)
  | _, _, .tup h e => .tup h (IsNs.is e)
theorem IsNs.is {C : Addr} {H0 H : Hp} : ∀ {vs : List V} {ws : List Wv}, IsNs C H0 H vs ws → IsWs C H vs ws
  | _, _, .nil => .nil
  | _, _, .cons h e => .cons (IsN.is h) (IsNs.is e)
end
/-! it stands in another heap, and was new in an older one -/
mutual
theorem IsN.go {C : Addr} {H0 H0' H H' : Hp} (e : ∀ q o, (∀ xs, o = .lst xs → H0 q = none) → H q = some o → H' q = some o) (f : ∀ q, H0 q = none → H0' q = none) : ∀ {v : V} {w : Wv}, IsN C H0 H v w → IsN C H0' H' v w
  | _, _, .non => .non
  | _, _, .bl b => .bl b
  | _, _, .int i => .int i
  | _, _, .str s => .str s
  | _, _, .fr h => .fr (e _ _ (fun _ z => by cases z) h)
  | _, _, .lst h n a => .lst (e _ _ (fun _ _ => n) h) (f _ n) (IsNs.go e f a)
  | _, _, .tup h a => .tup (e _ _ (fun _ z => by cases z) h) (IsNs.go e f a)
theorem IsNs.go {C : Addr} {H0 H0' H H' : Hp} (e : ∀ q o, (∀ xs, o = .lst xs → H0 q = none) → H q = some o → H' q = some o) (f : ∀ q, H0 q = none → H0' q = none) : ∀ {vs : List V} {ws : List Wv}, IsNs C H0 H vs ws → IsNs C H0' H' vs ws
  | _, _, .nil => .nil
  | _, _, .cons h a => .cons (IsN.go e f h) (IsNs.go e f a)
end
theorem IsN.same {C : Addr} {H0 H H' : Hp} {v : V} {w : Wv} (e : Same H H') (h : IsN C H0 H v w) : IsN C H0 H' v w := h.go (fun q o _ z => e q o z) fun _ z => z
theorem IsNs.at {C : Addr} {H0 H : Hp} : ∀ {vs : List V} {ws : List Wv} {i : Nat}, IsNs C H0 H vs ws → i < vs.length → ∃ v w, vs[i]? = some v ∧ ws[i]? = some w ∧ IsN C H0 H v w
  | _, _, _, .nil, h => absurd h (Nat.not_lt_zero _)
  | _, _, 0, .cons a _, _ => ⟨_, _, rfl, rfl, a⟩
  | _, _, i + 1, .cons _ a, h => IsNs.at (i := i) a (Nat.lt_of_succ_lt_succ h)
theorem IsN.but {K : PySem.W.Frag} {C b c : Addr} {ns : List Int} {H H1 H' : Hp} {v : V} {w : Wv} (B : BoxAt K H b c ns) (B1 : BoxAt K H1 b c ns) (e : But b H1 H') (h : IsN C H H1 v w) : IsN C H H' v w :=
  h.go (fun q o n z => e q o (fun eq => by
    subst eq
    obtain ⟨_, _, _, hb, _⟩ := B.ob
    obtain ⟨_, _, _, hb1, _⟩ := B1.ob
    rw [hb1] at z
    have z := (Option.some.inj z).symm
    rw [n _ z] at hb
    cases hb) z) fun _ z => z
theorem IsNs.but {K : PySem.W.Frag} {C b c : Addr} {ns : List Int} {H H1 H' : Hp} (B : BoxAt K H b c ns) (B1 : BoxAt K H1 b c ns) (e : But b H1 H') : ∀ {vs : List V} {ws : List Wv}, IsNs C H H1 vs ws → IsNs C H H' vs ws
  | _, _, .nil => .nil
  | _, _, .cons h a => .cons (h.but B B1 e) (IsNs.but B B1 e a)
theorem IsNs.len {C : Addr} {H0 H : Hp} : ∀ {vs : List V} {ws : List Wv}, IsNs C H0 H vs ws → vs.length = ws.length
  | _, _, .nil => rfl
  | _, _, .cons _ a => congrArg (· + 1) a.len
section
variable {P : Program} {w : World} {K : PySem.W.Frag} {mg : Str → Option Value} {base : Heap} {a : Ad}
/-! ### Frac.__init__ -/
def spFrac (C : Addr) : Sp := fun vs H Q _ => ∃ (p dx : Addr) (n d : Int), vs = [.ref p, .int n, .int d] ∧ H p = some (.ins C dx []) ∧ d ≠ 0 ∧ Big n ∧ Big d ∧ ∀ H', H' p = some (.ins C dx (fF (LN n d) (LD n d))) → (∀ b, b ≠ p → H' b = H b) → Q .non H'
theorem sc_Frac_init : FnScope ["self", "num", "den", "common"] ["self", "num", "den"] (defScope s_Frac_init) := ⟨rfl, rfl, rfl, by decide +kernel, rfl, by decide +kernel, by decide +kernel⟩
theorem ok_Frac_init (T : Txt K mg a) : FnOk P w K mg base CX0 2 a.a_Frac_init a.d_Frac_init ["self", "num", "den"] (spFrac a.C_Frac) := by
  refine T.fn_Frac_init.ok sc_Frac_init (fun vs H Q E h => ?_) (fun cdv A outer s H vs Q E hr h => ?_)
  · obtain ⟨p, dx, n, d, rfl, _⟩ := h
    rfl
  · obtain ⟨p, dx, n, d, rfl, hp, h0, bn, bd, k⟩ := h
    refine ⟨_, (pss_cons (ps_if (PW.pt (pw_or (pt_not (pt_val (pe_call (ok_is_whole T) (hr.mono (by decide)) (by rfl) T.mg_is_whole T.fn_is_whole.kp T.b_is_whole .nil pass0 (pa_cons (pv 1) pa_nil)))) (pw_or (pt_not (pt_val (pe_call (ok_is_whole T) (hr.mono (by decide)) (by rfl) T.mg_is_whole T.fn_is_whole.kp T.b_is_whole .nil pass0 (pa_cons (pv 2) pa_nil)))) (pw_or1 (pt_cmpR op_eq (pv 2) pe_int (nomark _)))))) (pss_one ps_never) pss_nil)
      (pss_cons (ps_set (i := 3) sc_Frac_init.nd rfl (Or.inl rfl) (pe_callBfun cr_gcd (by rfl) T.mg_gcd (pa_cons (pv 1) (pa_cons (pv 2) pa_nil))))
      (pss_cons (ps_if (pt_cmpR op_lt (pv 2) pe_int (nomark _)) (pss_one (ps_set (i := 3) sc_Frac_init.nd rfl (Or.inl rfl) (pe_un un_neg (pv 3)))) pss_nil)
      (pss_cons (ps_fld (pv 0) (pe_op op_fdivWN (pv 1) (pv 3)) rfl)
      (pss_one (ps_fld (pv 0) (pe_op op_fdivWN (pv 2) (pv 3)) rfl)))))), ?_⟩
    show (_ : TS) _ [some (V.ref p), some (V.int n), some (V.int d), none] H
    walk_at "rd"
    refine ⟨.int n, .int, rfl, .int n, _, rfl, ?_⟩
    rw [if_neg (by decide)]
    refine ⟨.int d, .int, rfl, .int d, _, rfl, ?_⟩
    rw [if_neg (by decide), if_neg h0]
    simp only [rGcd]
    walk_at "rd"
    have gd := gS_div (n := n) h0 bd
    refine ite2 (fun hn => ?_) (fun hn => ?_)
    · have e : gS n d = -((Nat.gcd n.natAbs d.natAbs : Nat) : Int) := if_pos hn
      rw [e] at gd
      refine ⟨gd, _, _, _, hp, T.cl_Frac, T.na_Frac_num, (by show 0 < 1000; decide), gd, T.cl_Frac, T.na_Frac_den, (by show 1 < 1000; decide), k _ ?_ fun b hb => by rw [upd_ne hb, upd_ne hb]⟩
      rw [upd_same]
      unfold fF LN LD
      rw [e]
    · have e : gS n d = ((Nat.gcd n.natAbs d.natAbs : Nat) : Int) := if_neg hn
      rw [e] at gd
      refine ⟨gd, _, _, _, hp, T.cl_Frac, T.na_Frac_num, (by show 0 < 1000; decide), gd, T.cl_Frac, T.na_Frac_den, (by show 1 < 1000; decide), k _ ?_ fun b hb => by rw [upd_ne hb, upd_ne hb]⟩
      rw [upd_same]
      unfold fF LN LD
      rw [e]
theorem b3 (T : Txt K mg a) : Binds K a.d_Frac_init ["self", "num", "den"] [] := by
  obtain ⟨ds, v, b⟩ := T.fn_Frac_init.binds1 (ps := ["self", "num", "den"]) 3 1 (by decide) rfl fun Tt kV doc pm an cdv ct us its hu hi => match us, its, hu, hi with | [_, _, _], [_], _, _ => ⟨_, rfl, by first | rfl | with_unfolding_all rfl | kernel_rfl⟩
  cases v
  exact b
theorem b2 (T : Txt K mg a) : ∃ ds, Vals [.int 1] ds ∧ Binds K a.d_Frac_init ["self", "num", "den"] ds :=
  T.fn_Frac_init.binds1 2 0 (by decide) rfl fun Tt kV doc pm an cdv ct us its hu hi => match us, its, hu, hi with | [_, _], [_], _, _ => ⟨_, rfl, by first | rfl | with_unfolding_all rfl | kernel_rfl⟩
/-- Frac(n, d) -/
theorem frac_made {C : Addr} {n d : Int} {H : Hp} {Q : VK} {E : XK} (hd : d ≠ 0) (bn : Big n) (bd : Big d) (k : ∀ x H', H x = none → FrV C H' x (LN n d) (LD n d) → Same H H' → Q (.ref x) H') :
    ∀ x dx, H x = none → H dx = none → dx ≠ x → spFrac C [.ref x, .int n, .int d] (upd (upd H dx (.own x)) x (.ins C dx [])) (fun v H2 => v = .non ∧ Q (.ref x) H2) E := fun x dx hx hdx hne =>
  ⟨x, dx, n, d, rfl, upd_same, hd, bn, bd, fun H' h1 h2 => ⟨rfl, k x H' hx ⟨dx, h1⟩ fun b o e => by
    rw [h2 b (ne_of_none e hx), upd_ne (ne_of_none e hx), upd_ne (ne_of_none e hdx)]
    exact e⟩⟩
theorem fr_made {C : Addr} {n : Nat} (hn : n < 3) {H1 : Hp} {x dx : Addr} {R : Hp → Prop} {E : XK} (hx : H1 x = none) (hdx : H1 dx = none) (hne : dx ≠ x) (k : ∀ H', H' x = some (.ins C dx (fF n 1)) → Same H1 H' → R H') :
    spFrac C [.ref x, .int n, .int 1] (upd (upd H1 dx (.own x)) x (.ins C dx [])) (fun v H2 => v = .non ∧ R H2) E := by
  have l : LN (n : Int) 1 = n := by match n, hn with | 0, _ => decide +kernel | 1, _ => decide +kernel | 2, _ => decide +kernel
  have d : LD (n : Int) 1 = 1 := by match n, hn with | 0, _ => decide +kernel | 1, _ => decide +kernel | 2, _ => decide +kernel
  have b : ∀ m : Nat, m < 3 → Big (m : Int) := fun m h => Nat.lt_of_lt_of_le (show ((m : Int)).natAbs < 2 ^ 2 by omega) (Nat.pow_le_pow_right (by decide) (by decide))
  refine ⟨x, dx, n, 1, rfl, upd_same, by decide, b n hn, b 1 (by decide), fun H' h1 h2 => ⟨rfl, ?_⟩⟩
  rw [l, d] at h1
  exact k H' h1 fun b o e => by
    rw [h2 b (ne_of_none e hx), upd_ne (ne_of_none e hx), upd_ne (ne_of_none e hdx)]
    exact e
theorem shp {C b c p : Addr} {ns : List Int} {H H1 : Hp} {xs : List V} {ws : List Wv} {d : Nat} {Q : VK} {E : XK} (B : BoxAt K H b c ns) (B1 : BoxAt K H1 b c ns) (e1 : But b H H1) (n : H1 p = none) (x9 : xs.length ≤ 9) (hx : IsNs C H H1 xs ws) (hd : ∀ w ∈ ws, Dep d w)
    (k : ∀ v w H', BoxAt K H' b c ns → But b H H' → IsN C H H' v w → (∃ l : Bool, w = if l = true then .lst ws else .tup ws) → Dep (d + 1) w → Q v H') : spShape K [.ref b, .ref p] (upd H1 p (.lst xs)) Q E := by
  have pb := B1.ne_new n
  have eP : But b H (upd H1 p (.lst xs)) := e1.updn (e1.free pb n)
  have BP := B.upd B1 pb eP
  refine ⟨b, c, p, ns, true, xs, rfl, BP, pb, upd_same, by omega, fun q l' H' B' e' qb hq hn => ?_⟩
  have hx2 : IsNs C H (upd H1 p (.lst xs)) xs ws := by
    have := same_upd (o := .lst xs) n
    exact IsNs.but B B1 (Same.but this) hx
  have hx' := IsNs.but B BP e' hx2
  have wl := hx.len
  cases l' with
  | true => exact k _ _ H' B' (eP.trans e') (.lst hq (eP.free qb (hn rfl)) hx') ⟨true, rfl⟩ (.lst (by omega) hd)
  | false => exact k _ _ H' B' (eP.trans e') (.tup hq hx') ⟨false, rfl⟩ (.tup (by omega) hd)
/-! ### _law_no_set -/
def spNo (K : PySem.W.Frag) (C : Addr) : Sp := fun vs H Q _ => ∃ (b c : Addr) (ns : List Int) (n : Nat), vs = [.ref b, .int n] ∧ BoxAt K H b c ns ∧ 1 ≤ n ∧ n ≤ 6 ∧
  ∀ v w H', BoxAt K H' b c ns → But b H H' → IsN C H H' v w → Dep 3 w → Q v H'
theorem sc_law_no_set : FnScope ["box", "size", "shape"] ["box", "size"] (defScope s_law_no_set) := ⟨rfl, rfl, rfl, by decide +kernel, rfl, by decide +kernel, by decide +kernel⟩
theorem ok_law_no_set (T : Txt K mg a) : FnOk P w K mg base CX0 5 a.a_law_no_set a.d_law_no_set ["box", "size"] (spNo K a.C_Frac) := by
  refine T.fn_law_no_set.ok sc_law_no_set (fun vs H Q E h => ?_) (fun cdv A outer s H vs Q E hr h => ?_)
  · obtain ⟨b, c, ns, n, rfl, _⟩ := h
    rfl
  · obtain ⟨b, c, ns, n, rfl, B, n1, n6, k⟩ := h
    obtain ⟨ds2, b2v, b2b⟩ := b2 T
    refine ⟨_, (pss_cons (ps_set (i := 2) sc_law_no_set.nd rfl (Or.inl rfl) (pe_call (ok_law_draw T) (hr.mono (by decide)) (by rfl) T.mg_law_draw T.fn_law_draw.kp T.b_law_draw .nil pass0 (pa_cons (pv 0) (pa_cons pe_int pa_nil))))
      (pss_cons (ps_if (pt_cmpR op_eq (pv 2) pe_int (nomark _)) (pss_one (ps_ret (pe_ix Rd.ixH (pe_lst (pa_cons pe_non (pa_cons pe_bl (pa_cons pe_int (pa_cons pe_str (pa_cons (pe_make T.mk_Frac (ok_Frac_init T) (hr.mono (by decide)) (by rfl) T.mg_Frac b2b b2v pass0 (pa_cons pe_int pa_nil)) (pa_cons (pe_un un_neg pe_int) (pa_cons pe_str pa_nil)))))))) (pe_call (ok_law_draw T) (hr.mono (by decide)) (by rfl) T.mg_law_draw T.fn_law_draw.kp T.b_law_draw .nil pass0 (pa_cons (pv 0) (pa_cons pe_int pa_nil))) (fun _ _ => rfl)))) pss_nil)
      (pss_cons (ps_if (pt_cmpR op_eq (pv 2) pe_int (nomark _)) (pss_one (ps_ret (pe_call (ok_law_shape T) (hr.mono (by decide)) (by rfl) T.mg_law_shape T.fn_law_shape.kp T.b_law_shape .nil pass0 (pa_cons (pv 0) (pa_cons (pe_lst (pa_cons (pe_op op_add (pv 1) (pe_op op_mul pe_int (pe_call (ok_law_draw T) (hr.mono (by decide)) (by rfl) T.mg_law_draw T.fn_law_draw.kp T.b_law_draw .nil pass0 (pa_cons (pv 0) (pa_cons pe_int pa_nil))))) pa_nil)) pa_nil))))) pss_nil)
      (pss_cons (ps_if (pt_cmpR op_eq (pv 2) pe_int (nomark _)) (pss_one (ps_ret (pe_call (ok_law_shape T) (hr.mono (by decide)) (by rfl) T.mg_law_shape T.fn_law_shape.kp T.b_law_shape .nil pass0 (pa_cons (pv 0) (pa_cons (pe_lst (pa_cons (pe_op op_sub (pe_un un_neg pe_int) (pe_call (ok_law_draw T) (hr.mono (by decide)) (by rfl) T.mg_law_draw T.fn_law_draw.kp T.b_law_draw .nil pass0 (pa_cons (pv 0) (pa_cons (pv 1) pa_nil)))) pa_nil)) pa_nil))))) pss_nil)
      (pss_cons (ps_if (pt_cmpR op_eq (pv 2) pe_int (nomark _)) (pss_one (ps_ret (pe_call (ok_law_shape T) (hr.mono (by decide)) (by rfl) T.mg_law_shape T.fn_law_shape.kp T.b_law_shape .nil pass0 (pa_cons (pv 0) (pa_cons (pe_lst (pa_cons (pe_op op_sub (pv 1) pe_int) (pa_cons (pe_op op_sub (pv 1) pe_int) pa_nil))) pa_nil))))) pss_nil)
      (pss_cons (ps_if (pt_cmpR op_eq (pv 2) pe_int (nomark _)) (pss_one (ps_ret (pe_call (ok_law_shape T) (hr.mono (by decide)) (by rfl) T.mg_law_shape T.fn_law_shape.kp T.b_law_shape .nil pass0 (pa_cons (pv 0) (pa_cons (pe_lst (pa_cons (pe_op op_sub (pv 1) pe_int) (pa_cons pe_int pa_nil))) pa_nil))))) pss_nil)
      (pss_cons (ps_if (pt_cmpR op_eq (pv 2) pe_int (nomark _)) (pss_one (ps_ret (pe_call (ok_law_shape T) (hr.mono (by decide)) (by rfl) T.mg_law_shape T.fn_law_shape.kp T.b_law_shape .nil pass0 (pa_cons (pv 0) (pa_cons (pe_lst (pa_cons (pe_ix Rd.ixH (pe_lst (pa_cons pe_bl (pa_cons pe_bl (pa_cons pe_non (pa_cons pe_str (pa_cons (pe_make T.mk_Frac (ok_Frac_init T) (hr.mono (by decide)) (by rfl) T.mg_Frac b2b b2v pass0 (pa_cons pe_int pa_nil)) (pa_cons (pe_tup (pa_cons pe_int pa_nil)) (pa_cons (pe_lst (pa_cons (pe_lst (pa_cons pe_int pa_nil)) pa_nil)) pa_nil)))))))) (pe_call (ok_law_draw T) (hr.mono (by decide)) (by rfl) T.mg_law_draw T.fn_law_draw.kp T.b_law_draw .nil pass0 (pa_cons (pv 0) (pa_cons pe_int pa_nil))) (fun _ _ => rfl)) pa_nil)) pa_nil))))) pss_nil)
      (pss_one (ps_ret (pe_call (ok_law_shape T) (hr.mono (by decide)) (by rfl) T.mg_law_shape T.fn_law_shape.kp T.b_law_shape .nil pass0 (pa_cons (pv 0) (pa_cons (pe_lst (pa_cons pe_int (pa_cons pe_bl pa_nil))) pa_nil)))))))))))), ?_⟩
    show (_ : TS) _ [some (V.ref b), some (V.int n), none] H
    walk_at "rd"
    have i3 : ∀ m : Int, -10 < m → m < 10 → ∀ d, Dep d (.int m) := fun m h h' d => .int h (by omega)
    have put : ∀ {H1 : Hp} {p : Addr} {xs : List V} {ws : List Wv}, BoxAt K H1 b c ns → But b H H1 → H1 p = none → xs.length ≤ 9 → IsNs a.C_Frac H H1 xs ws → (∀ w ∈ ws, Dep 2 w) → spShape K [.ref b, .ref p] (upd H1 p (.lst xs)) Q E0 :=
      fun B1 e1 n x9 hx hd => shp B B1 e1 n x9 hx hd fun v w H' B' e' hv _ hd' => k v w H' B' e' hv hd'
    have two : ∀ w1 w2 : Wv, Dep 2 w1 → Dep 2 w2 → ∀ w ∈ [w1, w2], Dep 2 w := fun w1 w2 h1 h2 w m => by
      rcases List.mem_cons.mp m with rfl | m
      · exact h1
      · rw [List.mem_singleton.mp m]; exact h2
    have one : ∀ w1 : Wv, Dep 2 w1 → ∀ w ∈ [w1], Dep 2 w := fun w1 h1 w m => by rw [List.mem_singleton.mp m]; exact h1
    refine drw B (by decide) (by decide) fun x H1 x7 B1 e1 => ⟨rfl, ite2 (fun _ => ?_) (fun _ => ⟨rfl, ite2 (fun _ => ?_) (fun _ => ⟨rfl, ite2 (fun _ => ?_) (fun _ => ⟨rfl, ite2 (fun _ => ?_) (fun _ => ⟨rfl, ite2 (fun _ => ?_) (fun _ => ⟨rfl, ite2 (fun _ => ?_) (fun _ => ?_)⟩)⟩)⟩)⟩)⟩)⟩
    · intro f dx hf hdx hne
      refine fr_made (n := 1) (by decide) hf hdx hne fun H2 hfr e2 => ⟨by decide, fun p hp => ?_⟩
      have B2 := B1.same e2
      have e02 := e1.trans (Same.but e2)
      have pb := B2.ne_new hp
      have eP : But b H (upd H2 p _) := e02.updn (o := .lst [V.non, V.bl true, V.int 3, V.str (Str.ofString "01"), V.ref f, V.int (-1), V.str (Str.ofString "")]) (e02.free pb hp)
      have BP := B.upd B2 pb eP
      refine drw BP (by decide) (by decide) fun y H3 y7 B3 e3 => ?_
      have hs : IsNs a.C_Frac H H2 [V.non, V.bl true, V.int 3, V.str (Str.ofString "01"), V.ref f, V.int (-1), V.str (Str.ofString "")] [.non, .bl true, .int 3, .str (Str.ofString "01"), .fr (1 : Nat) (1 : Nat), .int (-1), .str (Str.ofString "")] :=
        .cons .non (.cons (.bl _) (.cons (.int _) (.cons (.str _) (.cons (.fr hfr) (.cons (.int _) (.cons (.str _) .nil))))))
      have hs := IsNs.but B BP e3 (IsNs.but B B2 (Same.but (same_upd hp)) hs)
      obtain ⟨v, w, hv, hw, vw⟩ := hs.at (i := y) (show y < 7 by omega)
      refine ⟨_, _, rfl, e3 _ _ pb upd_same, v, atI_nat hv, k v w H3 B3 (eP.trans e3) vw ?_⟩
      have all : ∀ w ∈ [Wv.non, .bl true, .int 3, .str (Str.ofString "01"), .fr (1 : Nat) (1 : Nat), .int (-1), .str (Str.ofString "")], Dep 3 w := by
        intro w m
        simp only [List.mem_cons, List.not_mem_nil, or_false] at m
        rcases m with rfl | rfl | rfl | rfl | rfl | rfl | rfl
        · exact .non
        · exact .bl _
        · exact i3 _ (by decide) (by decide) _
        · exact .str (by decide +kernel)
        · exact .fr (by decide) (by decide)
        · exact i3 _ (by decide) (by decide) _
        · exact .str (by decide +kernel)
      exact all w (List.mem_of_getElem? hw)
    · refine drw B1 (by decide) (by decide) fun y H2 y2 B2 e2 => ⟨_, rfl, .inl ⟨by decide, by decide⟩, by decide, fun p hp => put B2 (e1.trans e2) hp (by show 1 ≤ 9; decide) (.cons (.int _) .nil) (one _ (.int (by omega) (by omega)))⟩
    · refine drw B1 (by omega) (by omega) fun y H2 y2 B2 e2 => ⟨_, rfl, by decide, fun p hp => put B2 (e1.trans e2) hp (by show 1 ≤ 9; decide) (.cons (.int _) .nil) (one _ (.int (by omega) (by omega)))⟩
    · exact ⟨by decide, fun p hp => put B1 e1 hp (by show 2 ≤ 9; decide) (.cons (.int _) (.cons (.int _) .nil)) (two _ _ (.int (by omega) (by omega)) (.int (by omega) (by omega)))⟩
    · exact ⟨by decide, fun p hp => put B1 e1 hp (by show 2 ≤ 9; decide) (.cons (.int _) (.cons (.int _) .nil)) (two _ _ (.int (by omega) (by omega)) (.int (by omega) (by omega)))⟩
    · intro f dx hf hdx hne
      refine fr_made (n := 0) (by decide) hf hdx hne fun H2 hfr e2 => ⟨by decide, fun p1 h1 => ⟨by decide, fun p2 h2 => ⟨by decide, fun p3 h3 => ⟨by decide, fun p hp => ?_⟩⟩⟩⟩
      have s1 := same_upd (o := .tup [V.int 0]) h1
      have s2 := same_upd (o := .lst [V.int 0]) h2
      have s3 := same_upd (o := .lst [V.ref p2]) h3
      have s := (s1.trans s2).trans s3
      have a1 : upd H2 p1 (.tup [V.int 0]) p1 = _ := upd_same
      have a2 : upd (upd H2 p1 (.tup [V.int 0])) p2 (.lst [V.int 0]) p2 = _ := upd_same
      have a3 : upd (upd (upd H2 p1 (.tup [V.int 0])) p2 (.lst [V.int 0])) p3 (.lst [V.ref p2]) p3 = _ := upd_same
      have a1 := s3 _ _ (s2 _ _ a1)
      have a2 := s3 _ _ a2
      have f2 := s1.free h2
      have f3 := s1.free (s2.free h3)
      generalize upd (upd (upd H2 p1 (.tup [V.int 0])) p2 (.lst [V.int 0])) p3 (.lst [V.ref p2]) = H5 at *
      have B5 := B1.same (e2.trans s)
      have e05 := e1.trans (Same.but (e2.trans s))
      have fre : ∀ q, H2 q = none → H q = none := fun q hq => (e1.trans (Same.but e2)).free ((B1.same e2).ne_new hq) hq
      have pb := B5.ne_new hp
      have eP : But b H (upd H5 p (.lst [V.bl true, V.bl false, V.non, V.str (Str.ofString "0"), V.ref f, V.ref p1, V.ref p3])) := e05.updn (e05.free pb hp)
      have BP := B.upd B5 pb eP
      refine drw BP (by decide) (by decide) fun y H3 y7 B3 e3 => ?_
      have hs : IsNs a.C_Frac H H5 [V.bl true, V.bl false, V.non, V.str (Str.ofString "0"), V.ref f, V.ref p1, V.ref p3] [.bl true, .bl false, .non, .str (Str.ofString "0"), .fr (0 : Nat) (1 : Nat), .tup [.int 0], .lst [.lst [.int 0]]] :=
        .cons (.bl _) (.cons (.bl _) (.cons .non (.cons (.str _) (.cons (.fr (s _ _ hfr)) (.cons (.tup a1 (.cons (.int _) .nil)) (.cons (.lst a3 (fre _ f3) (.cons (.lst a2 (fre _ f2) (.cons (.int _) .nil)) .nil)) .nil))))))
      have hs := IsNs.but B BP e3 (IsNs.but B B5 (Same.but (same_upd hp)) hs)
      obtain ⟨v, w, hv, hw, vw⟩ := hs.at (i := y) (show y < 7 by omega)
      refine ⟨_, _, rfl, e3 _ _ pb upd_same, v, atI_nat hv, by decide, fun q hq => put B3 (eP.trans e3) hq (by show 1 ≤ 9; decide) (.cons vw .nil) (one _ ?_)⟩
      have all : ∀ w ∈ [Wv.bl true, .bl false, .non, .str (Str.ofString "0"), .fr (0 : Nat) (1 : Nat), .tup [.int 0], .lst [.lst [.int 0]]], Dep 2 w := by
        intro w m
        simp only [List.mem_cons, List.not_mem_nil, or_false] at m
        rcases m with rfl | rfl | rfl | rfl | rfl | rfl | rfl
        · exact .bl _
        · exact .bl _
        · exact .non
        · exact .str (by decide +kernel)
        · exact .fr (by decide) (by decide)
        · exact .tup (by decide) fun w m => by rw [List.mem_singleton.mp m]; exact i3 _ (by decide) (by decide) _
        · exact .lst (by decide) fun w m => by rw [List.mem_singleton.mp m]; exact .lst (by decide) fun w m => by rw [List.mem_singleton.mp m]; exact i3 _ (by decide) (by decide) _
      exact all w (List.mem_of_getElem? hw)
    · exact ⟨by decide, fun p hp => put B1 e1 hp (by show 2 ≤ 9; decide) (.cons (.int _) (.cons (.bl _) .nil)) (two _ _ (i3 _ (by decide) (by decide) _) (.bl _))⟩
end

end K21
namespace K21
open PySem PySem.Spec PyProof.Rows L2 Own OwnSeq OwnSet OwnComb OwnSort OwnHot OwnExN OwnProj
local macro_rules | `(tactic| walk_at "rd") => `(tactic| simp only [tSeq, tAsg, tOp, tUn, tVar, gName, gSub, rIxL, rIxT, rSetL, tC, rI0, rI, rU, rEq, rNe, tCons, tNil, tCB, tLst, tTup, tIfS, tAnd, tOr, tNot, tAndV, tOrV, tNotV, tTest, tB, tIf, tRet, tDrop, tNext, tBreak, tCont, tCall, tCallS, L2.WE, tMakeS, rIsS, rIsB, tChain, gSeq, gRest, gCons, gNil, tFor_seq, tFor_enumS, tLc_seq, tLc_enumS, rAny, rAll, L2.tMeth, StX.tStar, rIn, tLstRg, tRg1, tRg2, rSetI, rSortedSet, rInDT, rInD, rNotInD, rEqD, rNeD, iComb, tFld, tMake, tMkO, sFld, tOst, tNever, tBits, clv, isB,
  Rd.tFor_rng1, Rd.tFor_rng2, Rd.tFor_list, Rd.tFor_tup, Rd.tLc_list, Rd.tLc_tup, Rd.tLc_rng1, Rd.LcTurn, tYes, wipe, Rd.rLenL, Rd.rLenT, Rd.rIntI, Rd.rIxH, rIxHT,  HO.tup.injEq, Rd.at0, Rd.at1, Rd.at2, Rd.at3, Rd.ixN40, Rd.ixN41, Rd.ixN42, Rd.ixN43, Rd.scal_ii, cxOf,
  List.length_cons, List.length_nil, List.length_map, List.map_cons, List.map_nil, upd_same, decide_eq_true_eq, decide_true, decide_false, if_true, if_false, Bool.false_eq_true, Bool.not_true, Bool.not_false, HO.lst.injEq, HO.ins.injEq, List.set_cons_zero, List.set_cons_succ, List.getElem?_cons_zero, List.getElem?_cons_succ, List.append_nil, List.nil_append, List.cons_append, Option.some.injEq, V.ref.injEq, V.int.injEq, V.bl.injEq, List.cons.injEq, exists_eq_left', exists_and_left, exists_eq_left, true_and, and_true, and_self, and_assoc, implies_true, reduceCtorEq, Nat.reduceAdd])

section
variable {P : Program} {w : World} {K : PySem.W.Frag} {mg : Str → Option Value} {base : Heap} {a : Ad}
theorem okH_law_integer (T : Txt K mg a) : L2H.FnH P w K mg base CX0 1 a.a_law_integer a.d_law_integer ["value"] (spWhole a.C_Frac) := by
  refine okH T.fn_law_integer sc_law_integer (fun vs H Q E h => ?_) (fun cdv A outer s H vs Q E hp0 hot hr h => ?_)
  · obtain ⟨v, g, rfl, _⟩ := h
    rfl
  · obtain ⟨v, g, rfl, t, k⟩ := h
    refine ⟨_, (pss_one (ps_ret (pe_and (pe_callB (call_isK T .int) (by rfl) T.no_isinstance (by decide +kernel) (pa_cons (pv 0) (pa_cons (pe_bltn (v := .ty "int") (u := .type "int") (by rfl) T.no_int (by decide +kernel) rfl) pa_nil))) (pe_one (pe_not (pe_callB (call_isK T .bl) (by rfl) T.no_isinstance (by decide +kernel) (pa_cons (pv 0) (pa_cons (pe_bltn (v := .ty "bool") (u := .type "bool") (by rfl) T.no_bool (by decide +kernel) rfl) pa_nil)))))))), ?_⟩
    show (_ : TS) _ [some v] H
    walk_at "rd"
    refine ⟨v, g, rfl, t, fun _ => by decide, ?_⟩
    refine ⟨_, rfl, ?_⟩
    cases g with
    | int => exact ite2 (fun _ => ⟨v, _, rfl, t, (fun z => nomatch z), _, rfl, k⟩) (fun h => absurd rfl h)
    | bl => exact ite2 (fun _ => ⟨v, _, rfl, t, (fun z => nomatch z), _, rfl, k⟩) (fun h => absurd rfl h)
    | _ => exact ite2 (fun (h : false = true) => nomatch h) (fun _ => k)
/-! ### _law_right_set -/
def spRight (C : Addr) : Sp := fun vs H Q _ => ∃ (v : V) (w : Wv) (n : Nat), vs = [v, .int n] ∧ IsW C H v w ∧ Q (.bl (ascW n w)) H
theorem sc_law_right_set : FnScope ["value", "size", "last", "thing"] ["value", "size"] (defScope s_law_right_set) := ⟨rfl, rfl, rfl, by decide +kernel, rfl, by decide +kernel, by decide +kernel⟩
theorem ok_law_right_set (T : Txt K mg a) : FnOk P w K mg base CX0 3 a.a_law_right_set a.d_law_right_set ["value", "size"] (spRight a.C_Frac) := by
  refine T.fn_law_right_set.ok sc_law_right_set (fun vs H Q E h => ?_) (fun cdv A outer s H vs Q E hr h => ?_)
  · obtain ⟨v, w, n, rfl, _⟩ := h
    rfl
  · obtain ⟨v, w, n, rfl, hv, k⟩ := h
    refine ⟨_, (pss_cons (ps_if (PW.pt (pw_and (pt_not (pt_val (pe_callB (call_isK T .lst) (by rfl) T.no_isinstance (by decide +kernel) (pa_cons (pv 0) (pa_cons (pe_bltn (v := .ty "list") (u := .type "list") (by rfl) T.no_list (by decide +kernel) rfl) pa_nil))))) (pw_and1 (pt_not (pt_val (pe_callB (call_isK T .tup) (by rfl) T.no_isinstance (by decide +kernel) (pa_cons (pv 0) (pa_cons (pe_bltn (v := .ty "tuple") (u := .type "tuple") (by rfl) T.no_tuple (by decide +kernel) rfl) pa_nil)))))))) (pss_one (ps_ret pe_bl)) pss_nil)
      (pss_cons (ps_set (i := 2) sc_law_right_set.nd rfl (Or.inl rfl) (pe_un un_neg pe_int))
      (pss_cons (ps_for PassesOwn.never rfl (pi_told K (pv 0)) (pg_name (i := 3) sc_law_right_set.nd rfl (Or.inl rfl))
        (pss_cons (ps_if (PW.pt (pw_or (pt_not (pt_val (pe_call (ok_law_integer T) (hr.mono (by decide)) (by rfl) T.mg_law_integer T.fn_law_integer.kp T.b_law_integer .nil pass0 (pa_cons (pv 3) pa_nil)))) (pw_or (pt_cmpR op_le (pv 3) (pv 2) (nomark _)) (pw_or1 (pt_cmpR op_ge (pv 3) (pv 1) (nomark _)))))) (pss_one (ps_ret pe_bl)) pss_nil)
        (pss_one (ps_set (i := 2) sc_law_right_set.nd rfl (Or.inl rfl) (pv 3)))))
      (pss_one (ps_ret pe_bl))))), ?_⟩
    show (_ : TS) _ [some v, some (V.int n), none, none] H
    walk_at "rd"
    refine ⟨v, kd w, rfl, hv.kn, fun _ => by decide, ?_⟩
    cases hv with
    | lst hp hs =>
      rename_i p vs ws
      have vl := hs.len
      refine ⟨_, rfl, ite2 (fun h => nomatch h) (fun _ => ⟨p, rfl, ?_⟩)⟩
      refine ⟨true, vs, hp, loop_goes goes_seq (fun σ H' => ∃ o2 o3, σ = [some (V.ref p), some (V.int n), o2, o3] ∧ H' = H ∧ ascF 0 n ws = true)
        (fun i σ H' => ∃ (last : Int) (o3 : Option V), σ = [some (V.ref p), some (V.int n), some (V.int last), o3] ∧ H' = H ∧ -1 ≤ last ∧ ascF 0 n ws = ascF (last + 1) n (ws.drop i)) ⟨-1, none, rfl, rfl, by decide, rfl⟩
        (fun i σ H' _ ⟨_, _, _, e, _⟩ => e ▸ hp) ?_ (fun σ H' ⟨last, o3, e1, e2, _, e4⟩ => ⟨_, _, e1, e2, by rw [e4, List.drop_of_length_le (by omega)]; rfl⟩) ?_⟩
      · rintro bk hbk i x σ H3 H3' hi ⟨last, o3, rfl, rfl, l1, e4⟩ ⟨rfl, hx⟩
        obtain ⟨w', hw', xw⟩ := hs.at hx
        have dr : ws.drop i = w' :: ws.drop (i + 1) := by rw [List.drop_eq_getElem_cons (by omega), (List.getElem?_eq_some_iff.mp hw').2]
        rw [dr] at e4
        walk_at "rd"
        refine ⟨x, kd w', rfl, xw.kn, ?_⟩
        have no : ascF (last + 1) n (w' :: ws.drop (i + 1)) = false → Q (.bl false) H3' := fun z => by
          have k : Q (.bl (ascF 0 n ws)) H3' := k
          rw [e4, z] at k
          exact k
        cases xw with
        | int g =>
          refine ⟨_, rfl, ite2 (fun h => nomatch h) (fun _ => ⟨g, rfl, ite2 (fun hle => no ?_) (fun hgt => ⟨g, rfl, ite2 (fun hge => no ?_) (fun hlt => ⟨g, rfl, rfl, by omega, ?_⟩)⟩)⟩)⟩
          · unfold ascF
            rw [decide_eq_false (show ¬ last + 1 ≤ g by omega)]
            rfl
          · unfold ascF
            rw [decide_eq_false (show ¬ g ≤ (n : Int) - 1 by omega), Bool.and_false]
            rfl
          · rw [e4]
            show (decide (last + 1 ≤ g) && decide (g ≤ (n : Int) - 1) && ascF (g + 1) n (ws.drop (i + 1))) = _
            rw [decide_eq_true (show last + 1 ≤ g by omega), decide_eq_true (show g ≤ (n : Int) - 1 by omega)]
            rfl
        | _ => exact ⟨_, rfl, ite2 (fun _ => no rfl) (fun h => absurd rfl h)⟩
      · rintro σ H3 ⟨o2, o3, rfl, rfl, e⟩
        walk_at "rd"
        show Q (.bl true) _
        have k : Q (.bl (ascF 0 n ws)) H3 := k
        rw [e] at k
        exact k
    | tup hp hs =>
      rename_i p vs ws
      have vl := hs.len
      refine ⟨_, rfl, ite2 (fun _ => ⟨_, .tup, rfl, .tup hp, fun _ => by decide, _, rfl, ite2 (fun h => nomatch h) (fun _ => ⟨p, rfl, ?_⟩)⟩) (fun h => absurd rfl h)⟩
      refine ⟨false, vs, hp, loop_goes goes_seq (fun σ H' => ∃ o2 o3, σ = [some (V.ref p), some (V.int n), o2, o3] ∧ H' = H ∧ ascF 0 n ws = true)
        (fun i σ H' => ∃ (last : Int) (o3 : Option V), σ = [some (V.ref p), some (V.int n), some (V.int last), o3] ∧ H' = H ∧ -1 ≤ last ∧ ascF 0 n ws = ascF (last + 1) n (ws.drop i)) ⟨-1, none, rfl, rfl, by decide, rfl⟩
        (fun i σ H' _ ⟨_, _, _, e, _⟩ => e ▸ hp) ?_ (fun σ H' ⟨last, o3, e1, e2, _, e4⟩ => ⟨_, _, e1, e2, by rw [e4, List.drop_of_length_le (by omega)]; rfl⟩) ?_⟩
      · rintro bk hbk i x σ H3 H3' hi ⟨last, o3, rfl, rfl, l1, e4⟩ ⟨rfl, hx⟩
        obtain ⟨w', hw', xw⟩ := hs.at hx
        have dr : ws.drop i = w' :: ws.drop (i + 1) := by rw [List.drop_eq_getElem_cons (by omega), (List.getElem?_eq_some_iff.mp hw').2]
        rw [dr] at e4
        walk_at "rd"
        refine ⟨x, kd w', rfl, xw.kn, ?_⟩
        have no : ascF (last + 1) n (w' :: ws.drop (i + 1)) = false → Q (.bl false) H3' := fun z => by
          have k : Q (.bl (ascF 0 n ws)) H3' := k
          rw [e4, z] at k
          exact k
        cases xw with
        | int g =>
          refine ⟨_, rfl, ite2 (fun h => nomatch h) (fun _ => ⟨g, rfl, ite2 (fun hle => no ?_) (fun hgt => ⟨g, rfl, ite2 (fun hge => no ?_) (fun hlt => ⟨g, rfl, rfl, by omega, ?_⟩)⟩)⟩)⟩
          · unfold ascF
            rw [decide_eq_false (show ¬ last + 1 ≤ g by omega)]
            rfl
          · unfold ascF
            rw [decide_eq_false (show ¬ g ≤ (n : Int) - 1 by omega), Bool.and_false]
            rfl
          · rw [e4]
            show (decide (last + 1 ≤ g) && decide (g ≤ (n : Int) - 1) && ascF (g + 1) n (ws.drop (i + 1))) = _
            rw [decide_eq_true (show last + 1 ≤ g by omega), decide_eq_true (show g ≤ (n : Int) - 1 by omega)]
            rfl
        | _ => exact ⟨_, rfl, ite2 (fun _ => no rfl) (fun h => absurd rfl h)⟩
      · rintro σ H3 ⟨o2, o3, rfl, rfl, e⟩
        walk_at "rd"
        show Q (.bl true) _
        have k : Q (.bl (ascF 0 n ws)) H3 := k
        rw [e] at k
        exact k
    | non => exact ⟨_, rfl, ite2 (fun _ => ⟨_, .non, rfl, .non, fun _ => by decide, _, rfl, ite2 (fun _ => k) (fun h => absurd rfl h)⟩) (fun h => absurd rfl h)⟩
    | bl b => exact ⟨_, rfl, ite2 (fun _ => ⟨_, .bl, rfl, .bl b, fun _ => by decide, _, rfl, ite2 (fun _ => k) (fun h => absurd rfl h)⟩) (fun h => absurd rfl h)⟩
    | int b => exact ⟨_, rfl, ite2 (fun _ => ⟨_, .int, rfl, .int b, fun _ => by decide, _, rfl, ite2 (fun _ => k) (fun h => absurd rfl h)⟩) (fun h => absurd rfl h)⟩
    | str b => exact ⟨_, rfl, ite2 (fun _ => ⟨_, .str, rfl, .str b, fun _ => by decide, _, rfl, ite2 (fun _ => k) (fun h => absurd rfl h)⟩) (fun h => absurd rfl h)⟩
    | fr hp => exact ⟨_, rfl, ite2 (fun _ => ⟨_, .fr, rfl, .fr hp, fun _ => by decide, _, rfl, ite2 (fun _ => k) (fun h => absurd rfl h)⟩) (fun h => absurd rfl h)⟩
end

end K21
namespace K21
open PySem PySem.Spec PyProof.Rows L2 Own OwnSeq OwnSet OwnComb OwnSort OwnHot OwnExN OwnProj
local macro_rules | `(tactic| walk_at "rd") => `(tactic| simp only [tSeq, tAsg, tOp, tUn, tVar, gName, gSub, rIxL, rIxT, rSetL, tC, rI0, rI, rU, rEq, rNe, tCons, tNil, tCB, tLst, tTup, tIfS, tAnd, tOr, tNot, tAndV, tOrV, tNotV, tTest, tB, tIf, tRet, tDrop, tNext, tBreak, tCont, tCall, tCallS, L2.WE, tMakeS, rIsS, rIsB, tChain, gSeq, gRest, gCons, gNil, tFor_seq, tFor_enumS, tLc_seq, tLc_enumS, rAny, rAll, L2.tMeth, StX.tStar, rIn, tLstRg, tRg1, tRg2, rSetI, rSortedSet, rInDT, rInD, rNotInD, rEqD, rNeD, iComb, tFld, tMake, tMkO, sFld, tOst, tNever, tBits, clv, isB,
  Rd.tFor_rng1, Rd.tFor_rng2, Rd.tFor_list, Rd.tFor_tup, Rd.tLc_list, Rd.tLc_tup, Rd.tLc_rng1, Rd.LcTurn, tYes, wipe, Rd.rLenL, Rd.rLenT, Rd.rIntI, Rd.rIxH, rIxHT,  HO.tup.injEq, Rd.at0, Rd.at1, Rd.at2, Rd.at3, Rd.ixN40, Rd.ixN41, Rd.ixN42, Rd.ixN43, Rd.scal_ii, cxOf,
  List.length_cons, List.length_nil, List.length_map, List.map_cons, List.map_nil, upd_same, decide_eq_true_eq, decide_true, decide_false, if_true, if_false, Bool.false_eq_true, Bool.not_true, Bool.not_false, HO.lst.injEq, HO.ins.injEq, List.set_cons_zero, List.set_cons_succ, List.getElem?_cons_zero, List.getElem?_cons_succ, List.append_nil, List.nil_append, List.cons_append, Option.some.injEq, V.ref.injEq, V.int.injEq, V.bl.injEq, List.cons.injEq, exists_eq_left', exists_and_left, exists_eq_left, true_and, and_true, and_self, and_assoc, implies_true, reduceCtorEq, Nat.reduceAdd])

open LamX
/-- an item of a list or a tuple -/
def rIxHS : R2 := fun x y H Q => ∃ p xs i z l, x = .ref p ∧ y = .int i ∧ H p = some (sq l xs) ∧ atI xs i = some z ∧ Q z H
theorem ixHS {X : Cx} : IxR X rIxHS := fun value slice pins s σ H x y v u Q I rx ry ⟨p, xs, i, z, l, e1, e2, h, e3, q⟩ hs => by
  cases l with
  | true => exact Rd.ixH value slice pins s σ H x y v u Q I rx ry ⟨p, xs, i, z, e1, e2, h, e3, q⟩ hs
  | false => exact ixHT value slice pins s σ H x y v u Q I rx ry ⟨p, xs, i, z, e1, e2, h, e3, q⟩ hs
section
variable {P : Program} {w : World} {K : PySem.W.Frag} {mg : Str → Option Value} {base : Heap} {a : Ad}
theorem ok_law_text (T : Txt K mg a) : FnOk P w K mg base CX0 6 a.a_law_text a.d_law_text ["value"] (spText a.C_Frac 6) := ok_law_textN T 6 (Nat.le_refl _)
theorem okH_law_text (T : Txt K mg a) : L2H.FnH P w K mg base CX0 6 a.a_law_text a.d_law_text ["value"] (spText a.C_Frac 6) := okH_law_textN T 6 (Nat.le_refl _)
/-- all that is no list stands -/
def Kp (H H' : Hp) : Prop := ∀ q o, H q = some o → (∀ l, o ≠ .lst l) → H' q = some o
theorem Kp.trans {H H1 H2 : Hp} (x : Kp H H1) (y : Kp H1 H2) : Kp H H2 := fun q o h n => y q o (x q o h n) n
theorem Kp.same {H H' : Hp} (e : Same H H') : Kp H H' := fun q o h _ => e q o h
theorem Kp.but {b : Addr} {H H' : Hp} {l : List V} (e : But b H H') (h : H b = some (.lst l)) : Kp H H' := fun q o hq n => e q o (fun z => by rw [z, h] at hq; exact n l (Option.some.inj hq).symm) hq
theorem Kp.upd {p : Addr} {H : Hp} {l : List V} {o : HO} (h : H p = some (.lst l)) : Kp H (L2.upd H p o) := fun q o hq n => (upd_ne fun z => by rw [z, h] at hq; exact n l (Option.some.inj hq).symm).trans hq
theorem FamV.kp {C : Addr} {H H' : Hp} {f n : Nat} {S : List Bool} (e : Kp H H') (F : FamV C H f n S) : FamV C H' f n S :=
  let ⟨dx, t, ys, a, b, c⟩ := F.ob
  ⟨F.fam, dx, t, ys, e _ _ a (fun _ z => by cases z), e _ _ b (fun _ z => by cases z), Tups.keep (fun q l h => e q _ h (fun _ z => by cases z)) c⟩
theorem tabS_kp {H H' : Hp} {P0 : Addr} {q : Str} (t : LamX.TabS H P0 q) (e : Kp H H') : LamX.TabS H' P0 q := by
  obtain ⟨ps, h1, h2, h3⟩ := t
  refine ⟨ps, e _ _ h1 (fun _ z => by cases z), h2, fun pos cv hc => ?_⟩
  obtain ⟨c, e1, e2⟩ := h3 pos cv hc
  exact ⟨c, e1, e _ _ e2 (fun _ z => by unfold CodeO at z; cases z)⟩
theorem tabs_kp {T : List (Addr × Str)} {H H' : Hp} (t : Tabs T H) (e : Kp H H') : Tabs T H' := fun p hp => tabS_kp (t p hp) e
mutual
theorem IsW.ext {C : Addr} {H H' : Hp} (e : ExtN H H') : ∀ {v : V} {w : Wv}, IsW C H v w → IsW C H' v w
  | _, _, .non => .non
  | _, _, .bl b => .bl b
  | _, _, .int i => .int i
  | _, _, .str s => .str s
  | _, _, .fr h => .fr (e _ _ h (fun _ z => by cases z))
  | _, _, .lst h a => .lst (e _ _ h (fun _ z => by cases z)) (IsWs.ext e a)
  | _, _, .tup h a => .tup (e _ _ h (fun _ z => by cases z)) (IsWs.ext e a)
theorem IsWs.ext {C : Addr} {H H' : Hp} (e : ExtN H H') : ∀ {vs : List V} {ws : List Wv}, IsWs C H vs ws → IsWs C H' vs ws
  | _, _, .nil => .nil
  | _, _, .cons h a => .cons (IsW.ext e h) (IsWs.ext e a)
end
/-- what stood in H0 stands, but for the tables -/
def St (H0 H H' : Hp) : Prop := ∀ q o, H0 q ≠ none → (∀ ps, o ≠ .tbl ps) → H q = some o → H' q = some o
theorem St.refl (H0 H : Hp) : St H0 H H := fun _ _ _ _ h => h
theorem St.trans {H0 H H1 H2 : Hp} (x : St H0 H H1) (y : St H0 H1 H2) : St H0 H H2 := fun q o n t h => y q o n t (x q o n t h)
theorem St.ext {H0 H H1 : Hp} (e : ExtN H H1) : St H0 H H1 := fun q o _ t h => e q o h t
theorem St.upd {H0 H : Hp} {q : Addr} {o : HO} (h : H0 q = none) : St H0 H (L2.upd H q o) := fun b _ n _ e => (upd_ne fun z => n (by rw [z]; exact h)).trans e
/-- the first part that is no set -/
def PlaceOk (n : Nat) (ws : List Wv) (i : Nat) (plc : V) : Prop := (plc = .non ∧ ∀ w ∈ ws.take i, ascW n w = true) ∨ ∃ (j : Nat) (w : Wv), plc = .int j ∧ ws[j]? = some w ∧ ascW n w = false ∧ ∀ u ∈ ws.take j, ascW n u = true
def seqW (l : Bool) (ws : List Wv) : Wv := if l = true then .lst ws else .tup ws
theorem isw_seq {C : Addr} {H : Hp} {p : Addr} {l : Bool} {xs : List V} {ws : List Wv} (h : H p = some (sq l xs)) (e : IsWs C H xs ws) : IsW C H (.ref p) (seqW l ws) := by
  cases l with
  | true => exact .lst h e
  | false => exact .tup h e
theorem dep_seq {d : Nat} {l : Bool} {ws : List Wv} (h : ws.length ≤ 9) (e : ∀ w ∈ ws, Dep d w) : Dep (d + 1) (seqW l ws) := by
  cases l with
  | true => exact .lst h e
  | false => exact .tup h e
theorem asc_seq {C : Addr} {H : Hp} {x : V} {w : Wv} {n : Int} (xw : IsW C H x w) (h : ascW n w = true) : ∃ q l2, x = .ref q ∧ H q = some (sq l2 (iv (numsW w))) := by
  cases xw with
  | lst h1 h2 =>
    have h : ascF 0 n _ = true := h
    have r := (ascF_at (by decide) h).1
    rw [r] at h2
    exact ⟨_, true, rfl, by rw [h1, h2.ints]; rfl⟩
  | tup h1 h2 =>
    have h : ascF 0 n _ = true := h
    have r := (ascF_at (by decide) h).1
    rw [r] at h2
    exact ⟨_, false, rfl, by rw [h1, h2.ints]; rfl⟩
  | _ => cases h
theorem in_ext : ∀ {S S' : List Bool}, S.length = S'.length → (∀ m, m < S.length → In S m = In S' m) → S = S'
  | [], [], _, _ => rfl
  | x :: S, y :: S', l, h => by
    have h0 : x = y := h 0 (Nat.zero_lt_succ _)
    rw [h0, in_ext (Nat.succ.inj l) fun m hm => h (m + 1) (Nat.succ_lt_succ hm)]
  | [], _ :: _, l, _ => by cases l
  | _ :: _, [], l, _ => by cases l
/-! ### _law_tops_made -/
def spMade (a : Ad) : Sp := fun vs H Q _ => ∃ (vz : V) (wz : Wv) (p : Addr) (l : Bool) (xs : List V) (ws : List Wv) (H0 : Hp), vs = [vz, .ref p] ∧ IsW a.C_Frac H vz wz ∧ Dep 4 wz ∧ H p = some (sq l xs) ∧ (l = true → H0 p = none) ∧ IsNs a.C_Frac H0 H xs ws ∧ ws.length ≤ 8 ∧ (∀ w ∈ ws, Dep 3 w) ∧ Tabs (tabL a) H ∧
  ∀ H', St H0 H H' → Tabs (tabL a) H' → Q (.bl true) H'
theorem sc_law_tops_made : FnScope ["size", "tops", "kept", "right", "place", "at", "family", "e", "mask", "inside", "things", "top", "thing"] ["size", "tops"] (defScope s_law_tops_made) := ⟨rfl, rfl, rfl, by decide +kernel, rfl, by decide +kernel, by decide +kernel⟩
theorem ok_law_tops_made (T : Txt K mg a) (TB : TabB base mg a.co_from_tops a.tb_from_tops) : FnOk P w K mg base CX0 12 a.a_law_tops_made a.d_law_tops_made ["size", "tops"] (spMade a) := by
  refine T.fn_law_tops_made.ok sc_law_tops_made (fun vs H Q E h => ?_) (fun cdv A outer s H vs Q E hr h => ?_)
  · obtain ⟨vz, wz, p, l, xs, ws, H0, rfl, _⟩ := h
    rfl
  · obtain ⟨vz, wz, p, l, xs, ws, H0, rfl, hz, dz, hp, pn, hn, l8, hd, hT, k⟩ := h
    refine ⟨_, (pss_cons (ps_set (i := 2) sc_law_tops_made.nd rfl (Or.inl rfl) (pe_call (ok_law_text T) (hr.mono (by decide)) (by rfl) T.mg_law_text T.fn_law_text.kp T.b_law_text .nil pass0 (pa_cons (pe_lst (pa_cons (pv 0) (pa_cons (pv 1) pa_nil))) pa_nil)))
      (pss_cons (ps_set (i := 3) sc_law_tops_made.nd rfl (Or.inl rfl) (pe_and (pe_call (ok_law_integer T) (hr.mono (by decide)) (by rfl) T.mg_law_integer T.fn_law_integer.kp T.b_law_integer .nil pass0 (pa_cons (pv 0) pa_nil)) (pe_one (pe_chain op_le op_le pe_int (pv 0) pe_int))))
      (pss_cons (ps_set (i := 4) sc_law_tops_made.nd rfl (Or.inl rfl) pe_non)
      (pss_cons (ps_if (pt_val (pv 3)) (pss_one (ps_for PassesOwn.never rfl (pi_range1 (by rfl) T.no_range (pa_cons (pe_callB (lenK K) (by rfl) T.no_len PySem.boot_len (pa_cons (pv 1) pa_nil)) pa_nil)) (pg_name (i := 5) sc_law_tops_made.nd rfl (Or.inl rfl))
          (pss_one (ps_if (PW.pt (pw_and (pt_cmpR op_isN (pv 4) pe_non (nomark _)) (pw_and1 (pt_not (pt_val (pe_call (ok_law_right_set T) (hr.mono (by decide)) (by rfl) T.mg_law_right_set T.fn_law_right_set.kp T.b_law_right_set .nil pass0 (pa_cons (pe_ix ixHS (pv 1) (pv 5) (fun _ _ => rfl)) (pa_cons (pv 0) pa_nil)))))))) (pss_one (ps_set (i := 4) sc_law_tops_made.nd rfl (Or.inl rfl) (pv 5))) pss_nil)))) pss_nil)
      (pss_cons (OwnProj.ps_try_hds rfl rfl takesN0
        (fun W pn xe tk _ => (pss_one (ps_set (i := 6) sc_law_tops_made.nd rfl (Or.inl rfl) (pe_callS (ok_from_tops T TB) (hr.mono (by decide)) (by rfl) T.mg_from_tops T.fn_from_tops.kp T.b_from_tops (fun σ => L2N.passAt tk σ) (pa_cons (pv 0) (pa_cons (pv 1) pa_nil))))))
        (OwnProj.Hds.named (i := 7) sc_law_tops_made.nd rfl rfl ⟨rfl, by decide, .inl T.mg_WrongSize⟩ (fun ea oe cls d pn hz hf => (pss_one (ps_ret (pe_and (pe_not (pv 3)) (pe_and (pe_cmpR op_eq (L2H.pe_callH (okH_law_text T) ((roomM hr).mono (by decide)) ⟨(ea, oe), hotN hz hf, List.mem_cons_self⟩ (by rfl) T.mg_law_text T.fn_law_text.kp T.b_law_text (fun _ => passAt0) (pa_cons (pe_xf T.xf_WrongSize T.na_WrongSize_many hz.zc hf (pv 7)) pa_nil)) (L2H.pe_callH (okH_law_text T) ((roomM hr).mono (by decide)) ⟨(ea, oe), hotN hz hf, List.mem_cons_self⟩ (by rfl) T.mg_law_text T.fn_law_text.kp T.b_law_text (fun _ => passAt0) (pa_cons (pv 0) pa_nil)) (nomark _)) (pe_one (pe_cmpR op_eq (L2H.pe_callH (okH_law_text T) ((roomM hr).mono (by decide)) ⟨(ea, oe), hotN hz hf, List.mem_cons_self⟩ (by rfl) T.mg_law_text T.fn_law_text.kp T.b_law_text (fun _ => passAt0) (pa_cons (pe_lst (pa_cons (pv 0) (pa_cons (pv 1) pa_nil))) pa_nil)) (pv 2) (nomark _))))))))
        (OwnProj.Hds.named (i := 7) sc_law_tops_made.nd rfl rfl ⟨rfl, by decide, .inl T.mg_InvalidFamily⟩ (fun ea oe cls d pn hz hf => (pss_one (ps_ret (pe_and (pv 3) (pe_and (pe_cmpR op_notN (pv 4) pe_non (nomark _)) (pe_and (L2H.pe_callH (okH_law_integer T) ((roomM hr).mono (by decide)) ⟨(ea, oe), hotN hz hf, List.mem_cons_self⟩ (by rfl) T.mg_law_integer T.fn_law_integer.kp T.b_law_integer (fun _ => passAt0) (pa_cons (pe_xf T.xf_InvalidFamily T.na_InvalidFamily_at hz.zc hf (pv 7)) pa_nil)) (pe_and (pe_cmpR op_eq (pe_xf T.xf_InvalidFamily T.na_InvalidFamily_at hz.zc hf (pv 7)) (pv 4) (nomark _)) (pe_one (pe_cmpR op_eq (L2H.pe_callH (okH_law_text T) ((roomM hr).mono (by decide)) ⟨(ea, oe), hotN hz hf, List.mem_cons_self⟩ (by rfl) T.mg_law_text T.fn_law_text.kp T.b_law_text (fun _ => passAt0) (pa_cons (pe_lst (pa_cons (pv 0) (pa_cons (pv 1) pa_nil))) pa_nil)) (pv 2) (nomark _))))))))))
        .nil)))
      (pss_cons (ps_if (PW.pt (pw_or (pt_not (pt_val (pv 3))) (pw_or (pt_cmpR op_notN (pv 4) pe_non (nomark _)) (pw_or1 (pt_cmpR op_ne (pe_call (ok_law_text T) (hr.mono (by decide)) (by rfl) T.mg_law_text T.fn_law_text.kp T.b_law_text .nil pass0 (pa_cons (pe_lst (pa_cons (pv 0) (pa_cons (pv 1) pa_nil))) pa_nil)) (pv 2) (nomark _)))))) (pss_one (ps_ret pe_bl)) pss_nil)
      (pss_cons (ps_setLc (i := 9) (own := [("mask", 8)]) (by rfl) sc_law_tops_made.nd rfl rfl (sw_true rfl rfl rfl (by decide +kernel)) (pi_range1 (by rfl) T.no_range (pa_cons (pe_op op_shl pe_int (pv 0)) pa_nil)) (blkOk_by (own := [("mask", 8)]) (N := ["size", "tops", "kept", "right", "place", "at", "family", "e", "mask", "inside", "things", "top", "thing"]) (sc := defScope s_law_tops_made) (by decide +kernel)) (fun _ _ _ _ _ => pg_name (i := 8) sc_law_tops_made.nd rfl (Or.inl rfl)) (fun _ _ _ _ _ => pts_nil) (fun _ _ _ _ _ => (pe_cmpR op_eq (pv 8) pe_int (nomark _))))
      (pss_cons (ps_for PassesOwn.never rfl (pi_told K (pv 1)) (pg_name (i := 10) sc_law_tops_made.nd rfl (Or.inl rfl))
        (pss_cons (ps_set (i := 11) sc_law_tops_made.nd rfl (Or.inl rfl) (pe_callB (cr_sum rfl) (by rfl) T.no_sum (by decide +kernel) (pa_cons (pe_lc (own := [("thing", 12)]) (by rfl) sc_law_tops_made.nd (pi_told K (pv 10)) (blkOk_by (own := [("thing", 12)]) (N := ["size", "tops", "kept", "right", "place", "at", "family", "e", "mask", "inside", "things", "top", "thing"]) (sc := defScope s_law_tops_made) (by decide +kernel)) (fun _ _ _ _ _ => pg_name (i := 12) sc_law_tops_made.nd rfl (Or.inl rfl)) (fun _ _ _ _ _ => pts_nil) (fun _ _ _ _ _ => (pe_op op_shl pe_int (pv 12)))) pa_nil)))
        (pss_one (ps_for PassesOwn.never rfl (pi_range1 (by rfl) T.no_range (pa_cons (pe_op op_shl pe_int (pv 0)) pa_nil)) (pg_name (i := 8) sc_law_tops_made.nd rfl (Or.inl rfl))
          (pss_one (ps_if (pt_cmpR op_eq (pe_op op_and (pv 8) (pv 11)) (pv 8) (nomark _)) (pss_one (ps_asg pe_bl (pg_sub (pv 9) (pv 8) set_list))) pss_nil))))))
      (pss_cons (ps_for PassesOwn.never rfl (pi_told K (pv 1)) (pg_name (i := 10) sc_law_tops_made.nd rfl (Or.inl rfl))
        (pss_one (ps_if (pt_val (pe_callB (call_isK T .lst) (by rfl) T.no_isinstance (by decide +kernel) (pa_cons (pv 10) (pa_cons (pe_bltn (v := .ty "list") (u := .type "list") (by rfl) T.no_list (by decide +kernel) rfl) pa_nil)))) (pss_one (ps_expr (pe_bm PySem.F.plainAttrs_list PySem.F.slot_list_append PySem.F.type_list_append mt_append (pv 10) (pa_cons pe_int pa_nil)))) pss_nil)))
      (pss_cons (ps_if (pt_val (pe_callB (call_isK T .lst) (by rfl) T.no_isinstance (by decide +kernel) (pa_cons (pv 1) (pa_cons (pe_bltn (v := .ty "list") (u := .type "list") (by rfl) T.no_list (by decide +kernel) rfl) pa_nil)))) (pss_one (ps_expr (pe_bm PySem.F.plainAttrs_list PySem.F.slot_list_append PySem.F.type_list_append mt_append (pv 1) (pa_cons (pe_tup (pa_cons pe_int (pa_cons pe_int (pa_cons pe_int pa_nil)))) pa_nil)))) pss_nil)
      (pss_one (ps_ret (pe_call (ok_law_is T) (hr.mono (by decide)) (by rfl) T.mg_law_is T.fn_law_is.kp T.b_law_is .nil pass0 (pa_cons (pv 6) (pa_cons (pv 0) (pa_cons (pv 9) pa_nil)))))))))))))))), ?_⟩
    show (_ : TS) _ [some vz, some (V.ref p), none, none, none, none, none, none, none, none, none, none, none] H
    have hx := hn.is
    have xl := hx.len
    have kt : ∀ {H4 : Hp} {QQ : VK} {p1 : Addr}, ExtN H H4 → H4 p1 = none → (∀ H', Same (upd H4 p1 (.lst [vz, .ref p])) H' → QQ (.str (tx (.lst [wz, seqW l ws]))) H') → spText a.C_Frac 6 [.ref p1] (upd H4 p1 (.lst [vz, .ref p])) QQ E0 := fun {H4 QQ p1} e4 n4 kk => by
      refine ⟨.ref p1, .lst [wz, seqW l ws], rfl, ?_, ?_, kk⟩
      · have e := e4.trans (ExtN.of (same_upd (o := .lst [vz, .ref p]) n4))
        exact .lst upd_same (.cons (hz.ext e) (.cons (isw_seq (e _ _ hp (fun _ z => by cases l <;> cases z)) (hx.ext e)) .nil))
      · exact .lst (show 2 ≤ 9 by decide) fun w m => by
          rcases List.mem_cons.mp m with rfl | m
          · exact dz
          · rw [List.mem_singleton.mp m]
            exact dep_seq (by omega) hd
    refine cut (fun σ H' => σ = [some vz, some (V.ref p), some (V.str (tx (.lst [wz, seqW l ws]))), none, none, none, none, none, none, none, none, none, none] ∧ Same H H') (fun R hR => ?_) (fun σ H1 h => ?_)
    · walk_at "rd"
      exact ⟨by decide, fun q hq => kt (ExtN.refl _) hq fun H' e' => hR _ _ ⟨rfl, (same_upd hq).trans e'⟩⟩
    obtain ⟨rfl, e1⟩ := h
    refine cut (fun σ H' => σ = [some vz, some (V.ref p), some (V.str (tx (.lst [wz, seqW l ws]))), some (V.bl (inW 1 6 wz)), none, none, none, none, none, none, none, none, none] ∧ H1 = H') (fun R hR => ?_) (fun σ H' h => ?_)
    · walk_at "rd"
      refine ⟨vz, kd wz, rfl, (hz.same e1).kn, _, rfl, ?_⟩
      cases hz with
      | int i =>
        refine ite2 (fun _ => ⟨i, rfl, ?_⟩) (fun h => absurd rfl h)
        have RR : R [some (V.int i), some (V.ref p), some (V.str (tx (.lst [.int i, seqW l ws]))), some (V.bl (decide (1 ≤ i) && decide (i ≤ 6))), none, none, none, none, none, none, none, none, none] H1 := hR _ _ ⟨rfl, rfl⟩
        refine ite2 (fun h1 => ⟨i, rfl, ?_⟩) (fun h1 => ?_)
        · rw [decide_eq_true h1, Bool.true_and] at RR
          exact RR
        · rw [decide_eq_false h1, Bool.false_and] at RR
          exact RR
      | _ => exact ite2 (fun h => nomatch h) (fun _ => hR _ _ ⟨rfl, rfl⟩)
    obtain ⟨rfl, rfl⟩ := h
    refine cut (fun σ H' => σ = [some vz, some (V.ref p), some (V.str (tx (.lst [wz, seqW l ws]))), some (V.bl (inW 1 6 wz)), some .non, none, none, none, none, none, none, none, none] ∧ H1 = H') (fun R hR => ?_) (fun σ H' h => ?_)
    · walk_at "rd"
      exact hR _ _ ⟨rfl, rfl⟩
    obtain ⟨rfl, rfl⟩ := h
    have hp1 := e1 _ _ hp
    have hx1 := hx.same e1
    have hz1 := hz.same e1
    refine cut (fun σ H' => ∃ plc o5, σ = [some vz, some (V.ref p), some (V.str (tx (.lst [wz, seqW l ws]))), some (V.bl (inW 1 6 wz)), some plc, o5, none, none, none, none, none, none, none] ∧ H1 = H' ∧ (inW 1 6 wz = false → plc = .non) ∧ (∀ n : Nat, wz = .int n → inW 1 6 wz = true → PlaceOk n ws ws.length plc)) (fun R hR => ?_) (fun σ H' h => ?_)
    · walk_at "rd"
      by_cases hw : inW 1 6 wz = true
      · rw [if_pos hw]
        obtain ⟨n, rfl, n1, n6⟩ : ∃ n : Nat, wz = .int n ∧ 1 ≤ n ∧ n ≤ 6 := by
          cases wz with
          | int g =>
            have h : (decide (1 ≤ g) && decide (g ≤ 6)) = true := hw
            rw [Bool.and_eq_true, decide_eq_true_eq, decide_eq_true_eq] at h
            exact ⟨g.toNat, by rw [Int.toNat_of_nonneg (by omega)], by omega, by omega⟩
          | _ => cases hw
        obtain rfl : vz = .int n := by cases hz; rfl
        refine ⟨xs, seqOr hp1, by omega, by omega, ?_⟩
        rw [Int.toNat_natCast]
        refine Rd.loop_rngC (fun σ H' => ∃ plc o5, σ = [some (V.int n), some (V.ref p), some (V.str (tx (.lst [.int n, seqW l ws]))), some (V.bl (inW 1 6 (.int n))), some plc, o5, none, none, none, none, none, none, none] ∧ H' = H1 ∧ PlaceOk n ws xs.length plc)
          (fun i σ H' => ∃ plc o5, σ = [some (V.int n), some (V.ref p), some (V.str (tx (.lst [.int n, seqW l ws]))), some (V.bl (inW 1 6 (.int n))), some plc, o5, none, none, none, none, none, none, none] ∧ H' = H1 ∧ PlaceOk n ws i plc) ⟨_, _, rfl, rfl, .inl ⟨rfl, fun w m => by rw [List.take_zero] at m; cases m⟩⟩ ?_ (fun _ _ z => z) ?_
        · rintro bk hbk i σ H3 hi ⟨plc, o5, rfl, rfl, po⟩
          obtain ⟨x, hx2⟩ : ∃ x, xs[i]? = some x := ⟨_, List.getElem?_eq_getElem hi⟩
          obtain ⟨w', hw', xw⟩ := hx1.at hx2
          walk_at "rd"
          refine ite2 (fun e0 => ?_) (fun e0 => ?_)
          · have all : ∀ w ∈ ws.take i, ascW n w = true := by
              rcases po with ⟨_, h⟩ | ⟨j, _, h, _⟩
              · exact h
              · rw [e0] at h; cases h
            unfold rIxHS
            refine ⟨p, xs, _, x, l, rfl, rfl, hp1, (by rw [Int.zero_add]; exact atI_nat hx2), x, w', n, rfl, xw, _, rfl, ?_⟩
            cases z : ascW n w' with
            | true =>
              rw [if_neg (by decide)]
              refine ⟨rfl, .inl ⟨e0, fun u m => ?_⟩⟩
              rw [List.take_add_one, hw', List.mem_append] at m
              rcases m with m | m
              · exact all u m
              · rw [List.mem_singleton.mp m]; exact z
            | false =>
              rw [if_pos (by decide)]
              exact ⟨rfl, .inr ⟨i, w', by rw [Int.zero_add], hw', z, all⟩⟩
          · rcases po with ⟨h, _⟩ | h
            · exact absurd h e0
            · exact .inr h
        · rintro σ H3 ⟨plc, o5, rfl, rfl, po⟩
          rw [xl] at po
          exact hR _ _ ⟨plc, o5, rfl, rfl, fun h => absurd hw (by rw [h]; decide), fun m e _ => by cases e; exact po⟩
      · rw [if_neg hw]
        exact hR _ _ ⟨_, _, rfl, rfl, fun _ => rfl, fun n e h => absurd h hw⟩
    obtain ⟨plc, o5, rfl, rfl, pl1, pl2⟩ := h
    refine cut (fun σ H' => ∃ (f n : Nat), wz = .int n ∧ 1 ≤ n ∧ n ≤ 6 ∧ (∀ w ∈ ws, ascW n w = true) ∧ σ = [some vz, some (V.ref p), some (V.str (tx (.lst [wz, seqW l ws]))), some (V.bl true), some .non, o5, some (V.ref f), none, none, none, none, none, none] ∧ ExtN H1 H' ∧ Tabs (tabL a) H' ∧ FamV a.C_Family H' f n (topM n (ws.map numsW))) (fun R hR => ?_) (fun σ H' h => ?_)
    · walk_at "rd"
      refine ⟨vz, wz, p, l, xs, ws, rfl, hz1, hp1, hx1, by omega, hT.ext e1, fun n en n1 n6 ok g H' e T' F => ?_, fun hw d H' hd0 hd1 e => ?_, fun n i w' en n1 n6 hw' hno hok d H' hd0 hd1 e => ?_⟩
      · have hw : inW 1 6 wz = true := by
          rw [en]
          show (decide (1 ≤ (n : Int)) && decide ((n : Int) ≤ 6)) = true
          rw [decide_eq_true (by omega), decide_eq_true (by omega)]
          rfl
        have hpl : plc = .non := by
          rcases pl2 n en hw with ⟨h, _⟩ | ⟨j, w', _, h1, h2, _⟩
          · exact h
          · rw [ok w' (List.mem_of_getElem? h1)] at h2
            cases h2
        exact hR _ _ ⟨g, n, en, n1, n6, ok, by rw [hw, hpl], e, T', F⟩
      · refine ⟨true, T.xm_WrongSize, fun _ ea hea => ?_, fun z => absurd z.symm Bool.false_ne_true⟩
        have xs1 : List.lookup ("many" : Str) [(("many" : Str), vz)] = some vz := by rw [lookup_put, if_pos rfl]
        simp only [OwnProj.slotAt, OwnProj.endsAt, tXf]
        walk_at "rd"
        rw [hw]
        simp only [tXf]
        walk_at "rd"
        have e1' := e1.trans e
        refine ⟨_, hd1, _, xs1, vz, wz, rfl, hz1.same e, dz.up, fun H2 e2 => ⟨vz, wz, rfl, hz1.same (e.trans e2), dz.up, fun H3 e3 => ⟨rfl, ?_⟩⟩⟩
        rw [if_pos rfl]
        have e13 := (e1'.trans e2).trans e3
        refine ⟨by decide, fun q hq => kt (ExtN.of e13) hq fun H4 e4 => ⟨rfl, ?_⟩⟩
        rw [decide_eq_true rfl]
        have e14 := (e13.trans (same_upd hq)).trans e4
        exact k _ (St.ext (ExtN.of e14)) (hT.ext e14)
      · refine ⟨false, T.xm_InvalidFamily_WrongSize, (fun z => absurd z Bool.false_ne_true), fun _ => ⟨true, T.xm_InvalidFamily, fun _ ea hea => ?_, (fun z => absurd z.symm Bool.false_ne_true)⟩⟩
        have xs1 : List.lookup ("at" : Str) [(("at" : Str), V.int (i : Nat))] = some (V.int (i : Nat)) := by rw [lookup_put, if_pos rfl]
        have hw : inW 1 6 wz = true := by
          rw [en]
          show (decide (1 ≤ (n : Int)) && decide ((n : Int) ≤ 6)) = true
          rw [decide_eq_true (by omega), decide_eq_true (by omega)]
          rfl
        obtain rfl : plc = .int i := by
          rcases pl2 n en hw with ⟨_, h⟩ | ⟨j, w2, e, h1, h2, h3⟩
          · rw [h w' (by rw [List.take_length]; exact List.mem_of_getElem? hw')] at hno
            cases hno
          · rw [e]
            have : ¬ i < j := fun lt => by
              rw [h3 w' (List.mem_of_getElem? (by rw [List.getElem?_take_of_lt lt]; exact hw'))] at hno
              cases hno
            have : ¬ j < i := fun lt => by
              rw [hok w2 (List.mem_of_getElem? (by rw [List.getElem?_take_of_lt lt]; exact h1))] at h2
              cases h2
            rw [show i = j by omega]
        simp only [OwnProj.slotAt, OwnProj.endsAt, tXf]
        walk_at "rd"
        rw [hw]
        simp only [tXf]
        walk_at "rd"
        have e1' := e1.trans e
        refine ⟨_, hd1, _, xs1, .int i, .int, rfl, .int _, _, rfl, ?_⟩
        rw [if_pos (by decide)]
        refine ⟨_, hd1, _, xs1, rfl, ?_⟩
        rw [if_pos rfl]
        refine ⟨by decide, fun q hq => kt (ExtN.of e1') hq fun H4 e4 => ⟨rfl, ?_⟩⟩
        rw [decide_eq_true rfl]
        have e14 := (e1'.trans (same_upd hq)).trans e4
        exact k _ (St.ext (ExtN.of e14)) (hT.ext e14)
    obtain ⟨f, n, rfl, n1, n6, ok, rfl, e2, T2, F⟩ := h
    have eH : ExtN H H' := (ExtN.of e1).trans e2
    refine cut (fun σ H2 => σ = [some vz, some (V.ref p), some (V.str (tx (.lst [.int n, seqW l ws]))), some (V.bl true), some .non, o5, some (V.ref f), none, none, none, none, none, none] ∧ Same H' H2) (fun R hR => ?_) (fun σ H2 h => ?_)
    · walk_at "rd"
      refine ⟨by decide, fun q hq => kt eH hq fun H4 e4 => ⟨rfl, ?_⟩⟩
      rw [decide_eq_true rfl, if_neg (by decide)]
      exact hR _ _ ⟨rfl, (same_upd hq).trans e4⟩
    obtain ⟨rfl, e3⟩ := h
    obtain rfl : vz = .int n := by cases hz; rfl
    have F := F.same e3
    have T2 := T2.ext e3
    have eH := eH.trans (ExtN.of e3)
    have p64 := pow64 n6
    refine cut (fun σ H3 => ∃ D o8, σ = [some (V.int n), some (V.ref p), some (V.str (tx (.lst [.int n, seqW l ws]))), some (V.bl true), some .non, o5, some (V.ref f), none, o8, some (V.ref D), none, none, none] ∧ Same H2 H3 ∧ H2 D = none ∧ H3 D = some (.lst (((List.range (2 ^ n)).map fun m => decide (m = 0)).map V.bl))) (fun R hR => ?_) (fun σ H3 h => ?_)
    · walk_at "rd"
      refine ⟨cpw (by omega), (pbd n6).1, (pbd n6).2.1, ?_⟩
      rw [(pbd n6).2.2.1]
      refine Rd.lcl_rng (fun D i H5 => H2 D = none ∧ Same H2 H5 ∧ H5 D = some (.lst (((List.range i).map fun m => decide (m = 0)).map V.bl))) (fun D hD => ⟨hD, same_upd hD, upd_same⟩) (fun D i H5 hi ⟨n5, e5, a5⟩ => ?_) (fun D H5 _ ⟨n5, e5, a5⟩ => hR _ _ ⟨D, none, rfl, e5, n5, a5⟩)
      walk_at "rd"
      rw [Int.zero_add]
      refine ⟨_, a5, small (by rw [List.length_map, List.length_map, List.length_range]; omega), n5, fun b o hb => (upd_ne (ne_of_none hb n5)).trans (e5 _ _ hb), ?_⟩
      rw [List.range_succ, List.map_append, List.map_append, show decide ((i : Int) = 0) = decide (i = 0) from decide_eq_decide.mpr ⟨fun z => by omega, fun z => by omega⟩]
      rfl
    obtain ⟨D, o8, rfl, e4, D0, hD⟩ := h
    have hp3 := e4 _ _ (e3 _ _ (e2 _ _ (e1 _ _ hp) (fun _ z => by cases l <;> cases z)))
    have hx3 := (((hx.same e1).ext e2).same e3).same e4
    have ts : ∀ t ∈ ws.map numsW, t ∈ allS n := fun t ht => by
      obtain ⟨w', hw, rfl⟩ := List.mem_map.mp ht
      have a := ok w' hw
      cases w' with
      | lst us =>
        have a : ascF 0 n us = true := a
        obtain ⟨_, h2, h3⟩ := ascF_at (by decide) a
        exact asc_in n6 h2 fun g hg => by have := h3 g hg; omega
      | tup us =>
        have a : ascF 0 n us = true := a
        obtain ⟨_, h2, h3⟩ := ascF_at (by decide) a
        exact asc_in n6 h2 fun g hg => by have := h3 g hg; omega
      | _ => cases a
    refine cut (fun σ H4 => ∃ o8 o10 o11 o12, σ = [some (V.int n), some (V.ref p), some (V.str (tx (.lst [.int n, seqW l ws]))), some (V.bl true), some .non, o5, some (V.ref f), none, o8, some (V.ref D), o10, o11, o12] ∧ (∀ q o, H2 q = some o → H4 q = some o) ∧ H4 D = some (.lst ((topM n (ws.map numsW)).map V.bl))) (fun R hR => ?_) (fun σ H4 h => ?_)
    · walk_at "rd"
      refine ⟨l, xs, hp3, loop_goes goes_seq (fun σ H4 => ∃ o8 o10 o11 o12, σ = [some (V.int n), some (V.ref p), some (V.str (tx (.lst [.int n, seqW l ws]))), some (V.bl true), some .non, o5, some (V.ref f), none, o8, some (V.ref D), o10, o11, o12] ∧ Same H2 H4 ∧ H4 D = some (.lst ((topM n (ws.map numsW)).map V.bl)))
        (fun i σ H4 => ∃ o8 o10 o11 o12, σ = [some (V.int n), some (V.ref p), some (V.str (tx (.lst [.int n, seqW l ws]))), some (V.bl true), some .non, o5, some (V.ref f), none, o8, some (V.ref D), o10, o11, o12] ∧ Same H2 H4 ∧ H4 D = some (.lst ((topM n ((ws.take i).map numsW)).map V.bl))) ⟨o8, none, none, none, rfl, e4, by
          rw [hD, show topM n ((ws.take 0).map numsW) = (List.range (2 ^ n)).map fun m => decide (m = 0) from List.map_congr_left fun m _ => Bool.or_false _]⟩
        (fun i σ H4 _ ⟨_, _, _, _, _, e, _⟩ => e _ _ (e3 _ _ (e2 _ _ (e1 _ _ hp) (fun _ z => by cases l <;> cases z)))) ?_ (fun σ H4 ⟨o8, o10, o11, o12, q1, q2, q3⟩ => ⟨o8, o10, o11, o12, q1, q2, by rw [xl, List.take_length] at q3; exact q3⟩) ?_⟩
      · rintro bk hbk i x σ H4 H4' hi ⟨o8, o10, o11, o12, rfl, e5, hD4⟩ ⟨rfl, hx4⟩
        have hxs : IsWs a.C_Frac H4' xs ws := ((hx.same e1).ext e2).same (e3.trans e5)
        obtain ⟨w', hw', xw⟩ := hxs.at hx4
        obtain ⟨q, l2, rfl, hq⟩ := asc_seq xw (ok w' (List.mem_of_getElem? hw'))
        have sA := ts _ (List.mem_map_of_mem (f := numsW) (List.mem_of_getElem? hw'))
        have sa := allS_at sA n6
        obtain ⟨sT, hsT⟩ : ∃ s', s' = numsW w' := ⟨_, rfl⟩
        rw [← hsT] at hq sA sa
        walk_at "rd"
        refine ⟨l2, _, hq, lcl_goes goes_seq (fun D2 j H5 => H4' D2 = none ∧ Same H4' H5 ∧ H5 D2 = some (.lst (((sT.take j).map fun g => ((2 ^ g : Nat) : Int)).map V.int))) (fun D2 hD2 => ⟨hD2, same_upd hD2, upd_same⟩)
          (fun D2 j H5 _ h => h.2.1 _ _ hq) (fun D2 j y H5 H5' hj ⟨n5, e5', a5⟩ ⟨eq5, hy⟩ => ?_) (fun D2 H5 nD2 ⟨n5, e5', a5⟩ => ?_)⟩
        · subst eq5
          obtain ⟨g, hg, rfl⟩ := at_iv hy
          have g6 := sa.2.2.1 g (List.mem_of_getElem? hg)
          walk_at "rd"
          refine ⟨cpw (by omega), _, a5, small (by rw [List.length_map, List.length_map, List.length_take]; omega), n5, fun b o hb => (upd_ne (ne_of_none hb n5)).trans (e5' _ _ hb), ?_⟩
          rw [List.take_add_one, hg, List.map_append, List.map_append, pow_cast]
          rfl
        · rw [iv_len, List.take_length] at a5
          refine ⟨D2, _, rfl, SqL.of a5, cpw (by omega), (pbd n6).1, (pbd n6).2.1, ?_⟩
          rw [(pbd n6).2.2.1, sum_cast]
          have hD5 := e5' _ _ hD4
          have e25 := e5.trans e5'
          refine Rd.loop_rngC (fun σ H6 => ∃ o8 o12, σ = [some (V.int n), some (V.ref p), some (V.str (tx (.lst [.int n, seqW l ws]))), some (V.bl true), some .non, o5, some (V.ref f), none, o8, some (V.ref D), some (V.ref q), some (V.int (mk sT : Nat)), o12] ∧ Same H2 H6 ∧ ∃ S' : List Bool, H6 D = some (.lst (S'.map V.bl)) ∧ S'.length = 2 ^ n ∧ ∀ m, m < 2 ^ n → In S' m = (In (topM n ((ws.take i).map numsW)) m || (decide (m < 2 ^ n) && decide (Sub m (mk sT)))))
            (fun j σ H6 => ∃ o8 o12, σ = [some (V.int n), some (V.ref p), some (V.str (tx (.lst [.int n, seqW l ws]))), some (V.bl true), some .non, o5, some (V.ref f), none, o8, some (V.ref D), some (V.ref q), some (V.int (mk sT : Nat)), o12] ∧ Same H2 H6 ∧ ∃ S' : List Bool, H6 D = some (.lst (S'.map V.bl)) ∧ S'.length = 2 ^ n ∧ ∀ m, m < 2 ^ n → In S' m = (In (topM n ((ws.take i).map numsW)) m || (decide (m < j) && decide (Sub m (mk sT)))))
            ⟨_, _, rfl, e25, _, hD5, by unfold topM; rw [List.length_map, List.length_range], fun m _ => by rw [decide_eq_false (Nat.not_lt_zero m), Bool.false_and, Bool.or_false]⟩ ?_ (fun _ _ z => z) ?_
          · rintro bk2 hbk2 j σ H6 hj ⟨o8, o12, rfl, e6, S', hS, Sl, Sm⟩
            walk_at "rd"
            rw [Int.zero_add]
            have step : ∀ m, (decide (m < j + 1) && decide (Sub m (mk sT))) = ((decide (m < j) && decide (Sub m (mk sT))) || (decide (m = j) && decide (Sub m (mk sT)))) := fun m => by
              by_cases h1 : m < j
              · rw [decide_eq_true h1, decide_eq_true (show m < j + 1 by omega), decide_eq_false (show ¬ m = j by omega)]
                simp
              · by_cases h2 : m = j
                · rw [decide_eq_false h1, decide_eq_true (show m < j + 1 by omega), decide_eq_true h2]
                  simp
                · rw [decide_eq_false h1, decide_eq_false (show ¬ m < j + 1 by omega), decide_eq_false h2]
                  simp
            refine ite2 (fun hc => ?_) (fun hc => ⟨e6, S', hS, Sl, fun m hm => ?_⟩)
            · have sj : Sub j (mk sT) := sub_iff.mp hc
              refine ⟨_, hS, j, ixN_of (by rw [List.length_map, Sl]; exact hj), fun b o hb => (upd_ne (ne_of_none hb D0)).trans (e6 _ _ hb), S'.set j true, by rw [List.map_set], by rw [List.length_set, Sl], fun m hm => ?_⟩
              rw [in_set (by rw [Sl]; exact hj), step m]
              by_cases h2 : m = j
              · rw [if_pos h2, decide_eq_true h2, h2, decide_eq_true sj]
                simp
              · rw [if_neg h2, decide_eq_false h2, Bool.false_and, Bool.or_false]
                exact Sm m hm
            · rw [Sm m hm, step m]
              by_cases h2 : m = j
              · rw [decide_eq_false (show ¬ Sub m (mk sT) from fun z => hc (sub_iff.mpr (h2 ▸ z)))]
                simp
              · rw [decide_eq_false h2, Bool.false_and, Bool.or_false]
          · rintro σ H6 ⟨o8, o12, rfl, e6, S', hS, Sl, Sm⟩
            refine ⟨_, _, _, _, rfl, e6, ?_⟩
            rw [hS]
            congr 3
            refine in_ext (by unfold topM; rw [Sl, List.length_map, List.length_range]) fun m hm => ?_
            rw [Sl] at hm
            rw [Sm m hm]
            unfold topM
            rw [in_range, in_range, decide_eq_true hm, Bool.true_and, Bool.true_and, Bool.true_and, List.take_add_one, hw', List.map_append, List.any_append, Bool.or_assoc]
            congr 2
            show _ = (decide (Sub m (mk (numsW w'))) || false)
            rw [Bool.or_false, hsT]
      · rintro σ H4 ⟨o8, o10, o11, o12, rfl, e5, hD4⟩
        exact hR _ _ ⟨o8, o10, o11, o12, rfl, e5, hD4⟩
    obtain ⟨o8', o10, o11, o12, rfl, e5, hD4⟩ := h
    have e13 : ∀ {q : Addr} {o : HO}, H1 q = some o → (∀ ps, o ≠ .tbl ps) → H4 q = some o := fun h n => e5 _ _ (e3 _ _ (e2 _ _ h n))
    have hp4 := e13 hp1 (fun _ z => by cases l <;> cases z)
    have F4 : FamV a.C_Family H4 f n (topM n (ws.map numsW)) := F.same e5
    have T4 : Tabs (tabL a) H4 := T2.ext e5
    have eH4 : ExtN H H4 := eH.trans (ExtN.of e5)
    have ini : ∀ x ∈ xs, ∃ q, x = .ref q ∧ q ≠ p ∧ q ≠ D ∧ ((∃ us, H4 q = some (.lst us) ∧ us.length ≤ 6 ∧ H0 q = none) ∨ ∃ us, H4 q = some (.tup us)) := fun x hxm => by
      obtain ⟨i, hi⟩ := List.mem_iff_getElem?.mp hxm
      have il := (List.getElem?_eq_some_iff.mp hi).1
      obtain ⟨v, w', hv, hw', vw⟩ := hn.at il
      rw [hi] at hv
      obtain rfl := Option.some.inj hv
      have aw := ok w' (List.mem_of_getElem? hw')
      obtain ⟨q, l2, rfl, hq⟩ := asc_seq vw.is aw
      have s6 := (allS_at (ts _ (List.mem_map_of_mem (f := numsW) (List.mem_of_getElem? hw'))) n6).2.2.2.1
      have hq4 := eH4 _ _ hq (fun _ z => by cases l2 <;> cases z)
      refine ⟨q, rfl, fun z => ?_, fun z => ?_, ?_⟩
      · subst z
        have : xs = iv (numsW w') := by
          rw [hp] at hq
          cases l <;> cases l2 <;> first | (cases hq; done) | (cases hq; rfl)
        rw [this] at hxm
        unfold iv at hxm
        obtain ⟨g, _, hg⟩ := List.mem_map.mp hxm
        cases hg
      · subst z
        have := e3 _ _ (e2 _ _ (e1 _ _ hq) (fun _ z => by cases l2 <;> cases z))
        rw [D0] at this
        cases this
      · cases l2 with
        | true =>
          refine .inl ⟨_, hq4, by rw [iv_len]; omega, ?_⟩
          cases vw with
          | lst h n _ => exact n
          | tup h _ => rw [h] at hq; cases hq
          | fr h => rw [h] at hq; cases hq
        | false => exact .inr ⟨_, hq4⟩
    refine cut (fun σ H6 => ∃ o10, σ = [some (V.int n), some (V.ref p), some (V.str (tx (.lst [.int n, seqW l ws]))), some (V.bl true), some .non, o5, some (V.ref f), none, o8', some (V.ref D), o10, o11, o12] ∧ Kp H4 H6 ∧ St H0 H4 H6 ∧ H6 D = some (.lst ((topM n (ws.map numsW)).map V.bl)) ∧ H6 p = some (sq l xs)) (fun R hR => ?_) (fun σ H6 h => ?_)
    · walk_at "rd"
      refine ⟨l, xs, hp4, loop_goes goes_seq (fun σ H6 => ∃ o10, σ = [some (V.int n), some (V.ref p), some (V.str (tx (.lst [.int n, seqW l ws]))), some (V.bl true), some .non, o5, some (V.ref f), none, o8', some (V.ref D), o10, o11, o12] ∧ Kp H4 H6 ∧ St H0 H4 H6 ∧ H6 D = some (.lst ((topM n (ws.map numsW)).map V.bl)) ∧ H6 p = some (sq l xs))
        (fun i σ H6 => ∃ o10, σ = [some (V.int n), some (V.ref p), some (V.str (tx (.lst [.int n, seqW l ws]))), some (V.bl true), some .non, o5, some (V.ref f), none, o8', some (V.ref D), o10, o11, o12] ∧ Kp H4 H6 ∧ St H0 H4 H6 ∧ H6 D = some (.lst ((topM n (ws.map numsW)).map V.bl)) ∧ H6 p = some (sq l xs) ∧
          ∀ x ∈ xs, ∃ q, x = .ref q ∧ q ≠ p ∧ q ≠ D ∧ ((∃ us, H6 q = some (.lst us) ∧ us.length ≤ 6 + i ∧ H0 q = none) ∨ ∃ us, H6 q = some (.tup us)))
        ⟨_, rfl, fun _ _ h _ => h, St.refl _ _, hD4, hp4, ini⟩ (fun i σ H6 _ ⟨_, _, _, _, _, e, _⟩ => e) ?_ (fun σ H6 ⟨o10, q1, q2, q3, q4, q5, _⟩ => ⟨o10, q1, q2, q3, q4, q5⟩) ?_⟩
      · rintro bk hbk i x σ H6 H6' hi ⟨o10, rfl, kp, st, hD6, hp6, al⟩ ⟨rfl, hx6⟩
        obtain ⟨q, rfl, qp, qD, hq⟩ := al _ (List.mem_of_getElem? hx6)
        walk_at "rd"
        rcases hq with ⟨us, hq, ul, q0⟩ | ⟨us, hq⟩
        · refine ⟨_, .lst, rfl, .lst hq, (by intro z; cases z), _, rfl, ite2 (fun _ => ?_) (fun h => absurd rfl h)⟩
          simp only [tBM, rAppend]
          walk_at "rd"
          refine ⟨.inl ⟨rfl, _, SqL.of hq⟩, _, hq, small (by omega), kp.trans (Kp.upd hq), st.trans (St.upd q0), (upd_ne (Ne.symm qD)).trans hD6, (upd_ne (Ne.symm qp)).trans hp6, fun y hy => ?_⟩
          obtain ⟨q2, rfl, a1, a2, a3⟩ := al y hy
          refine ⟨q2, rfl, a1, a2, ?_⟩
          by_cases h : q2 = q
          · subst h
            exact .inl ⟨_, upd_same, by rw [List.length_append]; show us.length + 1 ≤ _; omega, q0⟩
          · rw [upd_ne h]
            rcases a3 with ⟨us, b1, b2, b3⟩ | a3
            · exact .inl ⟨us, b1, by omega, b3⟩
            · exact .inr a3
        · refine ⟨_, .tup, rfl, .tup hq, (by intro z; cases z), _, rfl, ite2 (fun h => nomatch h) (fun _ => ?_)⟩
          refine ⟨kp, st, hD6, hp6, fun y hy => ?_⟩
          obtain ⟨q2, rfl, a1, a2, a3⟩ := al y hy
          refine ⟨q2, rfl, a1, a2, ?_⟩
          rcases a3 with ⟨us, b1, b2, b3⟩ | a3
          · exact .inl ⟨us, b1, by omega, b3⟩
          · exact .inr a3
      · rintro σ H6 ⟨o10, rfl, q2, q3, q4, q5⟩
        exact hR _ _ ⟨o10, rfl, q2, q3, q4, q5⟩
    obtain ⟨o10', rfl, kp6, st6, hD6, hp6⟩ := h
    walk_at "rd"
    have fin : ∀ H7, Kp H6 H7 → St H0 H6 H7 → H7 D = some (.lst ((topM n (ws.map numsW)).map V.bl)) → spLIs a.C_Family [.ref f, .int n, .ref D] H7 Q E0 := fun H7 kp7 st7 hD7 =>
      ⟨f, D, n, _, rfl, (F4.kp kp6).kp kp7, hD7, fun H8 e8 => k H8 ((((St.ext eH4).trans st6).trans st7).trans (St.ext (ExtN.of e8))) ((tabs_kp (tabs_kp T4 kp6) kp7).ext e8)⟩
    cases l with
    | true =>
      refine ⟨_, .lst, rfl, .lst hp6, (by intro z; cases z), _, rfl, ite2 (fun _ => ?_) (fun h => absurd rfl h)⟩
      simp only [tBM, rAppend]
      walk_at "rd"
      have Dp : D ≠ p := fun z => by
        have := e3 _ _ (e2 _ _ hp1 (fun _ z => by cases z))
        rw [← z, D0] at this
        cases this
      refine ⟨.inl ⟨rfl, _, SqL.of hp6⟩, by decide, fun t ht => ?_⟩
      have et := same_upd (o := .tup [V.int 0, V.int 1, V.int 2]) ht
      exact ⟨_, et _ _ hp6, small (by omega), fin _ ((Kp.same et).trans (Kp.upd (et _ _ hp6))) ((St.ext (ExtN.of et)).trans (St.upd (pn rfl))) ((upd_ne Dp).trans (et _ _ hD6))⟩
    | false => exact ⟨_, .tup, rfl, .tup hp6, (by intro z; cases z), _, rfl, ite2 (fun h => nomatch h) (fun _ => fin H6 (fun _ _ h _ => h) (St.refl _ _) hD6)⟩
end

end K21
namespace K21
open PySem PySem.Spec PyProof.Rows L2 Own OwnSeq OwnSet OwnComb OwnSort OwnHot OwnExN OwnProj
local macro_rules | `(tactic| walk_at "rd") => `(tactic| simp only [tSeq, tAsg, tOp, tUn, tVar, gName, gSub, rIxL, rIxT, rSetL, tC, rI0, rI, rU, rEq, rNe, tCons, tNil, tCB, tLst, tTup, tIfS, tAnd, tOr, tNot, tAndV, tOrV, tNotV, tTest, tB, tIf, tRet, tDrop, tNext, tBreak, tCont, tCall, tCallS, L2.WE, tMakeS, rIsS, rIsB, tChain, gSeq, gRest, gCons, gNil, tFor_seq, tFor_enumS, tLc_seq, tLc_enumS, rAny, rAll, L2.tMeth, StX.tStar, rIn, tLstRg, tRg1, tRg2, rSetI, rSortedSet, rInDT, rInD, rNotInD, rEqD, rNeD, iComb, tFld, tMake, tMkO, sFld, tOst, tNever, tBits, clv, isB,
  Rd.tFor_rng1, Rd.tFor_rng2, Rd.tFor_list, Rd.tFor_tup, Rd.tLc_list, Rd.tLc_tup, Rd.tLc_rng1, Rd.LcTurn, tYes, wipe, Rd.rLenL, Rd.rLenT, Rd.rIntI, Rd.rIxH, rIxHT,  HO.tup.injEq, Rd.at0, Rd.at1, Rd.at2, Rd.at3, Rd.ixN40, Rd.ixN41, Rd.ixN42, Rd.ixN43, Rd.scal_ii, cxOf,
  List.length_cons, List.length_nil, List.length_map, List.map_cons, List.map_nil, upd_same, decide_eq_true_eq, decide_true, decide_false, if_true, if_false, Bool.false_eq_true, Bool.not_true, Bool.not_false, HO.lst.injEq, HO.ins.injEq, List.set_cons_zero, List.set_cons_succ, List.getElem?_cons_zero, List.getElem?_cons_succ, List.append_nil, List.nil_append, List.cons_append, Option.some.injEq, V.ref.injEq, V.int.injEq, V.bl.injEq, List.cons.injEq, exists_eq_left', exists_and_left, exists_eq_left, true_and, and_true, and_self, and_assoc, implies_true, reduceCtorEq, Nat.reduceAdd])

open LamX
section
variable {P : Program} {w : World} {K : PySem.W.Frag} {mg : Str → Option Value} {base : Heap} {a : Ad}
theorem tabS_but {b : Addr} {H H' : Hp} {P0 : Addr} {q : Str} {l : List V} (t : LamX.TabS H P0 q) (e : But b H H') (hb : H b = some (.lst l)) : LamX.TabS H' P0 q := by
  obtain ⟨ps, h1, h2, h3⟩ := t
  refine ⟨ps, e _ _ (fun z => by rw [z, hb] at h1; cases h1) h1, h2, fun pos cv hc => ?_⟩
  obtain ⟨c, e1, e2⟩ := h3 pos cv hc
  exact ⟨c, e1, e _ _ (fun z => by rw [z, hb] at e2; unfold CodeO at e2; cases e2) e2⟩
theorem tabs_but {T : List (Addr × Str)} {b c : Addr} {ns : List Int} {H H' : Hp} (t : Tabs T H) (B : BoxAt K H b c ns) (e : But b H H') : Tabs T H' := fun p hp =>
  let ⟨_, _, _, hb, _⟩ := B.ob
  tabS_but (t p hp) e hb
theorem BoxAt.st {H H3 H' : Hp} {b c : Addr} {ns : List Int} (B0 : BoxAt K H b c ns) (B : BoxAt K H3 b c ns) (st : St H H3 H') : BoxAt K H' b c ns := by
  obtain ⟨n1, n2, n3, h, u, v⟩ := B.ob
  obtain ⟨_, _, _, h0, _⟩ := B0.ob
  have nb : H b ≠ none := by rw [h0]; exact fun z => by cases z
  refine ⟨B.ne, B.len, ⟨n1, n2, n3, st _ _ nb (fun _ z => by cases z) h, u, v⟩, ?_⟩
  have go : H c ≠ none → SqL K H' c (ns.map V.int) := fun nc => by
    rcases B.cells with (h | ⟨o, h⟩) | h
    · exact .inl (.inl (st _ _ nc (fun _ z => by cases z) h))
    · exact .inl (.inr ⟨o, st _ _ nc (fun _ z => by cases z) h⟩)
    · exact .inr h
  rcases B0.cells with (h | ⟨o, h⟩) | h
  · exact go (by rw [h]; exact fun z => by cases z)
  · exact go (by rw [h]; exact fun z => by cases z)
  · exact .inr h
theorem shpV {C b c p : Addr} {ns : List Int} {H H1 : Hp} {l : Bool} {xs : List V} {ws : List Wv} {Q : VK} {E : XK} (B : BoxAt K H b c ns) (B1 : BoxAt K H1 b c ns) (e1 : But b H H1) (pb : p ≠ b) (hp : H1 p = some (sq l xs)) (x9 : xs.length ≤ 9) (hx : IsNs C H H1 xs ws)
    (k : ∀ q l' H', BoxAt K H' b c ns → But b H H' → But b H1 H' → q ≠ b → H' q = some (sq l' xs) → (l' = true → H q = none) → (l' = true → H1 q = none) → IsNs C H H' xs ws → Q (.ref q) H') : spShape K [.ref b, .ref p] H1 Q E :=
  ⟨b, c, p, ns, l, xs, rfl, B1, pb, hp, by omega, fun q l' H' B' e' qb hq hn => k q l' H' B' (e1.trans e') e' qb hq (fun h => e1.free qb (hn h)) hn (IsNs.but B B1 e' hx)⟩
theorem seqN {C : Addr} {H H' : Hp} {q : Addr} {l : Bool} {xs : List V} {ws : List Wv} (hq : H' q = some (sq l xs)) (n : l = true → H q = none) (h : IsNs C H H' xs ws) : IsN C H H' (.ref q) (seqW l ws) := by
  cases l with
  | true => exact .lst hq (n rfl) h
  | false => exact .tup hq h
theorem ints_n {C : Addr} {H H' : Hp} : ∀ s : List Nat, IsNs C H H' (iv s) (s.map fun g : Nat => Wv.int g)
  | [] => .nil
  | x :: s => .cons (.int _) (ints_n s)
theorem IsNs.app {C : Addr} {H H' : Hp} : ∀ {vs us : List V} {ws zs : List Wv}, IsNs C H H' vs ws → IsNs C H H' us zs → IsNs C H H' (vs ++ us) (ws ++ zs)
  | _, _, _, _, .nil, b => b
  | _, _, _, _, .cons h a, b => .cons h (a.app b)
/-- a heap without one object -/
def noD (D : Addr) (H : Hp) : Hp := fun q => if q = D then none else H q
theorem noD_upd {D : Addr} {H : Hp} {o : HO} : noD D (upd H D o) = noD D H := funext fun q => by
  unfold noD
  by_cases h : q = D
  · rw [if_pos h, if_pos h]
  · rw [if_neg h, if_neg h, upd_ne h]
theorem noD_get {D q : Addr} {H : Hp} {o : HO} (h : noD D H q = some o) : q ≠ D ∧ H q = some o := by
  unfold noD at h
  split at h
  · cases h
  · exact ⟨by assumption, h⟩
theorem noD_of {D q : Addr} {H : Hp} {o : HO} (n : q ≠ D) (h : H q = some o) : noD D H q = some o := by
  unfold noD
  rw [if_neg n]
  exact h
theorem IsNs.noD {K : PySem.W.Frag} {C b c D : Addr} {ns : List Int} {H H1 H' : Hp} (B : BoxAt K H b c ns) (B1 : BoxAt K H1 b c ns) (e : But b H1 H') {vs : List V} {ws : List Wv} (h : IsNs C H (noD D H1) vs ws) : IsNs C H (noD D H') vs ws :=
  h.go (fun q o n z => by
    obtain ⟨nd, z⟩ := noD_get z
    refine noD_of nd (e q o (fun eq => ?_) z)
    subst eq
    obtain ⟨_, _, _, hb, _⟩ := B.ob
    obtain ⟨_, _, _, hb1, _⟩ := B1.ob
    rw [hb1] at z
    rw [n _ (Option.some.inj z).symm] at hb
    cases hb) fun _ z => z
theorem IsNs.all {C D : Addr} {H H1 : Hp} {vs : List V} {ws : List Wv} (h : IsNs C H (K21.noD D H1) vs ws) : IsNs C H H1 vs ws := h.go (fun _ _ _ z => (noD_get z).2) fun _ z => z
theorem elemD {C D q : Addr} {H H' : Hp} {l : Bool} {s : List Nat} (hq : H' q = some (sq l (iv s))) (n : l = true → H q = none) (qD : q ≠ D) : IsN C H (noD D H') (.ref q) (seqW l (s.map fun g : Nat => Wv.int g)) := seqN (noD_of qD hq) n (ints_n s)
/-- what is new since H1, in which D stands -/
theorem IsN.since {K : PySem.W.Frag} {C b c D : Addr} {ns : List Int} {H H1 H' : Hp} {v : V} {w : Wv} {xs ys : List V} (B1 : BoxAt K H1 b c ns) (e1 : But b H H1) (hD : H1 D = some (.lst xs)) (hD' : H' D = some (.lst ys)) (h : IsN C H1 H' v w) : IsN C H (K21.noD D H') v w :=
  h.go (fun q o n z => noD_of (fun eq => by
    subst eq
    rw [hD'] at z
    rw [n _ (Option.some.inj z).symm] at hD
    cases hD) z) fun q z => e1.free (B1.ne_new z) z
theorem IsNs.take {C : Addr} {H H' : Hp} : ∀ {vs : List V} {ws : List Wv} (i : Nat), IsNs C H H' vs ws → IsNs C H H' (vs.take i) (ws.take i)
  | _, _, 0, _ => .nil
  | _, _, _ + 1, .nil => .nil
  | _, _, i + 1, .cons h a => .cons h (IsNs.take i a)
theorem IsNs.drop {C : Addr} {H H' : Hp} : ∀ {vs : List V} {ws : List Wv} (i : Nat), IsNs C H H' vs ws → IsNs C H H' (vs.drop i) (ws.drop i)
  | _, _, 0, h => h
  | _, _, _ + 1, .nil => .nil
  | _, _, i + 1, .cons _ a => IsNs.drop i a
def SetW (w : Wv) : Prop := ∃ (l : Bool) (s : List Nat), w = seqW l (s.map fun g : Nat => Wv.int g) ∧ s.length ≤ 6 ∧ ∀ g ∈ s, g < 6
theorem isn_set {C : Addr} {H H' : Hp} {v : V} {w : Wv} (h : IsN C H H' v w) (hs : SetW w) : ∃ q l s, v = .ref q ∧ H' q = some (sq l (iv s)) ∧ s.length ≤ 6 ∧ ∀ g ∈ s, g < 6 := by
  obtain ⟨l, s, rfl, s6, g6⟩ := hs
  cases l with
  | true =>
    cases h with
    | lst h _ e => exact ⟨_, true, s, rfl, by rw [h, e.is.ints]; rfl, s6, g6⟩
  | false =>
    cases h with
    | tup h e => exact ⟨_, false, s, rfl, by rw [h, e.is.ints]; rfl, s6, g6⟩
theorem SetW.dep {w : Wv} (h : SetW w) : Dep 3 w := by
  obtain ⟨l, s, rfl, s6, g6⟩ := h
  refine dep_seq (by rw [List.length_map]; omega) fun w m => ?_
  obtain ⟨g, hg, rfl⟩ := List.mem_map.mp m
  exact .int (by omega) (by have := g6 g hg; omega)
/-! ### _law_tops -/
def spTopsL (K : PySem.W.Frag) (a : Ad) : Sp := fun vs H Q _ => ∃ (b c : Addr) (ns : List Int) (n : Nat), vs = [.ref b, .int n] ∧ BoxAt K H b c ns ∧ 1 ≤ n ∧ n ≤ 6 ∧ Tabs (tabL a) H ∧ ∀ H', BoxAt K H' b c ns → Tabs (tabL a) H' → Q (.bl true) H'
theorem sc_law_tops : FnScope ["box", "size", "k", "tops", "wrong"] ["box", "size"] (defScope s_law_tops) := ⟨rfl, rfl, rfl, by decide +kernel, rfl, by decide +kernel, by decide +kernel⟩
theorem ok_law_tops (T : Txt K mg a) (TB : TabB base mg a.co_from_tops a.tb_from_tops) : FnOk P w K mg base CX0 13 a.a_law_tops a.d_law_tops ["box", "size"] (spTopsL K a) := by
  refine T.fn_law_tops.ok sc_law_tops (fun vs H Q E h => ?_) (fun cdv A outer s H vs Q E hr h => ?_)
  · obtain ⟨b, c, ns, n, rfl, _⟩ := h
    rfl
  · obtain ⟨b, c, ns, n, rfl, B, n1, n6, hT, k⟩ := h
    obtain ⟨ds2, b2v, b2b⟩ := b2 T
    refine ⟨_, (pss_cons (ps_setLc (i := 3) (own := [("k", 2)]) (by rfl) sc_law_tops.nd rfl rfl (sw_true rfl rfl rfl (by decide +kernel)) (pi_range1 (by rfl) T.no_range (pa_cons (pe_call (ok_law_draw T) (hr.mono (by decide)) (by rfl) T.mg_law_draw T.fn_law_draw.kp T.b_law_draw .nil pass0 (pa_cons (pv 0) (pa_cons pe_int pa_nil))) pa_nil)) (blkOk_by (own := [("k", 2)]) (N := ["box", "size", "k", "tops", "wrong"]) (sc := defScope s_law_tops) (by decide +kernel)) (fun _ _ _ _ _ => pg_name (i := 2) sc_law_tops.nd rfl (Or.inl rfl)) (fun _ _ _ _ _ => pts_nil) (fun _ _ _ _ _ => (pe_call (ok_law_shape T) (hr.mono (by decide)) (by rfl) T.mg_law_shape T.fn_law_shape.kp T.b_law_shape .nil pass0 (pa_cons (pv 0) (pa_cons (pe_call (ok_law_things T) (hr.mono (by decide)) (by rfl) T.mg_law_things T.fn_law_things.kp T.b_law_things .nil pass0 (pa_cons (pe_call (ok_law_draw T) (hr.mono (by decide)) (by rfl) T.mg_law_draw T.fn_law_draw.kp T.b_law_draw .nil pass0 (pa_cons (pv 0) (pa_cons (pe_op op_shl pe_int (pv 1)) pa_nil))) pa_nil)) pa_nil)))))
      (pss_cons (ps_if (PW.pt (pw_and (pt_cmpR op_gt (pe_callB (lenK K) (by rfl) T.no_len PySem.boot_len (pa_cons (pv 3) pa_nil)) pe_int (nomark _)) (pw_and1 (pt_cmpR op_eq (pe_call (ok_law_draw T) (hr.mono (by decide)) (by rfl) T.mg_law_draw T.fn_law_draw.kp T.b_law_draw .nil pass0 (pa_cons (pv 0) (pa_cons pe_int pa_nil))) pe_int (nomark _))))) (pss_one (ps_expr (pe_bm PySem.F.plainAttrs_list PySem.F.slot_list_append PySem.F.type_list_append mt_append (pv 3) (pa_cons (pe_call (ok_law_shape T) (hr.mono (by decide)) (by rfl) T.mg_law_shape T.fn_law_shape.kp T.b_law_shape .nil pass0 (pa_cons (pv 0) (pa_cons (pe_ix Rd.ixH (pv 3) pe_int (fun _ _ => rfl)) pa_nil))) pa_nil)))) pss_nil)
      (pss_cons (ps_for PassesOwn.never rfl (pi_range1 (by rfl) T.no_range (pa_cons (pe_callB (call_max2 rfl) (by rfl) T.no_max (by decide +kernel) (pa_cons pe_int (pa_cons (pe_op op_sub (pe_call (ok_law_draw T) (hr.mono (by decide)) (by rfl) T.mg_law_draw T.fn_law_draw.kp T.b_law_draw .nil pass0 (pa_cons (pv 0) (pa_cons pe_int pa_nil))) pe_int) pa_nil))) pa_nil)) (pg_name (i := 2) sc_law_tops.nd rfl (Or.inl rfl))
        (pss_one (ps_expr (pe_bm PySem.F.plainAttrs_list PySem.F.slot_list_insert PySem.F.type_list_insert mt_insert (pv 3) (pa_cons (pe_call (ok_law_draw T) (hr.mono (by decide)) (by rfl) T.mg_law_draw T.fn_law_draw.kp T.b_law_draw .nil pass0 (pa_cons (pv 0) (pa_cons (pe_op op_add (pe_callB (lenK K) (by rfl) T.no_len PySem.boot_len (pa_cons (pv 3) pa_nil)) pe_int) pa_nil))) (pa_cons (pe_call (ok_law_no_set T) (hr.mono (by decide)) (by rfl) T.mg_law_no_set T.fn_law_no_set.kp T.b_law_no_set .nil pass0 (pa_cons (pv 0) (pa_cons (pv 1) pa_nil))) pa_nil))))))
      (pss_cons (ps_set (i := 4) sc_law_tops.nd rfl (Or.inl rfl) (pe_ix Rd.ixH (pe_lst (pa_cons pe_int (pa_cons pe_int (pa_cons (pe_un un_neg pe_int) (pa_cons pe_bl (pa_cons pe_bl (pa_cons pe_non (pa_cons pe_str (pa_cons (pe_make T.mk_Frac (ok_Frac_init T) (hr.mono (by decide)) (by rfl) T.mg_Frac b2b b2v pass0 (pa_cons pe_int pa_nil)) (pa_cons (pe_op op_pow pe_int pe_int) (pa_cons (pe_lst (pa_cons pe_int pa_nil)) (pa_cons (pe_tup pa_nil) (pa_cons pe_str pa_nil))))))))))))) (pe_call (ok_law_draw T) (hr.mono (by decide)) (by rfl) T.mg_law_draw T.fn_law_draw.kp T.b_law_draw .nil pass0 (pa_cons (pv 0) (pa_cons pe_int pa_nil))) (fun _ _ => rfl)))
      (pss_cons (ps_if (pt_cmpR op_eq (pe_call (ok_law_draw T) (hr.mono (by decide)) (by rfl) T.mg_law_draw T.fn_law_draw.kp T.b_law_draw .nil pass0 (pa_cons (pv 0) (pa_cons pe_int pa_nil))) pe_int (nomark _)) (pss_one (ps_ret (pe_call (ok_law_tops_made T TB) (hr.mono (by decide)) (by rfl) T.mg_law_tops_made T.fn_law_tops_made.kp T.b_law_tops_made .nil pass0 (pa_cons (pv 4) (pa_cons (pe_call (ok_law_shape T) (hr.mono (by decide)) (by rfl) T.mg_law_shape T.fn_law_shape.kp T.b_law_shape .nil pass0 (pa_cons (pv 0) (pa_cons (pv 3) pa_nil))) pa_nil))))) pss_nil)
      (pss_one (ps_ret (pe_call (ok_law_tops_made T TB) (hr.mono (by decide)) (by rfl) T.mg_law_tops_made T.fn_law_tops_made.kp T.b_law_tops_made .nil pass0 (pa_cons (pv 1) (pa_cons (pe_call (ok_law_shape T) (hr.mono (by decide)) (by rfl) T.mg_law_shape T.fn_law_shape.kp T.b_law_shape .nil pass0 (pa_cons (pv 0) (pa_cons (pv 3) pa_nil))) pa_nil)))))))))), ?_⟩
    show (_ : TS) _ [some (V.ref b), some (V.int n), none, none, none] H
    have p64 := pow64 n6
    refine cut (fun σ H1 => ∃ D xs ws, σ = [some (V.ref b), some (V.int n), none, some (V.ref D), none] ∧ BoxAt K H1 b c ns ∧ But b H H1 ∧ H D = none ∧ H1 D = some (.lst xs) ∧ IsNs a.C_Frac H (noD D H1) xs ws ∧ ws.length ≤ 5 ∧ (∀ w ∈ ws, SetW w)) (fun R hR => ?_) (fun σ H1 h => ?_)
    · walk_at "rd"
      refine drw B (by decide) (by decide) fun x H1 x6 B1 e1 => ⟨_, rfl, by omega, by omega, ?_⟩
      rw [Int.toNat_natCast]
      refine Rd.lcl_rng (fun D i H5 => H1 D = none ∧ BoxAt K H5 b c ns ∧ But b H1 H5 ∧ ∃ xs ws, H5 D = some (.lst xs) ∧ IsNs a.C_Frac H (noD D H5) xs ws ∧ ws.length = i ∧ ∀ w ∈ ws, SetW w) (fun D hD => ⟨hD, B1.same (same_upd hD), Same.but (same_upd hD), [], [], upd_same, .nil, rfl, fun _ m => by cases m⟩)
        (fun D i H5 hi ⟨n5, B5, e5, xs, ws, a5, hx, wl, hs⟩ => ?_) (fun D H5 _ ⟨n5, B5, e5, xs, ws, a5, hx, wl, hs⟩ => hR _ _ ⟨D, xs, ws, rfl, B5, e1.trans e5, e1.free (B1.ne_new n5) n5, a5, hx, by omega, hs⟩)
      have nb := B1.ne_new n5
      have xl := hx.len
      walk_at "rd"
      refine ⟨cpw (by omega), ?_⟩
      rw [pow_cast]
      refine drw B5 (by have := Nat.pow_pos (n := n) (show 0 < 2 by decide); omega) (by omega) fun m H6 m6 B6 e6 => ⟨m, rfl, fun r H7 r0 e7 a7 => ?_⟩
      have bmA := allS_at (bits_in n6 (show m < 2 ^ n by omega)).2 n6
      have bm2 : (bits m).length ≤ 6 := Nat.le_trans bmA.2.2.2.1 n6
      have bm3 : ∀ g ∈ bits m, g < 6 := fun g hg => Nat.lt_of_lt_of_le (bmA.2.2.1 g hg) n6
      have e57 := e6.trans (Same.but e7)
      refine shpV (C := a.C_Frac) (l := false) B (B6.same e7) ((e1.trans e5).trans e57) (B6.ne_new r0) a7 (by rw [iv_len]; omega) (ints_n _) fun q l' H8 B8 e08 e78 qb hq hn hn1 _ => ?_
      have e58 := e57.trans e78
      have hD8 := e58 _ _ nb a5
      have qD : q ≠ D := fun z => by
        subst z
        cases l' with
        | true =>
          have := hn1 rfl
          rw [e57 _ _ nb a5] at this
          cases this
        | false => rw [hD8] at hq; cases hq
      have eU : But b H1 (upd H8 D (.lst (xs ++ [V.ref q]))) := (e5.trans e58).updn n5
      refine ⟨xs, hD8, small (by omega), n5, B1.upd B8 nb eU, eU, ws ++ [seqW l' ((bits m).map fun g : Nat => Wv.int g)], ?_, by rw [List.length_append, wl]; rfl, fun w m => ?_⟩
      · rw [noD_upd]
        exact (IsNs.noD B B5 e58 hx).app (.cons (elemD hq hn qD) .nil)
      · rcases List.mem_append.mp m with m | m
        · exact hs w m
        · rw [List.mem_singleton.mp m]
          exact ⟨l', _, rfl, bm2, bm3⟩
    obtain ⟨D, xs, ws, rfl, B1, e1, D0, hD, hx, l5, hs⟩ := h
    refine cut (fun σ H1 => ∃ xs ws, σ = [some (V.ref b), some (V.int n), none, some (V.ref D), none] ∧ BoxAt K H1 b c ns ∧ But b H H1 ∧ H1 D = some (.lst xs) ∧ IsNs a.C_Frac H (noD D H1) xs ws ∧ ws.length ≤ 6 ∧ (∀ w ∈ ws, Dep 3 w)) (fun R hR => ?_) (fun σ H2 h => ?_)
    · walk_at "rd"
      have Db := B.ne_new D0
      refine ⟨xs, .inl (SqL.of hD), ite2 (fun h0 => drw B1 (by decide) (by decide) fun y H2 y4 B2 e2 => ⟨rfl, ite2 (fun _ => ?_) (fun _ => hR _ _ ⟨xs, ws, rfl, B2, e1.trans e2, e2 _ _ Db hD, IsNs.noD B B1 e2 hx, by omega, fun w m => (hs w m).dep⟩)⟩) (fun _ => hR _ _ ⟨xs, ws, rfl, B1, e1, hD, hx, by omega, fun w m => (hs w m).dep⟩)⟩
      have hD2 := e2 _ _ Db hD
      have hx2 := IsNs.noD B B1 e2 hx
      obtain ⟨v, w', hv, hw', vw⟩ := hx2.at (i := 0) (by omega)
      obtain ⟨q, l, s', rfl, hq, s6, g6⟩ := isn_set vw (hs w' (List.mem_of_getElem? hw'))
      obtain ⟨qD, hq⟩ := noD_get hq
      simp only [tBM, rAppend]
      walk_at "rd"
      have qb : q ≠ b := fun z => by
        subst z
        obtain ⟨_, _, _, hb, _⟩ := B2.ob
        rw [hb] at hq
        cases l with
        | true =>
          have z := HO.lst.inj (Option.some.inj hq)
          cases s' with
          | nil => cases z
          | cons g s' => cases z
        | false => cases hq
      have wl := hx.len
      refine ⟨.inl ⟨rfl, _, SqL.of hD2⟩, xs, hD2, _, atI_nat (j := 0) hv, ?_⟩
      refine shpV (C := a.C_Frac) (l := l) B B2 (e1.trans e2) qb hq (by rw [iv_len]; omega) (ints_n _) fun q' l' H3 B3 e03 e23 qb' hq' hn hn1 _ => ?_
      have hD3 := e23 _ _ Db hD2
      have qD' : q' ≠ D := fun z => by
        subst z
        cases l' with
        | true =>
          have := hn1 rfl
          rw [hD2] at this
          cases this
        | false => rw [hD3] at hq'; cases hq'
      have eU : But b H (upd H3 D (.lst (xs ++ [V.ref q']))) := e03.updn D0
      refine ⟨xs, hD3, small (by omega), hR _ _ ⟨_, ws ++ [seqW l' (s'.map fun g : Nat => Wv.int g)], rfl, B.upd B3 Db eU, eU, upd_same, ?_, by rw [List.length_append]; show ws.length + 1 ≤ 6; omega, fun w m => ?_⟩⟩
      · rw [noD_upd]
        exact (IsNs.noD B B2 e23 hx2).app (.cons (elemD hq' hn qD') .nil)
      · rcases List.mem_append.mp m with m | m
        · exact (hs w m).dep
        · rw [List.mem_singleton.mp m]
          exact SetW.dep ⟨l', _, rfl, s6, g6⟩
    obtain ⟨xs2, ws2, rfl, B2, e2, hD2, hx2, l6, hd2⟩ := h
    refine cut (fun σ H1 => ∃ o2 xs ws, σ = [some (V.ref b), some (V.int n), o2, some (V.ref D), none] ∧ BoxAt K H1 b c ns ∧ But b H H1 ∧ H1 D = some (.lst xs) ∧ IsNs a.C_Frac H (noD D H1) xs ws ∧ ws.length ≤ 8 ∧ (∀ w ∈ ws, Dep 3 w)) (fun R hR => ?_) (fun σ H3 h => ?_)
    · walk_at "rd"
      have Db := B.ne_new D0
      refine drw B2 (by decide) (by decide) fun x H3 x6 B3 e3 => ?_
      obtain ⟨m, hm, m2⟩ : ∃ m : Nat, (if (x : Int) - 3 > 0 then (x : Int) - 3 else 0) = (m : Int) ∧ m ≤ 2 := by
        split
        · exact ⟨((x : Int) - 3).toNat, by omega, by omega⟩
        · exact ⟨0, rfl, by decide⟩
      refine ⟨_, rfl, by rw [hm]; omega, by rw [hm]; omega, ?_⟩
      rw [hm, Int.toNat_natCast]
      refine Rd.loop_rngC (fun σ H1 => ∃ o2 xs ws, σ = [some (V.ref b), some (V.int n), o2, some (V.ref D), none] ∧ BoxAt K H1 b c ns ∧ But b H H1 ∧ H1 D = some (.lst xs) ∧ IsNs a.C_Frac H (noD D H1) xs ws ∧ ws.length ≤ 6 + m ∧ (∀ w ∈ ws, Dep 3 w))
        (fun i σ H1 => ∃ o2 xs ws, σ = [some (V.ref b), some (V.int n), o2, some (V.ref D), none] ∧ BoxAt K H1 b c ns ∧ But b H H1 ∧ H1 D = some (.lst xs) ∧ IsNs a.C_Frac H (noD D H1) xs ws ∧ ws.length ≤ 6 + i ∧ (∀ w ∈ ws, Dep 3 w)) ⟨none, xs2, ws2, rfl, B3, e2.trans e3, e3 _ _ Db hD2, IsNs.noD B B2 e3 hx2, by omega, hd2⟩ ?_ (fun _ _ z => z) ?_
      · rintro bk hbk i σ H4 hi ⟨o2, xs, ws, rfl, B4, e4, hD4, hx4, wl, hd4⟩
        have xl := hx4.len
        walk_at "rd"
        simp only [tBM]
        walk_at "rd"
        refine ⟨.inl ⟨rfl, _, SqL.of hD4⟩, xs, .inl (SqL.of hD4), drw B4 (by omega) (by omega) fun y H5 y5 B5 e5 => ⟨b, c, ns, n, rfl, B5, n1, n6, fun v w' H6 B6 e6 hv dv => ?_⟩⟩
        have e56 := e5.trans e6
        have hD5 := e5 _ _ Db hD4
        have hD6 := e6 _ _ Db hD5
        refine ⟨xs, y, rfl, hD6, small (by omega), by omega, by omega, ?_⟩
        rw [Int.toNat_natCast]
        have eU : But b H (upd H6 D (.lst (xs.take y ++ [v] ++ xs.drop y))) := (e4.trans e56).updn D0
        refine ⟨B.upd B6 Db eU, eU, ws.take y ++ [w'] ++ ws.drop y, ?_, ?_, fun u m => ?_⟩
        · rw [noD_upd]
          have hx6 := IsNs.noD B B4 e56 hx4
          exact ((hx6.take y).app (.cons (IsN.since B5 (e4.trans e5) hD5 hD6 hv) .nil)).app (hx6.drop y)
        · rw [List.length_append, List.length_append, List.length_take, List.length_drop]
          show min y ws.length + 1 + (ws.length - y) ≤ _
          omega
        · rcases List.mem_append.mp m with m | m
          · rcases List.mem_append.mp m with m | m
            · exact hd4 u (List.mem_of_mem_take m)
            · rw [List.mem_singleton.mp m]
              exact dv
          · exact hd4 u (List.mem_of_mem_drop m)
      · rintro σ H4 ⟨o2, xs, ws, rfl, B4, e4, hD4, hx4, wl, hd4⟩
        exact hR _ _ ⟨o2, xs, ws, rfl, B4, e4, hD4, hx4, by omega, hd4⟩
    obtain ⟨o2, xs3, ws3, rfl, B3, e3, hD3, hx3, l8, hd3⟩ := h
    refine cut (fun σ H1 => ∃ vz wz, σ = [some (V.ref b), some (V.int n), o2, some (V.ref D), some vz] ∧ BoxAt K H1 b c ns ∧ But b H H1 ∧ H1 D = some (.lst xs3) ∧ IsNs a.C_Frac H (noD D H1) xs3 ws3 ∧ IsN a.C_Frac H H1 vz wz ∧ Dep 4 wz) (fun R hR => ?_) (fun σ H4 h => ?_)
    · walk_at "rd"
      have Db := B.ne_new D0
      intro f dx hf hdx hne
      refine fr_made (n := 2) (by decide) hf hdx hne fun H5 hfr e5 => ⟨⟨by decide, by decide, by decide⟩, by decide, fun p1 h1 => ⟨by decide, fun p2 h2 => ⟨by decide, fun p hp => ?_⟩⟩⟩
      have s1 := same_upd (o := .lst [V.int 1]) h1
      have s2 := same_upd (o := .tup []) h2
      have s := s1.trans s2
      have a1 : upd H5 p1 (.lst [V.int 1]) p1 = _ := upd_same
      have a2 : upd (upd H5 p1 (.lst [V.int 1])) p2 (.tup []) p2 = _ := upd_same
      have a1 := s2 _ _ a1
      have f1 := h1
      generalize upd (upd H5 p1 (.lst [V.int 1])) p2 (.tup []) = H6 at *
      have e36 : Same H3 H6 := e5.trans s
      have B6 := B3.same e36
      have e06 := e3.trans (Same.but e36)
      have pb := B6.ne_new hp
      have p0 : H p = none := e06.free pb hp
      have p10 : H p1 = none := (e3.trans (Same.but e5)).free ((B3.same e5).ne_new h1) h1
      have eP : But b H (upd H6 p (.lst [V.int 0, V.int 7, V.int (-1), V.bl true, V.bl false, V.non, V.str (Str.ofString "3"), V.ref f, V.int (10 ^ Int.toNat 20), V.ref p1, V.ref p2, V.str (Str.ofString "")])) := e06.updn p0
      have BP := B.upd B6 pb eP
      refine drw BP (by decide) (by decide) fun y H7 y12 B7 e7 => ?_
      have hs : IsNs a.C_Frac H H6 [V.int 0, V.int 7, V.int (-1), V.bl true, V.bl false, V.non, V.str (Str.ofString "3"), V.ref f, V.int (10 ^ Int.toNat 20), V.ref p1, V.ref p2, V.str (Str.ofString "")] [.int 0, .int 7, .int (-1), .bl true, .bl false, .non, .str (Str.ofString "3"), .fr (2 : Nat) (1 : Nat), .int (10 ^ Int.toNat 20), .lst [.int 1], .tup [], .str (Str.ofString "")] :=
        .cons (.int _) (.cons (.int _) (.cons (.int _) (.cons (.bl _) (.cons (.bl _) (.cons .non (.cons (.str _) (.cons (.fr (s _ _ hfr)) (.cons (.int _) (.cons (.lst a1 p10 (.cons (.int _) .nil)) (.cons (.tup a2 .nil) (.cons (.str _) .nil)))))))))))
      have hs := IsNs.but B BP e7 (IsNs.but B B6 (Same.but (same_upd hp)) hs)
      obtain ⟨v, w, hv, hw, vw⟩ := hs.at (i := y) (show y < 12 by omega)
      have eP6 := (Same.but (same_upd (o := .lst [V.int 0, V.int 7, V.int (-1), V.bl true, V.bl false, V.non, V.str (Str.ofString "3"), V.ref f, V.int (10 ^ Int.toNat 20), V.ref p1, V.ref p2, V.str (Str.ofString "")]) hp) : But b _ _)
      have e37 := ((Same.but e36 : But b _ _).trans eP6).trans e7
      refine ⟨_, _, rfl, e7 _ _ pb upd_same, v, atI_nat hv, hR _ _ ⟨v, w, rfl, B7, e3.trans e37, e37 _ _ Db hD3, IsNs.noD B B3 e37 hx3, vw, ?_⟩⟩
      have all : ∀ w ∈ [Wv.int 0, .int 7, .int (-1), .bl true, .bl false, .non, .str (Str.ofString "3"), .fr (2 : Nat) (1 : Nat), .int (10 ^ Int.toNat 20), .lst [.int 1], .tup [], .str (Str.ofString "")], Dep 4 w := by
        intro w m
        simp only [List.mem_cons, List.not_mem_nil, or_false] at m
        rcases m with rfl | rfl | rfl | rfl | rfl | rfl | rfl | rfl | rfl | rfl | rfl | rfl
        · exact .int (by decide) (by decide)
        · exact .int (by decide) (by decide)
        · exact .int (by decide) (by decide)
        · exact .bl _
        · exact .bl _
        · exact .non
        · exact .str (by decide +kernel)
        · exact .fr (by decide) (by decide)
        · exact .int (by decide) (by decide)
        · exact .lst (by decide) fun w m => by rw [List.mem_singleton.mp m]; exact .int (by decide) (by decide)
        · exact .tup (by decide) fun w m => by cases m
        · exact .str (by decide +kernel)
      exact all w (List.mem_of_getElem? hw)
    obtain ⟨vz, wz, rfl, B4, e4, hD4, hx4, hz, dz⟩ := h
    walk_at "rd"
    have Db := B.ne_new D0
    have xl4 := hx4.len
    refine drw B4 (by decide) (by decide) fun y H5 y4 B5 e5 => ⟨rfl, ?_⟩
    have e05 := e4.trans e5
    have hD5 := e5 _ _ Db hD4
    have hx5 := IsNs.noD B B4 e5 hx4
    have fin : ∀ {vz : V} {wz : Wv}, IsN a.C_Frac H H5 vz wz → Dep 4 wz → spShape K [.ref b, .ref D] H5 (fun x H1 => spMade a [vz, x] H1 Q E0) E0 := fun {vz wz} hz dz => by
      refine shpV (l := true) B B5 e05 Db hD5 (by omega) hx5.all fun q l' H6 B6 e06 e56 qb hq hn hn1 hx6 => ?_
      exact ⟨vz, wz, q, l', xs3, ws3, H, rfl, (hz.but B B5 e56).is, dz, hq, hn, hx6, l8, hd3, tabs_but hT B e06, fun H7 st T7 => k H7 (BoxAt.st B B6 st) T7⟩
    exact ite2 (fun _ => fin (hz.but B B4 e5) dz) (fun _ => fin (.int _) (.int (by omega) (by omega)))
end

end K21
namespace K21
open PySem PySem.Spec PyProof.Rows L2 Own OwnSeq OwnSet OwnComb OwnSort OwnHot OwnExN OwnProj
local macro_rules | `(tactic| walk_at "rd") => `(tactic| simp only [tSeq, tAsg, tOp, tUn, tVar, gName, gSub, rIxL, rIxT, rSetL, tC, rI0, rI, rU, rEq, rNe, tCons, tNil, tCB, tLst, tTup, tIfS, tAnd, tOr, tNot, tAndV, tOrV, tNotV, tTest, tB, tIf, tRet, tDrop, tNext, tBreak, tCont, tCall, tCallS, L2.WE, tMakeS, rIsS, rIsB, tChain, gSeq, gRest, gCons, gNil, tFor_seq, tFor_enumS, tLc_seq, tLc_enumS, rAny, rAll, L2.tMeth, StX.tStar, rIn, tLstRg, tRg1, tRg2, rSetI, rSortedSet, rInDT, rInD, rNotInD, rEqD, rNeD, iComb, tFld, tMake, tMkO, sFld, tOst, tNever, tBits, clv, isB,
  Rd.tFor_rng1, Rd.tFor_rng2, Rd.tFor_list, Rd.tFor_tup, Rd.tLc_list, Rd.tLc_tup, Rd.tLc_rng1, Rd.LcTurn, tYes, wipe, Rd.rLenL, Rd.rLenT, Rd.rIntI, Rd.rIxH, rIxHT,  HO.tup.injEq, Rd.at0, Rd.at1, Rd.at2, Rd.at3, Rd.ixN40, Rd.ixN41, Rd.ixN42, Rd.ixN43, Rd.scal_ii, cxOf,
  List.length_cons, List.length_nil, List.length_map, List.map_cons, List.map_nil, upd_same, decide_eq_true_eq, decide_true, decide_false, if_true, if_false, Bool.false_eq_true, Bool.not_true, Bool.not_false, HO.lst.injEq, HO.ins.injEq, List.set_cons_zero, List.set_cons_succ, List.getElem?_cons_zero, List.getElem?_cons_succ, List.append_nil, List.nil_append, List.cons_append, Option.some.injEq, V.ref.injEq, V.int.injEq, V.bl.injEq, List.cons.injEq, exists_eq_left', exists_and_left, exists_eq_left, true_and, and_true, and_self, and_assoc, implies_true, reduceCtorEq, Nat.reduceAdd])

open LamX
/-- f(k = v): a def whose parameters are all called by their names -/
def swp {α : Type} : List α → List α
  | [x, y] => [y, x]
  | l => l
theorem swp_vals : ∀ {zs : List V} {ws : List Value}, Vals zs ws → Vals (swp zs) (swp ws)
  | _, _, .nil => .nil
  | _, _, .cons r .nil => .cons r .nil
  | _, _, .cons r (.cons q .nil) => .cons q (.cons r .nil)
  | _, _, .cons r (.cons q (.cons p t)) => .cons r (.cons q (.cons p t))
def tCallN0 (n : Nat) (sp : Sp) (E : XK) (tk : TA) : TE := fun σ H Q => tk σ H fun zs H2 => zs.length = n ∧ sp (swp zs) H2 Q E
theorem pe_callN0 {X : Cx} {CX : CXT} {k : Nat} {f : Addr} {fd : FuncData} {ps ks : List Str} {sp : Sp} {E : XK} {x : Str} {p pos : Pos} {kws : List Keyword} {tk : TA}
    (F : FnOk X.prog X.w X.K X.mg X.base CX k f fd ps sp) (hr : Room k X.A) (hg : Gl X x) (hm : X.mg x = some (.ref f)) (hk : PySem.W.keepIn X.K (.ref f) = true) (hb : KBn X.K fd ps 0 ks (fun _ ws => swp ws) (fun _ zs => swp zs)) (hx : Passes CX X E) (hkw : PK X kws tk)
    (hall : (backToKw pos (keywordEach kws X.env)).all (·.1.isSome) = true := by rfl) (hks : (backToKw pos (keywordEach kws X.env)).filterMap (·.1) = ks := by rfl) (hdb : (x == ("__debug__" : Str)) = false := by decide)
    (hpl : ((backTo pos (starEach [] X.env)).any (·.1) || (backToKw pos (keywordEach kws X.env)).any (·.1.isNone)) = false := by rfl) :
    PE X (.Call (.Name x p) [] kws pos) (tCallN0 ks.length sp E tk) := by
  refine ⟨fun pins s σ H Q I h => wpAny_Call_Name_kw (ld_glob I hg hm (PySem.W.callWith_KW0 (h₀ := X.base) I.ok.mod.kin hk hall (thn (hkw.run pos pins s σ H _ I h) fun ws s2 ⟨zs, H2, I2, rz, l2, q2⟩ => ⟨I2.kIn, ?_⟩) hpl) hdb)⟩
  rw [hks]
  exact run_fnN (us := []) (vs := []) F hr hb hx I2 .nil rz rfl l2 q2
/-- a def called by names behind its first parameters -/
theorem kbs_of {K : PySem.W.Frag} {x qual : Str} {st : Stmt} {f : Addr} {fd : FuncData} {ps : List Str} (ks : List Str) (F : Fun K x qual st f fd)
    (h : ∀ (kV doc pm : Value) (an : Option Addr) (cdv ct : Value) (us ws : List Value), us.length = 0 → ws.length = ks.length → bindArgs (PySem.W.fnOf x qual (defArgs st) (defBody st) (defScope st) .none kV doc pm an cdv ct) ⟨us, ks.zip ws⟩ = pure (ps.zip (swp ws))) :
    KBn K fd ps 0 ks (fun _ ws => swp ws) (fun _ zs => swp zs) :=
  match F.ex with
  | ⟨_, _, kV, doc, pm, an, cdv, ct, _, e, _, _⟩ => ⟨fun s us ws _ l1 l2 => .of_eq (by rw [e]; exact h kV doc pm an cdv ct us ws l1 l2), fun _ r2 => swp_vals r2⟩
section
variable {P : Program} {w : World} {K : PySem.W.Frag} {mg : Str → Option Value} {base : Heap} {a : Ad}
theorem BoxAt.extN {H H' : Hp} {b c : Addr} {ns : List Int} (B : BoxAt K H b c ns) (e : ExtN H H') : BoxAt K H' b c ns :=
  let ⟨n1, n2, n3, h, p, q⟩ := B.ob
  ⟨B.ne, B.len, ⟨n1, n2, n3, e _ _ h (fun _ z => by cases z), p, q⟩, by
    rcases B.cells with (h | ⟨o, h⟩) | h
    · exact .inl (.inl (e _ _ h (fun _ z => by cases z)))
    · exact .inl (.inr ⟨o, e _ _ h (fun _ z => by cases z)⟩)
    · exact .inr h⟩
theorem kb_uniform (T : Txt K mg a) : KBn K a.d_uniform ["size", "most"] 0 ["most", "size"] (fun _ ws => swp ws) (fun _ zs => swp zs) :=
  kbs_of ["most", "size"] T.fn_uniform fun kV doc pm an cdv ct us ws hu hw => match us, ws, hu, hw with | [], [_, _], _, _ => by first | rfl | with_unfolding_all rfl | kernel_rfl
theorem kb_quotas (T : Txt K mg a) : KBn K a.d_quotas ["size", "classes"] 0 ["classes", "size"] (fun _ ws => swp ws) (fun _ zs => swp zs) :=
  kbs_of ["classes", "size"] T.fn_quotas fun kV doc pm an cdv ct us ws hu hw => match us, ws, hu, hw with | [], [_, _], _, _ => by first | rfl | with_unfolding_all rfl | kernel_rfl
theorem kb_from_tops (T : Txt K mg a) : KBn K a.d_from_tops ["size", "tops"] 0 ["tops", "size"] (fun _ ws => swp ws) (fun _ zs => swp zs) :=
  kbs_of ["tops", "size"] T.fn_from_tops fun kV doc pm an cdv ct us ws hu hw => match us, ws, hu, hw with | [], [_, _], _, _ => by first | rfl | with_unfolding_all rfl | kernel_rfl
/-! ### _law_uniform -/
def spUniL (K : PySem.W.Frag) (a : Ad) : Sp := fun vs H Q _ => ∃ (b c : Addr) (ns : List Int) (n : Nat), vs = [.ref b, .int n] ∧ BoxAt K H b c ns ∧ 1 ≤ n ∧ n ≤ 6 ∧ Tabs (tabL a) H ∧ ∀ H', BoxAt K H' b c ns → Tabs (tabL a) H' → Q (.bl true) H'
theorem sc_law_uniform : FnScope ["box", "size", "most", "inside", "mask"] ["box", "size"] (defScope s_law_uniform) := ⟨rfl, rfl, rfl, by decide +kernel, rfl, by decide +kernel, by decide +kernel⟩
theorem ok_law_uniform (T : Txt K mg a) (TB : TabB base mg a.co_uniform a.tb_uniform) : FnOk P w K mg base CX0 12 a.a_law_uniform a.d_law_uniform ["box", "size"] (spUniL K a) := by
  refine T.fn_law_uniform.ok sc_law_uniform (fun vs H Q E h => ?_) (fun cdv A outer s H vs Q E hr h => ?_)
  · obtain ⟨b, c, ns, n, rfl, _⟩ := h
    rfl
  · obtain ⟨b, c, ns, n, rfl, B, n1, n6, hT, k⟩ := h
    refine ⟨_, (pss_cons (ps_set (i := 2) sc_law_uniform.nd rfl (Or.inr rfl) (pe_call (ok_law_draw T) (hr.mono (by decide)) (by rfl) T.mg_law_draw T.fn_law_draw.kp T.b_law_draw .nil pass0 (pa_cons (pv 0) (pa_cons pe_int pa_nil))))
      (pss_cons (ps_setLc (i := 3) (own := [("mask", 4)]) (by rfl) sc_law_uniform.nd rfl rfl (sw_true rfl rfl rfl (by decide +kernel)) (pi_range1 (by rfl) T.no_range (pa_cons (pe_op op_shl pe_int (pv 1)) pa_nil)) (blkOk_by (own := [("mask", 4)]) (N := ["box", "size", "most", "inside", "mask"]) (sc := defScope s_law_uniform) (by decide +kernel)) (fun _ _ _ _ _ => pg_name (i := 4) sc_law_uniform.nd rfl (Or.inl rfl)) (fun _ _ _ _ _ => pts_nil) (fun _ _ _ _ _ => (pe_cmpR op_le (pe_callB (lenK K) (by rfl) T.no_len PySem.boot_len (pa_cons (pe_call (ok_law_things T) (hr.mono (by decide)) (by rfl) T.mg_law_things T.fn_law_things.kp T.b_law_things .nil pass0 (pa_cons (pv 4) pa_nil)) pa_nil)) (pv 2) (nomark _))))
      (pss_one (ps_ret (pe_and (pe_call (ok_law_is T) (hr.mono (by decide)) (by rfl) T.mg_law_is T.fn_law_is.kp T.b_law_is .nil pass0 (pa_cons (pe_call (ok_uniform T TB) (hr.mono (by decide)) (by rfl) T.mg_uniform T.fn_uniform.kp T.b_uniform .nil pass0 (pa_cons (pv 1) (pa_cons (pv 2) pa_nil))) (pa_cons (pv 1) (pa_cons (pv 3) pa_nil)))) (pe_one (pe_call (ok_law_is T) (hr.mono (by decide)) (by rfl) T.mg_law_is T.fn_law_is.kp T.b_law_is .nil pass0 (pa_cons (pe_callN0 (ok_uniform T TB) (hr.mono (by decide)) (by rfl) T.mg_uniform T.fn_uniform.kp (kb_uniform T) pass0 (pk_cons (pv 2) (pk_cons (pv 1) pk_nil))) (pa_cons (pv 1) (pa_cons (pv 3) pa_nil)))))))))), ?_⟩
    show (_ : TS) _ [some (V.ref b), some (V.int n), none, none, none] H
    have p64 := pow64 n6
    walk_at "rd"
    refine drw B (by decide) (by decide) fun q H1 q10 B1 e1 => ⟨cpw (by omega), (pbd n6).1, (pbd n6).2.1, ?_⟩
    rw [(pbd n6).2.2.1]
    refine Rd.lcl_rng (fun D i H5 => H1 D = none ∧ Same H1 H5 ∧ H5 D = some (.lst (((List.range i).map fun m => decide ((pop m : Int) ≤ q)).map V.bl))) (fun D hD => ⟨hD, same_upd hD, upd_same⟩) (fun D i H5 hi ⟨n5, e5, a5⟩ => ?_) (fun D H5 _ ⟨n5, e5, a5⟩ => ?_)
    · walk_at "rd"
      rw [Int.zero_add]
      refine ⟨i, rfl, fun r1 H6 r0 e6 a6 => ⟨r1, rfl, _, .inr (SqT.of a6), _, e6 _ _ a5, small (by rw [List.length_map, List.length_map, List.length_range]; omega), n5, fun b o hb => (upd_ne (ne_of_none hb n5)).trans (e6 _ _ (e5 _ _ hb)), ?_⟩⟩
      rw [List.range_succ, List.map_append, List.map_append, iv_len]
      rfl
    · have T5 := (tabs_but hT B e1).ext e5
      have B5 := B1.same e5
      have nd : ∀ ps, HO.lst ((uniS n q).map V.bl) ≠ .tbl ps := fun _ z => by cases z
      refine ⟨n, q, rfl, n1, n6, by omega, T5, fun g H6 e6 T6 F6 => ⟨g, D, n, _, rfl, F6, e6 _ _ a5 nd, fun H7 e7 => ⟨_, rfl, ?_⟩⟩⟩
      rw [if_pos rfl]
      simp only [tCallN0]
      walk_at "rd"
      have e57 := e6.trans (ExtN.of e7)
      exact ⟨n, q, rfl, n1, n6, by omega, T6.ext e7, fun g2 H8 e8 T8 F8 => ⟨g2, D, n, _, rfl, F8, e8 _ _ (e57 _ _ a5 nd) nd, fun H9 e9 => k _ ((B5.extN (e57.trans e8)).same e9) (T8.ext e9)⟩⟩
/-! ### _law_class -/
def spClass (K : PySem.W.Frag) : Sp := fun vs H Q _ => ∃ (b c p : Addr) (ns : List Int) (n : Nat) (ms : List Nat), vs = [.ref b, .int n, .ref p] ∧ BoxAt K H b c ns ∧ 1 ≤ n ∧ n ≤ 6 ∧ p ≠ b ∧ H p = some (.lst (iv ms)) ∧ ms.length ≤ 4 ∧ (∀ m ∈ ms, m < 2 ^ n) ∧
  ∀ (m : Nat) H', m < 2 ^ n → BoxAt K H' b c ns → But b H H' → Q (.int m) H'
theorem sc_law_class : FnScope ["box", "size", "masks", "shape", "mask", "old", "other"] ["box", "size", "masks"] (defScope s_law_class) := ⟨rfl, rfl, rfl, by decide +kernel, rfl, by decide +kernel, by decide +kernel⟩
theorem ok_law_class (T : Txt K mg a) : FnOk P w K mg base CX0 2 a.a_law_class a.d_law_class ["box", "size", "masks"] (spClass K) := by
  refine T.fn_law_class.ok sc_law_class (fun vs H Q E h => ?_) (fun cdv A outer s H vs Q E hr h => ?_)
  · obtain ⟨b, c, p, ns, n, ms, rfl, _⟩ := h
    rfl
  · obtain ⟨b, c, p, ns, n, ms, rfl, B, n1, n6, pb, hp, l4, hm, k⟩ := h
    refine ⟨_, (pss_cons (ps_set (i := 3) sc_law_class.nd rfl (Or.inl rfl) (pe_call (ok_law_draw T) (hr.mono (by decide)) (by rfl) T.mg_law_draw T.fn_law_draw.kp T.b_law_draw .nil pass0 (pa_cons (pv 0) (pa_cons pe_int pa_nil))))
      (pss_cons (ps_set (i := 4) sc_law_class.nd rfl (Or.inl rfl) (pe_call (ok_law_draw T) (hr.mono (by decide)) (by rfl) T.mg_law_draw T.fn_law_draw.kp T.b_law_draw .nil pass0 (pa_cons (pv 0) (pa_cons (pe_op op_shl pe_int (pv 1)) pa_nil))))
      (pss_cons (ps_if (PW.pt (pw_or (pt_cmpR op_eq (pe_callB (lenK K) (by rfl) T.no_len PySem.boot_len (pa_cons (pv 2) pa_nil)) pe_int (nomark _)) (pw_or1 (pt_cmpR op_eq (pv 3) pe_int (nomark _))))) (pss_one (ps_ret (pv 4))) pss_nil)
      (pss_cons (ps_set (i := 5) sc_law_class.nd rfl (Or.inl rfl) (pe_ix Rd.ixH (pv 2) (pe_call (ok_law_draw T) (hr.mono (by decide)) (by rfl) T.mg_law_draw T.fn_law_draw.kp T.b_law_draw .nil pass0 (pa_cons (pv 0) (pa_cons (pe_callB (lenK K) (by rfl) T.no_len PySem.boot_len (pa_cons (pv 2) pa_nil)) pa_nil))) (fun _ _ => rfl)))
      (pss_cons (ps_if (pt_cmpR op_eq (pv 3) pe_int (nomark _)) (pss_one (ps_ret (pv 5))) pss_nil)
      (pss_cons (ps_if (pt_cmpR op_eq (pv 3) pe_int (nomark _)) (pss_one (ps_ret (pe_op op_and (pv 4) (pv 5)))) pss_nil)
      (pss_cons (ps_if (pt_cmpR op_eq (pv 3) pe_int (nomark _)) (pss_cons (ps_for PassesOwn.never rfl (pi_toldL K (pv 2)) (pg_name (i := 6) sc_law_class.nd rfl (Or.inl rfl))
          (pss_one (ps_if (pt_cmpR op_ne (pe_op op_and (pv 4) (pv 6)) pe_int (nomark _)) (pss_one (ps_set (i := 4) sc_law_class.nd rfl (Or.inl rfl) (pe_op op_or (pv 4) (pv 6)))) pss_nil)))
        (pss_one (ps_ret (pv 4)))) pss_nil)
      (pss_cons (ps_for PassesOwn.never rfl (pi_toldL K (pv 2)) (pg_name (i := 6) sc_law_class.nd rfl (Or.inl rfl))
        (pss_one (ps_set (i := 4) sc_law_class.nd rfl (Or.inl rfl) (pe_op op_and (pv 4) (pe_op op_sub (pe_op op_sub (pe_op op_shl pe_int (pv 1)) pe_int) (pv 6))))))
      (pss_one (ps_ret (pv 4))))))))))), ?_⟩
    show (_ : TS) _ [some (V.ref b), some (V.int n), some (V.ref p), none, none, none, none] H
    have p64 := pow64 n6
    have pp := Nat.pow_pos (n := n) (show 0 < 2 by decide)
    walk_at "rd"
    refine drw B (by decide) (by decide) fun sh H1 s6 B1 e1 => ⟨cpw (by omega), ?_⟩
    rw [pow_cast]
    refine drw B1 (by omega) (by omega) fun mk0 H2 m0 B2 e2 => ?_
    have hp2 := e2 _ _ pb (e1 _ _ pb hp)
    have e02 := e1.trans e2
    have m0 : mk0 < 2 ^ n := by omega
    have dn : Q (.int (mk0 : Nat)) H2 := k mk0 H2 m0 B2 e02
    have il := iv_len ms
    refine ⟨_, .inl (SqL.of hp2), ite2 (fun _ => dn) (fun h0 => ⟨rfl, ite2 (fun _ => dn) (fun _ => ⟨_, .inl (SqL.of hp2), drw B2 (by omega) (by omega) fun y H3 y4 B3 e3 => ?_⟩)⟩)⟩
    obtain ⟨old, ho⟩ : ∃ old, ms[y]? = some old := ⟨_, List.getElem?_eq_getElem (by omega)⟩
    have oz := hm old (List.mem_of_getElem? ho)
    have hp3 := e3 _ _ pb hp2
    have e03 := e02.trans e3
    have kk : ∀ m : Nat, m < 2 ^ n → Q (.int m) H3 := fun m h => k m H3 h B3 e03
    refine ⟨_, _, rfl, hp3, _, iv_at ho, rfl, ite2 (fun _ => kk old oz) (fun _ => ⟨rfl, ite2 (fun _ => ⟨_, rfl, _, rfl, ?_⟩) (fun _ => ⟨rfl, ite2 (fun _ => ⟨⟨_, SqL.of hp3⟩, ?_⟩) (fun _ => ⟨⟨_, SqL.of hp3⟩, ?_⟩)⟩)⟩)⟩
    · rw [and_nat]
      exact kk _ (Nat.lt_of_le_of_lt Nat.and_le_left m0)
    · refine Rd.loop_listC (xs := iv ms) (fun σ H' => ∃ (m : Nat) (o6 : Option V), σ = [some (V.ref b), some (V.int n), some (V.ref p), some (V.int sh), some (V.int m), some (V.int old), o6] ∧ H' = H3 ∧ m < 2 ^ n)
        (fun _ σ H' => ∃ (m : Nat) (o6 : Option V), σ = [some (V.ref b), some (V.int n), some (V.ref p), some (V.int sh), some (V.int m), some (V.int old), o6] ∧ H' = H3 ∧ m < 2 ^ n) ⟨mk0, none, rfl, rfl, m0⟩ (fun i σ H' _ ⟨_, _, _, e, _⟩ => e ▸ SqL.of hp3) ?_ (fun _ _ z => z) ?_
      · rintro bk hbk i x σ H4 hx ⟨m, o6, rfl, rfl, mlt⟩
        obtain ⟨g, hg, rfl⟩ := at_iv hx
        have gz := hm g (List.mem_of_getElem? hg)
        walk_at "rd"
        rw [or_nat]
        exact ite2 (fun _ => ⟨_, rfl, Nat.or_lt_two_pow mlt gz⟩) (fun _ => ⟨m, rfl, mlt⟩)
      · rintro σ H4 ⟨m, o6, rfl, rfl, mlt⟩
        walk_at "rd"
        exact kk m mlt
    · refine Rd.loop_listC (xs := iv ms) (fun σ H' => ∃ (m : Nat) (o6 : Option V), σ = [some (V.ref b), some (V.int n), some (V.ref p), some (V.int sh), some (V.int m), some (V.int old), o6] ∧ H' = H3 ∧ m < 2 ^ n)
        (fun _ σ H' => ∃ (m : Nat) (o6 : Option V), σ = [some (V.ref b), some (V.int n), some (V.ref p), some (V.int sh), some (V.int m), some (V.int old), o6] ∧ H' = H3 ∧ m < 2 ^ n) ⟨mk0, none, rfl, rfl, m0⟩ (fun i σ H' _ ⟨_, _, _, e, _⟩ => e ▸ SqL.of hp3) ?_ (fun _ _ z => z) ?_
      · rintro bk hbk i x σ H4 hx ⟨m, o6, rfl, rfl, mlt⟩
        obtain ⟨g, hg, rfl⟩ := at_iv hx
        have gz := hm g (List.mem_of_getElem? hg)
        walk_at "rd"
        rw [pow_cast, show ((2 ^ n : Nat) : Int) - 1 - (g : Int) = ((2 ^ n - 1 - g : Nat) : Int) by omega, and_nat]
        exact ⟨cpw (by omega), _, rfl, Nat.lt_of_le_of_lt Nat.and_le_left mlt⟩
      · rintro σ H4 ⟨m, o6, rfl, rfl, mlt⟩
        walk_at "rd"
        exact kk m mlt
end

end K21
namespace K21
open PySem PySem.Spec PyProof.Rows L2 Own OwnSeq OwnSet OwnComb OwnSort OwnHot OwnExN OwnProj
local macro_rules | `(tactic| walk_at "rd") => `(tactic| simp only [tSeq, tAsg, tOp, tUn, tVar, gName, gSub, rIxL, rIxT, rSetL, tC, rI0, rI, rU, rEq, rNe, tCons, tNil, tCB, tLst, tTup, tIfS, tAnd, tOr, tNot, tAndV, tOrV, tNotV, tTest, tB, tIf, tRet, tDrop, tNext, tBreak, tCont, tCall, tCallS, L2.WE, tMakeS, rIsS, rIsB, tChain, gSeq, gRest, gCons, gNil, tFor_seq, tFor_enumS, tLc_seq, tLc_enumS, rAny, rAll, L2.tMeth, StX.tStar, rIn, tLstRg, tRg1, tRg2, rSetI, rSortedSet, rInDT, rInD, rNotInD, rEqD, rNeD, iComb, tFld, tMake, tMkO, sFld, tOst, tNever, tBits, clv, isB,
  Rd.tFor_rng1, Rd.tFor_rng2, Rd.tFor_list, Rd.tFor_tup, Rd.tLc_list, Rd.tLc_tup, Rd.tLc_rng1, Rd.LcTurn, tYes, wipe, Rd.rLenL, Rd.rLenT, Rd.rIntI, Rd.rIxH, rIxHT,  HO.tup.injEq, Rd.at0, Rd.at1, Rd.at2, Rd.at3, Rd.ixN40, Rd.ixN41, Rd.ixN42, Rd.ixN43, Rd.scal_ii, cxOf,
  List.length_cons, List.length_nil, List.length_map, List.map_cons, List.map_nil, upd_same, decide_eq_true_eq, decide_true, decide_false, if_true, if_false, Bool.false_eq_true, Bool.not_true, Bool.not_false, HO.lst.injEq, HO.ins.injEq, List.set_cons_zero, List.set_cons_succ, List.getElem?_cons_zero, List.getElem?_cons_succ, List.append_nil, List.nil_append, List.cons_append, Option.some.injEq, V.ref.injEq, V.int.injEq, V.bl.injEq, List.cons.injEq, exists_eq_left', exists_and_left, exists_eq_left, true_and, and_true, and_self, and_assoc, implies_true, reduceCtorEq, Nat.reduceAdd])

open LamX
section
variable {P : Program} {w : World} {K : PySem.W.Frag} {mg : Str → Option Value} {base : Heap} {a : Ad}
/-! ### _law_quotas -/
def spQuoL (K : PySem.W.Frag) (a : Ad) : Sp := fun vs H Q _ => ∃ (b c : Addr) (ns : List Int) (n : Nat), vs = [.ref b, .int n] ∧ BoxAt K H b c ns ∧ 1 ≤ n ∧ n ≤ 6 ∧ Tabs (tabL a) H ∧ ∀ H', BoxAt K H' b c ns → Tabs (tabL a) H' → Q (.bl true) H'
/-- what is drawn: masks and limits -/
abbrev MsOk (n : Nat) (ms : List Nat) : Prop := ms.length ≤ 4 ∧ ∀ m ∈ ms, m < 2 ^ n
def clsOf (ms : List Nat) (ls : List Nat) : List Cl := (ms.zip ls).map fun x => (bits x.1, (x.2 : Int))
/-- classes as passed: lists are new -/
def ClsN (H0 H : Hp) : List V → List Cl → Prop
  | [], [] => True
  | v :: vs, c :: cs => (∃ q l g l', v = .ref q ∧ H q = some (sq l [.ref g, .int c.2]) ∧ H g = some (sq l' (iv c.1)) ∧ (l = true → H0 q = none) ∧ (l' = true → H0 g = none)) ∧ ClsN H0 H vs cs
  | _, _ => False
theorem ClsN.cls {H0 H : Hp} : ∀ {xs : List V} {cs : List Cl}, ClsN H0 H xs cs → ClsV H xs cs
  | [], [], _ => trivial
  | _ :: _, _ :: _, ⟨⟨q, l, g, l', e, h1, h2, _⟩, r⟩ => ⟨⟨q, l, g, l', e, h1, h2⟩, ClsN.cls r⟩
  | [], _ :: _, h => h.elim
  | _ :: _, [], h => h.elim
theorem ClsN.keep {H0 H H' : Hp} : ∀ {xs : List V} {cs : List Cl}, (∀ q l ys, H q = some (sq l ys) → (l = true → H0 q = none) → (∀ u : Nat, ys ≠ [.ref u]) → (∀ (u v : Nat) r, ys ≠ .ref u :: .ref v :: r) → H' q = some (sq l ys)) → ClsN H0 H xs cs → ClsN H0 H' xs cs
  | [], [], _, _ => trivial
  | _ :: _, c :: _, k, ⟨⟨q, l, g, l', e, h1, h2, n1, n2⟩, r⟩ => ⟨⟨q, l, g, l', e, k _ _ _ h1 n1 (fun _ z => by cases z) (fun _ _ _ z => by cases z), k _ _ _ h2 n2 (fun u z => by
      cases hc : c.1 with
      | nil => rw [hc] at z; cases z
      | cons x s => rw [hc] at z; cases z) (fun u v r z => by
      cases hc : c.1 with
      | nil => rw [hc] at z; cases z
      | cons x s => rw [hc] at z; cases z), n1, n2⟩, ClsN.keep k r⟩
  | [], _ :: _, _, h => h.elim
  | _ :: _, [], _, h => h.elim
theorem ClsN.grow {K : PySem.W.Frag} {b c D : Addr} {ns : List Int} {H H1 H' : Hp} {xs : List V} {cs : List Cl} {o : HO} (B : BoxAt K H b c ns) (B1 : BoxAt K H1 b c ns) (cn : ClsN H H1 xs cs) (hD : H1 D = some (.lst xs)) (e : But b H1 H') : ClsN H (upd H' D o) xs cs := by
  cases xs with
  | nil =>
    cases cs with
    | nil => trivial
    | cons _ _ => exact cn.elim
  | cons x xs' =>
    refine cn.keep fun q l ys hq nw c1 c2 => (upd_ne fun z => ?_).trans (e _ _ (fun z => ?_) hq)
    · subst z
      rw [hD] at hq
      cases l with
      | false => cases hq
      | true =>
        have z := HO.lst.inj (Option.some.inj hq)
        cases cs with
        | nil => exact cn.elim
        | cons c0 cs' =>
          obtain ⟨⟨u, _, _, _, rfl, _⟩, r⟩ := cn
          cases xs' with
          | nil => exact c1 u z.symm
          | cons y r' =>
            cases cs' with
            | nil => exact r.elim
            | cons c1' cs2 =>
              obtain ⟨⟨v, _, _, _, rfl, _⟩, _⟩ := r
              exact c2 u v r' z.symm
    · subst z
      obtain ⟨_, _, _, hb, _⟩ := B.ob
      obtain ⟨_, _, _, hb1, _⟩ := B1.ob
      cases l with
      | true => rw [nw rfl] at hb; cases hb
      | false => rw [hb1] at hq; cases hq
theorem ClsN.but {K : PySem.W.Frag} {b c : Addr} {ns : List Int} {H H1 H' : Hp} {xs : List V} {cs : List Cl} (B : BoxAt K H b c ns) (B1 : BoxAt K H1 b c ns) (cn : ClsN H H1 xs cs) (e : But b H1 H') : ClsN H H' xs cs :=
  cn.keep fun q l ys hq nw _ _ => e _ _ (fun z => by
    subst z
    obtain ⟨_, _, _, hb, _⟩ := B.ob
    obtain ⟨_, _, _, hb1, _⟩ := B1.ob
    cases l with
    | true => rw [nw rfl] at hb; cases hb
    | false => rw [hb1] at hq; cases hq) hq
def quB (cs : List Cl) (m : Nat) : Bool := cs.all fun c => decide ((pop (m &&& mk c.1) : Int) ≤ c.2)
/-- pairs of a list of numbers and a number -/
def PP (H0 Hc : Hp) (k : Nat) (xs : List V) : Prop := ∀ x ∈ xs, ∃ (q : Addr) (l : Bool) (g : Addr) (z : Int) (l' : Bool) (us : List Int), x = .ref q ∧ Hc q = some (sq l [.ref g, .int z]) ∧ (l = true → H0 q = none) ∧ Hc g = some (sq l' (us.map V.int)) ∧ (l' = true → H0 g = none) ∧ us.length ≤ k
theorem pp_ne {Hc : Hp} {q g g' : Addr} {l l' : Bool} {z : Int} {us : List Int} (h1 : Hc q = some (sq l [.ref g', .int z])) (h2 : Hc g = some (sq l' (us.map V.int))) : q ≠ g := fun e => by
  subst e
  rw [h1] at h2
  cases us with
  | nil => cases l <;> cases l' <;> cases h2
  | cons u r => cases l <;> cases l' <;> cases h2
theorem PP.grow {H0 Hc : Hp} {k : Nat} {xs : List V} (h : PP H0 Hc k xs) {g : Addr} {us : List Int} (hg : Hc g = some (.lst (us.map V.int))) (ul : us.length ≤ k) (g0 : H0 g = none) : PP H0 (upd Hc g (.lst (us.map V.int ++ [.int 0]))) (k + 1) xs := fun x hx => by
  obtain ⟨q, l, g', z, l', us', rfl, h1, h2, h3, h4, h5⟩ := h x hx
  have qg := pp_ne (l' := true) h1 hg
  by_cases e : g' = g
  · subst e
    exact ⟨q, l, g', z, true, us ++ [0], rfl, (upd_ne qg).trans h1, h2, by rw [upd_same, List.map_append]; rfl, fun _ => g0, by rw [List.length_append]; show us.length + 1 ≤ k + 1; omega⟩
  · exact ⟨q, l, g', z, l', us', rfl, (upd_ne qg).trans h1, h2, (upd_ne e).trans h3, h4, by omega⟩
theorem PP.le {H0 Hc : Hp} {k k' : Nat} {xs : List V} (h : PP H0 Hc k xs) (e : k ≤ k') : PP H0 Hc k' xs := fun x hx =>
  let ⟨q, l, g', z, l', us', a1, h1, h2, h3, h4, h5⟩ := h x hx
  ⟨q, l, g', z, l', us', a1, h1, h2, h3, h4, Nat.le_trans h5 e⟩
theorem PP.put {H0 Hc : Hp} {k : Nat} {xs : List V} (h : PP H0 Hc k xs) {q g : Addr} {z : Int} (hq : Hc q = some (.lst [.ref g, .int z])) (q0 : H0 q = none) : PP H0 (upd Hc q (.lst [.ref g, .int 0])) k xs := fun x hx => by
  obtain ⟨q', l, g', z', l', us', rfl, h1, h2, h3, h4, h5⟩ := h x hx
  have qg := pp_ne (l := true) hq h3
  by_cases e : q' = q
  · subst e
    rw [hq] at h1
    obtain rfl : g' = g := by cases l <;> cases h1; rfl
    exact ⟨q', true, g', 0, l', us', rfl, upd_same, fun _ => q0, (upd_ne (Ne.symm qg)).trans h3, h4, h5⟩
  · exact ⟨q', l, g', z', l', us', rfl, (upd_ne e).trans h1, h2, (upd_ne (Ne.symm qg)).trans h3, h4, h5⟩
theorem PP.p_ne {H0 Hc : Hp} {k : Nat} {xs : List V} (h : PP H0 Hc k xs) {p : Addr} {l : Bool} (hp : Hc p = some (sq l xs)) {g : Addr} {l' : Bool} {ys : List V} (hg : Hc g = some (sq l' ys)) (n : ∃ y : Int, V.int y ∈ ys ∨ ys = []) (x : V) (hx : x ∈ xs) : p ≠ g := fun e => by
  subst e
  rw [hp] at hg
  have z : xs = ys := by cases l <;> cases l' <;> first | (cases hg; done) | (cases hg; rfl)
  obtain ⟨y, h1 | h1⟩ := n
  · rw [← z] at h1
    obtain ⟨_, _, _, _, _, _, a, _⟩ := h _ h1
    cases a
  · rw [z, h1] at hx
    cases hx
theorem ClsN.pp {H0 H H' : Hp} {k : Nat} : ∀ {xs : List V} {cs : List Cl}, ClsN H0 H xs cs → (∀ c ∈ cs, c.1.length ≤ k) → (∀ q l ys, H q = some (sq l ys) → H' q = some (sq l ys)) → PP H0 H' k xs
  | [], [], _, _, _ => fun x hx => by cases hx
  | _ :: xs, c :: cs, ⟨⟨q, l, g, l', rfl, h1, h2, n1, n2⟩, r⟩, hk, e => fun x hx => by
    rcases List.mem_cons.mp hx with rfl | hx
    · exact ⟨q, l, g, c.2, l', c.1.map (fun y : Nat => (y : Int)), rfl, e _ _ _ h1, n1, by rw [e _ _ _ h2, List.map_map]; rfl, n2, by rw [List.length_map]; exact hk c List.mem_cons_self⟩
    · exact ClsN.pp r (fun c m => hk c (List.mem_cons_of_mem _ m)) e x hx
  | [], _ :: _, h, _, _ => h.elim
  | _ :: _, [], h, _, _ => h.elim
/-- the classes as values -/
theorem cls_w {C : Addr} {H : Hp} {n : Nat} (n6 : n ≤ 6) : ∀ {xs : List V} {cs : List Cl}, ClsV H xs cs → (∀ c ∈ cs, c.1 ∈ allS n ∧ 0 ≤ c.2 ∧ c.2 < 8) → ∃ ws, IsWs C H xs ws ∧ ws.length = cs.length ∧ ∀ w ∈ ws, Dep 2 w
  | [], [], _, _ => ⟨[], .nil, rfl, fun _ m => by cases m⟩
  | _ :: _, c :: cs, ⟨⟨q, l, g, l', rfl, h1, h2⟩, r⟩, hc => by
    obtain ⟨ws, a1, a2, a3⟩ := cls_w n6 r fun c m => hc c (List.mem_cons_of_mem _ m)
    obtain ⟨c1, c2, c3⟩ := hc c List.mem_cons_self
    have sa := allS_at c1 n6
    refine ⟨seqW l [seqW l' (c.1.map fun g : Nat => Wv.int g), .int c.2] :: ws, .cons (isw_seq h1 (.cons (isw_seq h2 (ints_w _)) (.cons (.int _) .nil))) a1, congrArg (· + 1) a2, fun w m => ?_⟩
    rcases List.mem_cons.mp m with rfl | m
    · refine dep_seq (show 2 ≤ 9 by decide) fun w m => ?_
      rcases List.mem_cons.mp m with rfl | m
      · refine dep_seq (by rw [List.length_map]; omega) fun w m => ?_
        obtain ⟨g, hg, rfl⟩ := List.mem_map.mp m
        have := sa.2.2.1 g hg
        exact .int (by omega) (by omega)
      · rw [List.mem_singleton.mp m]
        exact .int (by omega) (by omega)
    · exact a3 w m
  | [], _ :: _, h, _ => h.elim
  | _ :: _, [], h, _ => h.elim
theorem clsOf_at {ms ls : List Nat} {i m z : Nat} (hm : ms[i]? = some m) (hz : ls[i]? = some z) : (clsOf ms ls)[i]? = some (bits m, (z : Int)) := by
  have y : (ms.zip ls)[i]? = some (m, z) := List.getElem?_zip_eq_some.mpr ⟨hm, hz⟩
  unfold clsOf
  rw [List.getElem?_map, y]
  rfl
theorem ClsN.app {H0 H : Hp} : ∀ {vs ws : List V} {gs hs : List Cl}, ClsN H0 H vs gs → ClsN H0 H ws hs → ClsN H0 H (vs ++ ws) (gs ++ hs)
  | [], _, [], _, _, h => h
  | _ :: _, _, _ :: _, _, ⟨a, r⟩, h => ⟨a, ClsN.app r h⟩
  | [], _, _ :: _, _, h, _ => h.elim
  | _ :: _, _, [], _, h, _ => h.elim
/-- the first class that overlaps an earlier one -/
def OverOk (cs : List Cl) (k : Nat) (plc : V) : Prop := (plc = .non ∧ ∀ i, i < k → overB cs i = false) ∨ ∃ i : Nat, plc = .int i ∧ i < k ∧ overB cs i = true ∧ ∀ j, j < i → overB cs j = false
def InOk (cs : List Cl) (s : List Nat) (k j : Nat) (plc : V) : Prop := ((∀ i, i < k → overB cs i = false) ∧ ((plc = .non ∧ ((cs.take j).any fun c => !nestB s c.1) = false) ∨ (plc = .int (k : Nat) ∧ ((cs.take j).any fun c => !nestB s c.1) = true))) ∨ ∃ i : Nat, plc = .int i ∧ i < k ∧ overB cs i = true ∧ ∀ j, j < i → overB cs j = false
theorem over_all : ((List.range 64).all fun m => (List.range 64).all fun m' => (!nestB (bits m) (bits m')) == (decide (m &&& m' ≠ 0) && (decide (m &&& m' ≠ m) && decide (m &&& m' ≠ m')))) = true := by decide +kernel
theorem over_at {m m' : Nat} (h : m < 64) (h' : m' < 64) : (!nestB (bits m) (bits m')) = (decide (m &&& m' ≠ 0) && (decide (m &&& m' ≠ m) && decide (m &&& m' ≠ m'))) :=
  eq_of_beq (List.all_eq_true.mp (List.all_eq_true.mp over_all m (List.mem_range.mpr h)) m' (List.mem_range.mpr h'))
theorem sc_law_quotas : FnScope ["box", "size", "masks", "k", "mask", "limits", "classes", "place", "at", "shared", "inside", "passed", "kept", "family", "e", "pair"] ["box", "size"] (defScope s_law_quotas) := ⟨rfl, rfl, rfl, by decide +kernel, rfl, by decide +kernel, by decide +kernel⟩
theorem ok_law_quotas (T : Txt K mg a) (TB : TabB base mg a.co_quotas a.tb_quotas) : FnOk P w K mg base CX0 13 a.a_law_quotas a.d_law_quotas ["box", "size"] (spQuoL K a) := by
  refine T.fn_law_quotas.ok sc_law_quotas (fun vs H Q E h => ?_) (fun cdv A outer s H vs Q E hr h => ?_)
  · obtain ⟨b, c, ns, n, rfl, _⟩ := h
    rfl
  · obtain ⟨b, c, ns, n, rfl, B, n1, n6, hT, k⟩ := h
    refine ⟨_, (pss_cons (ps_set (i := 2) sc_law_quotas.nd rfl (Or.inl rfl) (pe_lst pa_nil))
      (pss_cons (ps_for PassesOwn.never rfl (pi_range1 (by rfl) T.no_range (pa_cons (pe_call (ok_law_draw T) (hr.mono (by decide)) (by rfl) T.mg_law_draw T.fn_law_draw.kp T.b_law_draw .nil pass0 (pa_cons (pv 0) (pa_cons pe_int pa_nil))) pa_nil)) (pg_name (i := 3) sc_law_quotas.nd rfl (Or.inl rfl))
        (pss_one (ps_expr (pe_bm PySem.F.plainAttrs_list PySem.F.slot_list_append PySem.F.type_list_append mt_append (pv 2) (pa_cons (pe_call (ok_law_class T) (hr.mono (by decide)) (by rfl) T.mg_law_class T.fn_law_class.kp T.b_law_class .nil pass0 (pa_cons (pv 0) (pa_cons (pv 1) (pa_cons (pv 2) pa_nil)))) pa_nil)))))
      (pss_cons (ps_setLc (i := 5) (own := [("mask", 4)]) (by rfl) sc_law_quotas.nd rfl rfl (sw_true rfl rfl rfl (by decide +kernel)) (pi_toldL K (pv 2)) (blkOk_by (own := [("mask", 4)]) (N := ["box", "size", "masks", "k", "mask", "limits", "classes", "place", "at", "shared", "inside", "passed", "kept", "family", "e", "pair"]) (sc := defScope s_law_quotas) (by decide +kernel)) (fun _ _ _ _ _ => pg_name (i := 4) sc_law_quotas.nd rfl (Or.inl rfl)) (fun _ _ _ _ _ => pts_nil) (fun _ _ _ _ _ => (pe_call (ok_law_draw T) (hr.mono (by decide)) (by rfl) T.mg_law_draw T.fn_law_draw.kp T.b_law_draw .nil pass0 (pa_cons (pv 0) (pa_cons (pe_op op_add pe_int (pe_op op_mul pe_int (pe_call (ok_law_draw T) (hr.mono (by decide)) (by rfl) T.mg_law_draw T.fn_law_draw.kp T.b_law_draw .nil pass0 (pa_cons (pv 0) (pa_cons pe_int pa_nil))))) pa_nil)))))
      (pss_cons (ps_set (i := 6) sc_law_quotas.nd rfl (Or.inl rfl) (pe_lst pa_nil))
      (pss_cons (ps_for PassesOwn.never rfl (pi_range1 (by rfl) T.no_range (pa_cons (pe_callB (lenK K) (by rfl) T.no_len PySem.boot_len (pa_cons (pv 2) pa_nil)) pa_nil)) (pg_name (i := 3) sc_law_quotas.nd rfl (Or.inl rfl))
        (pss_one (ps_expr (pe_bm PySem.F.plainAttrs_list PySem.F.slot_list_append PySem.F.type_list_append mt_append (pv 6) (pa_cons (pe_call (ok_law_shape T) (hr.mono (by decide)) (by rfl) T.mg_law_shape T.fn_law_shape.kp T.b_law_shape .nil pass0 (pa_cons (pv 0) (pa_cons (pe_lst (pa_cons (pe_call (ok_law_shape T) (hr.mono (by decide)) (by rfl) T.mg_law_shape T.fn_law_shape.kp T.b_law_shape .nil pass0 (pa_cons (pv 0) (pa_cons (pe_call (ok_law_things T) (hr.mono (by decide)) (by rfl) T.mg_law_things T.fn_law_things.kp T.b_law_things .nil pass0 (pa_cons (pe_ix Rd.ixH (pv 2) (pv 3) (fun _ _ => rfl)) pa_nil)) pa_nil))) (pa_cons (pe_ix Rd.ixH (pv 5) (pv 3) (fun _ _ => rfl)) pa_nil))) pa_nil))) pa_nil)))))
      (pss_cons (ps_set (i := 7) sc_law_quotas.nd rfl (Or.inl rfl) pe_non)
      (pss_cons (ps_for PassesOwn.never rfl (pi_range1 (by rfl) T.no_range (pa_cons (pe_callB (lenK K) (by rfl) T.no_len PySem.boot_len (pa_cons (pv 2) pa_nil)) pa_nil)) (pg_name (i := 3) sc_law_quotas.nd rfl (Or.inl rfl))
        (pss_one (ps_for PassesOwn.never rfl (pi_range1 (by rfl) T.no_range (pa_cons (pv 3) pa_nil)) (pg_name (i := 8) sc_law_quotas.nd rfl (Or.inl rfl))
          (pss_cons (ps_set (i := 9) sc_law_quotas.nd rfl (Or.inl rfl) (pe_op op_and (pe_ix Rd.ixH (pv 2) (pv 3) (fun _ _ => rfl)) (pe_ix Rd.ixH (pv 2) (pv 8) (fun _ _ => rfl))))
          (pss_one (ps_if (PW.pt (pw_and (pt_cmpR op_isN (pv 7) pe_non (nomark _)) (pw_and (pt_cmpR op_ne (pv 9) pe_int (nomark _)) (pw_and (pt_cmpR op_ne (pv 9) (pe_ix Rd.ixH (pv 2) (pv 3) (fun _ _ => rfl)) (nomark _)) (pw_and1 (pt_cmpR op_ne (pv 9) (pe_ix Rd.ixH (pv 2) (pv 8) (fun _ _ => rfl)) (nomark _))))))) (pss_one (ps_set (i := 7) sc_law_quotas.nd rfl (Or.inl rfl) (pv 3))) pss_nil))))))
      (pss_cons (ps_setLc (i := 10) (own := [("mask", 4)]) (by rfl) sc_law_quotas.nd rfl rfl (sw_true rfl rfl rfl (by decide +kernel)) (pi_range1 (by rfl) T.no_range (pa_cons (pe_op op_shl pe_int (pv 1)) pa_nil)) (blkOk_by (own := [("mask", 4)]) (N := ["box", "size", "masks", "k", "mask", "limits", "classes", "place", "at", "shared", "inside", "passed", "kept", "family", "e", "pair"]) (sc := defScope s_law_quotas) (by decide +kernel)) (fun _ _ _ _ _ => pg_name (i := 4) sc_law_quotas.nd rfl (Or.inl rfl)) (fun _ _ _ _ _ => pts_nil) (fun _ _ _ _ _ => pe_bl))
      (pss_cons (ps_for PassesOwn.never rfl (pi_range1 (by rfl) T.no_range (pa_cons (pe_op op_shl pe_int (pv 1)) pa_nil)) (pg_name (i := 4) sc_law_quotas.nd rfl (Or.inl rfl))
        (pss_one (ps_for PassesOwn.never rfl (pi_range1 (by rfl) T.no_range (pa_cons (pe_callB (lenK K) (by rfl) T.no_len PySem.boot_len (pa_cons (pv 2) pa_nil)) pa_nil)) (pg_name (i := 3) sc_law_quotas.nd rfl (Or.inl rfl))
          (pss_one (ps_if (pt_cmpR op_gt (pe_callB (lenK K) (by rfl) T.no_len PySem.boot_len (pa_cons (pe_call (ok_law_things T) (hr.mono (by decide)) (by rfl) T.mg_law_things T.fn_law_things.kp T.b_law_things .nil pass0 (pa_cons (pe_op op_and (pv 4) (pe_ix Rd.ixH (pv 2) (pv 3) (fun _ _ => rfl))) pa_nil)) pa_nil)) (pe_ix Rd.ixH (pv 5) (pv 3) (fun _ _ => rfl)) (nomark _)) (pss_one (ps_asg pe_bl (pg_sub (pv 10) (pv 4) set_list))) pss_nil)))))
      (pss_cons (ps_set (i := 11) sc_law_quotas.nd rfl (Or.inl rfl) (pe_call (ok_law_shape T) (hr.mono (by decide)) (by rfl) T.mg_law_shape T.fn_law_shape.kp T.b_law_shape .nil pass0 (pa_cons (pv 0) (pa_cons (pv 6) pa_nil))))
      (pss_cons (ps_set (i := 12) sc_law_quotas.nd rfl (Or.inl rfl) (pe_call (ok_law_text T) (hr.mono (by decide)) (by rfl) T.mg_law_text T.fn_law_text.kp T.b_law_text .nil pass0 (pa_cons (pv 11) pa_nil)))
      (pss_cons (L2N.ps_try_as (i := 14) rfl rfl sc_law_quotas.nd rfl rfl ⟨rfl, by decide, .inl T.mg_NotNested⟩ takesN0
        (fun W pn xe tk _ => (pss_one (ps_set (i := 13) sc_law_quotas.nd rfl (Or.inl rfl) (pe_callS (ok_quotas T TB) (hr.mono (by decide)) (by rfl) T.mg_quotas T.fn_quotas.kp T.b_quotas (fun σ => L2N.passAt tk σ) (pa_cons (pv 1) (pa_cons (pv 11) pa_nil))))))
        (fun ea oe cls d pn hz hf => (pss_one (ps_ret (pe_and (pe_cmpR op_notN (pv 7) pe_non (nomark _)) (pe_and (L2H.pe_callH (okH_law_integer T) ((roomM hr).mono (by decide)) ⟨(ea, oe), hotN hz hf, List.mem_cons_self⟩ (by rfl) T.mg_law_integer T.fn_law_integer.kp T.b_law_integer (fun _ => passAt0) (pa_cons (pe_xf T.xf_NotNested T.na_NotNested_at hz.zc hf (pv 14)) pa_nil)) (pe_and (pe_cmpR op_eq (pe_xf T.xf_NotNested T.na_NotNested_at hz.zc hf (pv 14)) (pv 7) (nomark _)) (pe_one (pe_cmpR op_eq (L2H.pe_callH (okH_law_text T) ((roomM hr).mono (by decide)) ⟨(ea, oe), hotN hz hf, List.mem_cons_self⟩ (by rfl) T.mg_law_text T.fn_law_text.kp T.b_law_text (fun _ => passAt0) (pa_cons (pv 11) pa_nil)) (pv 12) (nomark _))))))))))
      (pss_cons (ps_if (PW.pt (pw_or (pt_cmpR op_notN (pv 7) pe_non (nomark _)) (pw_or (pt_not (pt_val (pe_call (ok_law_is T) (hr.mono (by decide)) (by rfl) T.mg_law_is T.fn_law_is.kp T.b_law_is .nil pass0 (pa_cons (pv 13) (pa_cons (pv 1) (pa_cons (pv 10) pa_nil)))))) (pw_or1 (pt_cmpR op_ne (pe_call (ok_law_text T) (hr.mono (by decide)) (by rfl) T.mg_law_text T.fn_law_text.kp T.b_law_text .nil pass0 (pa_cons (pv 11) pa_nil)) (pv 12) (nomark _)))))) (pss_one (ps_ret pe_bl)) pss_nil)
      (pss_cons (ps_if (pt_not (pt_val (pe_call (ok_law_is T) (hr.mono (by decide)) (by rfl) T.mg_law_is T.fn_law_is.kp T.b_law_is .nil pass0 (pa_cons (pe_callN0 (ok_quotas T TB) (hr.mono (by decide)) (by rfl) T.mg_quotas T.fn_quotas.kp (kb_quotas T) passN (pk_cons (pe_callTy call_tuple_of (by rfl) T.no_tuple (by decide +kernel) (pa_cons (pv 6) pa_nil)) (pk_cons (pv 1) pk_nil))) (pa_cons (pv 1) (pa_cons (pv 10) pa_nil)))))) (pss_one (ps_ret pe_bl)) pss_nil)
      (pss_cons (ps_for PassesOwn.never rfl (pi_told K (pv 11)) (pg_name (i := 15) sc_law_quotas.nd rfl (Or.inl rfl))
        (pss_cons (ps_if (pt_val (pe_callB (call_isK T .lst) (by rfl) T.no_isinstance (by decide +kernel) (pa_cons (pe_ix ixHS (pv 15) pe_int (fun _ _ => rfl)) (pa_cons (pe_bltn (v := .ty "list") (u := .type "list") (by rfl) T.no_list (by decide +kernel) rfl) pa_nil)))) (pss_one (ps_expr (pe_bm PySem.F.plainAttrs_list PySem.F.slot_list_append PySem.F.type_list_append mt_append (pe_ix ixHS (pv 15) pe_int (fun _ _ => rfl)) (pa_cons pe_int pa_nil)))) pss_nil)
        (pss_one (ps_if (pt_val (pe_callB (call_isK T .lst) (by rfl) T.no_isinstance (by decide +kernel) (pa_cons (pv 15) (pa_cons (pe_bltn (v := .ty "list") (u := .type "list") (by rfl) T.no_list (by decide +kernel) rfl) pa_nil)))) (pss_one (ps_asg pe_int (pg_sub (pv 15) pe_int set_list))) pss_nil))))
      (pss_one (ps_ret (pe_call (ok_law_is T) (hr.mono (by decide)) (by rfl) T.mg_law_is T.fn_law_is.kp T.b_law_is .nil pass0 (pa_cons (pv 13) (pa_cons (pv 1) (pa_cons (pv 10) pa_nil))))))))))))))))))))), ?_⟩
    show (_ : TS) _ [some (V.ref b), some (V.int n), none, none, none, none, none, none, none, none, none, none, none, none, none, none] H
    have p64 := pow64 n6
    have pp := Nat.pow_pos (n := n) (show 0 < 2 by decide)
    refine cut (fun σ H1 => ∃ D1, σ = [some (V.ref b), some (V.int n), some (V.ref D1), none, none, none, none, none, none, none, none, none, none, none, none, none] ∧ BoxAt K H1 b c ns ∧ But b H H1 ∧ H D1 = none ∧ H1 D1 = some (.lst [])) (fun R hR => ?_) (fun σ H1 h => ?_)
    · walk_at "rd"
      exact ⟨by decide, fun p hp => hR _ _ ⟨p, rfl, B.same (same_upd hp), Same.but (same_upd hp), hp, upd_same⟩⟩
    obtain ⟨D1, rfl, B1, e1, f1, a1⟩ := h
    refine cut (fun σ H2 => ∃ o3 ms, σ = [some (V.ref b), some (V.int n), some (V.ref D1), o3, none, none, none, none, none, none, none, none, none, none, none, none] ∧ BoxAt K H2 b c ns ∧ But b H H2 ∧ H2 D1 = some (.lst (iv ms)) ∧ MsOk n ms) (fun R hR => ?_) (fun σ H2 h => ?_)
    · walk_at "rd"
      have Db1 := B.ne_new f1
      refine drw B1 (by decide) (by decide) fun x H2 x5 B2 e2 => ⟨_, rfl, by omega, by omega, ?_⟩
      rw [Int.toNat_natCast]
      refine Rd.loop_rngC (fun σ H2 => ∃ o3 ms, σ = [some (V.ref b), some (V.int n), some (V.ref D1), o3, none, none, none, none, none, none, none, none, none, none, none, none] ∧ BoxAt K H2 b c ns ∧ But b H H2 ∧ H2 D1 = some (.lst (iv ms)) ∧ ms.length = x ∧ ∀ m ∈ ms, m < 2 ^ n)
        (fun i σ H2 => ∃ o3 ms, σ = [some (V.ref b), some (V.int n), some (V.ref D1), o3, none, none, none, none, none, none, none, none, none, none, none, none] ∧ BoxAt K H2 b c ns ∧ But b H H2 ∧ H2 D1 = some (.lst (iv ms)) ∧ ms.length = i ∧ ∀ m ∈ ms, m < 2 ^ n) ⟨none, [], rfl, B2, e1.trans e2, e2 _ _ Db1 a1, rfl, fun _ m => by cases m⟩ ?_ (fun _ _ z => z) ?_
      · rintro bk hbk i σ H3 hi ⟨o3, ms, rfl, B3, e3, a3, ml, mz⟩
        walk_at "rd"
        simp only [tBM, rAppend]
        walk_at "rd"
        refine ⟨.inl ⟨rfl, _, SqL.of a3⟩, b, c, D1, ns, n, ms, rfl, B3, n1, n6, Db1, a3, by omega, mz, fun m H4 mlt B4 e4 => ?_⟩
        have eU : But b H (upd H4 D1 (.lst (iv ms ++ [V.int m]))) := (e3.trans e4).updn f1
        refine ⟨iv ms, e4 _ _ Db1 a3, small (by rw [iv_len]; omega), B.upd B4 Db1 eU, eU, ms ++ [m], by unfold iv; rw [List.map_append]; rfl, by rw [List.length_append, ml]; rfl, fun u mu => ?_⟩
        rcases List.mem_append.mp mu with mu | mu
        · exact mz u mu
        · rw [List.mem_singleton.mp mu]; exact mlt
      · rintro σ H3 ⟨o3, ms, rfl, B3, e3, a3, ml, mz⟩
        exact hR _ _ ⟨o3, ms, rfl, B3, e3, a3, by omega, mz⟩
    obtain ⟨o3, ms, rfl, B2, e2, a2, l4, mz⟩ := h
    refine cut (fun σ H3 => ∃ o4 D2 ls, σ = [some (V.ref b), some (V.int n), some (V.ref D1), o3, o4, some (V.ref D2), none, none, none, none, none, none, none, none, none, none] ∧ BoxAt K H3 b c ns ∧ But b H2 H3 ∧ H D2 = none ∧ H3 D2 = some (.lst (iv ls)) ∧ ls.length = ms.length ∧ ∀ l ∈ ls, l < 8) (fun R hR => ?_) (fun σ H3 h => ?_)
    · walk_at "rd"
      have Db1 := B.ne_new f1
      refine ⟨⟨_, SqL.of a2⟩, Rd.lcl_list (xs := iv ms) (fun D i H5 => H2 D = none ∧ BoxAt K H5 b c ns ∧ But b H2 H5 ∧ ∃ ls, H5 D = some (.lst (iv ls)) ∧ ls.length = i ∧ ∀ l ∈ ls, l < 8) (fun D hD => ⟨hD, B2.same (same_upd hD), Same.but (same_upd hD), [], upd_same, rfl, fun _ m => by cases m⟩)
        (fun D i H5 _ ⟨_, _, e, _⟩ => SqL.of (e _ _ Db1 a2)) (fun D i x H5 hx ⟨n5, B5, e5, ls, a5, ll, lz⟩ => ?_) (fun D H5 _ ⟨n5, B5, e5, ls, a5, ll, lz⟩ => hR _ _ ⟨none, D, ls, rfl, B5, e5, e2.free (B2.ne_new n5) n5, a5, by rw [ll, iv_len], lz⟩)⟩
      have nb := B2.ne_new n5
      have il := (List.getElem?_eq_some_iff.mp hx).1
      rw [iv_len] at il
      walk_at "rd"
      refine drw B5 (by decide) (by decide) fun y H6 y2 B6 e6 => ⟨_, rfl, .inl ⟨by decide, by decide⟩, drw B6 (by omega) (by omega) fun z H7 z8 B7 e7 => ?_⟩
      have eU : But b H2 (upd H7 D (.lst (iv ls ++ [V.int z]))) := ((e5.trans e6).trans e7).updn n5
      refine ⟨iv ls, e7 _ _ nb (e6 _ _ nb a5), small (by rw [iv_len]; omega), n5, B2.upd B7 nb eU, eU, ls ++ [z], by unfold iv; rw [List.map_append]; rfl, by rw [List.length_append, ll]; rfl, fun u mu => ?_⟩
      rcases List.mem_append.mp mu with mu | mu
      · exact lz u mu
      · rw [List.mem_singleton.mp mu]; omega
    obtain ⟨o4, D2, ls, rfl, B3, e3, f2, a3, ll, lz⟩ := h
    have Db1 := B.ne_new f1
    have Db2 := B.ne_new f2
    refine cut (fun σ H4 => ∃ D3, σ = [some (V.ref b), some (V.int n), some (V.ref D1), o3, o4, some (V.ref D2), some (V.ref D3), none, none, none, none, none, none, none, none, none] ∧ BoxAt K H4 b c ns ∧ But b H3 H4 ∧ H D3 = none ∧ D1 ≠ D3 ∧ D2 ≠ D3 ∧ H4 D3 = some (.lst [])) (fun R hR => ?_) (fun σ H4 h => ?_)
    · walk_at "rd"
      exact ⟨by decide, fun p hp => hR _ _ ⟨p, rfl, B3.same (same_upd hp), Same.but (same_upd hp), (e2.trans e3).free (B3.ne_new hp) hp, (fun z => by have := e3 _ _ Db1 a2; rw [z, hp] at this; cases this), (fun z => by rw [z, hp] at a3; cases a3), upd_same⟩⟩
    obtain ⟨D3, rfl, B4, e4, f3, d13, d23, a4⟩ := h
    refine cut (fun σ H5 => ∃ o3 xs, σ = [some (V.ref b), some (V.int n), some (V.ref D1), o3, o4, some (V.ref D2), some (V.ref D3), none, none, none, none, none, none, none, none, none] ∧ BoxAt K H5 b c ns ∧ But b H H5 ∧ H5 D1 = some (.lst (iv ms)) ∧ H5 D2 = some (.lst (iv ls)) ∧ H5 D3 = some (.lst xs) ∧ ClsN H H5 xs (clsOf ms ls)) (fun R hR => ?_) (fun σ H5 h => ?_)
    · walk_at "rd"
      have e04 := (e2.trans e3).trans e4
      have a14 := e4 _ _ Db1 (e3 _ _ Db1 a2)
      have a24 := e4 _ _ Db2 a3
      have Db3 := B.ne_new f3
      refine ⟨_, .inl (SqL.of a14), by rw [iv_len]; omega, by rw [iv_len]; omega, ?_⟩
      rw [iv_len, Int.toNat_natCast]
      refine Rd.loop_rngC (fun σ H5 => ∃ o3 xs, σ = [some (V.ref b), some (V.int n), some (V.ref D1), o3, o4, some (V.ref D2), some (V.ref D3), none, none, none, none, none, none, none, none, none] ∧ BoxAt K H5 b c ns ∧ But b H H5 ∧ H5 D1 = some (.lst (iv ms)) ∧ H5 D2 = some (.lst (iv ls)) ∧ H5 D3 = some (.lst xs) ∧ ClsN H H5 xs (clsOf ms ls))
        (fun i σ H5 => ∃ o3 xs, σ = [some (V.ref b), some (V.int n), some (V.ref D1), o3, o4, some (V.ref D2), some (V.ref D3), none, none, none, none, none, none, none, none, none] ∧ BoxAt K H5 b c ns ∧ But b H H5 ∧ H5 D1 = some (.lst (iv ms)) ∧ H5 D2 = some (.lst (iv ls)) ∧ H5 D3 = some (.lst xs) ∧ ClsN H H5 xs ((clsOf ms ls).take i)) ⟨_, [], rfl, B4, e04, a14, a24, a4, trivial⟩ ?_ (fun σ H5 ⟨o3, xs, q1, q2, q3, q4, q5, q6, q7⟩ => ⟨o3, xs, q1, q2, q3, q4, q5, q6, by rw [List.take_of_length_le (by unfold clsOf; rw [List.length_map, List.length_zip, ll]; omega)] at q7; exact q7⟩) ?_
      · rintro bk hbk i σ H5 hi ⟨o3, xs, rfl, B5, e5, a15, a25, a35, cn⟩
        walk_at "rd"
        simp only [tBM, rAppend]
        walk_at "rd"
        rw [Int.zero_add]
        obtain ⟨m, hm⟩ : ∃ m, ms[i]? = some m := ⟨_, List.getElem?_eq_getElem hi⟩
        obtain ⟨z, hz⟩ : ∃ z, ls[i]? = some z := ⟨_, List.getElem?_eq_getElem (by omega)⟩
        have mlt := mz m (List.mem_of_getElem? hm)
        have bmA := allS_at (bits_in n6 mlt).2 n6
        have cnl : xs.length ≤ 4 := by
          have h1 := cn.cls.len
          rw [List.length_take] at h1
          omega
        refine ⟨.inl ⟨rfl, _, SqL.of a35⟩, _, a15, _, iv_at hm, m, rfl, fun r H6 r0 e6 a6 => ⟨b, c, r, ns, false, _, rfl, B5.same e6, (B5.ne_new r0), a6, by rw [iv_len]; omega, fun g l' H7 B7 e7 gb hg hgn => ?_⟩⟩
        have e57 := (Same.but e6 : But b _ _).trans e7
        refine ⟨_, e57 _ _ Db2 a25, _, iv_at hz, by decide, fun p hp => ?_⟩
        have pb := B7.ne_new hp
        have ep : But b H7 (upd H7 p (.lst [.ref g, .int (z : Int)])) := Same.but (same_upd hp)
        refine ⟨b, c, p, ns, true, _, rfl, B7.same (same_upd hp), pb, upd_same, (show 2 ≤ 64 by decide), fun q l H8 B8 e8 qb hq hqn => ?_⟩
        have e78 := ep.trans e8
        have e58 := e57.trans e78
        have a38 := e58 _ _ Db3 a35
        have eU : But b H (upd H8 D3 (.lst (xs ++ [.ref q]))) := (e5.trans e58).updn f3
        have qD : q ≠ D3 := fun y => by
          subst y
          cases l with
          | true =>
            have := hqn rfl
            rw [ep _ _ Db3 (e57 _ _ Db3 a35)] at this
            cases this
          | false => rw [a38] at hq; cases hq
        have gD : g ≠ D3 := fun y => by
          subst y
          cases l' with
          | true =>
            have := hgn rfl
            rw [(Same.but e6 : But b _ _) _ _ Db3 a35] at this
            cases this
          | false => rw [e57 _ _ Db3 a35] at hg; cases hg
        refine ⟨xs, a38, small (by omega), B.upd B8 Db3 eU, eU, (upd_ne d13).trans (e58 _ _ Db1 a15), (upd_ne d23).trans (e58 _ _ Db2 a25), ?_⟩
        rw [List.take_add_one, clsOf_at hm hz]
        refine ClsN.app (ClsN.grow B B5 cn a35 e58) ⟨⟨q, l, g, l', rfl, (upd_ne qD).trans hq, (upd_ne gD).trans (e78 _ _ gb hg), fun y => ?_, fun y => ?_⟩, trivial⟩
        · exact (e5.trans (e57.trans ep)).free qb (hqn y)
        · exact (e5.trans (Same.but e6)).free gb (hgn y)
      · rintro σ H5 ⟨o3, xs, rfl, q2, q3, q4, q5, q6, q7⟩
        exact hR _ _ ⟨o3, xs, rfl, q2, q3, q4, q5, q6, q7⟩
    have Db3 := B.ne_new f3
    obtain ⟨o3', xs, rfl, B5, e5, a15, a25, a35, cn⟩ := h
    have csl : (clsOf ms ls).length = ms.length := by unfold clsOf; rw [List.length_map, List.length_zip, ll]; omega
    have hcs : ∀ c ∈ clsOf ms ls, c.1 ∈ allS n ∧ 0 ≤ c.2 := fun c hc => by
      unfold clsOf at hc
      obtain ⟨x, hx, rfl⟩ := List.mem_map.mp hc
      exact ⟨(bits_in n6 (mz x.1 (List.of_mem_zip hx).1)).2, by show 0 ≤ ((x.2 : Nat) : Int); omega⟩
    refine cut (fun σ H' => σ = [some (V.ref b), some (V.int n), some (V.ref D1), o3', o4, some (V.ref D2), some (V.ref D3), some .non, none, none, none, none, none, none, none, none] ∧ H5 = H') (fun R hR => ?_) (fun σ H' h => ?_)
    · walk_at "rd"
      exact hR _ _ ⟨rfl, rfl⟩
    obtain ⟨rfl, rfl⟩ := h
    refine cut (fun σ H' => ∃ o3 o8 o9 plc, σ = [some (V.ref b), some (V.int n), some (V.ref D1), o3, o4, some (V.ref D2), some (V.ref D3), some plc, o8, o9, none, none, none, none, none, none] ∧ H5 = H' ∧ OverOk (clsOf ms ls) ms.length plc) (fun R hR => ?_) (fun σ H' h => ?_)
    · walk_at "rd"
      refine ⟨_, .inl (SqL.of a15), by rw [iv_len]; omega, by rw [iv_len]; omega, ?_⟩
      rw [iv_len, Int.toNat_natCast]
      refine Rd.loop_rngC (fun σ H' => ∃ o3 o8 o9 plc, σ = [some (V.ref b), some (V.int n), some (V.ref D1), o3, o4, some (V.ref D2), some (V.ref D3), some plc, o8, o9, none, none, none, none, none, none] ∧ H5 = H' ∧ OverOk (clsOf ms ls) ms.length plc)
        (fun i σ H' => ∃ o3 o8 o9 plc, σ = [some (V.ref b), some (V.int n), some (V.ref D1), o3, o4, some (V.ref D2), some (V.ref D3), some plc, o8, o9, none, none, none, none, none, none] ∧ H5 = H' ∧ OverOk (clsOf ms ls) i plc) ⟨_, _, _, _, rfl, rfl, .inl ⟨rfl, fun j h => absurd h (Nat.not_lt_zero _)⟩⟩ ?_ (fun _ _ z => z) ?_
      · rintro bk hbk i σ H6 hi ⟨o3, o8, o9, plc, rfl, rfl, ov⟩
        obtain ⟨m, hm⟩ : ∃ m, ms[i]? = some m := ⟨_, List.getElem?_eq_getElem hi⟩
        obtain ⟨z, hz⟩ : ∃ z, ls[i]? = some z := ⟨_, List.getElem?_eq_getElem (by omega)⟩
        have mlt := mz m (List.mem_of_getElem? hm)
        have ci := clsOf_at hm hz
        walk_at "rd"
        rw [Int.zero_add]
        refine ⟨by omega, by omega, ?_⟩
        rw [Int.toNat_natCast]
        refine Rd.loop_rngC (fun σ H' => ∃ o8 o9 plc, σ = [some (V.ref b), some (V.int n), some (V.ref D1), some (V.int i), o4, some (V.ref D2), some (V.ref D3), some plc, o8, o9, none, none, none, none, none, none] ∧ H5 = H' ∧ InOk (clsOf ms ls) (bits m) i i plc)
          (fun j σ H' => ∃ o8 o9 plc, σ = [some (V.ref b), some (V.int n), some (V.ref D1), some (V.int i), o4, some (V.ref D2), some (V.ref D3), some plc, o8, o9, none, none, none, none, none, none] ∧ H5 = H' ∧ InOk (clsOf ms ls) (bits m) i j plc) ⟨_, _, _, rfl, rfl, ?_⟩ ?_ (fun _ _ z => z) ?_
        · rcases ov with ⟨h1, h2⟩ | h
          · exact .inl ⟨h2, .inl ⟨h1, by rw [List.take_zero]; rfl⟩⟩
          · exact .inr h
        · rintro bk2 hbk2 j σ H6 hj ⟨o8, o9, plc, rfl, rfl, io⟩
          obtain ⟨m', hm'⟩ : ∃ m, ms[j]? = some m := ⟨_, List.getElem?_eq_getElem (by omega)⟩
          obtain ⟨z', hz'⟩ : ∃ z, ls[j]? = some z := ⟨_, List.getElem?_eq_getElem (by omega)⟩
          have mlt' := mz m' (List.mem_of_getElem? hm')
          have cj := clsOf_at hm' hz'
          walk_at "rd"
          have hj' : atI (iv ms) (0 + (j : Int)) = some (V.int (m' : Nat)) := by rw [Int.zero_add]; exact iv_at hm'
          have oa := over_at (show m < 64 by omega) (show m' < 64 by omega)
          have tk : ((clsOf ms ls).take (j + 1)).any (fun c => !nestB (bits m) c.1) = (((clsOf ms ls).take j).any (fun c => !nestB (bits m) c.1) || !nestB (bits m) (bits m')) := by
            rw [List.take_add_one, cj, List.any_append]
            show (_ || ((!nestB (bits m) (bits m')) || false)) = _
            rw [Bool.or_false]
          refine ⟨_, a15, _, iv_at hm, _, a15, _, hj', _, rfl, _, rfl, ite2 (fun e0 => ?_) (fun e0 => ?_)⟩
          · rw [and_nat]
            obtain ⟨A, hA⟩ : ∃ A, A = m &&& m' := ⟨_, rfl⟩
            rw [← hA] at oa ⊢
            obtain ⟨h1, h3⟩ : (∀ i', i' < i → overB (clsOf ms ls) i' = false) ∧ ((clsOf ms ls).take j).any (fun c => !nestB (bits m) c.1) = false := by
              rcases io with ⟨h1, ⟨h2, h3⟩ | ⟨h2, _⟩⟩ | ⟨_, h2, _⟩
              · exact ⟨h1, h3⟩
              · rw [e0] at h2; cases h2
              · rw [e0] at h2; cases h2
            have yes : (!nestB (bits m) (bits m')) = true → InOk (clsOf ms ls) (bits m) i (j + 1) (V.int (i : Nat)) := fun y => .inl ⟨h1, .inr ⟨rfl, by rw [tk, y, Bool.or_true]⟩⟩
            have no : (!nestB (bits m) (bits m')) = false → InOk (clsOf ms ls) (bits m) i (j + 1) plc := fun y => .inl ⟨h1, .inl ⟨e0, by rw [tk, y, h3]; rfl⟩⟩
            rw [oa] at yes no
            have c1 : ∀ x : Nat, decide (V.int (A : Nat) = V.int (x : Nat)) = decide (A = x) := fun x => decide_eq_decide.mpr ⟨fun z => by have := V.int.inj z; omega, fun z => by rw [z]⟩
            have c0 : decide ((A : Int) = 0) = decide (A = 0) := decide_eq_decide.mpr ⟨fun z => by omega, fun z => by omega⟩
            rw [c0]
            refine ite2 (fun h1 => ⟨_, a15, _, iv_at hm, rfl, ?_⟩) (fun h1 => no ?_)
            · rw [c1]
              refine ite2 (fun h2 => ⟨_, a15, _, hj', rfl, ?_⟩) (fun h2 => no ?_)
              · rw [c1]
                refine ite2 (fun h3 => yes ?_) (fun h3 => no ?_)
                · simp at h1 h2 h3 ⊢
                  exact ⟨h1, h2, h3⟩
                · simp at h1 h2 h3 ⊢
                  exact fun _ _ => h3
              · simp at h1 h2 ⊢
                exact fun _ z => absurd h2 z
            · simp at h1 ⊢
              exact fun z => absurd h1 z
          · rcases io with ⟨h1, ⟨h2, h3⟩ | ⟨h2, h3⟩⟩ | ⟨i', e, h1, h2, h3⟩
            · exact absurd h2 e0
            · exact .inl ⟨h1, .inr ⟨h2, by rw [tk, h3]; rfl⟩⟩
            · exact .inr ⟨i', e, h1, h2, h3⟩
        · rintro σ H6 ⟨o8, o9, plc, rfl, rfl, io⟩
          refine ⟨_, _, _, _, rfl, rfl, ?_⟩
          have oi : overB (clsOf ms ls) i = ((clsOf ms ls).take i).any fun c => !nestB (bits m) c.1 := by
            unfold overB
            rw [List.getD_eq_getElem?_getD, ci, Option.getD_some]
          rcases io with ⟨h1, ⟨h2, h3⟩ | ⟨h2, h3⟩⟩ | ⟨i', e, h1, h2, h3⟩
          · refine .inl ⟨h2, fun j hj => ?_⟩
            by_cases y : j = i
            · rw [y, oi, h3]
            · exact h1 j (by omega)
          · exact .inr ⟨i, h2, by omega, by rw [oi, h3], h1⟩
          · exact .inr ⟨i', e, by omega, h2, h3⟩
      · rintro σ H6 ⟨o3, o8, o9, plc, rfl, rfl, ov⟩
        exact hR _ _ ⟨o3, o8, o9, plc, rfl, rfl, ov⟩
    obtain ⟨o3'', o8, o9, plc, rfl, rfl, ov⟩ := h
    refine cut (fun σ H6 => ∃ DI o4, σ = [some (V.ref b), some (V.int n), some (V.ref D1), o3'', o4, some (V.ref D2), some (V.ref D3), some plc, o8, o9, some (V.ref DI), none, none, none, none, none] ∧ Same H5 H6 ∧ H5 DI = none ∧ H6 DI = some (.lst ((List.replicate (2 ^ n) true).map V.bl))) (fun R hR => ?_) (fun σ H6 h => ?_)
    · walk_at "rd"
      refine ⟨cpw (by omega), (pbd n6).1, (pbd n6).2.1, ?_⟩
      rw [(pbd n6).2.2.1]
      refine Rd.lcl_rng (fun D i H6 => H5 D = none ∧ Same H5 H6 ∧ H6 D = some (.lst ((List.replicate i true).map V.bl))) (fun D hD => ⟨hD, same_upd hD, upd_same⟩) (fun D i H6 hi ⟨n6', e6, a6⟩ => ?_) (fun D H6 _ ⟨n6', e6, a6⟩ => hR _ _ ⟨D, _, rfl, e6, n6', a6⟩)
      walk_at "rd"
      refine ⟨_, a6, small (by rw [List.length_map, List.length_replicate]; omega), n6', fun b o hb => (upd_ne (ne_of_none hb n6')).trans (e6 _ _ hb), ?_⟩
      rw [List.replicate_succ', List.map_append]
      rfl
    obtain ⟨DI, o4', rfl, e6, fI, aI⟩ := h
    refine cut (fun σ H7 => ∃ o3 o4, σ = [some (V.ref b), some (V.int n), some (V.ref D1), o3, o4, some (V.ref D2), some (V.ref D3), some plc, o8, o9, some (V.ref DI), none, none, none, none, none] ∧ Same H5 H7 ∧ H7 DI = some (.lst ((quoS n (clsOf ms ls)).map V.bl))) (fun R hR => ?_) (fun σ H7 h => ?_)
    · walk_at "rd"
      refine ⟨cpw (by omega), (pbd n6).1, (pbd n6).2.1, ?_⟩
      rw [(pbd n6).2.2.1]
      refine Rd.loop_rngC (fun σ H7 => ∃ o3 o4, σ = [some (V.ref b), some (V.int n), some (V.ref D1), o3, o4, some (V.ref D2), some (V.ref D3), some plc, o8, o9, some (V.ref DI), none, none, none, none, none] ∧ Same H5 H7 ∧ ∃ S' : List Bool, H7 DI = some (.lst (S'.map V.bl)) ∧ S'.length = 2 ^ n ∧ ∀ m, m < 2 ^ n → In S' m = (!decide (m < 2 ^ n) || quB (clsOf ms ls) m))
        (fun i σ H7 => ∃ o3 o4, σ = [some (V.ref b), some (V.int n), some (V.ref D1), o3, o4, some (V.ref D2), some (V.ref D3), some plc, o8, o9, some (V.ref DI), none, none, none, none, none] ∧ Same H5 H7 ∧ ∃ S' : List Bool, H7 DI = some (.lst (S'.map V.bl)) ∧ S'.length = 2 ^ n ∧ ∀ m, m < 2 ^ n → In S' m = (!decide (m < i) || quB (clsOf ms ls) m))
        ⟨_, _, rfl, e6, _, aI, List.length_replicate, fun m hm => ?_⟩ ?_ (fun _ _ z => z) ?_
      · rw [decide_eq_false (Nat.not_lt_zero m), Bool.not_false, Bool.true_or]
        unfold In
        rw [List.getD_eq_getElem?_getD, List.getElem?_replicate, if_pos hm]
        rfl
      · rintro bk hbk i σ H7 hi ⟨o3, o4, rfl, e7, S0, hS, Sl, Sm⟩
        walk_at "rd"
        have a17 := e7 _ _ a15
        refine ⟨_, .inl (SqL.of a17), by rw [iv_len]; omega, by rw [iv_len]; omega, ?_⟩
        rw [iv_len, Int.toNat_natCast, Int.zero_add]
        refine Rd.loop_rngC (fun σ H7 => ∃ o3, σ = [some (V.ref b), some (V.int n), some (V.ref D1), o3, some (V.int i), some (V.ref D2), some (V.ref D3), some plc, o8, o9, some (V.ref DI), none, none, none, none, none] ∧ Same H5 H7 ∧ ∃ S' : List Bool, H7 DI = some (.lst (S'.map V.bl)) ∧ S'.length = 2 ^ n ∧ ∀ m, m < 2 ^ n → In S' m = if m = i then quB (clsOf ms ls) i else In S0 m)
          (fun k σ H7 => ∃ o3, σ = [some (V.ref b), some (V.int n), some (V.ref D1), o3, some (V.int i), some (V.ref D2), some (V.ref D3), some plc, o8, o9, some (V.ref DI), none, none, none, none, none] ∧ Same H5 H7 ∧ ∃ S' : List Bool, H7 DI = some (.lst (S'.map V.bl)) ∧ S'.length = 2 ^ n ∧ ∀ m, m < 2 ^ n → In S' m = if m = i then quB ((clsOf ms ls).take k) i else In S0 m)
          ⟨_, rfl, e7, S0, hS, Sl, fun m hm => ?_⟩ ?_ (fun σ H7 ⟨o3, q1, q2, S', q3, q4, q5⟩ => ⟨o3, q1, q2, S', q3, q4, by rw [List.take_of_length_le (by omega)] at q5; exact q5⟩) ?_
        · by_cases y : m = i
          · rw [if_pos y, Sm m hm, decide_eq_false (show ¬ m < i by omega), List.take_zero]
            rfl
          · rw [if_neg y]
        · rintro bk2 hbk2 k2 σ H7' hk2 ⟨o3, rfl, e7', S', hS', Sl', Sm'⟩
          obtain ⟨m, hm⟩ : ∃ m, ms[k2]? = some m := ⟨_, List.getElem?_eq_getElem hk2⟩
          obtain ⟨z, hz⟩ : ∃ z, ls[k2]? = some z := ⟨_, List.getElem?_eq_getElem (by omega)⟩
          have mlt := mz m (List.mem_of_getElem? hm)
          have ci := clsOf_at hm hz
          have qk : quB ((clsOf ms ls).take (k2 + 1)) i = (quB ((clsOf ms ls).take k2) i && decide (pop (i &&& m) ≤ z)) := by
            unfold quB
            rw [List.take_add_one, ci, List.all_append]
            show (_ && (decide ((pop (i &&& mk (bits m)) : Int) ≤ (z : Int)) && true)) = _
            rw [(bits_in n6 mlt).1, Bool.and_true, show decide ((pop (i &&& m) : Int) ≤ (z : Int)) = decide (pop (i &&& m) ≤ z) from decide_eq_decide.mpr ⟨fun z => by omega, fun z => by omega⟩]
          walk_at "rd"
          rw [Int.zero_add]
          refine ⟨_, e7' _ _ a15, _, iv_at hm, _, rfl, i &&& m, by rw [and_nat], fun r H8 r0 e8 a8 => ⟨r, rfl, _, .inr (SqT.of a8), _, e8 _ _ (e7' _ _ a25), _, iv_at hz, _, rfl, ?_⟩⟩
          have e58 : Same H5 H8 := e7'.trans e8
          have hS8 := e8 _ _ hS'
          rw [iv_len]
          refine ite2 (fun h => ⟨_, hS8, i, ixN_of (by rw [List.length_map, Sl']; exact hi), fun b o hb => (upd_ne (ne_of_none hb fI)).trans (e58 _ _ hb), S'.set i false, by rw [List.map_set], by rw [List.length_set, Sl'], fun u hu => ?_⟩) (fun h => ⟨e58, S', hS8, Sl', fun u hu => ?_⟩)
          · rw [in_set (by rw [Sl']; exact hi)]
            by_cases y : u = i
            · rw [if_pos y, if_pos y, qk, decide_eq_false (show ¬ pop (i &&& m) ≤ z by unfold pop; omega), Bool.and_false]
            · rw [if_neg y, if_neg y, Sm' u hu, if_neg y]
          · rw [Sm' u hu]
            by_cases y : u = i
            · rw [if_pos y, if_pos y, qk, decide_eq_true (show pop (i &&& m) ≤ z by unfold pop; omega), Bool.and_true]
            · rw [if_neg y, if_neg y]
        · rintro σ H7' ⟨o3, rfl, e7', S', hS', Sl', Sm'⟩
          refine ⟨_, _, rfl, e7', S', hS', Sl', fun m hm => ?_⟩
          rw [Sm' m hm]
          by_cases y : m = i
          · rw [if_pos y, y, decide_eq_true (show i < i + 1 by omega)]
            rfl
          · rw [if_neg y, Sm m hm]
            by_cases y2 : m < i
            · rw [decide_eq_true y2, decide_eq_true (show m < i + 1 by omega)]
            · rw [decide_eq_false y2, decide_eq_false (show ¬ m < i + 1 by omega)]
      · rintro σ H7 ⟨o3, o4, rfl, e7, S', hS', Sl', Sm'⟩
        refine hR _ _ ⟨_, _, rfl, e7, ?_⟩
        rw [hS']
        congr 3
        refine in_ext (by unfold quoS; rw [Sl', List.length_map, List.length_range]) fun m hm => ?_
        rw [Sl'] at hm
        rw [Sm' m hm]
        unfold quoS
        rw [in_range, decide_eq_true hm, Bool.true_and]
        rfl
    obtain ⟨o3b, o4b, rfl, e7, aI7⟩ := h
    have B7 := B5.same e7
    have cn7 : ClsN H H7 xs (clsOf ms ls) := cn.keep fun q l ys h _ _ _ => e7 _ _ h
    have a37 := e7 _ _ a35
    have e07 : But b H H7 := e5.trans (Same.but e7)
    refine cut (fun σ H8 => ∃ p l, σ = [some (V.ref b), some (V.int n), some (V.ref D1), o3b, o4b, some (V.ref D2), some (V.ref D3), some plc, o8, o9, some (V.ref DI), some (V.ref p), none, none, none, none] ∧ BoxAt K H8 b c ns ∧ But b H7 H8 ∧ (l = true → H p = none) ∧ H8 p = some (sq l xs) ∧ ClsN H H8 xs (clsOf ms ls)) (fun R hR => ?_) (fun σ H8 h => ?_)
    · walk_at "rd"
      refine ⟨b, c, D3, ns, true, xs, rfl, B7, Db3, a37, by have := cn.cls.len; omega, fun q l' H8 B8 e8 qb hq hn => hR _ _ ⟨q, l', rfl, B8, e8, fun y => e07.free qb (hn y), hq, cn7.but B B7 e8⟩⟩
    obtain ⟨p, l, rfl, B8, e8, pn, hp, cn8⟩ := h
    have e08 : But b H H8 := e07.trans e8
    have pb : p ≠ b := fun z => by
      subst z
      obtain ⟨_, _, _, hb, _⟩ := B.ob
      obtain ⟨_, _, _, hb1, _⟩ := B8.ob
      cases l with
      | true => rw [pn rfl] at hb; cases hb
      | false => rw [hb1] at hp; cases hp
    have xl : xs.length ≤ 4 := by have := cn.cls.len; omega
    have h18 : H8 D3 = some (.lst xs) := e8 _ _ Db3 a37
    have DIb : DI ≠ b := B5.ne_new fI
    have hI8 := e8 _ _ DIb aI7
    have wv : ∃ wp : Wv, (∀ {H' : Hp}, ExtN H8 H' → IsW a.C_Frac H' (.ref p) wp) ∧ Dep 5 wp := by
      obtain ⟨ws, h1, h2, h3⟩ := cls_w (C := a.C_Frac) n6 cn8.cls (fun c hc => by
        unfold clsOf at hc
        obtain ⟨x, hx, rfl⟩ := List.mem_map.mp hc
        have := lz x.2 (List.of_mem_zip hx).2
        exact ⟨(bits_in n6 (mz x.1 (List.of_mem_zip hx).1)).2, by show 0 ≤ ((x.2 : Nat) : Int); omega, by show ((x.2 : Nat) : Int) < 8; omega⟩)
      exact ⟨seqW l ws, fun {H'} e => isw_seq (e _ _ hp (fun _ z => by cases l <;> cases z)) (h1.ext e), (dep_seq (d := 3) (by omega) fun w m => (h3 w m).up).up⟩
    obtain ⟨wp, isp, dp⟩ := wv
    have kt : ∀ {H' : Hp} {QQ : VK}, ExtN H8 H' → (∀ H2, Same H' H2 → QQ (.str (tx wp)) H2) → spText a.C_Frac 6 [.ref p] H' QQ E0 := fun e kk => ⟨.ref p, wp, rfl, isp e, dp, kk⟩
    refine cut (fun σ H9 => σ = [some (V.ref b), some (V.int n), some (V.ref D1), o3b, o4b, some (V.ref D2), some (V.ref D3), some plc, o8, o9, some (V.ref DI), some (V.ref p), some (V.str (tx wp)), none, none, none] ∧ Same H8 H9) (fun R hR => ?_) (fun σ H9 h => ?_)
    · walk_at "rd"
      exact kt (ExtN.refl _) fun H2 e => hR _ _ ⟨rfl, e⟩
    obtain ⟨rfl, e9⟩ := h
    have T9 : Tabs (tabL a) H9 := (tabs_but hT B e08).ext e9
    have B9 := B8.same e9
    refine cut (fun σ H' => ∃ f, plc = .non ∧ σ = [some (V.ref b), some (V.int n), some (V.ref D1), o3b, o4b, some (V.ref D2), some (V.ref D3), some .non, o8, o9, some (V.ref DI), some (V.ref p), some (V.str (tx wp)), some (V.ref f), none, none] ∧ ExtN H9 H' ∧ Tabs (tabL a) H' ∧ FamV a.C_Family H' f n (quoS n (clsOf ms ls)) ∧ ∀ i, i < (clsOf ms ls).length → overB (clsOf ms ls) i = false) (fun R hR => ?_) (fun σ H' h => ?_)
    · walk_at "rd"
      refine ⟨n, p, l, xs, clsOf ms ls, rfl, n1, n6, e9 _ _ hp, cn8.cls.same e9, by omega, hcs, T9, fun no g H' e T' F => ?_, fun i il io hno d H' hd0 hd1 e => ?_⟩
      · have hpl : plc = .non := by
          rcases ov with ⟨h, _⟩ | ⟨i, _, h1, h2, _⟩
          · exact h
          · rw [no i (by omega)] at h2; cases h2
        exact hR _ _ ⟨g, hpl, by rw [hpl], e, T', F, no⟩
      · refine ⟨true, T.xm_NotNested, fun _ ea hea => ?_, fun z => absurd z.symm Bool.false_ne_true⟩
        have xs1 : List.lookup ("at" : Str) [(("at" : Str), V.int (i : Nat))] = some (V.int (i : Nat)) := by rw [lookup_put, if_pos rfl]
        obtain rfl : plc = .int i := by
          rcases ov with ⟨_, h⟩ | ⟨j, e, h1, h2, h3⟩
          · rw [h i (by omega)] at io; cases io
          · rw [e]
            have : ¬ i < j := fun lt => by rw [h3 i lt] at io; cases io
            have : ¬ j < i := fun lt => by rw [hno j lt] at h2; cases h2
            rw [show i = j by omega]
        walk_at "rd"
        simp only [tXf]
        walk_at "rd"
        refine ⟨_, hd1, _, xs1, .int i, .int, rfl, .int _, _, rfl, ?_⟩
        rw [if_pos (by decide)]
        refine ⟨_, hd1, _, xs1, rfl, ?_⟩
        rw [if_pos rfl]
        refine kt (ExtN.of (e9.trans e)) fun H2 e2 => ⟨rfl, ?_⟩
        rw [decide_eq_true rfl]
        exact k _ (B9.same (e.trans e2)) (T9.ext (e.trans e2))
    obtain ⟨f, rfl, rfl, e10, T10, F, noO⟩ := h
    walk_at "rd"
    have e8' : ExtN H8 H' := (ExtN.of e9).trans e10
    have nl : ∀ (ys : List V) (ps : Array Value), HO.lst ys ≠ .tbl ps := fun _ _ z => by cases z
    have nsq : ∀ (l : Bool) (ys : List V) (ps : Array Value), sq l ys ≠ .tbl ps := fun l _ _ z => by cases l <;> cases z
    have hD38 : H8 D3 = some (.lst xs) := h18
    refine ⟨f, DI, n, _, rfl, F, e8' _ _ hI8 (nl _), fun H11 e11 => ⟨_, rfl, ?_⟩⟩
    rw [if_neg (by decide)]
    have x11 := e8'.trans (ExtN.of e11)
    refine kt x11 fun H12 e12 => ⟨rfl, ?_⟩
    rw [decide_eq_true rfl, if_neg (by decide)]
    have x12 := x11.trans (ExtN.of e12)
    have T12 := (T10.ext e11).ext e12
    have F12 := (F.same e11).same e12
    simp only [tCallN0]
    walk_at "rd"
    refine ⟨_, .inl ⟨SqL.of (x12 _ _ hD38 (nl _)), fun q hq => ?_⟩⟩
    have eq := same_upd (o := .tup xs) hq
    have cv : ClsV (upd H12 q (.tup xs)) xs (clsOf ms ls) := cn8.cls.keep fun _ l ys h => eq _ _ (x12 _ _ h (nsq l ys))
    refine ⟨n, q, false, xs, clsOf ms ls, rfl, n1, n6, upd_same, cv, by omega, hcs, T12.ext eq, fun _ g2 H13 e13 T13 F13 => ?_, fun i il io => by rw [noO i il] at io; cases io⟩
    have x13 := (x12.trans (ExtN.of eq)).trans e13
    have hI13 := x13 _ _ hI8 (nl _)
    refine ⟨g2, DI, n, _, rfl, F13, hI13, fun H14 e14 => ⟨_, rfl, ?_⟩⟩
    rw [if_neg (by decide)]
    have x14 := x13.trans (ExtN.of e14)
    have hI14 := e14 _ _ hI13
    have hp14 := x14 _ _ hp (nsq _ _)
    have F14 : FamV a.C_Family H14 f n (quoS n (clsOf ms ls)) := by
      obtain ⟨dx, t, ys, h1, h2, h3⟩ := F12.ob
      have z : ExtN H12 H14 := ((ExtN.of eq).trans e13).trans (ExtN.of e14)
      exact ⟨F12.fam, dx, t, ys, z _ _ h1 (fun _ z => by cases z), z _ _ h2 (fun _ z => by cases z), Tups.keep (fun q l h => z _ _ h (fun _ z => by cases z)) h3⟩
    have T14 := T13.ext e14
    have B14 := B8.extN x14
    have pp14 : PP H H14 6 xs := cn8.pp (fun c hc => by
        unfold clsOf at hc
        obtain ⟨x, hx, rfl⟩ := List.mem_map.mp hc
        exact Nat.le_trans (allS_at (bits_in n6 (mz x.1 (List.of_mem_zip hx).1)).2 n6).2.2.2.1 n6) fun q l ys h => x14 _ _ h (nsq l ys)
    have DIne : ∀ {Hc : Hp} {g : Addr} {l : Bool} {ys : List V}, Hc DI = some (.lst ((quoS n (clsOf ms ls)).map V.bl)) → Hc g = some (sq l ys) → (∀ u r, ys ≠ V.bl u :: r) → DI ≠ g := fun {Hc g l ys} h1 h2 h3 z => by
      subst z
      rw [h1] at h2
      have ql : 0 < (quoS n (clsOf ms ls)).length := by unfold quoS; rw [List.length_map, List.length_range]; exact pp
      cases hq : quoS n (clsOf ms ls) with
      | nil => rw [hq] at ql; cases ql
      | cons u r =>
        rw [hq] at h2
        cases l with
        | true => exact h3 u (r.map V.bl) (HO.lst.inj (Option.some.inj h2)).symm
        | false => cases h2
    refine ⟨l, xs, hp14, loop_goes goes_seq (fun σ H6 => ∃ o15, σ = [some (V.ref b), some (V.int n), some (V.ref D1), o3b, o4b, some (V.ref D2), some (V.ref D3), some V.non, o8, o9, some (V.ref DI), some (V.ref p), some (V.str (tx wp)), some (V.ref f), none, o15] ∧ Kp H14 H6 ∧ St H H14 H6 ∧ H6 DI = some (.lst ((quoS n (clsOf ms ls)).map V.bl)))
      (fun i σ H6 => ∃ o15, σ = [some (V.ref b), some (V.int n), some (V.ref D1), o3b, o4b, some (V.ref D2), some (V.ref D3), some V.non, o8, o9, some (V.ref DI), some (V.ref p), some (V.str (tx wp)), some (V.ref f), none, o15] ∧ Kp H14 H6 ∧ St H H14 H6 ∧ H6 DI = some (.lst ((quoS n (clsOf ms ls)).map V.bl)) ∧ H6 p = some (sq l xs) ∧ PP H H6 (6 + i) xs)
      ⟨none, rfl, fun _ _ h _ => h, St.refl _ _, hI14, hp14, pp14⟩ (fun i σ H6 _ ⟨_, _, _, _, _, e, _⟩ => e) ?_ (fun σ H6 ⟨o15, q1, q2, q3, q4, _⟩ => ⟨o15, q1, q2, q3, q4⟩) ?_⟩
    · rintro bk hbk i x σ H6 H6' hi ⟨o15, rfl, kp, st, hI6, hp6, pp6⟩ ⟨rfl, hx6⟩
      have hxm := List.mem_of_getElem? hx6
      obtain ⟨q, lq, g, z, l', us, rfl, hq, q0, hg, g0, ul⟩ := pp6 _ hxm
      walk_at "rd"
      unfold rIxHS
      walk_at "rd"
      cases l' with
      | true =>
        refine ⟨_, _, lq, hq, rfl, _, .lst, rfl, .lst hg, (by intro z; cases z), _, rfl, ite2 (fun _ => ?_) (fun h => absurd rfl h)⟩
        simp only [tBM, rAppend]
        walk_at "rd"
        have qg := pp_ne (l' := true) hq hg
        have pg := pp6.p_ne hp6 (l' := true) hg (by
          cases us with
          | nil => exact ⟨0, .inr rfl⟩
          | cons y r => exact ⟨y, .inl (.head _)⟩) _ hxm
        have Dg := DIne (l := true) hI6 hg (fun u r z => by cases us <;> cases z)
        have hq7 := (upd_ne (o := .lst (us.map V.int ++ [.int 0])) qg).trans hq
        have kp7 := kp.trans (Kp.upd (o := .lst (us.map V.int ++ [.int 0])) hg)
        have st7 := st.trans (St.upd (o := .lst (us.map V.int ++ [.int 0])) (g0 rfl))
        have hI7 := (upd_ne (o := .lst (us.map V.int ++ [.int 0])) Dg).trans hI6
        have hp7 := (upd_ne (o := .lst (us.map V.int ++ [.int 0])) pg).trans hp6
        have pp7 := pp6.grow hg ul (g0 rfl)
        refine ⟨_, _, lq, hq, rfl, ?_⟩
        refine ⟨.inl ⟨rfl, _, SqL.of hg⟩, g, rfl, _, hg, small (by rw [List.length_map]; have := cn.cls.len; omega), ?_⟩
        generalize upd H6' g (.lst (us.map V.int ++ [.int 0])) = H7 at hq7 kp7 st7 hI7 hp7 pp7 ⊢
        cases lq with
        | true =>
          refine ⟨_, .lst, rfl, .lst hq7, (by intro z; cases z), _, rfl, ite2 (fun _ => ?_) (fun h => absurd rfl h)⟩
          exact ⟨_, hq7, 1, rfl, kp7.trans (Kp.upd hq7), st7.trans (St.upd (q0 rfl)), (upd_ne (DIne (l := true) hI7 hq7 (fun u r z => by cases z))).trans hI7, (upd_ne (pp7.p_ne hp7 (l' := true) hq7 ⟨_, .inl (.tail _ (.head _))⟩ _ hxm)).trans hp7, PP.le (pp7.put hq7 (q0 rfl)) (by omega)⟩
        | false => exact ⟨_, .tup, rfl, .tup hq7, (by intro z; cases z), _, rfl, ite2 (fun h => nomatch h) (fun _ => ⟨kp7, st7, hI7, hp7, PP.le pp7 (by omega)⟩)⟩
      | false =>
        refine ⟨_, _, lq, hq, rfl, _, .tup, rfl, .tup hg, (by intro z; cases z), _, rfl, ite2 (fun h => nomatch h) (fun _ => ?_)⟩
        cases lq with
        | true =>
          refine ⟨_, .lst, rfl, .lst hq, (by intro z; cases z), _, rfl, ite2 (fun _ => ?_) (fun h => absurd rfl h)⟩
          exact ⟨_, hq, 1, rfl, kp.trans (Kp.upd hq), st.trans (St.upd (q0 rfl)), (upd_ne (DIne (l := true) hI6 hq (fun u r z => by cases z))).trans hI6, (upd_ne (pp6.p_ne hp6 (l' := true) hq ⟨_, .inl (.tail _ (.head _))⟩ _ hxm)).trans hp6, PP.le (pp6.put hq (q0 rfl)) (by omega)⟩
        | false => exact ⟨_, .tup, rfl, .tup hq, (by intro z; cases z), _, rfl, ite2 (fun h => nomatch h) (fun _ => ⟨kp, st, hI6, hp6, PP.le pp6 (by omega)⟩)⟩
    · rintro σ H6 ⟨o15, rfl, kp, st, hI6⟩
      walk_at "rd"
      exact ⟨f, DI, n, _, rfl, F14.kp kp, hI6, fun H15 e15 => k _ ((BoxAt.st B B14 st).same e15) ((tabs_kp T14 kp).ext e15)⟩
end

end K21
namespace K21
open PySem PySem.Spec PyProof.Rows L2 Own OwnSeq OwnSet OwnComb OwnSort OwnHot OwnExN OwnProj
local macro_rules | `(tactic| walk_at "rd") => `(tactic| simp only [tSeq, tAsg, tOp, tUn, tVar, gName, gSub, rIxL, rIxT, rSetL, tC, rI0, rI, rU, rEq, rNe, tCons, tNil, tCB, tLst, tTup, tIfS, tAnd, tOr, tNot, tAndV, tOrV, tNotV, tTest, tB, tIf, tRet, tDrop, tNext, tBreak, tCont, tCall, tCallS, L2.WE, tMakeS, rIsS, rIsB, tChain, gSeq, gRest, gCons, gNil, tFor_seq, tFor_enumS, tLc_seq, tLc_enumS, rAny, rAll, L2.tMeth, StX.tStar, rIn, tLstRg, tRg1, tRg2, rSetI, rSortedSet, rInDT, rInD, rNotInD, rEqD, rNeD, iComb, tFld, tMake, tMkO, sFld, tOst, tNever, tBits, clv, isB,
  Rd.tFor_rng1, Rd.tFor_rng2, Rd.tFor_list, Rd.tFor_tup, Rd.tLc_list, Rd.tLc_tup, Rd.tLc_rng1, Rd.LcTurn, tYes, wipe, Rd.rLenL, Rd.rLenT, Rd.rIntI, Rd.rIxH, rIxHT,  HO.tup.injEq, Rd.at0, Rd.at1, Rd.at2, Rd.at3, Rd.ixN40, Rd.ixN41, Rd.ixN42, Rd.ixN43, Rd.scal_ii, cxOf,
  List.length_cons, List.length_nil, List.length_map, List.map_cons, List.map_nil, upd_same, decide_eq_true_eq, decide_true, decide_false, if_true, if_false, Bool.false_eq_true, Bool.not_true, Bool.not_false, HO.lst.injEq, HO.ins.injEq, List.set_cons_zero, List.set_cons_succ, List.getElem?_cons_zero, List.getElem?_cons_succ, List.append_nil, List.nil_append, List.cons_append, Option.some.injEq, V.ref.injEq, V.int.injEq, V.bl.injEq, List.cons.injEq, exists_eq_left', exists_and_left, exists_eq_left, true_and, and_true, and_self, and_assoc, implies_true, reduceCtorEq, Nat.reduceAdd])

open LamX
section
variable {P : Program} {w : World} {K : PySem.W.Frag} {mg : Str → Option Value} {base : Heap} {a : Ad}
/-! ### _law_all -/
def spLAll (K : PySem.W.Frag) (a : Ad) : Sp := fun vs H Q _ => ∃ (p : Addr) (ns : List Int), vs = [.ref p] ∧ SqL K H p (ns.map V.int) ∧ ns.length ≤ 63 ∧ Tabs (tabL a) H ∧ ∀ H', Q (.bl true) H'
theorem sc_law_all : FnScope ["script", "box", "k", "size"] ["script"] (defScope s_law_all) := ⟨rfl, rfl, rfl, by decide +kernel, rfl, by decide +kernel, by decide +kernel⟩
theorem ok_law_all (T : Txt K mg a) (TB1 : TabB base mg a.co_from_tops a.tb_from_tops) (TB2 : TabB base mg a.co_uniform a.tb_uniform) (TB3 : TabB base mg a.co_quotas a.tb_quotas) : FnOk P w K mg base CX0 14 a.a_law_all a.d_law_all ["script"] (spLAll K a) := by
  refine T.fn_law_all.ok sc_law_all (fun vs H Q E h => ?_) (fun cdv A outer s H vs Q E hr h => ?_)
  · obtain ⟨p, ns, rfl, _⟩ := h
    rfl
  · obtain ⟨p, ns, rfl, hs, hl, hT, k⟩ := h
    refine ⟨_, (pss_cons (ps_set (i := 1) sc_law_all.nd rfl (Or.inl rfl) (pe_call (ok_law_box T) (hr.mono (by decide)) (by rfl) T.mg_law_box T.fn_law_box.kp T.b_law_box .nil pass0 (pa_cons (pv 0) pa_nil)))
      (pss_cons (ps_for PassesOwn.never rfl (pi_range1 (by rfl) T.no_range (pa_cons pe_int pa_nil)) (pg_name (i := 2) sc_law_all.nd rfl (Or.inl rfl))
        (pss_cons (ps_set (i := 3) sc_law_all.nd rfl (Or.inl rfl) (pe_op op_add pe_int (pe_call (ok_law_draw T) (hr.mono (by decide)) (by rfl) T.mg_law_draw T.fn_law_draw.kp T.b_law_draw .nil pass0 (pa_cons (pv 1) (pa_cons pe_int pa_nil)))))
        (pss_one (ps_if (PW.pt (pw_or (pt_not (pt_val (pe_call (ok_law_tops T TB1) (hr.mono (by decide)) (by rfl) T.mg_law_tops T.fn_law_tops.kp T.b_law_tops .nil pass0 (pa_cons (pv 1) (pa_cons (pv 3) pa_nil))))) (pw_or (pt_not (pt_val (pe_call (ok_law_uniform T TB2) (hr.mono (by decide)) (by rfl) T.mg_law_uniform T.fn_law_uniform.kp T.b_law_uniform .nil pass0 (pa_cons (pv 1) (pa_cons (pv 3) pa_nil))))) (pw_or1 (pt_not (pt_val (pe_call (ok_law_quotas T TB3) (hr.mono (by decide)) (by rfl) T.mg_law_quotas T.fn_law_quotas.kp T.b_law_quotas .nil pass0 (pa_cons (pv 1) (pa_cons (pv 3) pa_nil))))))))) (pss_one (ps_ret pe_bl)) pss_nil))))
      (pss_cons (ps_if (pt_not (pt_val (pe_call (ok_law_is T) (hr.mono (by decide)) (by rfl) T.mg_law_is T.fn_law_is.kp T.b_law_is .nil pass0 (pa_cons (pe_callN0 (ok_from_tops T TB1) (hr.mono (by decide)) (by rfl) T.mg_from_tops T.fn_from_tops.kp (kb_from_tops T) passN (pk_cons (pe_lst (pa_cons (pe_lst (pa_cons pe_int pa_nil)) (pa_cons (pe_tup (pa_cons pe_int pa_nil)) pa_nil))) (pk_cons pe_int pk_nil))) (pa_cons pe_int (pa_cons (pe_lst (pa_cons pe_bl (pa_cons pe_bl (pa_cons pe_bl (pa_cons pe_bl pa_nil))))) pa_nil)))))) (pss_one (ps_ret pe_bl)) pss_nil)
      (pss_one (ps_ret (pe_and (pe_call (ok_law_is T) (hr.mono (by decide)) (by rfl) T.mg_law_is T.fn_law_is.kp T.b_law_is .nil pass0 (pa_cons (pe_call (ok_from_tops T TB1) (hr.mono (by decide)) (by rfl) T.mg_from_tops T.fn_from_tops.kp T.b_from_tops .nil passN (pa_cons pe_int (pa_cons (pe_lst pa_nil) pa_nil))) (pa_cons pe_int (pa_cons (pe_lst (pa_cons pe_bl (pa_cons pe_bl (pa_cons pe_bl (pa_cons pe_bl pa_nil))))) pa_nil)))) (pe_one (pe_call (ok_law_is T) (hr.mono (by decide)) (by rfl) T.mg_law_is T.fn_law_is.kp T.b_law_is .nil pass0 (pa_cons (pe_call (ok_quotas T TB3) (hr.mono (by decide)) (by rfl) T.mg_quotas T.fn_quotas.kp T.b_quotas .nil passN (pa_cons pe_int (pa_cons (pe_tup pa_nil) pa_nil))) (pa_cons pe_int (pa_cons (pe_lst (pa_cons pe_bl (pa_cons pe_bl pa_nil))) pa_nil))))))))))), ?_⟩
    show (_ : TS) _ [some (V.ref p), none, none, none] H
    walk_at "rd"
    refine ⟨p, ns, rfl, hs, hl, fun b c H1 B1 s1 nb => ?_⟩
    have T1 := hT.ext s1
    refine ⟨by decide, by decide, Rd.loop_rngC (fun σ H' => ∃ o2 o3, σ = [some (V.ref p), some (V.ref b), o2, o3] ∧ BoxAt K H' b c ns ∧ Tabs (tabL a) H')
      (fun _ σ H' => ∃ o2 o3, σ = [some (V.ref p), some (V.ref b), o2, o3] ∧ BoxAt K H' b c ns ∧ Tabs (tabL a) H') ⟨none, none, rfl, B1, T1⟩ ?_ (fun _ _ z => z) ?_⟩
    · rintro bk hbk i σ H2 hi ⟨o2, o3, rfl, B2, T2⟩
      walk_at "rd"
      refine drw B2 (by decide) (by decide) fun x H3 x6 B3 e3 => ⟨_, rfl, ?_⟩
      have T3 := tabs_but T2 B2 e3
      have c1 : (1 : Int) + (x : Int) = ((1 + x : Nat) : Int) := by omega
      rw [c1]
      exact ⟨b, c, ns, 1 + x, rfl, B3, by omega, by omega, T3, fun H4 B4 T4 => ⟨_, rfl, ite2 (fun h => nomatch h) (fun _ => ⟨b, c, ns, 1 + x, rfl, B4, by omega, by omega, T4, fun H5 B5 T5 => ⟨_, rfl, ite2 (fun h => nomatch h) (fun _ => ⟨b, c, ns, 1 + x, rfl, B5, by omega, by omega, T5, fun H6 B6 T6 => ⟨_, rfl, ite2 (fun h => nomatch h) (fun _ => ⟨B6, T6⟩)⟩⟩)⟩⟩)⟩⟩
    · rintro σ H2 ⟨o2, o3, rfl, B2, T2⟩
      walk_at "rd"
      simp only [tCallN0]
      walk_at "rd"
      refine ⟨by decide, fun p1 h1 => ⟨by decide, fun p2 h2 => ⟨by decide, fun p3 h3 => ?_⟩⟩⟩
      have s1 := same_upd (o := .lst [V.int 0]) h1
      have s2 := same_upd (o := .tup [V.int 1]) h2
      have s3 := same_upd (o := .lst [V.ref p1, V.ref p2]) h3
      have a1 : upd H2 p1 (.lst [V.int 0]) p1 = _ := upd_same
      have a2 : upd (upd H2 p1 (.lst [V.int 0])) p2 (.tup [V.int 1]) p2 = _ := upd_same
      have a3 : upd (upd (upd H2 p1 (.lst [V.int 0])) p2 (.tup [V.int 1])) p3 (.lst [V.ref p1, V.ref p2]) p3 = _ := upd_same
      have a1 := s3 _ _ (s2 _ _ a1)
      have a2 := s3 _ _ a2
      have s := (s1.trans s2).trans s3
      generalize upd (upd (upd H2 p1 (.lst [V.int 0])) p2 (.tup [V.int 1])) p3 (.lst [V.ref p1, V.ref p2]) = H3 at *
      have T3 := T2.ext s
      refine ⟨.int 2, .int 2, p3, true, _, [.lst [.int 0], .tup [.int 1]], rfl, .int _, a3, .cons (.lst a1 (.cons (.int _) .nil)) (.cons (.tup a2 (.cons (.int _) .nil)) .nil), (show 2 ≤ 64 by decide), T3, fun n en n1 n6 ok g H4 e4 T4 F4 => ?_, fun hw => (nomatch hw), fun n i w en n1 n6 hw hno => ?_⟩
      · obtain rfl : n = 2 := by have := Wv.int.inj en; omega
        have F4 : FamV a.C_Family H4 g 2 [true, true, true, false] := F4
        refine ⟨by decide, fun q hq => ⟨g, q, 2, [true, true, true, false], rfl, F4.same (same_upd hq), upd_same, fun H5 e5 => ⟨_, rfl, ite2 (fun h => nomatch h) (fun _ => ⟨by decide, fun q2 hq2 => ?_⟩)⟩⟩⟩
        have T5 := ((T4.ext (same_upd (o := .lst [V.bl true, V.bl true, V.bl true, V.bl false]) hq)).ext e5).ext (same_upd (o := .lst []) hq2)
        refine ⟨.int 2, .int 2, q2, true, [], [], rfl, .int _, upd_same, .nil, by decide, T5, fun n en n1 n6 ok g H6 e6 T6 F6 => ?_, fun hw => (nomatch hw), fun n i w en n1 n6 hw hno => (by cases hw)⟩
        obtain rfl : n = 2 := by have := Wv.int.inj en; omega
        have F6 : FamV a.C_Family H6 g 2 [true, false, false, false] := F6
        refine ⟨by decide, fun q hq => ⟨g, q, 2, [true, false, false, false], rfl, F6.same (same_upd hq), upd_same, fun H7 e7 => ⟨_, rfl, ite2 (fun _ => ⟨by decide, fun q3 hq3 => ?_⟩) (fun h => absurd rfl h)⟩⟩⟩
        have T7 := ((T6.ext (same_upd (o := .lst [V.bl true, V.bl false, V.bl false, V.bl false]) hq)).ext e7).ext (same_upd (o := .tup []) hq3)
        refine ⟨1, q3, false, [], [], rfl, by decide, by decide, upd_same, trivial, by decide, fun _ m => (by cases m), T7, fun _ g H8 e8 T8 F8 => ?_, fun i il => absurd il (Nat.not_lt_zero _)⟩
        have F8 : FamV a.C_Family H8 g 1 [true, true] := F8
        exact ⟨by decide, fun q hq => ⟨g, q, 1, [true, true], rfl, F8.same (same_upd hq), upd_same, fun H9 _ => k H9⟩⟩
      · obtain rfl : n = 2 := by have := Wv.int.inj en; omega
        match i, hw with
        | 0, hw => cases hw; exact absurd hno (by decide)
        | 1, hw => cases hw; exact absurd hno (by decide)
        | i + 2, hw => cases hw
/-! ### law -/
def spLaw (K : PySem.W.Frag) (P1 P2 P3 : Addr) : Sp := fun vs H Q _ => ∃ (a : Addr) (ns : List Int), vs = [.ref a] ∧ SqL K H a (ns.map V.int) ∧ ns.length ≤ 63 ∧ TabS H P1 nmT ∧ TabS H P2 nmU ∧ TabS H P3 nmQ ∧ ∀ H', Q (.bl true) H'
theorem sc_law : FnScope ["script"] ["script"] (defScope s_law) := ⟨rfl, rfl, rfl, by decide +kernel, rfl, by decide +kernel, by decide +kernel⟩
theorem ok_law (T : Txt K mg a) (TB1 : TabB base mg a.co_from_tops a.tb_from_tops) (TB2 : TabB base mg a.co_uniform a.tb_uniform) (TB3 : TabB base mg a.co_quotas a.tb_quotas) : FnOk P w K mg base CX0 15 a.a_law a.d_law ["script"] (spLaw K a.tb_from_tops a.tb_uniform a.tb_quotas) := by
  refine T.fn_law.ok sc_law (fun vs H Q E h => ?_) (fun cdv A outer s H vs Q E hr h => ?_)
  · obtain ⟨p, ns, rfl, _⟩ := h
    rfl
  · obtain ⟨p0, ns, rfl, hs, hl, h1, h2, h3, k⟩ := h
    refine ⟨_, (pss_one (ps_try_thru0 (pss_one (ps_ret (pe_call (ok_law_all T TB1 TB2 TB3) (hr.mono (by decide)) (by rfl) T.mg_law_all T.fn_law_all.kp T.b_law_all .nil pass0 (pa_cons (pv 0) pa_nil)))))), ?_⟩
    show (_ : TS) _ [some (V.ref p0)] H
    walk_at "rd"
    refine ⟨p0, ns, rfl, hs, hl, fun q hq => ?_, k⟩
    unfold tabL at hq
    rcases List.mem_cons.mp hq with rfl | hq
    · exact h1
    rcases List.mem_cons.mp hq with rfl | hq
    · exact h2
    rw [List.mem_singleton.mp hq]
    exact h3
end

end K21
namespace K21
open PySem PySem.Spec PyProof.Rows L2
theorem kit_self {K : PySem.W.Frag} {C : Addr} : PySem.W.kitOne K (.ref C) (.ref C) = some true := by
  unfold PySem.W.kitOne
  rw [if_pos (beq_self_eq_true _)]
theorem kit_own {K : PySem.W.Frag} {C : Addr} {t : String} {b : Bool} (h1 : PySem.W.isClsIn K C = true) (h2 : PySem.W.typeIn K (.ref C) = some (.type "type")) (h3 : PySem.W.subIn K (.type t) (.ref C) = some b) : PySem.W.kitOne K (.type t) (.ref C) = some b := by
  have e : (PySem.W.clsIn K C).isSome = true := h1
  unfold PySem.W.kitOne PySem.W.kitCls
  rw [if_neg (fun q => by cases beq_iff_eq.mp q)]
  simp only [e, h2, h3]
  rfl
theorem kit_bi {K : PySem.W.Frag} {C : Addr} {t : String} {b : Bool} (h : PySem.W.subIn K (.ref C) (.type t) = some b) (h1 : PySem.W.kitMeta t = true) : PySem.W.kitOne K (.ref C) (.type t) = some b := by
  unfold PySem.W.kitOne PySem.W.kitCls
  rw [if_neg (fun q => by cases beq_iff_eq.mp q)]
  simp only [h1, if_true, h]
theorem exm_of {K : PySem.W.Frag} {E S : Addr} {b : Bool} (h1 : PySem.W.subIn K (.ref S) (.type "BaseException") = some true) (h2 : PySem.W.isClsIn K S = true) (h3 : PySem.W.typeIn K (.ref S) = some (.type "type")) (h4 : PySem.W.subIn K (.ref E) (.ref S) = some b) :
    PySem.W.exmOne K (.ref E) (.ref S) = some b := by
  have e : (PySem.W.clsIn K S).isSome = true := h2
  unfold PySem.W.exmOne PySem.W.kitCls
  simp only [h1, e, h3, h4]
  rfl
theorem exm_self {K : PySem.W.Frag} {S : Addr} (h1 : PySem.W.subIn K (.ref S) (.type "BaseException") = some true) (h2 : PySem.W.isClsIn K S = true) (h3 : PySem.W.typeIn K (.ref S) = some (.type "type")) (h4 : PySem.W.subIn K (.ref S) (.ref S) = some true) :
    PySem.W.exmOne K (.ref S) (.ref S) = some true := by
  have e : (PySem.W.clsIn K S).isSome = true := h2
  unfold PySem.W.exmOne PySem.W.kitCls
  simp only [h1, e, h3, h4]
  rfl
theorem txt_mk {K : PySem.W.Frag} {h : Heap} {mg : Str → Option Value} {C_Frac C_Family C_WrongSize C_InvalidFamily C_NotNested C_NextError a_InvalidFamily_init a_NotNested_init a_WrongSize_init a_parts_of a_all_sets a_is_part a_touches a_rest_of a_smaller_by_one a_is_whole a_is_within a_is_ascending a_clean_sets a_closed_sets a_Family_init a_family_of a_from_tops a_uniform a_quotas a_is_nested a_many_of a_Frac_init a_law_box a_law_draw a_law_things a_law_ordered a_law_shape a_law_integer a_law_is a_law_text a_law_no_set a_law_right_set a_law_tops_made a_law_tops a_law_uniform a_law_class a_law_quotas a_law_all a_law co_from_tops tb_from_tops co_uniform tb_uniform co_quotas tb_quotas : Addr} (X : K.In h) (G : h.Ns mainGlobals mg)
    {od_InvalidFamily_init an_InvalidFamily_init od_NotNested_init an_NotNested_init od_WrongSize_init an_WrongSize_init od_parts_of an_parts_of od_all_sets an_all_sets od_is_part an_is_part od_touches an_touches od_rest_of an_rest_of od_smaller_by_one an_smaller_by_one od_is_whole an_is_whole od_is_within an_is_within od_is_ascending an_is_ascending od_clean_sets an_clean_sets od_closed_sets an_closed_sets od_Family_init an_Family_init od_family_of an_family_of od_from_tops an_from_tops od_uniform an_uniform od_quotas an_quotas od_is_nested an_is_nested od_many_of an_many_of od_Frac_init an_Frac_init od_law_box an_law_box od_law_draw an_law_draw od_law_things an_law_things od_law_ordered an_law_ordered od_law_shape an_law_shape od_law_integer an_law_integer od_law_is an_law_is od_law_text an_law_text od_law_no_set an_law_no_set od_law_right_set an_law_right_set od_law_tops_made an_law_tops_made od_law_tops an_law_tops od_law_uniform an_law_uniform od_law_class an_law_class od_law_quotas an_law_quotas od_law_all an_law_all od_law an_law : Option Addr} {sl_InvalidFamily_init sl_NotNested_init sl_WrongSize_init sl_parts_of sl_all_sets sl_is_part sl_touches sl_rest_of sl_smaller_by_one sl_is_whole sl_is_within sl_is_ascending sl_clean_sets sl_closed_sets sl_Family_init sl_family_of sl_from_tops sl_uniform sl_quotas sl_is_nested sl_many_of sl_Frac_init sl_law_box sl_law_draw sl_law_things sl_law_ordered sl_law_shape sl_law_integer sl_law_is sl_law_text sl_law_no_set sl_law_right_set sl_law_tops_made sl_law_tops sl_law_uniform sl_law_class sl_law_quotas sl_law_all sl_law : Array (Option Value)} {oc_InvalidFamily_init kV_InvalidFamily_init dc_InvalidFamily_init pm_InvalidFamily_init cd_InvalidFamily_init ct_InvalidFamily_init oc_NotNested_init kV_NotNested_init dc_NotNested_init pm_NotNested_init cd_NotNested_init ct_NotNested_init oc_WrongSize_init kV_WrongSize_init dc_WrongSize_init pm_WrongSize_init cd_WrongSize_init ct_WrongSize_init oc_parts_of kV_parts_of dc_parts_of pm_parts_of cd_parts_of ct_parts_of oc_all_sets kV_all_sets dc_all_sets pm_all_sets cd_all_sets ct_all_sets oc_is_part kV_is_part dc_is_part pm_is_part cd_is_part ct_is_part oc_touches kV_touches dc_touches pm_touches cd_touches ct_touches oc_rest_of kV_rest_of dc_rest_of pm_rest_of cd_rest_of ct_rest_of oc_smaller_by_one kV_smaller_by_one dc_smaller_by_one pm_smaller_by_one cd_smaller_by_one ct_smaller_by_one oc_is_whole kV_is_whole dc_is_whole pm_is_whole cd_is_whole ct_is_whole oc_is_within kV_is_within dc_is_within pm_is_within cd_is_within ct_is_within oc_is_ascending kV_is_ascending dc_is_ascending pm_is_ascending cd_is_ascending ct_is_ascending oc_clean_sets kV_clean_sets dc_clean_sets pm_clean_sets cd_clean_sets ct_clean_sets oc_closed_sets kV_closed_sets dc_closed_sets pm_closed_sets cd_closed_sets ct_closed_sets oc_Family_init kV_Family_init dc_Family_init pm_Family_init cd_Family_init ct_Family_init oc_family_of kV_family_of dc_family_of pm_family_of cd_family_of ct_family_of oc_from_tops kV_from_tops dc_from_tops pm_from_tops ct_from_tops oc_uniform kV_uniform dc_uniform pm_uniform ct_uniform oc_quotas kV_quotas dc_quotas pm_quotas ct_quotas oc_is_nested kV_is_nested dc_is_nested pm_is_nested cd_is_nested ct_is_nested oc_many_of kV_many_of dc_many_of pm_many_of cd_many_of ct_many_of oc_Frac_init kV_Frac_init dc_Frac_init pm_Frac_init cd_Frac_init ct_Frac_init oc_law_box kV_law_box dc_law_box pm_law_box cd_law_box ct_law_box oc_law_draw kV_law_draw dc_law_draw pm_law_draw cd_law_draw ct_law_draw oc_law_things kV_law_things dc_law_things pm_law_things cd_law_things ct_law_things oc_law_ordered kV_law_ordered dc_law_ordered pm_law_ordered cd_law_ordered ct_law_ordered oc_law_shape kV_law_shape dc_law_shape pm_law_shape cd_law_shape ct_law_shape oc_law_integer kV_law_integer dc_law_integer pm_law_integer cd_law_integer ct_law_integer oc_law_is kV_law_is dc_law_is pm_law_is cd_law_is ct_law_is oc_law_text kV_law_text dc_law_text pm_law_text cd_law_text ct_law_text oc_law_no_set kV_law_no_set dc_law_no_set pm_law_no_set cd_law_no_set ct_law_no_set oc_law_right_set kV_law_right_set dc_law_right_set pm_law_right_set cd_law_right_set ct_law_right_set oc_law_tops_made kV_law_tops_made dc_law_tops_made pm_law_tops_made cd_law_tops_made ct_law_tops_made oc_law_tops kV_law_tops dc_law_tops pm_law_tops cd_law_tops ct_law_tops oc_law_uniform kV_law_uniform dc_law_uniform pm_law_uniform cd_law_uniform ct_law_uniform oc_law_class kV_law_class dc_law_class pm_law_class cd_law_class ct_law_class oc_law_quotas kV_law_quotas dc_law_quotas pm_law_quotas cd_law_quotas ct_law_quotas oc_law_all kV_law_all dc_law_all pm_law_all cd_law_all ct_law_all oc_law kV_law dc_law pm_law cd_law ct_law : Value}
    {nm_WrongSize qq_WrongSize : Str} {N_WrongSize : Addr} {bs_WrongSize : List Value} {sn_WrongSize : List Str} {sub_WrongSize : List Value} {ab_WrongSize : Bool} {col_WrongSize : Option Bool} {dd_WrongSize : Option Addr} {m0_WrongSize m1_WrongSize m2_WrongSize m3_WrongSize m5_WrongSize : Option Value}
    {nm_InvalidFamily qq_InvalidFamily : Str} {N_InvalidFamily : Addr} {bs_InvalidFamily : List Value} {sn_InvalidFamily : List Str} {sub_InvalidFamily : List Value} {ab_InvalidFamily : Bool} {col_InvalidFamily : Option Bool} {dd_InvalidFamily : Option Addr} {m0_InvalidFamily m1_InvalidFamily m2_InvalidFamily m3_InvalidFamily m5_InvalidFamily : Option Value}
    {nm_NotNested qq_NotNested : Str} {N_NotNested : Addr} {bs_NotNested : List Value} {sn_NotNested : List Str} {sub_NotNested : List Value} {ab_NotNested : Bool} {col_NotNested : Option Bool} {dd_NotNested : Option Addr} {m0_NotNested m1_NotNested m2_NotNested m3_NotNested m5_NotNested : Option Value}
    {T_Frac_init : Addr} {o_Frac_init : Obj} {m_Frac_init : Nat} {tk0_Frac_init : Tok}
    {ce_from_tops : Value} {cdd_from_tops : Option Addr} {cv_from_tops : Array Value} {csl_from_tops : Array (Option Value)}
    {ce_uniform : Value} {cdd_uniform : Option Addr} {cv_uniform : Array Value} {csl_uniform : Array (Option Value)}
    {ce_quotas : Value} {cdd_quotas : Option Addr} {cv_quotas : Array Value} {csl_quotas : Array (Option Value)}
    {t_MOST_THINGS : Tok}
    (hC_Frac : PySem.W.nsIn K mainGlobals "Frac" = some (some (.ref C_Frac)))
    (hC_Family : PySem.W.nsIn K mainGlobals "Family" = some (some (.ref C_Family)))
    (hC_WrongSize : PySem.W.nsIn K mainGlobals "WrongSize" = some (some (.ref C_WrongSize)))
    (hC_InvalidFamily : PySem.W.nsIn K mainGlobals "InvalidFamily" = some (some (.ref C_InvalidFamily)))
    (hC_NotNested : PySem.W.nsIn K mainGlobals "NotNested" = some (some (.ref C_NotNested)))
    (hC_NextError : PySem.W.nsIn K mainGlobals "NextError" = some (some (.ref C_NextError)))
    (pg_Frac : PySem.W.plainGet K C_Frac Str.empty = true)
    (hd_Frac : PySem.W.hasDictIn K C_Frac = true)
    (po_Frac : PySem.W.plainOver K C_Frac = true)
    (sa_Frac : PySem.W.findIn K (.ref C_Frac) "__setattr__" = some (some (.builtin "object.__setattr__")))
    (mk_Frac : PySem.W.makesIn K C_Frac = true)
    (kc_Frac : PySem.W.keepIn K (.ref C_Frac) = true)
    (na_Frac_num : PySem.W.findIn K (.ref C_Frac) "num" = some none)
    (na_Frac_den : PySem.W.findIn K (.ref C_Frac) "den" = some none)
    (cg_Frac : PySem.W.findIn K (.ref C_Frac) "__class__" = some (some (.builtin "object.__class__")))
    (mr_Frac : PySem.W.mroIn K C_Frac (.type "object") = some true)
    (pg_Family : PySem.W.plainGet K C_Family Str.empty = true)
    (hd_Family : PySem.W.hasDictIn K C_Family = true)
    (po_Family : PySem.W.plainOver K C_Family = true)
    (sa_Family : PySem.W.findIn K (.ref C_Family) "__setattr__" = some (some (.builtin "object.__setattr__")))
    (mk_Family : PySem.W.makesIn K C_Family = true)
    (kc_Family : PySem.W.keepIn K (.ref C_Family) = true)
    (na_Family_sets : PySem.W.findIn K (.ref C_Family) "sets" = some none)
    (na_Family_size : PySem.W.findIn K (.ref C_Family) "size" = some none)
    (cg_Family : PySem.W.findIn K (.ref C_Family) "__class__" = some (some (.builtin "object.__class__")))
    (mr_Family : PySem.W.mroIn K C_Family (.type "object") = some true)
    (cget : PySem.W.specialIn K (.builtin "object.__class__") "__get__" = some (some (.builtin "getset_descriptor.__get__")))
    (ctk : PySem.W.takesIn K (.builtin "object.__class__") = some true)
    (f_InvalidFamily_init : PySem.W.findIn K (.ref C_InvalidFamily) "__init__" = some (some (.ref a_InvalidFamily_init)))
    (l_InvalidFamily_init : K.lookup a_InvalidFamily_init = some ⟨oc_InvalidFamily_init, od_InvalidFamily_init, .func (PySem.W.fnOf "__init__" "InvalidFamily.__init__" (defArgs s_InvalidFamily_init) (defBody s_InvalidFamily_init) (defScope s_InvalidFamily_init) .none kV_InvalidFamily_init dc_InvalidFamily_init pm_InvalidFamily_init an_InvalidFamily_init cd_InvalidFamily_init ct_InvalidFamily_init), sl_InvalidFamily_init⟩)
    (c_InvalidFamily_init : PySem.W.codeIn K cd_InvalidFamily_init "InvalidFamily.__init__" = true)
    (k_InvalidFamily_init : PySem.W.keepIn K (.ref a_InvalidFamily_init) = true)
    (f_NotNested_init : PySem.W.findIn K (.ref C_NotNested) "__init__" = some (some (.ref a_NotNested_init)))
    (l_NotNested_init : K.lookup a_NotNested_init = some ⟨oc_NotNested_init, od_NotNested_init, .func (PySem.W.fnOf "__init__" "NotNested.__init__" (defArgs s_NotNested_init) (defBody s_NotNested_init) (defScope s_NotNested_init) .none kV_NotNested_init dc_NotNested_init pm_NotNested_init an_NotNested_init cd_NotNested_init ct_NotNested_init), sl_NotNested_init⟩)
    (c_NotNested_init : PySem.W.codeIn K cd_NotNested_init "NotNested.__init__" = true)
    (k_NotNested_init : PySem.W.keepIn K (.ref a_NotNested_init) = true)
    (f_WrongSize_init : PySem.W.findIn K (.ref C_WrongSize) "__init__" = some (some (.ref a_WrongSize_init)))
    (l_WrongSize_init : K.lookup a_WrongSize_init = some ⟨oc_WrongSize_init, od_WrongSize_init, .func (PySem.W.fnOf "__init__" "WrongSize.__init__" (defArgs s_WrongSize_init) (defBody s_WrongSize_init) (defScope s_WrongSize_init) .none kV_WrongSize_init dc_WrongSize_init pm_WrongSize_init an_WrongSize_init cd_WrongSize_init ct_WrongSize_init), sl_WrongSize_init⟩)
    (c_WrongSize_init : PySem.W.codeIn K cd_WrongSize_init "WrongSize.__init__" = true)
    (k_WrongSize_init : PySem.W.keepIn K (.ref a_WrongSize_init) = true)
    (n_parts_of : PySem.W.nsIn K mainGlobals "parts_of" = some (some (.ref a_parts_of)))
    (l_parts_of : K.lookup a_parts_of = some ⟨oc_parts_of, od_parts_of, .func (PySem.W.fnOf "parts_of" "parts_of" (defArgs s_parts_of) (defBody s_parts_of) (defScope s_parts_of) .none kV_parts_of dc_parts_of pm_parts_of an_parts_of cd_parts_of ct_parts_of), sl_parts_of⟩)
    (c_parts_of : PySem.W.codeIn K cd_parts_of "parts_of" = true)
    (k_parts_of : PySem.W.keepIn K (.ref a_parts_of) = true)
    (n_all_sets : PySem.W.nsIn K mainGlobals "all_sets" = some (some (.ref a_all_sets)))
    (l_all_sets : K.lookup a_all_sets = some ⟨oc_all_sets, od_all_sets, .func (PySem.W.fnOf "all_sets" "all_sets" (defArgs s_all_sets) (defBody s_all_sets) (defScope s_all_sets) .none kV_all_sets dc_all_sets pm_all_sets an_all_sets cd_all_sets ct_all_sets), sl_all_sets⟩)
    (c_all_sets : PySem.W.codeIn K cd_all_sets "all_sets" = true)
    (k_all_sets : PySem.W.keepIn K (.ref a_all_sets) = true)
    (n_is_part : PySem.W.nsIn K mainGlobals "is_part" = some (some (.ref a_is_part)))
    (l_is_part : K.lookup a_is_part = some ⟨oc_is_part, od_is_part, .func (PySem.W.fnOf "is_part" "is_part" (defArgs s_is_part) (defBody s_is_part) (defScope s_is_part) .none kV_is_part dc_is_part pm_is_part an_is_part cd_is_part ct_is_part), sl_is_part⟩)
    (c_is_part : PySem.W.codeIn K cd_is_part "is_part" = true)
    (k_is_part : PySem.W.keepIn K (.ref a_is_part) = true)
    (n_touches : PySem.W.nsIn K mainGlobals "touches" = some (some (.ref a_touches)))
    (l_touches : K.lookup a_touches = some ⟨oc_touches, od_touches, .func (PySem.W.fnOf "touches" "touches" (defArgs s_touches) (defBody s_touches) (defScope s_touches) .none kV_touches dc_touches pm_touches an_touches cd_touches ct_touches), sl_touches⟩)
    (c_touches : PySem.W.codeIn K cd_touches "touches" = true)
    (k_touches : PySem.W.keepIn K (.ref a_touches) = true)
    (n_rest_of : PySem.W.nsIn K mainGlobals "rest_of" = some (some (.ref a_rest_of)))
    (l_rest_of : K.lookup a_rest_of = some ⟨oc_rest_of, od_rest_of, .func (PySem.W.fnOf "rest_of" "rest_of" (defArgs s_rest_of) (defBody s_rest_of) (defScope s_rest_of) .none kV_rest_of dc_rest_of pm_rest_of an_rest_of cd_rest_of ct_rest_of), sl_rest_of⟩)
    (c_rest_of : PySem.W.codeIn K cd_rest_of "rest_of" = true)
    (k_rest_of : PySem.W.keepIn K (.ref a_rest_of) = true)
    (n_smaller_by_one : PySem.W.nsIn K mainGlobals "smaller_by_one" = some (some (.ref a_smaller_by_one)))
    (l_smaller_by_one : K.lookup a_smaller_by_one = some ⟨oc_smaller_by_one, od_smaller_by_one, .func (PySem.W.fnOf "smaller_by_one" "smaller_by_one" (defArgs s_smaller_by_one) (defBody s_smaller_by_one) (defScope s_smaller_by_one) .none kV_smaller_by_one dc_smaller_by_one pm_smaller_by_one an_smaller_by_one cd_smaller_by_one ct_smaller_by_one), sl_smaller_by_one⟩)
    (c_smaller_by_one : PySem.W.codeIn K cd_smaller_by_one "smaller_by_one" = true)
    (k_smaller_by_one : PySem.W.keepIn K (.ref a_smaller_by_one) = true)
    (n_is_whole : PySem.W.nsIn K mainGlobals "is_whole" = some (some (.ref a_is_whole)))
    (l_is_whole : K.lookup a_is_whole = some ⟨oc_is_whole, od_is_whole, .func (PySem.W.fnOf "is_whole" "is_whole" (defArgs s_is_whole) (defBody s_is_whole) (defScope s_is_whole) .none kV_is_whole dc_is_whole pm_is_whole an_is_whole cd_is_whole ct_is_whole), sl_is_whole⟩)
    (c_is_whole : PySem.W.codeIn K cd_is_whole "is_whole" = true)
    (k_is_whole : PySem.W.keepIn K (.ref a_is_whole) = true)
    (n_is_within : PySem.W.nsIn K mainGlobals "is_within" = some (some (.ref a_is_within)))
    (l_is_within : K.lookup a_is_within = some ⟨oc_is_within, od_is_within, .func (PySem.W.fnOf "is_within" "is_within" (defArgs s_is_within) (defBody s_is_within) (defScope s_is_within) .none kV_is_within dc_is_within pm_is_within an_is_within cd_is_within ct_is_within), sl_is_within⟩)
    (c_is_within : PySem.W.codeIn K cd_is_within "is_within" = true)
    (k_is_within : PySem.W.keepIn K (.ref a_is_within) = true)
    (n_is_ascending : PySem.W.nsIn K mainGlobals "is_ascending" = some (some (.ref a_is_ascending)))
    (l_is_ascending : K.lookup a_is_ascending = some ⟨oc_is_ascending, od_is_ascending, .func (PySem.W.fnOf "is_ascending" "is_ascending" (defArgs s_is_ascending) (defBody s_is_ascending) (defScope s_is_ascending) .none kV_is_ascending dc_is_ascending pm_is_ascending an_is_ascending cd_is_ascending ct_is_ascending), sl_is_ascending⟩)
    (c_is_ascending : PySem.W.codeIn K cd_is_ascending "is_ascending" = true)
    (k_is_ascending : PySem.W.keepIn K (.ref a_is_ascending) = true)
    (n_clean_sets : PySem.W.nsIn K mainGlobals "clean_sets" = some (some (.ref a_clean_sets)))
    (l_clean_sets : K.lookup a_clean_sets = some ⟨oc_clean_sets, od_clean_sets, .func (PySem.W.fnOf "clean_sets" "clean_sets" (defArgs s_clean_sets) (defBody s_clean_sets) (defScope s_clean_sets) .none kV_clean_sets dc_clean_sets pm_clean_sets an_clean_sets cd_clean_sets ct_clean_sets), sl_clean_sets⟩)
    (c_clean_sets : PySem.W.codeIn K cd_clean_sets "clean_sets" = true)
    (k_clean_sets : PySem.W.keepIn K (.ref a_clean_sets) = true)
    (n_closed_sets : PySem.W.nsIn K mainGlobals "closed_sets" = some (some (.ref a_closed_sets)))
    (l_closed_sets : K.lookup a_closed_sets = some ⟨oc_closed_sets, od_closed_sets, .func (PySem.W.fnOf "closed_sets" "closed_sets" (defArgs s_closed_sets) (defBody s_closed_sets) (defScope s_closed_sets) .none kV_closed_sets dc_closed_sets pm_closed_sets an_closed_sets cd_closed_sets ct_closed_sets), sl_closed_sets⟩)
    (c_closed_sets : PySem.W.codeIn K cd_closed_sets "closed_sets" = true)
    (k_closed_sets : PySem.W.keepIn K (.ref a_closed_sets) = true)
    (f_Family_init : PySem.W.findIn K (.ref C_Family) "__init__" = some (some (.ref a_Family_init)))
    (i_Family_init : PySem.W.isFn K (.ref a_Family_init) = true)
    (l_Family_init : K.lookup a_Family_init = some ⟨oc_Family_init, od_Family_init, .func (PySem.W.fnOf "__init__" "Family.__init__" (defArgs s_Family_init) (defBody s_Family_init) (defScope s_Family_init) .none kV_Family_init dc_Family_init pm_Family_init an_Family_init cd_Family_init ct_Family_init), sl_Family_init⟩)
    (c_Family_init : PySem.W.codeIn K cd_Family_init "Family.__init__" = true)
    (k_Family_init : PySem.W.keepIn K (.ref a_Family_init) = true)
    (n_family_of : PySem.W.nsIn K mainGlobals "family_of" = some (some (.ref a_family_of)))
    (l_family_of : K.lookup a_family_of = some ⟨oc_family_of, od_family_of, .func (PySem.W.fnOf "family_of" "family_of" (defArgs s_family_of) (defBody s_family_of) (defScope s_family_of) .none kV_family_of dc_family_of pm_family_of an_family_of cd_family_of ct_family_of), sl_family_of⟩)
    (c_family_of : PySem.W.codeIn K cd_family_of "family_of" = true)
    (k_family_of : PySem.W.keepIn K (.ref a_family_of) = true)
    (n_from_tops : PySem.W.nsIn K mainGlobals "from_tops" = some (some (.ref a_from_tops)))
    (l_from_tops : K.lookup a_from_tops = some ⟨oc_from_tops, od_from_tops, .func (PySem.W.fnOf "from_tops" "from_tops" (defArgs s_from_tops) (defBody s_from_tops) (defScope s_from_tops) .none kV_from_tops dc_from_tops pm_from_tops an_from_tops (.ref co_from_tops) ct_from_tops), sl_from_tops⟩)
    (c_from_tops : PySem.W.codeIn K (.ref co_from_tops) "from_tops" = true)
    (k_from_tops : PySem.W.keepIn K (.ref a_from_tops) = true)
    (n_uniform : PySem.W.nsIn K mainGlobals "uniform" = some (some (.ref a_uniform)))
    (l_uniform : K.lookup a_uniform = some ⟨oc_uniform, od_uniform, .func (PySem.W.fnOf "uniform" "uniform" (defArgs s_uniform) (defBody s_uniform) (defScope s_uniform) .none kV_uniform dc_uniform pm_uniform an_uniform (.ref co_uniform) ct_uniform), sl_uniform⟩)
    (c_uniform : PySem.W.codeIn K (.ref co_uniform) "uniform" = true)
    (k_uniform : PySem.W.keepIn K (.ref a_uniform) = true)
    (n_quotas : PySem.W.nsIn K mainGlobals "quotas" = some (some (.ref a_quotas)))
    (l_quotas : K.lookup a_quotas = some ⟨oc_quotas, od_quotas, .func (PySem.W.fnOf "quotas" "quotas" (defArgs s_quotas) (defBody s_quotas) (defScope s_quotas) .none kV_quotas dc_quotas pm_quotas an_quotas (.ref co_quotas) ct_quotas), sl_quotas⟩)
    (c_quotas : PySem.W.codeIn K (.ref co_quotas) "quotas" = true)
    (k_quotas : PySem.W.keepIn K (.ref a_quotas) = true)
    (n_is_nested : PySem.W.nsIn K mainGlobals "is_nested" = some (some (.ref a_is_nested)))
    (l_is_nested : K.lookup a_is_nested = some ⟨oc_is_nested, od_is_nested, .func (PySem.W.fnOf "is_nested" "is_nested" (defArgs s_is_nested) (defBody s_is_nested) (defScope s_is_nested) .none kV_is_nested dc_is_nested pm_is_nested an_is_nested cd_is_nested ct_is_nested), sl_is_nested⟩)
    (c_is_nested : PySem.W.codeIn K cd_is_nested "is_nested" = true)
    (k_is_nested : PySem.W.keepIn K (.ref a_is_nested) = true)
    (n_many_of : PySem.W.nsIn K mainGlobals "many_of" = some (some (.ref a_many_of)))
    (l_many_of : K.lookup a_many_of = some ⟨oc_many_of, od_many_of, .func (PySem.W.fnOf "many_of" "many_of" (defArgs s_many_of) (defBody s_many_of) (defScope s_many_of) .none kV_many_of dc_many_of pm_many_of an_many_of cd_many_of ct_many_of), sl_many_of⟩)
    (c_many_of : PySem.W.codeIn K cd_many_of "many_of" = true)
    (k_many_of : PySem.W.keepIn K (.ref a_many_of) = true)
    (f_Frac_init : PySem.W.findIn K (.ref C_Frac) "__init__" = some (some (.ref a_Frac_init)))
    (i_Frac_init : PySem.W.isFn K (.ref a_Frac_init) = true)
    (l_Frac_init : K.lookup a_Frac_init = some ⟨oc_Frac_init, od_Frac_init, .func (PySem.W.fnOf "__init__" "Frac.__init__" (defArgs s_Frac_init) (defBody s_Frac_init) (defScope s_Frac_init) (.ref T_Frac_init) kV_Frac_init dc_Frac_init pm_Frac_init an_Frac_init cd_Frac_init ct_Frac_init), sl_Frac_init⟩)
    (c_Frac_init : PySem.W.codeIn K cd_Frac_init "Frac.__init__" = true)
    (k_Frac_init : PySem.W.keepIn K (.ref a_Frac_init) = true)
    (t_Frac_init : K.lookup T_Frac_init = some o_Frac_init)
    (u_Frac_init : o_Frac_init.data = .seq [Value.int 1 tk0_Frac_init].toArray m_Frac_init)
    (n_law_box : PySem.W.nsIn K mainGlobals "_law_box" = some (some (.ref a_law_box)))
    (l_law_box : K.lookup a_law_box = some ⟨oc_law_box, od_law_box, .func (PySem.W.fnOf "_law_box" "_law_box" (defArgs s_law_box) (defBody s_law_box) (defScope s_law_box) .none kV_law_box dc_law_box pm_law_box an_law_box cd_law_box ct_law_box), sl_law_box⟩)
    (c_law_box : PySem.W.codeIn K cd_law_box "_law_box" = true)
    (k_law_box : PySem.W.keepIn K (.ref a_law_box) = true)
    (n_law_draw : PySem.W.nsIn K mainGlobals "_law_draw" = some (some (.ref a_law_draw)))
    (l_law_draw : K.lookup a_law_draw = some ⟨oc_law_draw, od_law_draw, .func (PySem.W.fnOf "_law_draw" "_law_draw" (defArgs s_law_draw) (defBody s_law_draw) (defScope s_law_draw) .none kV_law_draw dc_law_draw pm_law_draw an_law_draw cd_law_draw ct_law_draw), sl_law_draw⟩)
    (c_law_draw : PySem.W.codeIn K cd_law_draw "_law_draw" = true)
    (k_law_draw : PySem.W.keepIn K (.ref a_law_draw) = true)
    (n_law_things : PySem.W.nsIn K mainGlobals "_law_things" = some (some (.ref a_law_things)))
    (l_law_things : K.lookup a_law_things = some ⟨oc_law_things, od_law_things, .func (PySem.W.fnOf "_law_things" "_law_things" (defArgs s_law_things) (defBody s_law_things) (defScope s_law_things) .none kV_law_things dc_law_things pm_law_things an_law_things cd_law_things ct_law_things), sl_law_things⟩)
    (c_law_things : PySem.W.codeIn K cd_law_things "_law_things" = true)
    (k_law_things : PySem.W.keepIn K (.ref a_law_things) = true)
    (n_law_ordered : PySem.W.nsIn K mainGlobals "_law_ordered" = some (some (.ref a_law_ordered)))
    (l_law_ordered : K.lookup a_law_ordered = some ⟨oc_law_ordered, od_law_ordered, .func (PySem.W.fnOf "_law_ordered" "_law_ordered" (defArgs s_law_ordered) (defBody s_law_ordered) (defScope s_law_ordered) .none kV_law_ordered dc_law_ordered pm_law_ordered an_law_ordered cd_law_ordered ct_law_ordered), sl_law_ordered⟩)
    (c_law_ordered : PySem.W.codeIn K cd_law_ordered "_law_ordered" = true)
    (k_law_ordered : PySem.W.keepIn K (.ref a_law_ordered) = true)
    (n_law_shape : PySem.W.nsIn K mainGlobals "_law_shape" = some (some (.ref a_law_shape)))
    (l_law_shape : K.lookup a_law_shape = some ⟨oc_law_shape, od_law_shape, .func (PySem.W.fnOf "_law_shape" "_law_shape" (defArgs s_law_shape) (defBody s_law_shape) (defScope s_law_shape) .none kV_law_shape dc_law_shape pm_law_shape an_law_shape cd_law_shape ct_law_shape), sl_law_shape⟩)
    (c_law_shape : PySem.W.codeIn K cd_law_shape "_law_shape" = true)
    (k_law_shape : PySem.W.keepIn K (.ref a_law_shape) = true)
    (n_law_integer : PySem.W.nsIn K mainGlobals "_law_integer" = some (some (.ref a_law_integer)))
    (l_law_integer : K.lookup a_law_integer = some ⟨oc_law_integer, od_law_integer, .func (PySem.W.fnOf "_law_integer" "_law_integer" (defArgs s_law_integer) (defBody s_law_integer) (defScope s_law_integer) .none kV_law_integer dc_law_integer pm_law_integer an_law_integer cd_law_integer ct_law_integer), sl_law_integer⟩)
    (c_law_integer : PySem.W.codeIn K cd_law_integer "_law_integer" = true)
    (k_law_integer : PySem.W.keepIn K (.ref a_law_integer) = true)
    (n_law_is : PySem.W.nsIn K mainGlobals "_law_is" = some (some (.ref a_law_is)))
    (l_law_is : K.lookup a_law_is = some ⟨oc_law_is, od_law_is, .func (PySem.W.fnOf "_law_is" "_law_is" (defArgs s_law_is) (defBody s_law_is) (defScope s_law_is) .none kV_law_is dc_law_is pm_law_is an_law_is cd_law_is ct_law_is), sl_law_is⟩)
    (c_law_is : PySem.W.codeIn K cd_law_is "_law_is" = true)
    (k_law_is : PySem.W.keepIn K (.ref a_law_is) = true)
    (n_law_text : PySem.W.nsIn K mainGlobals "_law_text" = some (some (.ref a_law_text)))
    (l_law_text : K.lookup a_law_text = some ⟨oc_law_text, od_law_text, .func (PySem.W.fnOf "_law_text" "_law_text" (defArgs s_law_text) (defBody s_law_text) (defScope s_law_text) .none kV_law_text dc_law_text pm_law_text an_law_text cd_law_text ct_law_text), sl_law_text⟩)
    (c_law_text : PySem.W.codeIn K cd_law_text "_law_text" = true)
    (k_law_text : PySem.W.keepIn K (.ref a_law_text) = true)
    (n_law_no_set : PySem.W.nsIn K mainGlobals "_law_no_set" = some (some (.ref a_law_no_set)))
    (l_law_no_set : K.lookup a_law_no_set = some ⟨oc_law_no_set, od_law_no_set, .func (PySem.W.fnOf "_law_no_set" "_law_no_set" (defArgs s_law_no_set) (defBody s_law_no_set) (defScope s_law_no_set) .none kV_law_no_set dc_law_no_set pm_law_no_set an_law_no_set cd_law_no_set ct_law_no_set), sl_law_no_set⟩)
    (c_law_no_set : PySem.W.codeIn K cd_law_no_set "_law_no_set" = true)
    (k_law_no_set : PySem.W.keepIn K (.ref a_law_no_set) = true)
    (n_law_right_set : PySem.W.nsIn K mainGlobals "_law_right_set" = some (some (.ref a_law_right_set)))
    (l_law_right_set : K.lookup a_law_right_set = some ⟨oc_law_right_set, od_law_right_set, .func (PySem.W.fnOf "_law_right_set" "_law_right_set" (defArgs s_law_right_set) (defBody s_law_right_set) (defScope s_law_right_set) .none kV_law_right_set dc_law_right_set pm_law_right_set an_law_right_set cd_law_right_set ct_law_right_set), sl_law_right_set⟩)
    (c_law_right_set : PySem.W.codeIn K cd_law_right_set "_law_right_set" = true)
    (k_law_right_set : PySem.W.keepIn K (.ref a_law_right_set) = true)
    (n_law_tops_made : PySem.W.nsIn K mainGlobals "_law_tops_made" = some (some (.ref a_law_tops_made)))
    (l_law_tops_made : K.lookup a_law_tops_made = some ⟨oc_law_tops_made, od_law_tops_made, .func (PySem.W.fnOf "_law_tops_made" "_law_tops_made" (defArgs s_law_tops_made) (defBody s_law_tops_made) (defScope s_law_tops_made) .none kV_law_tops_made dc_law_tops_made pm_law_tops_made an_law_tops_made cd_law_tops_made ct_law_tops_made), sl_law_tops_made⟩)
    (c_law_tops_made : PySem.W.codeIn K cd_law_tops_made "_law_tops_made" = true)
    (k_law_tops_made : PySem.W.keepIn K (.ref a_law_tops_made) = true)
    (n_law_tops : PySem.W.nsIn K mainGlobals "_law_tops" = some (some (.ref a_law_tops)))
    (l_law_tops : K.lookup a_law_tops = some ⟨oc_law_tops, od_law_tops, .func (PySem.W.fnOf "_law_tops" "_law_tops" (defArgs s_law_tops) (defBody s_law_tops) (defScope s_law_tops) .none kV_law_tops dc_law_tops pm_law_tops an_law_tops cd_law_tops ct_law_tops), sl_law_tops⟩)
    (c_law_tops : PySem.W.codeIn K cd_law_tops "_law_tops" = true)
    (k_law_tops : PySem.W.keepIn K (.ref a_law_tops) = true)
    (n_law_uniform : PySem.W.nsIn K mainGlobals "_law_uniform" = some (some (.ref a_law_uniform)))
    (l_law_uniform : K.lookup a_law_uniform = some ⟨oc_law_uniform, od_law_uniform, .func (PySem.W.fnOf "_law_uniform" "_law_uniform" (defArgs s_law_uniform) (defBody s_law_uniform) (defScope s_law_uniform) .none kV_law_uniform dc_law_uniform pm_law_uniform an_law_uniform cd_law_uniform ct_law_uniform), sl_law_uniform⟩)
    (c_law_uniform : PySem.W.codeIn K cd_law_uniform "_law_uniform" = true)
    (k_law_uniform : PySem.W.keepIn K (.ref a_law_uniform) = true)
    (n_law_class : PySem.W.nsIn K mainGlobals "_law_class" = some (some (.ref a_law_class)))
    (l_law_class : K.lookup a_law_class = some ⟨oc_law_class, od_law_class, .func (PySem.W.fnOf "_law_class" "_law_class" (defArgs s_law_class) (defBody s_law_class) (defScope s_law_class) .none kV_law_class dc_law_class pm_law_class an_law_class cd_law_class ct_law_class), sl_law_class⟩)
    (c_law_class : PySem.W.codeIn K cd_law_class "_law_class" = true)
    (k_law_class : PySem.W.keepIn K (.ref a_law_class) = true)
    (n_law_quotas : PySem.W.nsIn K mainGlobals "_law_quotas" = some (some (.ref a_law_quotas)))
    (l_law_quotas : K.lookup a_law_quotas = some ⟨oc_law_quotas, od_law_quotas, .func (PySem.W.fnOf "_law_quotas" "_law_quotas" (defArgs s_law_quotas) (defBody s_law_quotas) (defScope s_law_quotas) .none kV_law_quotas dc_law_quotas pm_law_quotas an_law_quotas cd_law_quotas ct_law_quotas), sl_law_quotas⟩)
    (c_law_quotas : PySem.W.codeIn K cd_law_quotas "_law_quotas" = true)
    (k_law_quotas : PySem.W.keepIn K (.ref a_law_quotas) = true)
    (n_law_all : PySem.W.nsIn K mainGlobals "_law_all" = some (some (.ref a_law_all)))
    (l_law_all : K.lookup a_law_all = some ⟨oc_law_all, od_law_all, .func (PySem.W.fnOf "_law_all" "_law_all" (defArgs s_law_all) (defBody s_law_all) (defScope s_law_all) .none kV_law_all dc_law_all pm_law_all an_law_all cd_law_all ct_law_all), sl_law_all⟩)
    (c_law_all : PySem.W.codeIn K cd_law_all "_law_all" = true)
    (k_law_all : PySem.W.keepIn K (.ref a_law_all) = true)
    (n_law : PySem.W.nsIn K mainGlobals "law" = some (some (.ref a_law)))
    (l_law : K.lookup a_law = some ⟨oc_law, od_law, .func (PySem.W.fnOf "law" "law" (defArgs s_law) (defBody s_law) (defScope s_law) .none kV_law dc_law pm_law an_law cd_law ct_law), sl_law⟩)
    (c_law : PySem.W.codeIn K cd_law "law" = true)
    (k_law : PySem.W.keepIn K (.ref a_law) = true)
    (cl_from_tops : K.lookup co_from_tops = some ⟨ce_from_tops, cdd_from_tops, .fields cv_from_tops, csl_from_tops⟩)
    (cp_from_tops : cv_from_tops[11]? = some (.ref tb_from_tops))
    (ch_from_tops : PySem.W.codeHdIn K co_from_tops tb_from_tops = true)
    (cn_from_tops : K.lookup tb_from_tops = none)
    (cl_uniform : K.lookup co_uniform = some ⟨ce_uniform, cdd_uniform, .fields cv_uniform, csl_uniform⟩)
    (cp_uniform : cv_uniform[11]? = some (.ref tb_uniform))
    (ch_uniform : PySem.W.codeHdIn K co_uniform tb_uniform = true)
    (cn_uniform : K.lookup tb_uniform = none)
    (cl_quotas : K.lookup co_quotas = some ⟨ce_quotas, cdd_quotas, .fields cv_quotas, csl_quotas⟩)
    (cp_quotas : cv_quotas[11]? = some (.ref tb_quotas))
    (ch_quotas : PySem.W.codeHdIn K co_quotas tb_quotas = true)
    (cn_quotas : K.lookup tb_quotas = none)
    (tn_from_tops_uniform : tb_from_tops ≠ tb_uniform)
    (tn_from_tops_quotas : tb_from_tops ≠ tb_quotas)
    (tn_uniform_quotas : tb_uniform ≠ tb_quotas)
    (x_WrongSize : K.lookup C_WrongSize = some (excClassObj nm_WrongSize qq_WrongSize C_WrongSize N_WrongSize bs_WrongSize (.ref C_NextError :: [.type "ValueError", .type "Exception", .type "BaseException", .type "object"]) true sn_WrongSize sub_WrongSize ab_WrongSize col_WrongSize dd_WrongSize m0_WrongSize m1_WrongSize m2_WrongSize m3_WrongSize m5_WrongSize "ValueError.__new__"))
    (sa_WrongSize : PySem.W.findIn K (.ref C_WrongSize) "__setattr__" = some (some (.builtin "object.__setattr__")))
    (ex_WrongSize : PySem.W.subIn K (.ref C_WrongSize) (.type "BaseException") = some true)
    (ty_WrongSize : PySem.W.typeIn K (.ref C_WrongSize) = some (.type "type"))
    (kc_WrongSize : PySem.W.keepIn K (.ref C_WrongSize) = true)
    (ga_WrongSize : PySem.W.findIn K (.ref C_WrongSize) "__getattribute__" = some (some (.builtin "BaseException.__getattribute__")))
    (gg_WrongSize : PySem.W.findIn K (.ref C_WrongSize) "__getattr__" = some none)
    (hd_WrongSize : PySem.W.hasDictIn K C_WrongSize = true)
    (is_WrongSize : PySem.W.isClsIn K C_WrongSize = true)
    (ss_WrongSize : PySem.W.subIn K (.ref C_WrongSize) (.ref C_WrongSize) = some true)
    (na_WrongSize_many : PySem.W.findIn K (.ref C_WrongSize) "many" = some none)
    (ti_WrongSize : PySem.W.typeIn K (.ref a_WrongSize_init) = some (.type "function"))
    (x_InvalidFamily : K.lookup C_InvalidFamily = some (excClassObj nm_InvalidFamily qq_InvalidFamily C_InvalidFamily N_InvalidFamily bs_InvalidFamily (.ref C_NextError :: [.type "ValueError", .type "Exception", .type "BaseException", .type "object"]) true sn_InvalidFamily sub_InvalidFamily ab_InvalidFamily col_InvalidFamily dd_InvalidFamily m0_InvalidFamily m1_InvalidFamily m2_InvalidFamily m3_InvalidFamily m5_InvalidFamily "ValueError.__new__"))
    (sa_InvalidFamily : PySem.W.findIn K (.ref C_InvalidFamily) "__setattr__" = some (some (.builtin "object.__setattr__")))
    (ex_InvalidFamily : PySem.W.subIn K (.ref C_InvalidFamily) (.type "BaseException") = some true)
    (ty_InvalidFamily : PySem.W.typeIn K (.ref C_InvalidFamily) = some (.type "type"))
    (kc_InvalidFamily : PySem.W.keepIn K (.ref C_InvalidFamily) = true)
    (ga_InvalidFamily : PySem.W.findIn K (.ref C_InvalidFamily) "__getattribute__" = some (some (.builtin "BaseException.__getattribute__")))
    (gg_InvalidFamily : PySem.W.findIn K (.ref C_InvalidFamily) "__getattr__" = some none)
    (hd_InvalidFamily : PySem.W.hasDictIn K C_InvalidFamily = true)
    (is_InvalidFamily : PySem.W.isClsIn K C_InvalidFamily = true)
    (ss_InvalidFamily : PySem.W.subIn K (.ref C_InvalidFamily) (.ref C_InvalidFamily) = some true)
    (na_InvalidFamily_at : PySem.W.findIn K (.ref C_InvalidFamily) "at" = some none)
    (ti_InvalidFamily : PySem.W.typeIn K (.ref a_InvalidFamily_init) = some (.type "function"))
    (x_NotNested : K.lookup C_NotNested = some (excClassObj nm_NotNested qq_NotNested C_NotNested N_NotNested bs_NotNested (.ref C_NextError :: [.type "ValueError", .type "Exception", .type "BaseException", .type "object"]) true sn_NotNested sub_NotNested ab_NotNested col_NotNested dd_NotNested m0_NotNested m1_NotNested m2_NotNested m3_NotNested m5_NotNested "ValueError.__new__"))
    (sa_NotNested : PySem.W.findIn K (.ref C_NotNested) "__setattr__" = some (some (.builtin "object.__setattr__")))
    (ex_NotNested : PySem.W.subIn K (.ref C_NotNested) (.type "BaseException") = some true)
    (ty_NotNested : PySem.W.typeIn K (.ref C_NotNested) = some (.type "type"))
    (kc_NotNested : PySem.W.keepIn K (.ref C_NotNested) = true)
    (ga_NotNested : PySem.W.findIn K (.ref C_NotNested) "__getattribute__" = some (some (.builtin "BaseException.__getattribute__")))
    (gg_NotNested : PySem.W.findIn K (.ref C_NotNested) "__getattr__" = some none)
    (hd_NotNested : PySem.W.hasDictIn K C_NotNested = true)
    (is_NotNested : PySem.W.isClsIn K C_NotNested = true)
    (ss_NotNested : PySem.W.subIn K (.ref C_NotNested) (.ref C_NotNested) = some true)
    (na_NotNested_at : PySem.W.findIn K (.ref C_NotNested) "at" = some none)
    (ti_NotNested : PySem.W.typeIn K (.ref a_NotNested_init) = some (.type "function"))
    (sx_InvalidFamily_WrongSize : PySem.W.subIn K (.ref C_InvalidFamily) (.ref C_WrongSize) = some false)
    (z_isinstance : PySem.W.nsIn K mainGlobals "isinstance" = some none)
    (z_int : PySem.W.nsIn K mainGlobals "int" = some none)
    (z_bool : PySem.W.nsIn K mainGlobals "bool" = some none)
    (z_range : PySem.W.nsIn K mainGlobals "range" = some none)
    (z_len : PySem.W.nsIn K mainGlobals "len" = some none)
    (z_abs : PySem.W.nsIn K mainGlobals "abs" = some none)
    (z_str : PySem.W.nsIn K mainGlobals "str" = some none)
    (z_max : PySem.W.nsIn K mainGlobals "max" = some none)
    (z_list : PySem.W.nsIn K mainGlobals "list" = some none)
    (z_tuple : PySem.W.nsIn K mainGlobals "tuple" = some none)
    (z_enumerate : PySem.W.nsIn K mainGlobals "enumerate" = some none)
    (z_any : PySem.W.nsIn K mainGlobals "any" = some none)
    (z_all : PySem.W.nsIn K mainGlobals "all" = some none)
    (z_sum : PySem.W.nsIn K mainGlobals "sum" = some none)
    (z_sorted : PySem.W.nsIn K mainGlobals "sorted" = some none)
    (z_set : PySem.W.nsIn K mainGlobals "set" = some none)
    (v_MOST_THINGS : PySem.W.nsIn K mainGlobals "MOST_THINGS" = some (some (.int 6 t_MOST_THINGS)))
    (v_combinations : PySem.W.nsIn K mainGlobals "combinations" = some (some (.type "itertools.combinations")))
    (v_gcd : PySem.W.nsIn K mainGlobals "gcd" = some (some (.builtin "math.gcd")))
    (is_Frac : PySem.W.isClsIn K C_Frac = true)
    (ty_Frac : PySem.W.typeIn K (.ref C_Frac) = some (.type "type"))
    (is_Family : PySem.W.isClsIn K C_Family = true)
    (ty_Family : PySem.W.typeIn K (.ref C_Family) = some (.type "type"))
    (sb_F_int : PySem.W.subIn K (.ref C_Frac) (.type "int") = some false)
    (sb_F_list : PySem.W.subIn K (.ref C_Frac) (.type "list") = some false)
    (sb_F_tuple : PySem.W.subIn K (.ref C_Frac) (.type "tuple") = some false)
    (sb_F_str : PySem.W.subIn K (.ref C_Frac) (.type "str") = some false)
    (sb_none_F : PySem.W.subIn K (.type "NoneType") (.ref C_Frac) = some false)
    (sb_bool_F : PySem.W.subIn K (.type "bool") (.ref C_Frac) = some false)
    (sb_int_F : PySem.W.subIn K (.type "int") (.ref C_Frac) = some false)
    (sb_str_F : PySem.W.subIn K (.type "str") (.ref C_Frac) = some false)
    (sb_list_F : PySem.W.subIn K (.type "list") (.ref C_Frac) = some false)
    (sb_tuple_F : PySem.W.subIn K (.type "tuple") (.ref C_Frac) = some false)
    : Txt K mg ⟨C_Frac, C_Family, C_WrongSize, C_InvalidFamily, C_NotNested, C_NextError, a_InvalidFamily_init, a_NotNested_init, a_WrongSize_init, a_parts_of, a_all_sets, a_is_part, a_touches, a_rest_of, a_smaller_by_one, a_is_whole, a_is_within, a_is_ascending, a_clean_sets, a_closed_sets, a_Family_init, a_family_of, a_from_tops, a_uniform, a_quotas, a_is_nested, a_many_of, a_Frac_init, a_law_box, a_law_draw, a_law_things, a_law_ordered, a_law_shape, a_law_integer, a_law_is, a_law_text, a_law_no_set, a_law_right_set, a_law_tops_made, a_law_tops, a_law_uniform, a_law_class, a_law_quotas, a_law_all, a_law, co_from_tops, tb_from_tops, co_uniform, tb_uniform, co_quotas, tb_quotas, PySem.W.fnOf "__init__" "InvalidFamily.__init__" (defArgs s_InvalidFamily_init) (defBody s_InvalidFamily_init) (defScope s_InvalidFamily_init) .none kV_InvalidFamily_init dc_InvalidFamily_init pm_InvalidFamily_init an_InvalidFamily_init cd_InvalidFamily_init ct_InvalidFamily_init, PySem.W.fnOf "__init__" "NotNested.__init__" (defArgs s_NotNested_init) (defBody s_NotNested_init) (defScope s_NotNested_init) .none kV_NotNested_init dc_NotNested_init pm_NotNested_init an_NotNested_init cd_NotNested_init ct_NotNested_init, PySem.W.fnOf "__init__" "WrongSize.__init__" (defArgs s_WrongSize_init) (defBody s_WrongSize_init) (defScope s_WrongSize_init) .none kV_WrongSize_init dc_WrongSize_init pm_WrongSize_init an_WrongSize_init cd_WrongSize_init ct_WrongSize_init, PySem.W.fnOf "parts_of" "parts_of" (defArgs s_parts_of) (defBody s_parts_of) (defScope s_parts_of) .none kV_parts_of dc_parts_of pm_parts_of an_parts_of cd_parts_of ct_parts_of, PySem.W.fnOf "all_sets" "all_sets" (defArgs s_all_sets) (defBody s_all_sets) (defScope s_all_sets) .none kV_all_sets dc_all_sets pm_all_sets an_all_sets cd_all_sets ct_all_sets, PySem.W.fnOf "is_part" "is_part" (defArgs s_is_part) (defBody s_is_part) (defScope s_is_part) .none kV_is_part dc_is_part pm_is_part an_is_part cd_is_part ct_is_part, PySem.W.fnOf "touches" "touches" (defArgs s_touches) (defBody s_touches) (defScope s_touches) .none kV_touches dc_touches pm_touches an_touches cd_touches ct_touches, PySem.W.fnOf "rest_of" "rest_of" (defArgs s_rest_of) (defBody s_rest_of) (defScope s_rest_of) .none kV_rest_of dc_rest_of pm_rest_of an_rest_of cd_rest_of ct_rest_of, PySem.W.fnOf "smaller_by_one" "smaller_by_one" (defArgs s_smaller_by_one) (defBody s_smaller_by_one) (defScope s_smaller_by_one) .none kV_smaller_by_one dc_smaller_by_one pm_smaller_by_one an_smaller_by_one cd_smaller_by_one ct_smaller_by_one, PySem.W.fnOf "is_whole" "is_whole" (defArgs s_is_whole) (defBody s_is_whole) (defScope s_is_whole) .none kV_is_whole dc_is_whole pm_is_whole an_is_whole cd_is_whole ct_is_whole, PySem.W.fnOf "is_within" "is_within" (defArgs s_is_within) (defBody s_is_within) (defScope s_is_within) .none kV_is_within dc_is_within pm_is_within an_is_within cd_is_within ct_is_within, PySem.W.fnOf "is_ascending" "is_ascending" (defArgs s_is_ascending) (defBody s_is_ascending) (defScope s_is_ascending) .none kV_is_ascending dc_is_ascending pm_is_ascending an_is_ascending cd_is_ascending ct_is_ascending, PySem.W.fnOf "clean_sets" "clean_sets" (defArgs s_clean_sets) (defBody s_clean_sets) (defScope s_clean_sets) .none kV_clean_sets dc_clean_sets pm_clean_sets an_clean_sets cd_clean_sets ct_clean_sets, PySem.W.fnOf "closed_sets" "closed_sets" (defArgs s_closed_sets) (defBody s_closed_sets) (defScope s_closed_sets) .none kV_closed_sets dc_closed_sets pm_closed_sets an_closed_sets cd_closed_sets ct_closed_sets, PySem.W.fnOf "__init__" "Family.__init__" (defArgs s_Family_init) (defBody s_Family_init) (defScope s_Family_init) .none kV_Family_init dc_Family_init pm_Family_init an_Family_init cd_Family_init ct_Family_init, PySem.W.fnOf "family_of" "family_of" (defArgs s_family_of) (defBody s_family_of) (defScope s_family_of) .none kV_family_of dc_family_of pm_family_of an_family_of cd_family_of ct_family_of, PySem.W.fnOf "from_tops" "from_tops" (defArgs s_from_tops) (defBody s_from_tops) (defScope s_from_tops) .none kV_from_tops dc_from_tops pm_from_tops an_from_tops (.ref co_from_tops) ct_from_tops, PySem.W.fnOf "uniform" "uniform" (defArgs s_uniform) (defBody s_uniform) (defScope s_uniform) .none kV_uniform dc_uniform pm_uniform an_uniform (.ref co_uniform) ct_uniform, PySem.W.fnOf "quotas" "quotas" (defArgs s_quotas) (defBody s_quotas) (defScope s_quotas) .none kV_quotas dc_quotas pm_quotas an_quotas (.ref co_quotas) ct_quotas, PySem.W.fnOf "is_nested" "is_nested" (defArgs s_is_nested) (defBody s_is_nested) (defScope s_is_nested) .none kV_is_nested dc_is_nested pm_is_nested an_is_nested cd_is_nested ct_is_nested, PySem.W.fnOf "many_of" "many_of" (defArgs s_many_of) (defBody s_many_of) (defScope s_many_of) .none kV_many_of dc_many_of pm_many_of an_many_of cd_many_of ct_many_of, PySem.W.fnOf "__init__" "Frac.__init__" (defArgs s_Frac_init) (defBody s_Frac_init) (defScope s_Frac_init) (.ref T_Frac_init) kV_Frac_init dc_Frac_init pm_Frac_init an_Frac_init cd_Frac_init ct_Frac_init, PySem.W.fnOf "_law_box" "_law_box" (defArgs s_law_box) (defBody s_law_box) (defScope s_law_box) .none kV_law_box dc_law_box pm_law_box an_law_box cd_law_box ct_law_box, PySem.W.fnOf "_law_draw" "_law_draw" (defArgs s_law_draw) (defBody s_law_draw) (defScope s_law_draw) .none kV_law_draw dc_law_draw pm_law_draw an_law_draw cd_law_draw ct_law_draw, PySem.W.fnOf "_law_things" "_law_things" (defArgs s_law_things) (defBody s_law_things) (defScope s_law_things) .none kV_law_things dc_law_things pm_law_things an_law_things cd_law_things ct_law_things, PySem.W.fnOf "_law_ordered" "_law_ordered" (defArgs s_law_ordered) (defBody s_law_ordered) (defScope s_law_ordered) .none kV_law_ordered dc_law_ordered pm_law_ordered an_law_ordered cd_law_ordered ct_law_ordered, PySem.W.fnOf "_law_shape" "_law_shape" (defArgs s_law_shape) (defBody s_law_shape) (defScope s_law_shape) .none kV_law_shape dc_law_shape pm_law_shape an_law_shape cd_law_shape ct_law_shape, PySem.W.fnOf "_law_integer" "_law_integer" (defArgs s_law_integer) (defBody s_law_integer) (defScope s_law_integer) .none kV_law_integer dc_law_integer pm_law_integer an_law_integer cd_law_integer ct_law_integer, PySem.W.fnOf "_law_is" "_law_is" (defArgs s_law_is) (defBody s_law_is) (defScope s_law_is) .none kV_law_is dc_law_is pm_law_is an_law_is cd_law_is ct_law_is, PySem.W.fnOf "_law_text" "_law_text" (defArgs s_law_text) (defBody s_law_text) (defScope s_law_text) .none kV_law_text dc_law_text pm_law_text an_law_text cd_law_text ct_law_text, PySem.W.fnOf "_law_no_set" "_law_no_set" (defArgs s_law_no_set) (defBody s_law_no_set) (defScope s_law_no_set) .none kV_law_no_set dc_law_no_set pm_law_no_set an_law_no_set cd_law_no_set ct_law_no_set, PySem.W.fnOf "_law_right_set" "_law_right_set" (defArgs s_law_right_set) (defBody s_law_right_set) (defScope s_law_right_set) .none kV_law_right_set dc_law_right_set pm_law_right_set an_law_right_set cd_law_right_set ct_law_right_set, PySem.W.fnOf "_law_tops_made" "_law_tops_made" (defArgs s_law_tops_made) (defBody s_law_tops_made) (defScope s_law_tops_made) .none kV_law_tops_made dc_law_tops_made pm_law_tops_made an_law_tops_made cd_law_tops_made ct_law_tops_made, PySem.W.fnOf "_law_tops" "_law_tops" (defArgs s_law_tops) (defBody s_law_tops) (defScope s_law_tops) .none kV_law_tops dc_law_tops pm_law_tops an_law_tops cd_law_tops ct_law_tops, PySem.W.fnOf "_law_uniform" "_law_uniform" (defArgs s_law_uniform) (defBody s_law_uniform) (defScope s_law_uniform) .none kV_law_uniform dc_law_uniform pm_law_uniform an_law_uniform cd_law_uniform ct_law_uniform, PySem.W.fnOf "_law_class" "_law_class" (defArgs s_law_class) (defBody s_law_class) (defScope s_law_class) .none kV_law_class dc_law_class pm_law_class an_law_class cd_law_class ct_law_class, PySem.W.fnOf "_law_quotas" "_law_quotas" (defArgs s_law_quotas) (defBody s_law_quotas) (defScope s_law_quotas) .none kV_law_quotas dc_law_quotas pm_law_quotas an_law_quotas cd_law_quotas ct_law_quotas, PySem.W.fnOf "_law_all" "_law_all" (defArgs s_law_all) (defBody s_law_all) (defScope s_law_all) .none kV_law_all dc_law_all pm_law_all an_law_all cd_law_all ct_law_all, PySem.W.fnOf "law" "law" (defArgs s_law) (defBody s_law) (defScope s_law) .none kV_law dc_law pm_law an_law cd_law ct_law⟩ :=
  { mg_Frac := PySem.W.mg_of X G hC_Frac
    mg_Family := PySem.W.mg_of X G hC_Family
    mg_WrongSize := PySem.W.mg_of X G hC_WrongSize
    mg_InvalidFamily := PySem.W.mg_of X G hC_InvalidFamily
    mg_NotNested := PySem.W.mg_of X G hC_NotNested
    mg_NextError := PySem.W.mg_of X G hC_NextError
    cl_Frac := ⟨pg_Frac, hd_Frac, po_Frac, sa_Frac⟩
    na_Frac_num := na_Frac_num
    na_Frac_den := na_Frac_den
    cg_Frac := cg_Frac
    mr_Frac := mr_Frac
    cl_Family := ⟨pg_Family, hd_Family, po_Family, sa_Family⟩
    na_Family_sets := na_Family_sets
    na_Family_size := na_Family_size
    cg_Family := cg_Family
    mr_Family := mr_Family
    cget := cget
    ctk := ctk
    fn_InvalidFamily_init := fun_mk (st := s_InvalidFamily_init) l_InvalidFamily_init c_InvalidFamily_init k_InvalidFamily_init
    b_InvalidFamily_init := (fun_mk (st := s_InvalidFamily_init) l_InvalidFamily_init c_InvalidFamily_init k_InvalidFamily_init).binds (ps := ["self", "at"]) fun _ _ _ _ _ _ us hl => match us, hl with | [_, _], _ => rfl
    fn_NotNested_init := fun_mk (st := s_NotNested_init) l_NotNested_init c_NotNested_init k_NotNested_init
    b_NotNested_init := (fun_mk (st := s_NotNested_init) l_NotNested_init c_NotNested_init k_NotNested_init).binds (ps := ["self", "at"]) fun _ _ _ _ _ _ us hl => match us, hl with | [_, _], _ => rfl
    fn_WrongSize_init := fun_mk (st := s_WrongSize_init) l_WrongSize_init c_WrongSize_init k_WrongSize_init
    b_WrongSize_init := (fun_mk (st := s_WrongSize_init) l_WrongSize_init c_WrongSize_init k_WrongSize_init).binds (ps := ["self", "many"]) fun _ _ _ _ _ _ us hl => match us, hl with | [_, _], _ => rfl
    mg_parts_of := PySem.W.mg_of X G n_parts_of
    fn_parts_of := fun_mk (st := s_parts_of) l_parts_of c_parts_of k_parts_of
    b_parts_of := (fun_mk (st := s_parts_of) l_parts_of c_parts_of k_parts_of).binds (ps := ["things"]) fun _ _ _ _ _ _ us hl => match us, hl with | [_], _ => rfl
    mg_all_sets := PySem.W.mg_of X G n_all_sets
    fn_all_sets := fun_mk (st := s_all_sets) l_all_sets c_all_sets k_all_sets
    b_all_sets := (fun_mk (st := s_all_sets) l_all_sets c_all_sets k_all_sets).binds (ps := ["size"]) fun _ _ _ _ _ _ us hl => match us, hl with | [_], _ => rfl
    mg_is_part := PySem.W.mg_of X G n_is_part
    fn_is_part := fun_mk (st := s_is_part) l_is_part c_is_part k_is_part
    b_is_part := (fun_mk (st := s_is_part) l_is_part c_is_part k_is_part).binds (ps := ["part", "things"]) fun _ _ _ _ _ _ us hl => match us, hl with | [_, _], _ => rfl
    mg_touches := PySem.W.mg_of X G n_touches
    fn_touches := fun_mk (st := s_touches) l_touches c_touches k_touches
    b_touches := (fun_mk (st := s_touches) l_touches c_touches k_touches).binds (ps := ["one", "other"]) fun _ _ _ _ _ _ us hl => match us, hl with | [_, _], _ => rfl
    mg_rest_of := PySem.W.mg_of X G n_rest_of
    fn_rest_of := fun_mk (st := s_rest_of) l_rest_of c_rest_of k_rest_of
    b_rest_of := (fun_mk (st := s_rest_of) l_rest_of c_rest_of k_rest_of).binds (ps := ["things", "out"]) fun _ _ _ _ _ _ us hl => match us, hl with | [_, _], _ => rfl
    mg_smaller_by_one := PySem.W.mg_of X G n_smaller_by_one
    fn_smaller_by_one := fun_mk (st := s_smaller_by_one) l_smaller_by_one c_smaller_by_one k_smaller_by_one
    b_smaller_by_one := (fun_mk (st := s_smaller_by_one) l_smaller_by_one c_smaller_by_one k_smaller_by_one).binds (ps := ["things"]) fun _ _ _ _ _ _ us hl => match us, hl with | [_], _ => rfl
    mg_is_whole := PySem.W.mg_of X G n_is_whole
    fn_is_whole := fun_mk (st := s_is_whole) l_is_whole c_is_whole k_is_whole
    b_is_whole := (fun_mk (st := s_is_whole) l_is_whole c_is_whole k_is_whole).binds (ps := ["value"]) fun _ _ _ _ _ _ us hl => match us, hl with | [_], _ => rfl
    mg_is_within := PySem.W.mg_of X G n_is_within
    fn_is_within := fun_mk (st := s_is_within) l_is_within c_is_within k_is_within
    b_is_within := (fun_mk (st := s_is_within) l_is_within c_is_within k_is_within).binds (ps := ["value", "least", "most"]) fun _ _ _ _ _ _ us hl => match us, hl with | [_, _, _], _ => rfl
    mg_is_ascending := PySem.W.mg_of X G n_is_ascending
    fn_is_ascending := fun_mk (st := s_is_ascending) l_is_ascending c_is_ascending k_is_ascending
    b_is_ascending := (fun_mk (st := s_is_ascending) l_is_ascending c_is_ascending k_is_ascending).binds (ps := ["value", "size"]) fun _ _ _ _ _ _ us hl => match us, hl with | [_, _], _ => rfl
    mg_clean_sets := PySem.W.mg_of X G n_clean_sets
    fn_clean_sets := fun_mk (st := s_clean_sets) l_clean_sets c_clean_sets k_clean_sets
    b_clean_sets := (fun_mk (st := s_clean_sets) l_clean_sets c_clean_sets k_clean_sets).binds (ps := ["size", "sets"]) fun _ _ _ _ _ _ us hl => match us, hl with | [_, _], _ => rfl
    mg_closed_sets := PySem.W.mg_of X G n_closed_sets
    fn_closed_sets := fun_mk (st := s_closed_sets) l_closed_sets c_closed_sets k_closed_sets
    b_closed_sets := (fun_mk (st := s_closed_sets) l_closed_sets c_closed_sets k_closed_sets).binds (ps := ["size", "sets"]) fun _ _ _ _ _ _ us hl => match us, hl with | [_, _], _ => rfl
    fn_Family_init := fun_mk (st := s_Family_init) l_Family_init c_Family_init k_Family_init
    b_Family_init := (fun_mk (st := s_Family_init) l_Family_init c_Family_init k_Family_init).binds (ps := ["self", "size", "sets"]) fun _ _ _ _ _ _ us hl => match us, hl with | [_, _, _], _ => rfl
    mt_Family_init := ⟨f_Family_init, i_Family_init, k_Family_init⟩
    mg_family_of := PySem.W.mg_of X G n_family_of
    fn_family_of := fun_mk (st := s_family_of) l_family_of c_family_of k_family_of
    b_family_of := (fun_mk (st := s_family_of) l_family_of c_family_of k_family_of).binds (ps := ["size", "fits"]) fun _ _ _ _ _ _ us hl => match us, hl with | [_, _], _ => rfl
    mg_from_tops := PySem.W.mg_of X G n_from_tops
    fn_from_tops := fun_mk (st := s_from_tops) l_from_tops c_from_tops k_from_tops
    b_from_tops := (fun_mk (st := s_from_tops) l_from_tops c_from_tops k_from_tops).binds (ps := ["size", "tops"]) fun _ _ _ _ _ _ us hl => match us, hl with | [_, _], _ => rfl
    mg_uniform := PySem.W.mg_of X G n_uniform
    fn_uniform := fun_mk (st := s_uniform) l_uniform c_uniform k_uniform
    b_uniform := (fun_mk (st := s_uniform) l_uniform c_uniform k_uniform).binds (ps := ["size", "most"]) fun _ _ _ _ _ _ us hl => match us, hl with | [_, _], _ => rfl
    mg_quotas := PySem.W.mg_of X G n_quotas
    fn_quotas := fun_mk (st := s_quotas) l_quotas c_quotas k_quotas
    b_quotas := (fun_mk (st := s_quotas) l_quotas c_quotas k_quotas).binds (ps := ["size", "classes"]) fun _ _ _ _ _ _ us hl => match us, hl with | [_, _], _ => rfl
    mg_is_nested := PySem.W.mg_of X G n_is_nested
    fn_is_nested := fun_mk (st := s_is_nested) l_is_nested c_is_nested k_is_nested
    b_is_nested := (fun_mk (st := s_is_nested) l_is_nested c_is_nested k_is_nested).binds (ps := ["one", "other"]) fun _ _ _ _ _ _ us hl => match us, hl with | [_, _], _ => rfl
    mg_many_of := PySem.W.mg_of X G n_many_of
    fn_many_of := fun_mk (st := s_many_of) l_many_of c_many_of k_many_of
    b_many_of := (fun_mk (st := s_many_of) l_many_of c_many_of k_many_of).binds (ps := ["held", "things"]) fun _ _ _ _ _ _ us hl => match us, hl with | [_, _], _ => rfl
    fn_Frac_init := ⟨⟨_, _, _, _, _, _, _, _, _, _, rfl, l_Frac_init, c_Frac_init, .inr ⟨by simp, T_Frac_init, _, _, _, rfl, t_Frac_init, u_Frac_init, .cons ⟨_, rfl⟩ (.nil)⟩, .inl rfl⟩, k_Frac_init⟩
    mt_Frac_init := ⟨f_Frac_init, i_Frac_init, k_Frac_init⟩
    mg_law_box := PySem.W.mg_of X G n_law_box
    fn_law_box := fun_mk (st := s_law_box) l_law_box c_law_box k_law_box
    b_law_box := (fun_mk (st := s_law_box) l_law_box c_law_box k_law_box).binds (ps := ["script"]) fun _ _ _ _ _ _ us hl => match us, hl with | [_], _ => rfl
    mg_law_draw := PySem.W.mg_of X G n_law_draw
    fn_law_draw := fun_mk (st := s_law_draw) l_law_draw c_law_draw k_law_draw
    b_law_draw := (fun_mk (st := s_law_draw) l_law_draw c_law_draw k_law_draw).binds (ps := ["box", "limit"]) fun _ _ _ _ _ _ us hl => match us, hl with | [_, _], _ => rfl
    mg_law_things := PySem.W.mg_of X G n_law_things
    fn_law_things := fun_mk (st := s_law_things) l_law_things c_law_things k_law_things
    b_law_things := (fun_mk (st := s_law_things) l_law_things c_law_things k_law_things).binds (ps := ["mask"]) fun _ _ _ _ _ _ us hl => match us, hl with | [_], _ => rfl
    mg_law_ordered := PySem.W.mg_of X G n_law_ordered
    fn_law_ordered := fun_mk (st := s_law_ordered) l_law_ordered c_law_ordered k_law_ordered
    b_law_ordered := (fun_mk (st := s_law_ordered) l_law_ordered c_law_ordered k_law_ordered).binds (ps := ["inside"]) fun _ _ _ _ _ _ us hl => match us, hl with | [_], _ => rfl
    mg_law_shape := PySem.W.mg_of X G n_law_shape
    fn_law_shape := fun_mk (st := s_law_shape) l_law_shape c_law_shape k_law_shape
    b_law_shape := (fun_mk (st := s_law_shape) l_law_shape c_law_shape k_law_shape).binds (ps := ["box", "parts"]) fun _ _ _ _ _ _ us hl => match us, hl with | [_, _], _ => rfl
    mg_law_integer := PySem.W.mg_of X G n_law_integer
    fn_law_integer := fun_mk (st := s_law_integer) l_law_integer c_law_integer k_law_integer
    b_law_integer := (fun_mk (st := s_law_integer) l_law_integer c_law_integer k_law_integer).binds (ps := ["value"]) fun _ _ _ _ _ _ us hl => match us, hl with | [_], _ => rfl
    mg_law_is := PySem.W.mg_of X G n_law_is
    fn_law_is := fun_mk (st := s_law_is) l_law_is c_law_is k_law_is
    b_law_is := (fun_mk (st := s_law_is) l_law_is c_law_is k_law_is).binds (ps := ["family", "size", "inside"]) fun _ _ _ _ _ _ us hl => match us, hl with | [_, _, _], _ => rfl
    mg_law_text := PySem.W.mg_of X G n_law_text
    fn_law_text := fun_mk (st := s_law_text) l_law_text c_law_text k_law_text
    b_law_text := (fun_mk (st := s_law_text) l_law_text c_law_text k_law_text).binds (ps := ["value"]) fun _ _ _ _ _ _ us hl => match us, hl with | [_], _ => rfl
    mg_law_no_set := PySem.W.mg_of X G n_law_no_set
    fn_law_no_set := fun_mk (st := s_law_no_set) l_law_no_set c_law_no_set k_law_no_set
    b_law_no_set := (fun_mk (st := s_law_no_set) l_law_no_set c_law_no_set k_law_no_set).binds (ps := ["box", "size"]) fun _ _ _ _ _ _ us hl => match us, hl with | [_, _], _ => rfl
    mg_law_right_set := PySem.W.mg_of X G n_law_right_set
    fn_law_right_set := fun_mk (st := s_law_right_set) l_law_right_set c_law_right_set k_law_right_set
    b_law_right_set := (fun_mk (st := s_law_right_set) l_law_right_set c_law_right_set k_law_right_set).binds (ps := ["value", "size"]) fun _ _ _ _ _ _ us hl => match us, hl with | [_, _], _ => rfl
    mg_law_tops_made := PySem.W.mg_of X G n_law_tops_made
    fn_law_tops_made := fun_mk (st := s_law_tops_made) l_law_tops_made c_law_tops_made k_law_tops_made
    b_law_tops_made := (fun_mk (st := s_law_tops_made) l_law_tops_made c_law_tops_made k_law_tops_made).binds (ps := ["size", "tops"]) fun _ _ _ _ _ _ us hl => match us, hl with | [_, _], _ => rfl
    mg_law_tops := PySem.W.mg_of X G n_law_tops
    fn_law_tops := fun_mk (st := s_law_tops) l_law_tops c_law_tops k_law_tops
    b_law_tops := (fun_mk (st := s_law_tops) l_law_tops c_law_tops k_law_tops).binds (ps := ["box", "size"]) fun _ _ _ _ _ _ us hl => match us, hl with | [_, _], _ => rfl
    mg_law_uniform := PySem.W.mg_of X G n_law_uniform
    fn_law_uniform := fun_mk (st := s_law_uniform) l_law_uniform c_law_uniform k_law_uniform
    b_law_uniform := (fun_mk (st := s_law_uniform) l_law_uniform c_law_uniform k_law_uniform).binds (ps := ["box", "size"]) fun _ _ _ _ _ _ us hl => match us, hl with | [_, _], _ => rfl
    mg_law_class := PySem.W.mg_of X G n_law_class
    fn_law_class := fun_mk (st := s_law_class) l_law_class c_law_class k_law_class
    b_law_class := (fun_mk (st := s_law_class) l_law_class c_law_class k_law_class).binds (ps := ["box", "size", "masks"]) fun _ _ _ _ _ _ us hl => match us, hl with | [_, _, _], _ => rfl
    mg_law_quotas := PySem.W.mg_of X G n_law_quotas
    fn_law_quotas := fun_mk (st := s_law_quotas) l_law_quotas c_law_quotas k_law_quotas
    b_law_quotas := (fun_mk (st := s_law_quotas) l_law_quotas c_law_quotas k_law_quotas).binds (ps := ["box", "size"]) fun _ _ _ _ _ _ us hl => match us, hl with | [_, _], _ => rfl
    mg_law_all := PySem.W.mg_of X G n_law_all
    fn_law_all := fun_mk (st := s_law_all) l_law_all c_law_all k_law_all
    b_law_all := (fun_mk (st := s_law_all) l_law_all c_law_all k_law_all).binds (ps := ["script"]) fun _ _ _ _ _ _ us hl => match us, hl with | [_], _ => rfl
    mg_law := PySem.W.mg_of X G n_law
    fn_law := fun_mk (st := s_law) l_law c_law k_law
    b_law := (fun_mk (st := s_law) l_law c_law k_law).binds (ps := ["script"]) fun _ _ _ _ _ _ us hl => match us, hl with | [_], _ => rfl
    cd_from_tops := rfl
    cl_from_tops := ⟨_, _, _, _, cl_from_tops, cp_from_tops⟩
    ch_from_tops := ch_from_tops
    cn_from_tops := cn_from_tops
    cd_uniform := rfl
    cl_uniform := ⟨_, _, _, _, cl_uniform, cp_uniform⟩
    ch_uniform := ch_uniform
    cn_uniform := cn_uniform
    cd_quotas := rfl
    cl_quotas := ⟨_, _, _, _, cl_quotas, cp_quotas⟩
    ch_quotas := ch_quotas
    cn_quotas := cn_quotas
    tn_from_tops_uniform := tn_from_tops_uniform
    tn_from_tops_quotas := tn_from_tops_quotas
    tn_uniform_quotas := tn_uniform_quotas
    mk_Frac := ⟨mk_Frac, f_Frac_init, i_Frac_init, kc_Frac⟩
    mk_Family := ⟨mk_Family, f_Family_init, i_Family_init, kc_Family⟩
    ex_WrongSize := ⟨⟨_, _, _, _, _, _, _, _, _, _, _, _, _, _, _, x_WrongSize, rfl⟩, sa_WrongSize, ex_WrongSize, ty_WrongSize, kc_WrongSize⟩
    xf_WrongSize := ⟨ga_WrongSize, gg_WrongSize, ex_WrongSize, hd_WrongSize⟩
    xm_WrongSize := exm_self ex_WrongSize is_WrongSize ty_WrongSize ss_WrongSize
    na_WrongSize_many := na_WrongSize_many
    xi_WrongSize := f_WrongSize_init
    ti_WrongSize := ti_WrongSize
    ex_InvalidFamily := ⟨⟨_, _, _, _, _, _, _, _, _, _, _, _, _, _, _, x_InvalidFamily, rfl⟩, sa_InvalidFamily, ex_InvalidFamily, ty_InvalidFamily, kc_InvalidFamily⟩
    xf_InvalidFamily := ⟨ga_InvalidFamily, gg_InvalidFamily, ex_InvalidFamily, hd_InvalidFamily⟩
    xm_InvalidFamily := exm_self ex_InvalidFamily is_InvalidFamily ty_InvalidFamily ss_InvalidFamily
    na_InvalidFamily_at := na_InvalidFamily_at
    xi_InvalidFamily := f_InvalidFamily_init
    ti_InvalidFamily := ti_InvalidFamily
    ex_NotNested := ⟨⟨_, _, _, _, _, _, _, _, _, _, _, _, _, _, _, x_NotNested, rfl⟩, sa_NotNested, ex_NotNested, ty_NotNested, kc_NotNested⟩
    xf_NotNested := ⟨ga_NotNested, gg_NotNested, ex_NotNested, hd_NotNested⟩
    xm_NotNested := exm_self ex_NotNested is_NotNested ty_NotNested ss_NotNested
    na_NotNested_at := na_NotNested_at
    xi_NotNested := f_NotNested_init
    ti_NotNested := ti_NotNested
    xm_InvalidFamily_WrongSize := exm_of ex_WrongSize is_WrongSize ty_WrongSize sx_InvalidFamily_WrongSize
    no_isinstance := PySem.W.mg_none_of X G z_isinstance
    no_int := PySem.W.mg_none_of X G z_int
    no_bool := PySem.W.mg_none_of X G z_bool
    no_range := PySem.W.mg_none_of X G z_range
    no_len := PySem.W.mg_none_of X G z_len
    no_abs := PySem.W.mg_none_of X G z_abs
    no_str := PySem.W.mg_none_of X G z_str
    no_max := PySem.W.mg_none_of X G z_max
    no_list := PySem.W.mg_none_of X G z_list
    no_tuple := PySem.W.mg_none_of X G z_tuple
    no_enumerate := PySem.W.mg_none_of X G z_enumerate
    no_any := PySem.W.mg_none_of X G z_any
    no_all := PySem.W.mg_none_of X G z_all
    no_sum := PySem.W.mg_none_of X G z_sum
    no_sorted := PySem.W.mg_none_of X G z_sorted
    no_set := PySem.W.mg_none_of X G z_set
    mg_MOST_THINGS := ⟨_, PySem.W.mg_of X G v_MOST_THINGS⟩
    mg_combinations := PySem.W.mg_of X G v_combinations
    mg_gcd := PySem.W.mg_of X G v_gcd
    kit_F_F := kit_self
    kit_F_int := kit_bi sb_F_int (by decide +kernel)
    kit_F_list := kit_bi sb_F_list (by decide +kernel)
    kit_F_tuple := kit_bi sb_F_tuple (by decide +kernel)
    kit_F_str := kit_bi sb_F_str (by decide +kernel)
    kit_none_F := kit_own is_Frac ty_Frac sb_none_F
    kit_bool_F := kit_own is_Frac ty_Frac sb_bool_F
    kit_int_F := kit_own is_Frac ty_Frac sb_int_F
    kit_str_F := kit_own is_Frac ty_Frac sb_str_F
    kit_list_F := kit_own is_Frac ty_Frac sb_list_F
    kit_tuple_F := kit_own is_Frac ty_Frac sb_tuple_F }
end K21
namespace K21
open PySem PySem.Spec PyProof.Rows L2
open LamX in
theorem all_mk {l : PySem.W.OpenLaw} {w : World} {K : PySem.W.Frag} {mg : Str → Option Value} {h : Heap} {fa : Addr} {a : Ad} (T : Txt K mg a) (X : K.In h) (hfa : mg "law" = some (.ref fa)) (hd : ∀ (s : Shared) (v : Value), BindsTo s a.d_law ⟨[v], []⟩ [("script", v)])
    (own_from_tops : h.get? a.tb_from_tops = some { cls := .none, data := .fields #[] }) (own_uniform : h.get? a.tb_uniform = some { cls := .none, data := .fields #[] }) (own_quotas : h.get? a.tb_quotas = some { cls := .none, data := .fields #[] }) : LawAtS l w K CX0 15 63 "script" mg fa h := by
  have e := hfa.symm.trans T.mg_law
  cases e
  refine ⟨a.d_law, [(a.co_from_tops, a.tb_from_tops), (a.co_uniform, a.tb_uniform), (a.co_quotas, a.tb_quotas)], spLaw K a.tb_from_tops a.tb_uniform a.tb_quotas, ?_, ?_, ?_, hd, ?_, ?_⟩
  · intro p hp
    simp only [List.mem_cons, List.not_mem_nil, or_false] at hp
    rcases hp with rfl | rfl | rfl
    · exact own_from_tops
    · exact own_uniform
    · exact own_quotas
  · intro p hp
    simp only [List.mem_cons, List.not_mem_nil, or_false] at hp
    rcases hp with rfl | rfl | rfl
    · exact T.cn_from_tops
    · exact T.cn_uniform
    · exact T.cn_quotas
  · intro p hp
    simp only [List.mem_cons, List.not_mem_nil, or_false] at hp
    rcases hp with rfl | rfl | rfl
    · exact PySem.W.codeHd_of_K X T.ch_from_tops
    · exact PySem.W.codeHd_of_K X T.ch_uniform
    · exact PySem.W.codeHd_of_K X T.ch_quotas
  · intro H b ns hl _ hT hS
    exact ⟨b, ns, rfl, hS, hl, TabS.nil (hT (a.co_from_tops, a.tb_from_tops) (by simp)), TabS.nil (hT (a.co_uniform, a.tb_uniform) (by simp)), TabS.nil (hT (a.co_quotas, a.tb_quotas) (by simp)), fun _ => rfl⟩
  · intro base _ _ hB
    exact ok_law T (hB (a.co_from_tops, a.tb_from_tops) (by simp)) (hB (a.co_uniform, a.tb_uniform) (by simp)) (hB (a.co_quotas, a.tb_quotas) (by simp))
open LamX in
theorem walk {l : PySem.W.OpenLaw} {q : Program} {loose : List Str} {XP : (Str → Option Value) → Heap → Prop} {YP : World → Heap → Prop} {d : DefRec} {K : Params → PySem.W.Frag} (hn : l.most = some 63) (hdf : d.params.defaults = [])
    (hY : ∀ (w : World) (h : Heap), YP w h → (K w.params).In h)
    (F : ∀ (w : World) (mg : Str → Option Value) (fa : Addr) (h : Heap), YP w h → (K w.params).In h → h.Ns mainGlobals mg → mg d.name = some (.ref fa) → LawAtS l w (K w.params) CX0 15 63 "script" mg fa h) :
    PySem.W.WalkO q loose XP YP l.row.toRowW d [] (fun f vs => PySem.call f vs) :=
  walk_ofTs (CX := fun _ => CX0) hn (by decide) hdf ⟨rfl, by decide, by decide⟩ hY F fun _ _ _ _ _ z => z
end K21
open PySem PySem.W PyProof.Rows
set_option maxRecDepth 100000 in
set_option maxHeartbeats 0 in
theorem PySem.Challenge.cw_greatestnext_k21_tops_uniform_quotas_holds : PySem.Challenge.rw_greatestnext_k21_tops_uniform_quotas.Holds := by
  w_on; o_law; k_head; (case hw => w_witness2)
  k_fill
  refine K21.walk (l := PySem.Challenge.rw_greatestnext_k21_tops_uniform_quotas) rfl rfl (fun w h Y => PySem.W.km_in_of Y) ?F
  case F =>
    intro w mg fa h Y KX G hmg
    refine' K21.all_mk (K21.txt_mk KX G ?hC_Frac ?hC_Family ?hC_WrongSize ?hC_InvalidFamily ?hC_NotNested ?hC_NextError ?pg_Frac ?hd_Frac ?po_Frac ?sa_Frac ?mk_Frac ?kc_Frac ?na_Frac_num ?na_Frac_den ?cg_Frac ?mr_Frac ?pg_Family ?hd_Family ?po_Family ?sa_Family ?mk_Family ?kc_Family ?na_Family_sets ?na_Family_size ?cg_Family ?mr_Family ?cget ?ctk ?f_InvalidFamily_init ?l_InvalidFamily_init ?c_InvalidFamily_init ?k_InvalidFamily_init ?f_NotNested_init ?l_NotNested_init ?c_NotNested_init ?k_NotNested_init ?f_WrongSize_init ?l_WrongSize_init ?c_WrongSize_init ?k_WrongSize_init ?n_parts_of ?l_parts_of ?c_parts_of ?k_parts_of ?n_all_sets ?l_all_sets ?c_all_sets ?k_all_sets ?n_is_part ?l_is_part ?c_is_part ?k_is_part ?n_touches ?l_touches ?c_touches ?k_touches ?n_rest_of ?l_rest_of ?c_rest_of ?k_rest_of ?n_smaller_by_one ?l_smaller_by_one ?c_smaller_by_one ?k_smaller_by_one ?n_is_whole ?l_is_whole ?c_is_whole ?k_is_whole ?n_is_within ?l_is_within ?c_is_within ?k_is_within ?n_is_ascending ?l_is_ascending ?c_is_ascending ?k_is_ascending ?n_clean_sets ?l_clean_sets ?c_clean_sets ?k_clean_sets ?n_closed_sets ?l_closed_sets ?c_closed_sets ?k_closed_sets ?f_Family_init ?i_Family_init ?l_Family_init ?c_Family_init ?k_Family_init ?n_family_of ?l_family_of ?c_family_of ?k_family_of ?n_from_tops ?l_from_tops ?c_from_tops ?k_from_tops ?n_uniform ?l_uniform ?c_uniform ?k_uniform ?n_quotas ?l_quotas ?c_quotas ?k_quotas ?n_is_nested ?l_is_nested ?c_is_nested ?k_is_nested ?n_many_of ?l_many_of ?c_many_of ?k_many_of ?f_Frac_init ?i_Frac_init ?l_Frac_init ?c_Frac_init ?k_Frac_init ?t_Frac_init ?u_Frac_init ?n_law_box ?l_law_box ?c_law_box ?k_law_box ?n_law_draw ?l_law_draw ?c_law_draw ?k_law_draw ?n_law_things ?l_law_things ?c_law_things ?k_law_things ?n_law_ordered ?l_law_ordered ?c_law_ordered ?k_law_ordered ?n_law_shape ?l_law_shape ?c_law_shape ?k_law_shape ?n_law_integer ?l_law_integer ?c_law_integer ?k_law_integer ?n_law_is ?l_law_is ?c_law_is ?k_law_is ?n_law_text ?l_law_text ?c_law_text ?k_law_text ?n_law_no_set ?l_law_no_set ?c_law_no_set ?k_law_no_set ?n_law_right_set ?l_law_right_set ?c_law_right_set ?k_law_right_set ?n_law_tops_made ?l_law_tops_made ?c_law_tops_made ?k_law_tops_made ?n_law_tops ?l_law_tops ?c_law_tops ?k_law_tops ?n_law_uniform ?l_law_uniform ?c_law_uniform ?k_law_uniform ?n_law_class ?l_law_class ?c_law_class ?k_law_class ?n_law_quotas ?l_law_quotas ?c_law_quotas ?k_law_quotas ?n_law_all ?l_law_all ?c_law_all ?k_law_all ?n_law ?l_law ?c_law ?k_law ?cl_from_tops ?cp_from_tops ?ch_from_tops ?cn_from_tops ?cl_uniform ?cp_uniform ?ch_uniform ?cn_uniform ?cl_quotas ?cp_quotas ?ch_quotas ?cn_quotas ?tn_from_tops_uniform ?tn_from_tops_quotas ?tn_uniform_quotas ?x_WrongSize ?sa_WrongSize ?ex_WrongSize ?ty_WrongSize ?kc_WrongSize ?ga_WrongSize ?gg_WrongSize ?hd_WrongSize ?is_WrongSize ?ss_WrongSize ?na_WrongSize_many ?ti_WrongSize ?x_InvalidFamily ?sa_InvalidFamily ?ex_InvalidFamily ?ty_InvalidFamily ?kc_InvalidFamily ?ga_InvalidFamily ?gg_InvalidFamily ?hd_InvalidFamily ?is_InvalidFamily ?ss_InvalidFamily ?na_InvalidFamily_at ?ti_InvalidFamily ?x_NotNested ?sa_NotNested ?ex_NotNested ?ty_NotNested ?kc_NotNested ?ga_NotNested ?gg_NotNested ?hd_NotNested ?is_NotNested ?ss_NotNested ?na_NotNested_at ?ti_NotNested ?sx_InvalidFamily_WrongSize ?z_isinstance ?z_int ?z_bool ?z_range ?z_len ?z_abs ?z_str ?z_max ?z_list ?z_tuple ?z_enumerate ?z_any ?z_all ?z_sum ?z_sorted ?z_set ?v_MOST_THINGS ?v_combinations ?v_gcd ?is_Frac ?ty_Frac ?is_Family ?ty_Family ?sb_F_int ?sb_F_list ?sb_F_tuple ?sb_F_str ?sb_none_F ?sb_bool_F ?sb_int_F ?sb_str_F ?sb_list_F ?sb_tuple_F) KX hmg (fun s v => .of_eq rfl) ?own_from_tops ?own_uniform ?own_quotas
    (case hC_Frac => k_is)
    (case hC_Family => k_is)
    (case hC_WrongSize => k_is)
    (case hC_InvalidFamily => k_is)
    (case hC_NotNested => k_is)
    (case hC_NextError => k_is)
    (case pg_Frac => k_is)
    (case hd_Frac => k_is)
    (case po_Frac => k_is)
    (case sa_Frac => k_is)
    (case mk_Frac => k_is)
    (case kc_Frac => k_is)
    (case na_Frac_num => k_is)
    (case na_Frac_den => k_is)
    (case cg_Frac => k_is)
    (case mr_Frac => k_is)
    (case pg_Family => k_is)
    (case hd_Family => k_is)
    (case po_Family => k_is)
    (case sa_Family => k_is)
    (case mk_Family => k_is)
    (case kc_Family => k_is)
    (case na_Family_sets => k_is)
    (case na_Family_size => k_is)
    (case cg_Family => k_is)
    (case mr_Family => k_is)
    (case cget => k_is)
    (case ctk => k_is)
    (case f_InvalidFamily_init => k_is)
    (case l_InvalidFamily_init => k_is)
    (case c_InvalidFamily_init => k_is)
    (case k_InvalidFamily_init => k_is)
    (case f_NotNested_init => k_is)
    (case l_NotNested_init => k_is)
    (case c_NotNested_init => k_is)
    (case k_NotNested_init => k_is)
    (case f_WrongSize_init => k_is)
    (case l_WrongSize_init => k_is)
    (case c_WrongSize_init => k_is)
    (case k_WrongSize_init => k_is)
    (case n_parts_of => k_is)
    (case l_parts_of => k_is)
    (case c_parts_of => k_is)
    (case k_parts_of => k_is)
    (case n_all_sets => k_is)
    (case l_all_sets => k_is)
    (case c_all_sets => k_is)
    (case k_all_sets => k_is)
    (case n_is_part => k_is)
    (case l_is_part => k_is)
    (case c_is_part => k_is)
    (case k_is_part => k_is)
    (case n_touches => k_is)
    (case l_touches => k_is)
    (case c_touches => k_is)
    (case k_touches => k_is)
    (case n_rest_of => k_is)
    (case l_rest_of => k_is)
    (case c_rest_of => k_is)
    (case k_rest_of => k_is)
    (case n_smaller_by_one => k_is)
    (case l_smaller_by_one => k_is)
    (case c_smaller_by_one => k_is)
    (case k_smaller_by_one => k_is)
    (case n_is_whole => k_is)
    (case l_is_whole => k_is)
    (case c_is_whole => k_is)
    (case k_is_whole => k_is)
    (case n_is_within => k_is)
    (case l_is_within => k_is)
    (case c_is_within => k_is)
    (case k_is_within => k_is)
    (case n_is_ascending => k_is)
    (case l_is_ascending => k_is)
    (case c_is_ascending => k_is)
    (case k_is_ascending => k_is)
    (case n_clean_sets => k_is)
    (case l_clean_sets => k_is)
    (case c_clean_sets => k_is)
    (case k_clean_sets => k_is)
    (case n_closed_sets => k_is)
    (case l_closed_sets => k_is)
    (case c_closed_sets => k_is)
    (case k_closed_sets => k_is)
    (case f_Family_init => k_is)
    (case i_Family_init => k_is)
    (case l_Family_init => k_is)
    (case c_Family_init => k_is)
    (case k_Family_init => k_is)
    (case n_family_of => k_is)
    (case l_family_of => k_is)
    (case c_family_of => k_is)
    (case k_family_of => k_is)
    (case n_from_tops => k_is)
    (case l_from_tops => k_is)
    (case c_from_tops => k_is)
    (case k_from_tops => k_is)
    (case n_uniform => k_is)
    (case l_uniform => k_is)
    (case c_uniform => k_is)
    (case k_uniform => k_is)
    (case n_quotas => k_is)
    (case l_quotas => k_is)
    (case c_quotas => k_is)
    (case k_quotas => k_is)
    (case n_is_nested => k_is)
    (case l_is_nested => k_is)
    (case c_is_nested => k_is)
    (case k_is_nested => k_is)
    (case n_many_of => k_is)
    (case l_many_of => k_is)
    (case c_many_of => k_is)
    (case k_many_of => k_is)
    (case f_Frac_init => k_is)
    (case i_Frac_init => k_is)
    (case l_Frac_init => k_is)
    (case c_Frac_init => k_is)
    (case k_Frac_init => k_is)
    (case t_Frac_init => k_is)
    (case u_Frac_init => first | rfl | k_is)
    (case n_law_box => k_is)
    (case l_law_box => k_is)
    (case c_law_box => k_is)
    (case k_law_box => k_is)
    (case n_law_draw => k_is)
    (case l_law_draw => k_is)
    (case c_law_draw => k_is)
    (case k_law_draw => k_is)
    (case n_law_things => k_is)
    (case l_law_things => k_is)
    (case c_law_things => k_is)
    (case k_law_things => k_is)
    (case n_law_ordered => k_is)
    (case l_law_ordered => k_is)
    (case c_law_ordered => k_is)
    (case k_law_ordered => k_is)
    (case n_law_shape => k_is)
    (case l_law_shape => k_is)
    (case c_law_shape => k_is)
    (case k_law_shape => k_is)
    (case n_law_integer => k_is)
    (case l_law_integer => k_is)
    (case c_law_integer => k_is)
    (case k_law_integer => k_is)
    (case n_law_is => k_is)
    (case l_law_is => k_is)
    (case c_law_is => k_is)
    (case k_law_is => k_is)
    (case n_law_text => k_is)
    (case l_law_text => k_is)
    (case c_law_text => k_is)
    (case k_law_text => k_is)
    (case n_law_no_set => k_is)
    (case l_law_no_set => k_is)
    (case c_law_no_set => k_is)
    (case k_law_no_set => k_is)
    (case n_law_right_set => k_is)
    (case l_law_right_set => k_is)
    (case c_law_right_set => k_is)
    (case k_law_right_set => k_is)
    (case n_law_tops_made => k_is)
    (case l_law_tops_made => k_is)
    (case c_law_tops_made => k_is)
    (case k_law_tops_made => k_is)
    (case n_law_tops => k_is)
    (case l_law_tops => k_is)
    (case c_law_tops => k_is)
    (case k_law_tops => k_is)
    (case n_law_uniform => k_is)
    (case l_law_uniform => k_is)
    (case c_law_uniform => k_is)
    (case k_law_uniform => k_is)
    (case n_law_class => k_is)
    (case l_law_class => k_is)
    (case c_law_class => k_is)
    (case k_law_class => k_is)
    (case n_law_quotas => k_is)
    (case l_law_quotas => k_is)
    (case c_law_quotas => k_is)
    (case k_law_quotas => k_is)
    (case n_law_all => k_is)
    (case l_law_all => k_is)
    (case c_law_all => k_is)
    (case k_law_all => k_is)
    (case n_law => k_is)
    (case l_law => k_is)
    (case c_law => k_is)
    (case k_law => k_is)
    (case cl_from_tops => k_is)
    (case cp_from_tops => first | rfl | kernel_rfl | k_is)
    (case ch_from_tops => first | kernel_rfl | rfl | decide +kernel)
    (case cn_from_tops => first | kernel_rfl | rfl | k_is)
    (case cl_uniform => k_is)
    (case cp_uniform => first | rfl | kernel_rfl | k_is)
    (case ch_uniform => first | kernel_rfl | rfl | decide +kernel)
    (case cn_uniform => first | kernel_rfl | rfl | k_is)
    (case cl_quotas => k_is)
    (case cp_quotas => first | rfl | kernel_rfl | k_is)
    (case ch_quotas => first | kernel_rfl | rfl | decide +kernel)
    (case cn_quotas => first | kernel_rfl | rfl | k_is)
    (case tn_from_tops_uniform => decide)
    (case tn_from_tops_quotas => decide)
    (case tn_uniform_quotas => decide)
    (case x_WrongSize => k_is)
    (case sa_WrongSize => k_is)
    (case ex_WrongSize => k_is)
    (case ty_WrongSize => k_is)
    (case kc_WrongSize => k_is)
    (case ga_WrongSize => k_is)
    (case gg_WrongSize => k_is)
    (case hd_WrongSize => k_is)
    (case is_WrongSize => k_is)
    (case ss_WrongSize => first | rfl | k_is)
    (case na_WrongSize_many => k_is)
    (case ti_WrongSize => k_is)
    (case x_InvalidFamily => k_is)
    (case sa_InvalidFamily => k_is)
    (case ex_InvalidFamily => k_is)
    (case ty_InvalidFamily => k_is)
    (case kc_InvalidFamily => k_is)
    (case ga_InvalidFamily => k_is)
    (case gg_InvalidFamily => k_is)
    (case hd_InvalidFamily => k_is)
    (case is_InvalidFamily => k_is)
    (case ss_InvalidFamily => first | rfl | k_is)
    (case na_InvalidFamily_at => k_is)
    (case ti_InvalidFamily => k_is)
    (case x_NotNested => k_is)
    (case sa_NotNested => k_is)
    (case ex_NotNested => k_is)
    (case ty_NotNested => k_is)
    (case kc_NotNested => k_is)
    (case ga_NotNested => k_is)
    (case gg_NotNested => k_is)
    (case hd_NotNested => k_is)
    (case is_NotNested => k_is)
    (case ss_NotNested => first | rfl | k_is)
    (case na_NotNested_at => k_is)
    (case ti_NotNested => k_is)
    (case sx_InvalidFamily_WrongSize => first | rfl | k_is)
    (case z_isinstance => k_is)
    (case z_int => k_is)
    (case z_bool => k_is)
    (case z_range => k_is)
    (case z_len => k_is)
    (case z_abs => k_is)
    (case z_str => k_is)
    (case z_max => k_is)
    (case z_list => k_is)
    (case z_tuple => k_is)
    (case z_enumerate => k_is)
    (case z_any => k_is)
    (case z_all => k_is)
    (case z_sum => k_is)
    (case z_sorted => k_is)
    (case z_set => k_is)
    (case v_MOST_THINGS => k_is)
    (case v_combinations => k_is)
    (case v_gcd => k_is)
    (case is_Frac => k_is)
    (case ty_Frac => k_is)
    (case is_Family => k_is)
    (case ty_Family => k_is)
    (case sb_F_int => k_is)
    (case sb_F_list => k_is)
    (case sb_F_tuple => k_is)
    (case sb_F_str => k_is)
    (case sb_none_F => k_is)
    (case sb_bool_F => k_is)
    (case sb_int_F => k_is)
    (case sb_str_F => k_is)
    (case sb_list_F => k_is)
    (case sb_tuple_F => k_is)
    (case own_from_tops => exact PySem.W.km_tabs_of Y _ (by decide))
    (case own_uniform => exact PySem.W.km_tabs_of Y _ (by decide))
    (case own_quotas => exact PySem.W.km_tabs_of Y _ (by decide))
