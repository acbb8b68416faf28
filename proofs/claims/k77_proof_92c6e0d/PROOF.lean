import PyProof.Rows.All
import Wide.All
import OpenK.AllK
import Wide.FinOn
import PySem.Challenge.RW_surelyset_k77_probes
import HandS.ForMost
import HandS.ExcInit
import HandS.MakeKw
import HandS.Defaults
import HandS.ExcIs
import KE.KExcInit
import KE.KeyNested
import KE.KDictCopyH
import KE.KDictPairs
import KE.KDictWalk
import HandS.Walk
import HandS.Conv
import HandS.ListItems
import HandS.DictComp
import PyProof.ReprRoads
import HandS.IsInst
import HandS.WordsExc
import HandS.RevRange
import PyProof.ReprLen
import PyProof.StrOps2
import HandS.Text
import HandS.ReplaceLit
import HandS.ReplaceList
import HandS.Finally
import KE.KDictItemsList
import KE.KEqDict
import HandS.Ends
import HandS.EndBits
import HandS.Property
import HandS.Style
import HandS.ExcField
import HandS.Head0
import HandS.Head1
import HandS.Head2
import HandS.HeadEnd
import HandS.HeadHook1
import HandS.HeadHook2
import HandS.Set
import HandS.SetFor
import HandS.TupSets
import PyProof.SeqIndex
import PyProof.Rows.SetFrom
import KE.SortData
import KE.SortLaws
import HandS.TryMany
import PyProof.NeKinds
import HandS.Lambda
import HandS.HeadHook4
set_option Elab.async false
set_option linter.all false
set_option maxRecDepth 100000
set_option maxHeartbeats 4000000
/-! ### KA -/
section
namespace PySem
namespace KA
open PySem.W
/-! ## own exception classes over any built-in base: what is asked of the base -/
structure EB (nB newId iB initId : String) (bm : List Value) : Prop where
  neu : ∃ iN bmN, ExcBaseFacts nB newId iN bmN
  hasN : bm.contains (.type nB) = true
  noA : bm.contains (.type "AttributeError") = false
  noN : bm.contains (.type "NameError") = false
  hasI : bm.contains (.type iB) = true
  hasX : bm.contains (.type "BaseException") = true
  iKind : builtinKind initId = some .slot
  iSplit : splitId initId = some (iB, "__init__")
  iRow : Manifest.signature? initId = some ⟨.positional, "*", iB, .self, [⟨"args", .varPos, false⟩]⟩
  iStar : (iB != "*") = true
  iEntry : entryFor table initId = some Builtin.«BaseException.__init__»
  iPlain : plainId initId = true
section
variable {prog : Program} {w : World} {M : Model} {A : Around} {E : Value → Shared → Prop} {R : Result → Shared → Prop} {h : Heap} {g : Array GenState} {d : Drawn} {t : Nat} {os : OsState}
variable {kw : List (Str × Value)} {nm q : Str} {C N : Addr} {bs bc bm : List Value} {hdct : Bool} {sn : List Str} {sub : List Value} {ab : Bool} {col : Option Bool} {dd : Option Addr} {k0 k1 k2 k3 k5 : Option Value} {nB newId iB initId : String}
theorem chkNew (hk : kw = [] ∨ ∃ kn kv, kw = [(kn, kv)]) (F : EB nB newId iB initId bm) (same : ∀ T : String, bc.contains (.type T) = bm.contains (.type T))
    {more : List Value} {Q : Unit → Shared → Prop} (cl : h.get? C = some (excClassObj nm q C N bs bc hdct sn sub ab col dd k0 k1 k2 k3 k5 newId)) (z : Q () ⟨h, g, d, t, os⟩) :
    wpAny M A (checkBuiltinCall newId ⟨.ref C :: more, kw⟩) Q E ⟨h, g, d, t, os⟩ := by
  obtain ⟨iN, bmN, G⟩ := F.neu
  have own : (Value.ref C :: bc).contains (.type nB) = true := by
    rw [List.contains_cons, same, F.hasN, Bool.or_true]
  have st := G.noStar
  rcases hk with rfl | ⟨kn, kv, rfl⟩
  all_goals
   simp only [checkBuiltinCall, G.newKind, G.newSplit, G.newRow]
   repeat (first | refine wpAny_loadPart_at cl ?_ | (refine wpAny_isSubtype_exc cl ?_; rw [own]) | refine wpAny_staticBase_exc cl ?_ | refine wpAny_madeBy_exc cl ?_ | simp only [bne_self_eq_false, Bool.false_eq_true, if_false] | wp_step)
   exact z
theorem chkInit (F : EB nB newId iB initId bm) (same : ∀ T : String, bc.contains (.type T) = bm.contains (.type T)) {x : Addr} {ox : Obj}
    {more : List Value} {Q : Unit → Shared → Prop} (cl : h.get? C = some (excClassObj nm q C N bs bc hdct sn sub ab col dd k0 k1 k2 k3 k5 newId)) (hx : h.get? x = some ox) (hc : ox.cls = .ref C) (z : Q () ⟨h, g, d, t, os⟩) :
    wpAny M A (checkBuiltinCall initId ⟨.ref x :: more, []⟩) Q E ⟨h, g, d, t, os⟩ := by
  have own : (Value.ref C :: bc).contains (.type iB) = true := by
    rw [List.contains_cons, same, F.hasI, Bool.or_true]
  have st := F.iStar
  simp only [checkBuiltinCall, F.iKind, F.iSplit, F.iRow]
  repeat (first | (with_reducible refine wpAny_loadPart_at hx ?_; rw [hc]) | with_reducible refine wpAny_loadPart_at cl ?_ | (with_reducible refine wpAny_isSubtype_exc cl ?_; rw [own]) | wp_step)
  refine wpAny_onRaise ?_
  rw [show ∀ (u v : String) (n : Nat), Bind.check ⟨.positional, "*", iB, .self, [⟨"args", .varPos, false⟩]⟩ u v n (List.map (fun y => y.fst) ({ pos := Value.ref x :: more } : Args).kw) = pure () from
    fun u v n => check_star_args _ _ _ _ _ _]
  exact wpAny_pure z
theorem newAt (F : EB nB newId iB initId bm) (same : ∀ T : String, bc.contains (.type T) = bm.contains (.type T)) {more : List Value}
    (cl : h.get? C = some (excClassObj nm q C N bs bc hdct sn sub ab col dd k0 k1 k2 k3 k5 newId)) (len : more.length ≤ sizeLine)
    (z : R (.ok (.ret (.ref (h.objs.size + 1)))) ⟨(h.push { cls := .type "tuple", data := .seq more.toArray }).push { cls := .ref C, data := .fields #[.ref h.objs.size, .none, .none, .none, .bool false, .none] }, g, d, t, os⟩) :
    codeAny (model prog w) A (.builtin newId ⟨.ref C :: more, kw⟩) R ⟨h, g, d, t, os⟩ := by
  obtain ⟨iN, bmN, G⟩ := F.neu
  have he := G.ends
  have c1 : (Value.ref C :: bc).contains (.type nB) = true := by
    rw [List.contains_cons, same, F.hasN, Bool.or_true]
  have c2 : (Value.ref C :: bc).contains (.type "AttributeError") = false := by
    rw [List.contains_cons, same, F.noA]
    rfl
  have c3 : (Value.ref C :: bc).contains (.type "NameError") = false := by
    rw [List.contains_cons, same, F.noN]
    rfl
  refine codeAny_builtinAt G.entry ?_
  unfold Builtin.«BaseException.__new__»
  refine wpAt_bind ?_
  show wpAt _ _ _ (stack >>= _) _ _ _
  refine wpAt_bind (wpAt_stack fun _ _ => wpAt_of_wpAny ?_)
  wp_walk
  refine wpAt_of_wpAny ?_
  rw [G.owner]
  repeat (first | with_reducible refine wpAny_madeHere_exc G.canon cl ?_ | with_reducible refine wpAny_loadPart_at cl ?_ | (with_reducible refine wpAny_isSubtype_exc cl ?_; first | rw [c1] | rw [c2] | rw [c3]) | wp_step)
  show R _ _
  rw [Heap.size_push]
  exact z
theorem typeCall (hk : kw = [] ∨ ∃ kn kv, kw = [(kn, kv)]) (F : EB nB newId iB initId bm) (same : ∀ T : String, bc.contains (.type T) = bm.contains (.type T)) {more : List Value} {fI : Addr} {Q : Fin → Shared → Prop}
    (cl : h.get? C = some (excClassObj nm q C N bs bc hdct sn sub ab col dd k0 k1 k2 k3 k5 newId)) (len : more.length ≤ sizeLine)
    (hi : Looks (model prog w) h (typeLookup (.ref C) "__init__") (some (.ref fI))) (hb : ∀ self, Looks (model prog w) h (bindSpecial (.ref fI) self) (.ref fI, [self]))
    (z : codeAny (model prog w) A (.call (.ref fI) ⟨.ref (h.objs.size + 1) :: more, kw⟩)
      (fun r s' => match r with
        | .ok (.ret v) => v = .none ∧ Q (.done (.ret (.ref (h.objs.size + 1)))) s'
        | .ok _ => False
        | .error e => E e s')
      ⟨(h.push (kdv_tup more)).push (PySem.HandSPX.excO C h.objs.size), g, d, t, os⟩) :
    wpAny (model prog w) A (Builtin.«type.__call__» ⟨.ref C :: more, kw⟩) Q E ⟨h, g, d, t, os⟩ := by
  obtain ⟨iN, bmN, G⟩ := F.neu
  repeat (first | with_reducible refine wpAny_loadPart_at cl ?_ | with_reducible refine wpAny_madeBy_exc cl ?_ | wp_step)
  refine codeAny_call_builtin_code (Code.quiet_builtin _ G.quiet) (chkNew hk F same cl ?_)
  refine newAt F same cl len ?_
  show wpAny _ _ _ _ _ _
  have kp : ∀ b o, h.get? b = some o → ((h.push (kdv_tup more)).push (PySem.HandSPX.excO C h.objs.size)).get? b = some o := fun _ _ e => Heap.get?_push_of_some _ (Heap.get?_push_of_some _ e)
  have cl2 := kp _ _ cl
  have hx : ((h.push (kdv_tup more)).push (PySem.HandSPX.excO C h.objs.size)).get? (h.objs.size + 1) = some (PySem.HandSPX.excO C h.objs.size) := by heap_get
  have own : (Value.ref C :: bc).contains (.ref C) = true := by simp
  have hi2 := hi.keeps kp
  have hb2 := (hb (.ref (h.objs.size + 1))).keeps kp
  unfold isInstance
  repeat (first | with_reducible refine wpAny_loadPart_at hx ?_ | (with_reducible refine wpAny_isSubtype_exc cl2 ?_; rw [own]) | wp_step)
  show wpAny _ _ (typeLookup (.ref C) _) _ _ _
  refine hi2.at (wpAny_holding (wpAny_bind (hb2.at ?_)))
  refine wpAny_bind (wpAny_call (codeAny_mono z fun r s' y => ?_))
  rcases r with e | (v | _ | _ | _) <;> first | exact y | exact y.elim | skip
  obtain ⟨rfl, y⟩ := y
  first
    | exact wpAny_pure (wpAny_pure y)
    | (wp_walk; exact y)
theorem callOwn (hk : kw = [] ∨ ∃ kn kv, kw = [(kn, kv)]) (F : EB nB newId iB initId bm) (same : ∀ T : String, bc.contains (.type T) = bm.contains (.type T)) {more : List Value} {fI : Addr}
    (cl : h.get? C = some (excClassObj nm q C N bs bc hdct sn sub ab col dd k0 k1 k2 k3 k5 newId)) (len : more.length ≤ sizeLine)
    (hi : Looks (model prog w) h (typeLookup (.ref C) "__init__") (some (.ref fI))) (hb : ∀ self, Looks (model prog w) h (bindSpecial (.ref fI) self) (.ref fI, [self]))
    (z : codeAny (model prog w) (A.under (.builtin "type.__call__" ⟨.ref C :: more, kw⟩)) (.call (.ref fI) ⟨.ref (h.objs.size + 1) :: more, kw⟩) (InitBack (h.objs.size + 1) R)
      ⟨(h.push (kdv_tup more)).push (PySem.HandSPX.excO C h.objs.size), g, d, t, os⟩) :
    codeAny (model prog w) A (.call (.ref C) ⟨more, kw⟩) R ⟨h, g, d, t, os⟩ := by
  have f1 := tc_lookup
  have f2 := tc_bind (.ref C)
  have ty : (⟨h, g, d, t, os⟩ : Shared).TypeIs (.ref C) "type" := ⟨_, cl, rfl⟩
  refine codeAny_of_tree ?_
  show wpAny _ _ (callAny (.ref C) _) _ _ _
  repeat (any_goals (first | assumption | with_reducible refine wpAny_loadPart_at cl ?_ | wp_step))
  refine ⟨rfl, ?_⟩
  refine codeAny_call_builtin_at (Code.quiet_builtin _ (by decide +kernel)) entry_typeCall (wpAny_check_type_call_sub cl (typeCall hk F same cl len hi hb ?_))
  refine codeAny_mono z fun r s' y => ?_
  rcases r with e | (v | _ | _ | _) <;> exact y
theorem initAt (F : EB nB newId iB initId bm) (same : ∀ T : String, bc.contains (.type T) = bm.contains (.type T)) {x t0 : Addr} {more : List Value}
    (cl : h.get? C = some (excClassObj nm q C N bs bc hdct sn sub ab col dd k0 k1 k2 k3 k5 newId)) (hx : h.get? x = some (PySem.HandSPX.excO C t0)) (len : more.length ≤ sizeLine)
    (z : ∀ h' t1, (∀ b o, b ≠ x → h.get? b = some o → h'.get? b = some o) → h'.get? x = some (PySem.HandSPX.excO C t1) → R (.ok (.ret .none)) ⟨h', g, d, t, os⟩) :
    codeAny (model prog w) A (.call (.builtin initId) ⟨.ref x :: more, []⟩) R ⟨h, g, d, t, os⟩ := by
  refine codeAny_call_builtin F.iPlain F.iEntry (chkInit F same cl hx rfl ?_)
  wp_walk
  refine z _ h.objs.size (fun b o ne ho => ?_) ?_
  · rw [Heap.get?_update_other _ _ (Ne.symm ne)]
    exact Heap.get?_push_of_some _ ho
  · rw [Heap.get?_update_self _ (Heap.get?_push_of_some _ hx) rfl]
    rfl
end
end KA
end PySem
end
/-! ### KB -/
section
namespace PySem
namespace KA
open PySem.W PyProof.Rows
theorem storeKey : StoreFacts "KeyError" [.type "KeyError", .type "LookupError", .type "Exception", .type "BaseException", .type "object"] "object.__setattr__" "object" where
  mro := by kernel_rfl
  slot := .of (owner := "object") (n := "__setattr__") (by
      rw [typeLookup_type, builtinLookup_eq_fast]
      kernel_rfl) (by decide +kernel) (by decide +kernel) (by decide +kernel)
    (by first
        | exact .inl (by decide +kernel)
        | exact .inr (by decide +kernel)) (by
      rw [isSubtype_type]
      kernel_rfl)
  entry := F.store_ValueError.entry
  kind := F.store_ValueError.kind
  split := F.store_ValueError.split
  hasOwner := by decide +kernel
  args := F.store_ValueError.args
  passes := fun _ => by kernel_rfl
abbrev vTail : List Value := [.type "ValueError", .type "Exception", .type "BaseException", .type "object"]
abbrev kTail : List Value := [.type "KeyError", .type "LookupError", .type "Exception", .type "BaseException", .type "object"]
abbrev iTail : List Value := [.type "IndexError", .type "LookupError", .type "Exception", .type "BaseException", .type "object"]
abbrev oTail : List Value := [.type "OverflowError", .type "ArithmeticError", .type "Exception", .type "BaseException", .type "object"]
abbrev rTail : List Value := [.type "RuntimeError", .type "Exception", .type "BaseException", .type "object"]
theorem EB.of {B newId initId : String} {bm : List Value} (F : ExcBaseFacts B newId initId bm) : EB B newId B initId bm where
  neu := ⟨_, _, F⟩
  hasN := F.hasB
  noA := F.noAttr
  noN := F.noName
  hasI := F.hasB
  hasX := F.hasBase
  iKind := F.initKind
  iSplit := F.initSplit
  iRow := F.initRow
  iStar := F.noStar
  iEntry := F.initEntry
  iPlain := F.init.plain
theorem ebV : EB "ValueError" "ValueError.__new__" "ValueError" "ValueError.__init__" vTail := .of F.excBase_ValueError
theorem ebI : EB "IndexError" "IndexError.__new__" "IndexError" "IndexError.__init__" iTail := .of F.excBase_IndexError
theorem ebO : EB "OverflowError" "OverflowError.__new__" "OverflowError" "OverflowError.__init__" oTail := .of F.excBase_OverflowError
theorem ebR : EB "RuntimeError" "RuntimeError.__new__" "RuntimeError" "RuntimeError.__init__" rTail := .of F.excBase_RuntimeError
theorem ebK : EB "LookupError" "LookupError.__new__" "KeyError" "KeyError.__init__" kTail where
  neu := ⟨_, _, F.excBase_LookupError⟩
  hasN := by decide +kernel
  noA := by decide +kernel
  noN := by decide +kernel
  hasI := by decide +kernel
  hasX := by decide +kernel
  iKind := excClass_KeyError.initKind
  iSplit := excClass_KeyError.initSplit
  iRow := excClass_KeyError.initSig
  iStar := excClass_KeyError.notStar
  iEntry := excClass_KeyError.initEntry
  iPlain := excClass_KeyError.init.plain
theorem stR : StoreFacts "RuntimeError" rTail "object.__setattr__" "object" := F.store_RuntimeError
theorem stV : StoreFacts "ValueError" vTail "object.__setattr__" "object" := F.store_ValueError
theorem stI : StoreFacts "IndexError" iTail "object.__setattr__" "object" := F.store_IndexError
theorem stO : StoreFacts "OverflowError" oTail "object.__setattr__" "object" := F.store_OverflowError

/-! ### isinstance of such an exception, with its own dict or without -/
section
open Builtin Builtin.ObjectAttr
variable {prog : Program} {w : World} {A : Around} {E : Value → Shared → Prop} {s : Shared} {K : Frag} {x D : Addr} {ox : Obj} {od : Option Obj}
theorem dataFound {C : Addr} {name : Str} {a g : Value} (hc : (clsIn K C).isSome = true) (ha : findIn K (.ref C) name = some (some a)) (hg : specialIn K a "__get__" = some (some g)) (ht : takesIn K a = some true) :
    findObj K C od name = some (.bind g a) := by
  obtain ⟨cd, hcd⟩ := Option.isSome_iff_exists.mp hc
  simp [findObj, hcd, ha, hg, ht]
theorem classOf {Q : Option Value → Shared → Prop} (C : L2.ExcC K D) (X : K.In s.heap) (I : InstAt s.heap x ox D od) (z : Q (some (.ref D)) { s with toks := s.toks + 1 }) :
    wpAny (model prog w) A (getAttr? (.ref x) "__class__") Q E s := by
  have fnd : findObj K D od "__class__" = some (.bind (.builtin "getset_descriptor.__get__") (.builtin "object.__class__")) := by
    refine dataFound ?_ C.ha C.hn C.ht
    obtain ⟨cd, hc, _⟩ := any_some C.hd
    rw [hc]
    rfl
  obtain ⟨hp, g, d, t, os⟩ := s
  have a0 := I.type (M := model prog w)
  have a1 := looks_findIn (M := model prog w) X C.hg
  have a2 := looks_findIn (M := model prog w) X C.hk
  have a3 := looks_find (M := model prog w) X I fnd
  have isB : Looks (model prog w) hp (isInstance (.ref x) (.type "BaseException")) true := a0.andThen (looks_subIn X C.hs)
  have e2 : (Value.builtin "BaseException.__getattribute__" == Value.builtin "object.__getattribute__") = false := by decide +kernel
  have e1 : (onTheHeap (Value.ref D) && Value.builtin "BaseException.__getattribute__" == Value.builtin "object.__getattribute__") = false := by
    rw [e2]
    rfl
  have e0 : (false && onTheHeap (Value.builtin "BaseException.__getattribute__")) = false := rfl
  unfold getAttr? getAttrBy? getAttrBy
  refine wpAny_bind (wpAny_mkText (wpAny_bind (wpAny_attempt (wpAny_holding (wpAny_bind (a0.at (wpAny_bind (a1.at ?_))))))))
  show wpAny _ _ (if (onTheHeap (Value.ref D) && Value.builtin "BaseException.__getattribute__" == Value.builtin "object.__getattribute__") = true then _ else _) _ _ _
  rw [e1, if_neg Bool.false_ne_true]
  unfold getAttrByItsOwn hookBefore
  refine wpAny_bind ?_
  rw [if_pos (show onTheHeap (Value.ref D) = true from rfl)]
  refine a2.at (wpAny_bind (wpAny_attempt (wpAny_holding ?_)))
  unfold callGetattribute
  rw [e0, if_neg Bool.false_ne_true]
  unfold boundAndCalled
  rw [F.excAttr_ValueError.ga.bind (.ref x)]
  refine wpAny_bind (wpAny_pure ?_)
  show wpAny _ _ (call (.builtin "BaseException.__getattribute__") [.ref x, .str "__class__" t]) _ _ _
  refine wpAny_call (codeAny_call_builtin F.excAttr_ValueError.ga.plain F.entry_bexc_ga ?_)
  refine @check_slot (model prog w) _ _ ⟨hp, g, d, t + 1, os⟩ "BaseException.__getattribute__" "BaseException" "__getattribute__" (.ref x) [.str "__class__" t] [] _ (by decide +kernel) (by decide +kernel) isB (F.args_bexc_ga (.ref x) (.str "__class__" t)) ?_
  unfold Builtin.«object.__getattribute__»
  refine wpAny_bind (wpAny_of_eq (a := ((Value.ref x : Value), [Value.str "__class__" t])) (by first
    | rfl
    | (simp only [slotArgs]; rfl)) ?_)
  refine wpAny_bind (wpAny_pure (wpAny_bind (a0.at (wpAny_bind (a3.at ?_)))))
  show wpAny _ _ (holding [Value.builtin "object.__class__"] (call (.builtin "getset_descriptor.__get__") [.builtin "object.__class__", .ref x, .ref D]) >>= ret) _ _ _
  refine wpAny_bind (wpAny_holding (wpAny_call (class_get (s := ⟨hp, g, d, t + 1, os⟩) (ox := ox) (od := od) X I C.hm ?_)))
  refine wpAny_pure ?_
  show wpAny _ _ (handedOut (.ref D)) _ _ _
  rw [handedOut_of (v := .ref D) rfl]
  first
    | exact wpAny_pure (wpAny_pure z)
    | exact wpAny_pure z
    | exact wpAny_pure (wpAny_bind (wpAny_pure (wpAny_pure z)))
theorem kitE (C : L2.ExcC K D) : KitX K (.ref x) (.ref D) (fun h => InstAt h x ox D od) where
  ty := fun _ _ _ I => I.type
  it := fun _ _ X _ => by
    obtain ⟨cd, hc, _⟩ := any_some C.hd
    unfold clsIn at hc
    split at hc
    · rename_i c1 d1 cd1 sl1 lk
      intro A1 Q1 E1 s1 kp z
      unfold isType loadHead
      exact wpAny_bind (wpAny_loadPart (kp _ _ (X _ _ lk)) (wpAny_pure z))
    · cases hc
  ne := fun _ tp _ _ _ _ X htp => by
    obtain ⟨cd, hc, _⟩ := any_some C.hd
    cases hq : (Value.ref D == Value.ref tp) with
    | false => rfl
    | true =>
      obtain rfl : D = tp := Value.ref.inj (beq_iff_eq.mp hq)
      unfold clsIn at hc
      split at hc
      · rename_i c1 d1 cd1 sl1 lk
        exact nomatch (X _ _ lk).symm.trans htp
      · cases hc
  ca := fun X I z => classOf C X I z
end
end KA
end PySem
end
/-! ### KC -/
section
namespace L2
namespace KC
open PySem PySem.Spec PyProof.Rows PySem.KA Builtin Builtin.ObjectAttr
/-! ## own exceptions in the hand layer -/
/-- what is asked of an own exception class -/
structure OX (K : PySem.W.Frag) (C : Addr) (newId initId : String) (bm : List Value) : Prop where
  eb : ∃ nB iB, EB nB newId iB initId bm
  ins : PySem.W.excInitIn K C bm newId = true
  ov : PySem.W.excOver K C bm = true
  sa : PySem.W.findIn K (.ref C) "__setattr__" = some (some (.builtin "object.__setattr__"))
  xc : ExcC K C
  kp : PySem.W.keepIn K (.ref C) = true
structure OXS (K : PySem.W.Frag) (C : Addr) (newId initId : String) (bm : List Value) (f : Str) : Prop extends OX K C newId initId bm where
  st : ∃ Bx, StoreFacts Bx bm "object.__setattr__" "object"
  no : PySem.W.findIn K (.ref C) f = some none
section
variable {X : Cx} {pins : List (Addr × Obj)} {σ : St} {H : Hp} {s : Shared} {a C dx : Addr} {f : Str} {y : V} {u : Value} {fs : List (Str × V)} {E : Value → Shared → Prop} {A : Around} {newId initId : String} {bm : List Value}
theorem inv_dict (I : Inv X pins σ H s) (e : H a = some (exo a C none)) {h' : Heap} {tk dx : Nat} {t1 : Addr} {m : Str → Option Value} (kp : ∀ b o, b ≠ a → s.heap.get? b = some o → h'.get? b = some o) (dn : s.heap.objs.size ≤ dx) (ne : dx ≠ a)
    (hx : h'.get? a = some { cls := .ref C, dict := some dx, data := .fields #[.ref t1, .none, .none, .none, .bool false, .none] }) (hn : h'.Ns1 dx m) (rel : ∀ g, RelO (fs.lookup g) (m g)) :
    Inv X pins σ (upd (upd H dx (exd dx fs)) a (exo a C (some dx))) { s with heap := h', toks := tk } := by
  have free : H dx = none := I.hok.fresh dn
  have apart : ∀ {b : Addr} {o : Obj}, s.heap.get? b = some o → b ≠ dx := fun z => Nat.ne_of_lt (Nat.lt_of_lt_of_le (Heap.lt_size z) dn)
  have na : ∀ {b : Addr}, H b = none → b ≠ a := fun z w => by
    rw [w, e] at z
    cases z
  have U : Un X.fs [] H (upd (upd H dx (exd dx fs)) a (exo a C (some dx))) s.heap h' := by
    refine ⟨?_, ?_, ?_, ?_, ?_, ?_, ?_⟩
    · exact fun b o z n _ _ => kp b o (na n) z
    · exact fun b o z n _ _ => ⟨o.slots, kp b o (na n) z⟩
    · intro b o z n _
      rw [upd_ne (na n), upd_ne (apart z)]
      exact n
    · intro b o z _
      by_cases hb : b = a
      · exact ⟨_, hb ▸ hx⟩
      · exact ⟨o, kp b o hb z⟩
    · intro b xs z
      rw [upd_ne (at_ne e z exo_tup), upd_ne (ne_of_none z free)]
      exact z
    · intro b o v z
      rw [upd_ne (at_ne e z exo_frz), upd_ne (ne_of_none z free)]
      exact z
    · intro b ps z
      refine ⟨#[], ?_⟩
      rw [upd_ne (at_ne e z exo_tbl), upd_ne (ne_of_none z free), z]
      simp
  refine I.un (t' := tk) U fun b o z => ?_
  by_cases hb : b = a
  · subst hb
    rw [upd_same] at z
    cases z
    exact exo_ok hx
  rw [upd_ne hb] at z
  by_cases hd : b = dx
  · subst hd
    rw [upd_same] at z
    cases z
    exact exd_ok hn rel
  rw [upd_ne hd] at z
  refine (I.hok b o z).stay (fun c v hc r => kp c v ?_ r) (fun c hc => ?_) (fun c xs hc => ?_)
  · rcases hc with hc | hc
    · exact hc ▸ hb
    · exact at_ne e hc exo_own
  · rw [upd_ne (at_ne e hc exo_own), upd_ne (ne_of_none hc free)]
    exact hc
  · rw [upd_ne (at_ne e hc exo_tup), upd_ne (ne_of_none hc free)]
    exact hc
/-- self.f = y, the first one -/
theorem ostNew {Q : Unit → Shared → Prop} (T : OXS X.K C newId initId bm f) (I : Inv X pins σ H s) (e : H a = some (exo a C none)) (ry : RelV y u)
    (z : ∀ dx s', H dx = none → dx ≠ a → Inv X pins σ (upd (upd H dx (exd dx [(f, y)])) a (exo a C (some dx))) s' → Q () s') : wpAny (model X.prog X.w) A (setAttr (.ref a) f u) Q E s := by
  obtain ⟨Bx, SF⟩ := T.st
  obtain ⟨t1, ho⟩ := exo_at I.hok e
  obtain ⟨hp, g, d, t, os⟩ := s
  have J : PySem.W.InstAt hp a { cls := .ref C, dict := none, data := .fields #[.ref t1, .none, .none, .none, .bool false, .none] } C none := ⟨ho, rfl, rfl, trivial⟩
  have tk : PySem.W.takerIn X.K C f = some none := by
    unfold PySem.W.takerIn
    rw [T.no]
    rfl
  refine PySem.W.set_plain I.kIn J T.sa ?_
  refine PySem.W.osa_openX (s := ⟨hp, g, d, t + 1, os⟩) SF I.kIn J T.ov tk fun b => ?_
  obtain ⟨cd, hc, hd⟩ := PySem.W.any_some T.xc.hd
  have hcl : PySem.W.Looks (model X.prog X.w) hp (classData C) cd := PySem.W.looks_clsIn I.kIn hc
  have hxs : a ≠ hp.objs.size := Nat.ne_of_lt (Heap.lt_size ho)
  obtain ⟨nm, bs, mro, ns, qn, hd', sn, sb, ab, col, del⟩ := cd
  dsimp only at hd
  subst hd
  unfold storeInOwnDict ownDictForStores
  repeat (first | with_reducible refine PySem.HandSPX.store_in_new ?_ ?_ | with_reducible refine wpAny_loadPart_at ho ?_ | with_reducible refine hcl.at ?_ | wp_step)
  · exact ⟨_, #[], _, (Heap.get?_update_ne _ _ _ _ hxs.symm).trans (Heap.get?_push_at rfl rfl), rfl, fun e he => absurd he (by simp), fun _ => rfl⟩
  · intro h' tk' hn' hs
    have hx1 : (hp.push { cls := .type "dict", data := .dict #[] }).get? a = some { cls := .ref C, data := .fields #[.ref t1, .none, .none, .none, .bool false, .none] } := Heap.get?_push_of_some _ ho
    refine z hp.objs.size _ (I.hok.fresh (Nat.le_refl _)) hxs.symm (inv_dict (t1 := t1) (s := ⟨hp, g, d, t, os⟩) I e (fun b o hb q => ?_) (Nat.le_refl _) hxs.symm ?_ hn' (relO_put (fs := []) ry fun _ => trivial))
    · exact (hs.2 b (Nat.ne_of_lt (Heap.lt_size q))).trans ((Heap.get?_update_ne _ _ _ _ hb).trans (Heap.get?_push_of_some _ q))
    · exact (hs.2 a hxs).trans (Heap.get?_update_self _ hx1 rfl)
/-- B.__init__(self, ..) -/
theorem oinit {us : List Value} {Q : Value → Shared → Prop} (T : OX X.K C newId initId bm) (I : Inv X pins σ H s) (e : H a = some (exo a C none)) (len : us.length ≤ sizeLine) (z : ∀ s', Inv X pins σ H s' → Q .none s') :
    wpAny (model X.prog X.w) A (call (.builtin initId) (.ref a :: us)) Q E s := by
  obtain ⟨nB, iB, F⟩ := T.eb
  obtain ⟨t1, ho⟩ := exo_at I.hok e
  obtain ⟨hp, g, d, t, os⟩ := s
  obtain ⟨nm, N, qn, bs, bc, hdct, sn, sub, ab, col, dd, k0, k1, k2, k3, k5, cl, same⟩ := PySem.W.excInit_of I.kIn T.ins
  refine wpAny_call (initAt F same cl ho len fun h' t2 kp hx => ?_)
  have J := I.write (t' := t) (x := a) (e := a) (o := exo a C none) (by rw [e]; exact trivial) (.inl rfl) kp ⟨_, hx⟩ (exo_ok hx)
  have eu : upd H a (exo a C none) = H := by
    funext b
    by_cases hb : b = a
    · rw [hb, upd_same, e]
    · rw [upd_ne hb]
  rw [eu] at J
  exact z _ J
/-- C(..) -/
theorem omake {CX : CXT} {k : Nat} {fI : Addr} {fd : FuncData} {ps : List Str} {sp : Sp} {Q : VK} {us ws : List Value} {kw : List (Str × Value)} {vs : List V} {EX : XK} (T : OX X.K C newId initId bm)
    (iC : PySem.W.findIn X.K (.ref C) "__init__" = some (some (.ref fI))) (tI : PySem.W.typeIn X.K (.ref fI) = some (.type "function")) (G : FnOk X.prog X.w X.K X.mg X.base CX k fI fd ps sp) (hr : Room (k + 1) X.A) (hx : Passes CX X EX)
    (I : Inv X pins σ H s) (len : us.length ≤ 1000) (hk : kw = [] ∨ ∃ kn kv, kw = [(kn, kv)])
    (bt : ∀ s', X.K.In s'.heap → ∀ x : Addr, BindsTo s' fd ⟨.ref x :: us, kw⟩ (ps.zip (.ref x :: ws))) (rv : Vals vs ws)
    (z : ∀ x, H x = none → sp (.ref x :: vs) (upd H x (exo x C none)) (fun v H2 => v = .non ∧ Q (.ref x) H2) EX) :
    wpAny (model X.prog X.w) X.A (call (.ref C) us kw) (EP X pins σ Q) X.xe s := by
  obtain ⟨nB, iB, F⟩ := T.eb
  obtain ⟨nm, N, qn, bs, bc, hdct, sn, sub, ab, col, dd, k0, k1, k2, k3, k5, cl, same⟩ := PySem.W.excInit_of I.kIn T.ins
  obtain ⟨hp, g, dr, tk, os⟩ := s
  have ge : hp.objs.size ≤ hp.objs.size + 1 := Nat.le_succ _
  have hq := z (hp.objs.size + 1) (I.hok.fresh ge)
  have kk : ∀ b o, hp.get? b = some o → ((hp.push (PySem.W.kdv_tup us)).push (PySem.HandSPX.excO C hp.objs.size)).get? b = some o := fun _ _ q => Heap.get?_push_of_some _ (Heap.get?_push_of_some _ q)
  have at_ : ((hp.push (PySem.W.kdv_tup us)).push (PySem.HandSPX.excO C hp.objs.size)).get? (hp.objs.size + 1) = some (PySem.HandSPX.excO C hp.objs.size) := by heap_get
  have I2 : Inv X pins σ (upd H (hp.objs.size + 1) (exo (hp.objs.size + 1) C none)) ⟨(hp.push (PySem.W.kdv_tup us)).push (PySem.HandSPX.excO C hp.objs.size), g, dr, tk, os⟩ :=
    I.laid (t' := tk) (a := hp.objs.size + 1) (o := exo (hp.objs.size + 1) C none) kk ge (exo_ok at_)
  have lz : us.length ≤ sizeLine := Nat.le_of_lt (small1000 len)
  refine wpAny_call (callOwn hk F same cl lz (PySem.W.looks_findIn I.kIn iC) (fun self => PySem.W.bind_fn I.kIn self tI)
    (codeAny_mono (G.run _ X.stack _ _ ⟨Value.ref (hp.objs.size + 1) :: us, kw⟩ (Value.ref (hp.objs.size + 1) :: ws) _ _ EX (hr.make C us kw) (I2.env0.make C us kw) (bt _ I2.kIn _) (show Vals (V.ref (hp.objs.size + 1) :: vs) (Value.ref (hp.objs.size + 1) :: ws) from .cons rfl rv) hq) fun r s' y => ?_))
  cases r with
  | error er => exact hx pins σ _ _ er s' I2 y
  | ok fl =>
    cases fl with
    | ret w =>
      obtain ⟨v, H', I3, rw', ev, q3⟩ := I2.after y
      subst ev
      exact ⟨rw', ⟨.ref (hp.objs.size + 1), H', I3, rfl, q3⟩⟩
    | next => exact y.elim
    | brk => exact y.elim
    | cont => exact y.elim
end
/-! ### readings -/
/-- C(e, ..) or C(k = v): a new exception, then __init__ -/
def tMakeX (C : Addr) (sp : Sp) (EX : XK) (t : TA) : TE := fun σ H Q => t σ H fun vs H1 => vs.length ≤ 1000 ∧ ∀ x, H1 x = none → sp (.ref x :: vs) (upd H1 x (exo x C none)) (fun v H2 => v = .non ∧ Q (.ref x) H2) EX
/-- e.f -/
def tXat (K : PySem.W.Frag) (C : Addr) (f : Str) (te : TE) : TE := fun σ H Q => te σ H fun x H1 => ∃ (a dx : Addr) (fs : List (Str × V)) (v : V), x = .ref a ∧ H1 a = some (exo a C (some dx)) ∧ H1 dx = some (exd dx fs) ∧ fs.lookup f = some v ∧ Q v H1
def tInitX (C : Addr) (ta : TA) : TE := fun σ H Q => ta σ H fun vs H1 => ∃ (a : Addr) (ws : List V), vs = .ref a :: ws ∧ ws.length ≤ 1000 ∧ H1 a = some (exo a C none) ∧ Q .non H1
def tSetX (C : Addr) (f : Str) (to te : TE) : TS := fun D σ H => te σ H fun y H1 => to σ H1 fun x H2 => ∃ a : Addr, x = .ref a ∧ H2 a = some (exo a C none) ∧ ∀ dx, H2 dx = none → dx ≠ a → D.nx σ (upd (upd H2 dx (exd dx [(f, y)])) a (exo a C (some dx)))
def rIsX (K : PySem.W.Frag) : List V → Hp → VK → Prop := fun xs H Q => ∃ (a C : Addr) (d : Option Addr) (c : V) (cv : Value) (b : Bool), xs = [.ref a, c] ∧ H a = some (exo a C d) ∧ (∀ dx, d = some dx → ∃ fs, H dx = some (exd dx fs)) ∧ ExcC K C ∧ (∀ u, RelV c u → u = cv) ∧ PySem.W.kitOne K (.ref C) cv = some b ∧ Q (.bl b) H
section
variable {X : Cx} {CX : CXT} {k : Nat} {C fI : Addr} {fd : FuncData} {ps : List Str} {sp : Sp} {EX : XK} {x kn f : Str} {p p' p1 p2 pos kpos : Pos} {o e : Expr} {es : List Expr} {to te : TE} {t : TA} {newId initId : String} {bm : List Value}
theorem peMakeX (T : OX X.K C newId initId bm) (iC : PySem.W.findIn X.K (.ref C) "__init__" = some (some (.ref fI))) (tI : PySem.W.typeIn X.K (.ref fI) = some (.type "function")) (G : FnOk X.prog X.w X.K X.mg X.base CX k fI fd ps sp) (hr : Room (k + 1) X.A)
    (hb : Binds X.K fd ps []) (hx : Passes CX X EX) (hg : Gl X x) (hm : X.mg x = some (.ref C)) (ha : PA X (e :: es) t) (hdb : (x == ("__debug__" : Str)) = false := by decide)
    (he : starEach (e :: es) X.env = (false, eval e X.env) :: starEach es X.env := by rfl) (hpl : (backTo pos (starEach es X.env)).any (·.1) = false := by rfl) :
    PE X (.Call (.Name x p) (e :: es) [] pos) (tMakeX C sp EX t) := by
  refine ⟨fun pins s σ H Q I z => ?_⟩
  refine wpAny_Call_Name_kw (ld_glob I hg hm ?_ hdb)
  refine PySem.W.callWith_K (h₀ := X.base) I.ok.mod.kin T.kp (thn (ha.run pos pins s σ H _ I z) fun us s1 ⟨vs, H1, I1, r, len, q⟩ => ⟨I1.kIn, ?_⟩) he hpl
  have ll : ∀ y : Addr, H1 y = none → (Value.ref y :: us ++ []).length = ps.length := fun y hy => by
    rw [← G.len _ _ _ _ (q y hy), List.append_nil, List.length_cons, List.length_cons, r.length]
  refine omake (ws := us) T iC tI G hr hx I1 (by
    show us.length ≤ 1000
    rw [← r.length]
    exact len) (.inl rfl) (fun s' K' y => ?_) r q
  have e1 := hb s' (Value.ref y :: us) K' (by
    have z := ll (s1.heap.objs.size) (I1.hok.fresh (Nat.le_refl _))
    exact z)
  rw [List.append_nil] at e1
  exact e1
theorem peMakeX0 (T : OX X.K C newId initId bm) (iC : PySem.W.findIn X.K (.ref C) "__init__" = some (some (.ref fI))) (tI : PySem.W.typeIn X.K (.ref fI) = some (.type "function")) (G : FnOk X.prog X.w X.K X.mg X.base CX k fI fd ["self"] sp) (hr : Room (k + 1) X.A)
    (hb : Binds X.K fd ["self"] []) (hx : Passes CX X EX) (hg : Gl X x) (hm : X.mg x = some (.ref C)) (hdb : (x == ("__debug__" : Str)) = false := by decide) :
    PE X (.Call (.Name x p) [] [] pos) (tMakeX C sp EX tNil) := by
  refine ⟨fun pins s σ H Q I z => ?_⟩
  refine wpAny_Call_Name_kw (ld_glob I hg hm ?_ hdb)
  refine PySem.W.callWith_K0 I.kIn T.kp ?_
  exact omake (us := []) (ws := []) T iC tI G hr hx I (by decide) (.inl rfl) (fun s' K' y => hb s' [Value.ref y] K' rfl) .nil z.2
theorem peMakeXK (T : OX X.K C newId initId bm) (iC : PySem.W.findIn X.K (.ref C) "__init__" = some (some (.ref fI))) (tI : PySem.W.typeIn X.K (.ref fI) = some (.type "function")) (G : FnOk X.prog X.w X.K X.mg X.base CX k fI fd [("self" : Str), kn] sp) (hr : Room (k + 1) X.A)
    (hb : ∀ us ws : List Value, us.length = 1 → ws.length = 1 → bindArgs fd ⟨us, [kn].zip ws⟩ = pure ([("self" : Str), kn].zip (us ++ ws))) (hx : Passes CX X EX) (hg : Gl X x) (hm : X.mg x = some (.ref C)) (he : PE X e te) (hdb : (x == ("__debug__" : Str)) = false := by decide)
    (hall : (backToKw pos (keywordEach [⟨some kn, e, kpos⟩] X.env)).all (·.1.isSome) = true := by rfl) (hks : (backToKw pos (keywordEach [⟨some kn, e, kpos⟩] X.env)).filterMap (·.1) = [kn] := by rfl)
    (hpl : ((backTo pos (starEach [] X.env)).any (·.1) || (backToKw pos (keywordEach [⟨some kn, e, kpos⟩] X.env)).any (·.1.isNone)) = false := by rfl) :
    PE X (.Call (.Name x p) [] [⟨some kn, e, kpos⟩] pos) (tMakeX C sp EX (tCons te tNil)) := by
  refine ⟨fun pins s σ H Q I z => ?_⟩
  refine wpAny_Call_Name_kw (ld_glob I hg hm ?_ hdb)
  refine PySem.W.callWith_KW0 (h₀ := X.base) I.ok.mod.kin T.kp hall ?_ hpl
  refine thn ((pk_cons he pk_nil).run pos pins s σ H _ I z) fun ws s2 ⟨zs, H2, I2, rz, len, q2⟩ => ⟨I2.kIn, ?_⟩
  rw [hks]
  have lw : ws.length = 1 := by
    have h0 := G.len _ _ _ _ (q2 _ (I2.hok.fresh (Nat.le_refl _)))
    rw [List.length_cons, rz.length] at h0
    have h1 : ws.length + 1 = 2 := h0
    omega
  obtain ⟨w1, rfl⟩ : ∃ w1, ws = [w1] := by
    match ws, lw with
    | [w1], _ => exact ⟨w1, rfl⟩
  exact omake (us := []) (ws := [w1]) T iC tI G hr hx I2 (by decide) (.inr ⟨_, _, rfl⟩) (fun s' K' y => .of_eq (hb [Value.ref y] [w1] rfl rfl)) rz q2
theorem peXat (T : OXS X.K C newId initId bm f) (he : PE X e te) (hb : attributeBase e f X.env (eval e X.env) = eval e X.env := by rfl) : PE X (.Attribute e f pos) (tXat X.K C f te) := by
  refine ⟨fun pins s σ H Q I z => ?_⟩
  refine attr_of hb (thn (he.run pins s σ H _ I z) fun u s1 ⟨x, H1, I1, rx, a, dx, fs, v, ex, e1, e2, l, q⟩ => ?_)
  subst ex
  obtain rfl : u = Value.ref a := rx
  obtain ⟨t1, ho⟩ := exo_at I1.hok e1
  obtain ⟨m, hn, rel⟩ := exd_at I1.hok e2
  obtain ⟨od, hod, hl⟩ := lookIn_ns hn
  obtain ⟨w, hw, rw'⟩ := RelO.some_of (v := v) (o := m f) (by rw [← l]; exact rel f)
  have J : PySem.W.InstAt s1.heap a { cls := .ref C, dict := some dx, data := .fields #[.ref t1, .none, .none, .none, .bool false, .none] } C (some od) := ⟨ho, rfl, rfl, hod⟩
  exact HandSPX.exc_get I1.kIn J T.xc.hg T.xc.hk T.xc.hs (PySem.W.findObj_own T.xc.hd T.no rfl (by rw [hl, hw])) (handed_of rw') ⟨v, H1, I1.tok _, rw', q⟩
theorem peInitX {pl : Sem Bool} {B : Str} {Bs : String} (T : OX X.K C newId initId bm) (hg : Gl X B) (hm : X.mg B = none) (hv : bootBuiltins B = some (.type Bs)) (ty : typeOf (.type Bs) = pure (.type "type")) (ns : Manifest.isStub Bs = false)
    (fi : PySem.W.findCls X.K (.type Bs) (.type "type") "__init__" = some (.val (.builtin initId))) (hh : PySem.W.handedIn (.builtin initId) = true) (ha : PA X (e :: es) t)
    (hn : B ≠ "__name__" := by decide) (hdb : (B == ("__debug__" : Str)) = false := by decide)
    (hc : eval (.Call (.Attribute (.Name B p1) "__init__" p2) (e :: es) [] pos) X.env = (do
      let ov ← eval (.Name B p1) X.env
      standAt p2.atName
      let (f, first) ← holding [ov] (getMethod ov "__init__" pl)
      callWith pos f first (backTo pos (starEach (e :: es) X.env)) (backToKw pos (keywordEach [] X.env))) := by rfl)
    (he : starEach (e :: es) X.env = (false, eval e X.env) :: starEach es X.env := by rfl) (hpl : (backTo pos (starEach es X.env)).any (·.1) = false := by rfl) :
    PE X (.Call (.Attribute (.Name B p1) "__init__" p2) (e :: es) [] pos) (tInitX C t) := by
  refine ⟨fun pins s σ H Q I z => ?_⟩
  refine PySem.W.methodCall_KW (ld_blt I hg hm hv ?_ hn hdb) hc
  obtain ⟨m, fr⟩ := I.fr
  refine PySem.W.method_type fr I.ok.mod.kin ty ns fi hh ?_
  show wpAny _ _ (callWith pos (Value.builtin initId) [] (backTo pos (starEach (e :: es) X.env)) []) _ _ _
  refine PyProof.Rows.callWith_method1 (thn (ha.run pos pins _ σ H _ (I.tok _) z) fun us s1 ⟨vs, H1, I1, r1, a, ws, ev, len, ea, q⟩ => ?_) he hpl
  subst ev
  cases r1 with
  | @cons _ u0 _ ur ra rr =>
    obtain rfl : u0 = Value.ref a := ra
    exact oinit T I1 ea (by
      rw [← Paired.length rr]
      exact Nat.le_of_lt (small1000 len)) fun s' J => ⟨.non, H1, J, rfl, q⟩
theorem psSetX (T : OXS X.K C newId initId bm f) (ho : PE X o to) (he : PE X e te) (hs : swapsWith e (some (.Attribute o f p')) pos.line X.env = pure false := by rfl) : PS X (.Assign [.Attribute o f p'] e pos) (tSetX C f to te) := by
  refine ⟨fun pins s σ H D I z => ?_⟩
  refine plainObj_wpAny_Assign_Attribute (thn (he.run pins s σ H _ I z) fun v s1 ⟨y, H1, I1, r1, q1⟩ => thn (ho.run pins s1 σ H1 _ I1 q1) fun u s2 ⟨x, H2, I2, r2, a, ex, ea, q⟩ => ?_) hs
  subst ex
  obtain rfl : u = Value.ref a := r2
  exact ostNew T I2 ea r1 fun dx s' n ne J => ⟨σ, _, J, q dx n ne⟩
theorem callIsX : CallR X (.builtin "isinstance") (rIsX X.K) := by
  intro pins s σ H xs us Q I r z
  obtain ⟨a, C, d, c, cv, b, rfl, ea, ed, xc, hcv, ek, q⟩ := z
  match us, r with
  | [_, u2], .cons rx (.cons rt .nil) =>
    cases rx
    have ec := hcv _ rt
    subst ec
    obtain ⟨t1, ho⟩ := exo_at I.hok ea
    cases d with
    | none =>
      have J : PySem.W.InstAt s.heap a { cls := .ref C, dict := none, data := .fields #[.ref t1, .none, .none, .none, .bool false, .none] } C none := ⟨ho, rfl, rfl, trivial⟩
      exact PySem.W.kia_one (kitE xc) I.kIn J ek (fun w => nomatch w) fun tk => ⟨.bl b, H, I.kept (t' := tk) fun _ _ w => w, rfl, q⟩
    | some dx =>
      obtain ⟨fs, hd⟩ := ed dx rfl
      obtain ⟨m, hn, rel⟩ := exd_at I.hok hd
      obtain ⟨od, hod, hl⟩ := lookIn_ns hn
      have J : PySem.W.InstAt s.heap a { cls := .ref C, dict := some dx, data := .fields #[.ref t1, .none, .none, .none, .bool false, .none] } C (some od) := ⟨ho, rfl, rfl, hod⟩
      exact PySem.W.kia_one (kitE xc) I.kIn J ek (fun w => nomatch w) fun tk => ⟨.bl b, H, I.kept (t' := tk) fun _ _ w => w, rfl, q⟩
end
end KC
end L2
end
/-! ### KD -/
section
namespace PySem
namespace KD
open Sem (wp)
open SeqAt
/-! ## dicts whose keys are of several sorts: numbers, bools, texts, tuples of such -/
abbrev Row := NestedKey × Value × Value
def rowE (w : World) (r : Row) : DictEntry := ⟨r.1.hash w, r.2.1, r.2.2⟩
/-- at d a dict with the rows xs -/
structure DM (w : World) (h : Heap) (d : Addr) (xs : List Row) : Prop where
  at_ : ∃ o es ep, h.get? d = some o ∧ o.ExactDict ∧ o.data = .dict es ep ∧ es.toList = xs.map (rowE w)
  once : (xs.map (·.1)).Nodup
def KeysOk (h : Heap) (xs : List Row) : Prop := ∀ r ∈ xs, NestedIs h r.1 r.2.1 ∧ r.1.depth ≤ 8
def lookM (xs : List Row) (k : NestedKey) : Option Row := xs.find? fun r => NestedKey.beq r.1 k
def putM (xs : List Row) (k : NestedKey) (key v : Value) : List Row :=
  if xs.any (fun r => NestedKey.beq r.1 k) then xs.map (fun r => if NestedKey.beq r.1 k then (r.1, r.2.1, v) else r) else xs ++ [(k, key, v)]
theorem beq_iff (a b : NestedKey) : NestedKey.beq a b = true ↔ a = b := ⟨NestedKey.eq_of_beq a b, fun e => e ▸ NestedKey.beq_self a⟩
section
variable {prog : Program} {w : World} {A : Around} {E : Value → Shared → Prop} {s : Shared} {d : Addr} {xs : List Row} {k : NestedKey} {key v : Value}
theorem row_at {es : Array DictEntry} (he : es.toList = xs.map (rowE w)) (j : Nat) : es[j]? = (xs[j]?).map (rowE w) := by
  rw [← Array.getElem?_toList, he, List.getElem?_map]
theorem row_size {es : Array DictEntry} (he : es.toList = xs.map (rowE w)) : es.size = xs.length := by
  rw [← Array.length_toList, he, List.length_map]
theorem row_one (hn : (xs.map (·.1)).Nodup) {i j : Nat} {p q : Value × Value} (hi : xs[i]? = some (k, p)) (hj : xs[j]? = some (k, q)) : i = j := by
  have a : (xs.map (·.1))[i]? = some k := by
    rw [List.getElem?_map, hi]
    rfl
  have b : (xs.map (·.1))[j]? = some k := by
    rw [List.getElem?_map, hj]
    rfl
  exact (List.getElem?_inj (List.getElem?_eq_some_iff.mp a).1 hn).mp (a.trans b.symm)
/-- the place of a key, and what is wanted there -/
theorem find_m {o : Obj} {es : Array DictEntry} {ep : Nat} {Q : Option Nat → Shared → Prop} (hu : A.units + 9 < cLine) (hk : NestedIs s.heap k key) (h8 : k.depth ≤ 8)
    (ho : s.heap.get? d = some o) (hd : o.data = .dict es ep) (he : es.toList = xs.map (rowE w)) (ok : KeysOk s.heap xs) (hn : (xs.map (·.1)).Nodup)
    (z0 : (∀ (j : Nat) (p : Value × Value), xs[j]? ≠ some (k, p)) → Q none s) (z1 : ∀ (j : Nat) (p : Value × Value), xs[j]? = some (k, p) → Q (some j) s) :
    wpAny (model prog w) A (dictFind d key (k.hash w)) Q E s := by
  have sz : es.size = xs.length := row_size he
  have has : ∀ (j : Nat) (p : Value × Value), xs[j]? = some (k, p) → ((es[j]?.map (·.hash)) == some (k.hash w)) = true := fun j p hj => by
    rw [row_at he j, hj]
    simp [rowE]
  have eqs : ∀ (k' : NestedKey) (u : Value) (p : Value), (k', u, p) ∈ xs → EqAt A s u key (NestedKey.beq k' k) := fun k' u p hm =>
    eqAt_key k' k A s u key (ok _ hm).1 hk (by
      have := (ok _ hm).2
      omega)
  have rowOf : ∀ x, x < es.size → ∃ k' u p, xs[x]? = some (k', u, p) ∧ es[x]? = some ⟨k'.hash w, u, p⟩ := fun x hx => by
    refine ⟨(xs[x]'(by omega)).1, (xs[x]'(by omega)).2.1, (xs[x]'(by omega)).2.2, List.getElem?_eq_getElem _, ?_⟩
    rw [row_at he x, List.getElem?_eq_getElem (by omega)]
    rfl
  have quiet : ∀ (k' : NestedKey) (u : Value), NestedIs s.heap k' u → k'.depth ≤ 8 → QuietAt prog w 8 s u := fun k' u hi hd' => quiet_key k' u 8 s hi hd'
  -- the plain walk
  have plain : wpAny (model prog w) A (dictWalkPlain d key (k.hash w) es (placesWithHash es.size (fun i => es[i]?.map (·.hash)) (k.hash w))) Q E s := by
    unfold dictWalkPlain
    refine wpAny_bind ?_
    refine wpAny_forIn_list _ (fun rest b s' => s' = s ∧ b = (none, ()) ∧ ∃ i, rest = (List.range' i (es.size - i)).filter (fun i => (es[i]?.map (·.hash)) == some (k.hash w)) ∧ i ≤ es.size ∧ ∀ j p, j < i → xs[j]? ≠ some (k, p)) _ ?_ ?_ _ _
      ⟨rfl, rfl, 0, by rw [placesWithHash, List.range_eq_range', Nat.sub_zero], Nat.zero_le _, fun _ _ q => absurd q (Nat.not_lt_zero _)⟩
    · rintro x rest b s' ⟨rfl, rfl, i, hr, hi, no⟩
      obtain ⟨le, lt, px, skip, hrest⟩ := filter_range'_cons _ _ _ _ _ hr.symm
      have hx : x < es.size := by omega
      obtain ⟨k', u, p, hkv, hex⟩ := rowOf x hx
      have no' : k' ≠ k → ∀ j p, j < x + 1 → xs[j]? ≠ some (k, p) := fun ne j p' hj hq => by
        rcases Nat.lt_or_ge j i with q | q
        · exact no j p' q hq
        rcases Nat.lt_or_ge j x with q' | q'
        · have y := skip j q q'
          rw [has j p' hq] at y
          cases y
        · obtain rfl : j = x := by omega
          rw [hkv] at hq
          cases hq
          exact ne rfl
      have go : k' ≠ k → ∃ i, rest = (List.range' i (es.size - i)).filter (fun i => (es[i]?.map (·.hash)) == some (k.hash w)) ∧ i ≤ es.size ∧ ∀ j p, j < i → xs[j]? ≠ some (k, p) := fun ne =>
        ⟨x + 1, by rw [hrest]; congr 2; omega, hx, no' ne⟩
      rw [hex]
      dsimp only
      by_cases hh : (k'.hash w == k.hash w) = true
      · rw [if_pos hh]
        refine wpAny_bind (wpAny_dictEpoch ho hd (wpAny_bind (eqs k' u p (List.mem_of_getElem? hkv) _ _ _ _ (wpAny_bind (wpAny_dictEpoch ho hd ?_)))))
        show wpAny _ _ (if (ep != ep) = true then _ else _) _ E _
        rw [if_neg (by simp)]
        cases hb : NestedKey.beq k' k with
        | true =>
          obtain rfl := (beq_iff k' k).mp hb
          exact wpAny_bind (wpAny_rule (wpAny_pure (wpAny_pure (z1 x _ hkv))))
        | false => exact wpAny_bind (wpAny_rule (wpAny_pure ⟨rfl, rfl, go fun e => by
            rw [e, NestedKey.beq_self] at hb
            cases hb⟩))
      · rw [if_neg hh]
        exact wpAny_pure ⟨rfl, rfl, go fun e => hh (by rw [e]; simp)⟩
    · rintro b s' ⟨rfl, rfl, i, hr, hi, no⟩
      refine wpAny_pure (z0 fun j p hj => ?_)
      rcases Nat.lt_or_ge j i with q | q
      · exact no j p q hj
      · have hjl : j < es.size := by
          rw [sz]
          exact (List.getElem?_eq_some_iff.mp hj).1
        have y := List.filter_eq_nil_iff.mp hr.symm j (List.mem_range'_1.mpr ⟨q, by omega⟩)
        exact y (has j p hj)
  have tell : ∀ (Q' : Bool → Shared → Prop), Q' false s → wpAny (model prog w) A (tableMayTell key ((placesWithHash es.size (fun i => es[i]?.map (·.hash)) (k.hash w)).filterMap (fun i => es[i]?.map (·.key)))) Q' E s := by
    intro Q' z
    have st : ∀ u ∈ (placesWithHash es.size (fun i => es[i]?.map (·.hash)) (k.hash w)).filterMap (fun i => es[i]?.map (·.key)), QuietAt prog w 8 s u := by
      intro u hu'
      obtain ⟨i, _, hi⟩ := List.mem_filterMap.mp hu'
      cases hei : es[i]? with
      | none =>
        rw [hei] at hi
        cases hi
      | some e =>
        rw [hei] at hi
        obtain rfl : e.key = u := by simpa using hi
        have hlt := (Array.getElem?_eq_some_iff.mp hei).1
        obtain ⟨k', u', p, hkv, hex⟩ := rowOf i hlt
        rw [hex] at hei
        cases hei
        have m := List.mem_of_getElem? hkv
        exact quiet k' u' (ok _ m).1 (ok _ m).2
    unfold tableMayTell
    split
    · exact wpAny_pure z
    · refine wpAny_bind (quiet k key hk h8 _ _ _ ?_)
      simp only [Bool.not_true, Bool.false_eq_true, if_false]
      refine wpAny_bind ?_
      refine wpAny_forIn_list _ (fun rest r s' => s' = s ∧ r = (none, ()) ∧ ∀ u ∈ rest, QuietAt prog w 8 s u) _ ?_ ?_ _ _ ⟨rfl, rfl, st⟩
      · rintro x rest r s' ⟨rfl, rfl, hr⟩
        refine wpAny_bind (hr x List.mem_cons_self _ _ _ ?_)
        simp only [Bool.not_true, Bool.false_eq_true, if_false]
        exact wpAny_pure ⟨rfl, rfl, fun u hu' => hr u (List.mem_cons_of_mem _ hu')⟩
      · rintro r s' ⟨rfl, rfl, _⟩
        exact wpAny_pure z
  have texts : ∀ x t, key = .str x t → (es.all fun e => isExactStrKey e.key) = true → wpAny (model prog w) A (foundByValue d key es x) Q E s := by
    intro x t ek hall
    subst ek
    have ekk : k = .text x := by
      cases hk
      rfl
    subst ekk
    have isT : ∀ j (hj : j < es.size), es[j].key.isStr x = true ↔ ∃ p, xs[j]? = some (NestedKey.text x, p) := by
      intro j hj
      obtain ⟨k', u', p, hkv, hex⟩ := rowOf j hj
      have e1 : es[j] = ⟨k'.hash w, u', p⟩ := by
        rw [Array.getElem?_eq_getElem hj] at hex
        exact Option.some.inj hex
      have h1 : isExactStrKey u' = true := by
        have := Array.all_eq_true.mp hall j hj
        rw [e1] at this
        exact this
      rw [e1]
      obtain ⟨y, ty, rfl⟩ : ∃ y ty, u' = .str y ty := by
        cases u' <;> first
          | exact ⟨_, _, rfl⟩
          | cases h1
      have h2 : k' = .text y := by
        have q := (ok _ (List.mem_of_getElem? hkv)).1
        cases q
        rfl
      subst h2
      constructor
      · intro q
        have : y = x := by simpa [Value.isStr] using q
        subst this
        exact ⟨_, hkv⟩
      · rintro ⟨p', q⟩
        rw [hkv] at q
        cases q
        simp [Value.isStr]
    unfold foundByValue
    cases hf : es.findIdx? (fun e => e.key.isStr x) with
    | none =>
      refine wpAny_pure (z0 fun j p hj => ?_)
      have hjl : j < es.size := by
        rw [sz]
        exact (List.getElem?_eq_some_iff.mp hj).1
      have q := Array.findIdx?_eq_none_iff.mp hf es[j] (Array.getElem_mem hjl)
      rw [(isT j hjl).mpr ⟨p, hj⟩] at q
      cases q
    | some i =>
      obtain ⟨hlt, hi, _⟩ := Array.findIdx?_eq_some_iff_getElem.mp hf
      obtain ⟨p, hp⟩ := (isT i hlt).mp hi
      obtain ⟨k', u', p', hkv, hex⟩ := rowOf i hlt
      rw [hp] at hkv
      cases hkv
      simp only [hex]
      refine wpAny_bind (wpAny_dictEpoch ho hd (wpAny_bind (eqs _ u' p' (List.mem_of_getElem? hp) _ _ _ _ (wpAny_bind (wpAny_dictEpoch ho hd ?_)))))
      show wpAny _ _ (if (ep != ep) = true then _ else _) _ E _
      rw [if_neg (by simp), NestedKey.beq_self]
      exact wpAny_bind (wpAny_rule (wpAny_pure (z1 i _ hp)))
  have hany : ∀ a, key = .ref a → ¬ (es.any fun e => e.key == Value.ref a && e.hash != k.hash w) = true := by
    intro a ek
    subst ek
    rw [← Array.any_toList, List.any_eq_true]
    rintro ⟨e, hin, hc⟩
    rw [he] at hin
    obtain ⟨r, hr, rfl⟩ := List.mem_map.mp hin
    simp only [rowE, Bool.and_eq_true, beq_iff_eq, bne_iff_ne, ne_eq] at hc
    obtain ⟨e1, ne⟩ := hc
    have q := (ok r hr).1
    rw [e1] at q
    exact ne (by rw [NestedIs.inj _ _ _ q hk])
  have fin : ∀ key', key' = key → wpAny (model prog w) A (dictFind d key' (k.hash w)) Q E s := by
    intro key' ek
    unfold dictFind
    try with_reducible refine wpAny_holding ?_
    refine wpAny_bind (wpAny_dictEntries ho hd ?_)
    have tell' := tell
    rw [← ek] at tell'
    have plain' := plain
    rw [← ek] at plain'
    clear tell plain
    cases key'
    case' str x t => refine wpAny_ite_split (fun hall => by
        rw [ek]
        exact texts x t ek.symm hall) (fun _ => ?_)
    all_goals refine wpAny_ite_split (fun _ => plain') (fun _ => ?_)
    case' ref => refine wpAny_ite_split (fun q => absurd q (hany _ ek.symm)) (fun _ => ?_)
    all_goals
      refine wpAny_ite_split (fun _ => wpAny_bind (wpAny_pure ?_)) (fun _ => wpAny_bind (tell' _ ?_))
      all_goals
        refine wpAny_ite_split (fun q => absurd q (by simp)) (fun _ => ?_)
        refine wpAny_bind ?_
        refine wpAny_forIn_list _ (fun rest b s' => s' = s ∧ ∃ i hit, b = (none, hit) ∧ rest = (List.range' i (es.size - i)).filter (fun i => (es[i]?.map (·.hash)) == some (k.hash w)) ∧ i ≤ es.size ∧
            ((hit = none ∧ ∀ j p, j < i → xs[j]? ≠ some (k, p)) ∨ ∃ j p, hit = some j ∧ j < i ∧ xs[j]? = some (k, p))) _ ?_ ?_ _ _
          ⟨rfl, 0, none, rfl, by rw [placesWithHash, List.range_eq_range', Nat.sub_zero], Nat.zero_le _, .inl ⟨rfl, fun _ _ q => absurd q (Nat.not_lt_zero _)⟩⟩
        · rintro x rest b s' ⟨rfl, i, hit, rfl, hr, hi, hH⟩
          obtain ⟨le, lt, px, skip, hrest⟩ := filter_range'_cons _ _ _ _ _ hr.symm
          have hx : x < es.size := by omega
          obtain ⟨k', u, p, hkv, hex⟩ := rowOf x hx
          have hrest' : rest = (List.range' (x + 1) (es.size - (x + 1))).filter (fun i => (es[i]?.map (·.hash)) == some (k.hash w)) := by
            rw [hrest]
            congr 2
            omega
          have before : (hit = none ∧ ∀ j p, j < x → xs[j]? ≠ some (k, p)) ∨ ∃ j p, hit = some j ∧ j < x ∧ xs[j]? = some (k, p) := by
            rcases hH with ⟨h0, no⟩ | ⟨j, p', h1, hj, hq⟩
            · refine .inl ⟨h0, fun j p' hj hq => ?_⟩
              rcases Nat.lt_or_ge j i with q | q
              · exact no j p' q hq
              · have y := skip j q hj
                rw [has j p' hq] at y
                cases y
            · exact .inr ⟨j, p', h1, by omega, hq⟩
          have stay : k' ≠ k → ((hit = none ∧ ∀ j p, j < x + 1 → xs[j]? ≠ some (k, p)) ∨ ∃ j p, hit = some j ∧ j < x + 1 ∧ xs[j]? = some (k, p)) := by
            intro ne
            rcases before with ⟨h0, no⟩ | ⟨j, p', h1, hj, hq⟩
            · refine .inl ⟨h0, fun j p' hj hq => ?_⟩
              rcases Nat.lt_or_ge j x with q | q
              · exact no j p' q hq
              · obtain rfl : j = x := by omega
                rw [hkv] at hq
                cases hq
                exact ne rfl
            · exact .inr ⟨j, p', h1, by omega, hq⟩
          rw [hex]
          refine wpAny_ite_split (fun hh => ?_) (fun hh => ?_)
          · have eq' := eqs k' u p (List.mem_of_getElem? hkv)
            rw [← ek] at eq'
            refine wpAny_bind (wpAny_dictEpoch ho hd (wpAny_bind (eq' _ _ _ _ (wpAny_bind (wpAny_dictEpoch ho hd ?_)))))
            refine wpAny_ite_split (fun q => absurd q (by simp)) (fun _ => ?_)
            refine wpAny_ite_split (fun hb => ?_) (fun hb => ?_)
            · obtain rfl := (beq_iff k' k).mp hb
              rcases before with ⟨rfl, _⟩ | ⟨j, p', _, hjx, hj⟩
              · refine wpAny_ite_split (fun q => absurd q (by simp)) (fun _ => ?_)
                refine wpAny_bind (wpAny_rule ?_)
                refine wpAny_ite_split (fun _ => ?_) (fun _ => ?_)
                · exact wpAny_pure (wpAny_pure (z1 x _ hkv))
                · exact wpAny_pure ⟨rfl, x + 1, some x, rfl, hrest', hx, .inr ⟨x, _, rfl, Nat.lt_succ_self x, hkv⟩⟩
              · exact absurd (row_one hn hj hkv) (by omega)
            · have ne : k' ≠ k := fun e => hb (by rw [e, NestedKey.beq_self])
              refine wpAny_bind (wpAny_rule ?_)
              refine wpAny_ite_split (fun q => absurd q (by simp)) (fun _ => ?_)
              exact wpAny_pure ⟨rfl, x + 1, hit, rfl, hrest', hx, stay ne⟩
          · exact wpAny_pure ⟨rfl, x + 1, hit, rfl, hrest', hx, stay fun e => hh (by rw [e]; simp)⟩
        · rintro b s' ⟨rfl, i, hit, rfl, hr, hi, hH⟩
          rcases hH with ⟨rfl, no⟩ | ⟨j, p, rfl, _, hj⟩
          · refine wpAny_pure (z0 fun j p hj => ?_)
            rcases Nat.lt_or_ge j i with q | q
            · exact no j p q hj
            · have hjl : j < es.size := by
                rw [sz]
                exact (List.getElem?_eq_some_iff.mp hj).1
              have y := List.filter_eq_nil_iff.mp hr.symm j (List.mem_range'_1.mpr ⟨q, by omega⟩)
              exact y (has j p hj)
          · exact wpAny_pure (z1 j p hj)
  exact fin key rfl
theorem look_iff (hn : (xs.map (·.1)).Nodup) : (∀ (j : Nat) (p : Value × Value), xs[j]? = some (k, p) → lookM xs k = some (k, p)) ∧ ((∀ (j : Nat) (p : Value × Value), xs[j]? ≠ some (k, p)) → lookM xs k = none) := by
  constructor
  · intro j p hj
    have m := List.mem_of_getElem? hj
    cases hl : lookM xs k with
    | none => exact absurd (NestedKey.beq_self k) (List.find?_eq_none.mp hl _ m)
    | some r =>
      obtain ⟨rk, rp⟩ := r
      have e1 := (beq_iff rk k).mp (List.find?_some (p := fun r : Row => NestedKey.beq r.1 k) (a := (rk, rp)) (l := xs) hl)
      obtain ⟨i, hi⟩ := List.mem_iff_getElem?.mp (List.mem_of_find?_eq_some (p := fun r : Row => NestedKey.beq r.1 k) (l := xs) hl)
      rw [e1] at hi
      obtain rfl := row_one hn hi hj
      rw [hi] at hj
      rw [e1]
      exact hj
  · intro no
    refine List.find?_eq_none.mpr fun r hr hb => ?_
    obtain ⟨i, hi⟩ := List.mem_iff_getElem?.mp hr
    obtain ⟨rk, rp⟩ := r
    obtain rfl := (beq_iff rk k).mp hb
    exact no i rp hi
theorem putM_new (no : ∀ (j : Nat) (p : Value × Value), xs[j]? ≠ some (k, p)) : putM xs k key v = xs ++ [(k, key, v)] := by
  unfold putM
  rw [if_neg]
  intro q
  obtain ⟨r, hr, hb⟩ := List.any_eq_true.mp q
  obtain ⟨i, hi⟩ := List.mem_iff_getElem?.mp hr
  obtain ⟨rk, rp⟩ := r
  obtain rfl := (beq_iff rk k).mp hb
  exact no i rp hi
theorem putM_old {j : Nat} {p : Value × Value} (hj : xs[j]? = some (k, p)) : putM xs k key v = xs.map (fun r => if NestedKey.beq r.1 k then (r.1, r.2.1, v) else r) := by
  unfold putM
  rw [if_pos]
  exact List.any_eq_true.mpr ⟨_, List.mem_of_getElem? hj, NestedKey.beq_self k⟩
theorem put_modify (hn : (xs.map (·.1)).Nodup) {j : Nat} {p : Value × Value} (hj : xs[j]? = some (k, p)) :
    (xs.map (rowE w)).modify j (fun e => { e with val := v }) = (xs.map fun r => if NestedKey.beq r.1 k then (r.1, r.2.1, v) else r).map (rowE w) := by
  apply List.ext_getElem?
  intro i
  rw [List.getElem?_modify, List.getElem?_map, List.getElem?_map, List.getElem?_map]
  by_cases hij : j = i
  · subst hij
    rw [hj]
    simp [rowE, NestedKey.beq_self]
  · cases hx : xs[i]? with
    | none => simp
    | some r =>
      obtain ⟨rk, rp⟩ := r
      have ne : NestedKey.beq rk k = false := by
        cases hb : NestedKey.beq rk k with
        | false => rfl
        | true =>
          obtain rfl := (beq_iff rk k).mp hb
          exact absurd (row_one hn hj hx) hij
      simp [hij, ne]
theorem keys_put : (xs.map fun r => if NestedKey.beq r.1 k then (r.1, r.2.1, v) else r).map (·.1) = xs.map (·.1) := by
  rw [List.map_map]
  refine List.map_congr_left fun r _ => ?_
  show (if NestedKey.beq r.1 k then (r.1, r.2.1, v) else r).1 = r.1
  split <;> rfl
theorem KeysOk.put {h : Heap} (ok : KeysOk h xs) (hk : NestedIs h k key) (h8 : k.depth ≤ 8) : KeysOk h (putM xs k key v) := by
  intro r hr
  unfold putM at hr
  split at hr
  · obtain ⟨q, hq, rfl⟩ := List.mem_map.mp hr
    split
    · exact ok q hq
    · exact ok q hq
  · rcases List.mem_append.mp hr with hr | hr
    · exact ok r hr
    · obtain rfl := List.mem_singleton.mp hr
      exact ⟨hk, h8⟩
theorem set_m {Q : Unit → Shared → Prop} (hu : A.units + 9 < cLine) (hk : NestedIs s.heap k key) (h8 : k.depth ≤ 8) (D : DM w s.heap d xs) (ok : KeysOk s.heap xs) (len : xs.length ≤ sizeLine)
    (z : ∀ h' tk, DM w h' d (putM xs k key v) → Heap.SameBut d s.heap h' → Q () { s with heap := h', toks := tk }) : wpAny (model prog w) A (dictSet d key v) Q E s := by
  obtain ⟨⟨o, es, ep, ho, hc, hd, he⟩, hn⟩ := D
  unfold dictSet
  try with_reducible refine wpAny_holding ?_
  refine wpAny_bind (pyHash_key k key A s _ hk (by omega) ?_)
  unfold dictSetHashed
  try with_reducible refine wpAny_holding ?_
  refine wpAny_bind (find_m (s := { s with toks := s.toks + k.draws }) hu hk h8 ho hd he ok hn (fun no => ?_) (fun j p hj => ?_))
  · refine wpAny_bind (wpAny_rule (wpAny_updateDictKeys (hz := by
      have e := row_size he
      omega) (s := { s with toks := s.toks + k.draws }) ho hd (z _ _ ⟨⟨_, _, ep + 1, Heap.get?_update_self _ ho (Obj.isFreed_of_dict (Obj.data_mapDictKeys hd _)), hc.mapDictKeys _, Obj.data_mapDictKeys hd _, ?_⟩, ?_⟩ (Heap.SameBut.update ..))))
    · rw [putM_new no]
      simp [he, rowE]
    · rw [putM_new no, List.map_append, List.nodup_append]
      refine ⟨hn, by simp, fun a ha b hb e => ?_⟩
      obtain rfl : b = k := by simpa using hb
      subst e
      obtain ⟨r, hr, er⟩ := List.mem_map.mp ha
      obtain ⟨i, hi⟩ := List.mem_iff_getElem?.mp hr
      obtain ⟨rk, rp⟩ := r
      obtain rfl : rk = a := er
      exact no i rp hi
  · refine wpAny_bind (wpAny_rule (wpAny_bind (wpAny_updateDict (s := { s with toks := s.toks + k.draws }) ho hd (wpAny_point (z _ _ ⟨⟨_, _, ep, Heap.get?_update_self _ ho (Obj.isFreed_of_dict (Obj.data_mapDict hd _)), hc.mapDict _, Obj.data_mapDict hd _, ?_⟩, ?_⟩ (Heap.SameBut.update ..))))))
    · rw [putM_old hj, ← put_modify hn hj, ← he]
      obtain ⟨l⟩ := es
      simp
    · rw [putM_old hj, keys_put]
      exact hn
theorem get_m {Q : Option Value → Shared → Prop} (hu : A.units + 9 < cLine) (hk : NestedIs s.heap k key) (h8 : k.depth ≤ 8) (D : DM w s.heap d xs) (ok : KeysOk s.heap xs)
    (z : ∀ tk, Q ((lookM xs k).map (·.2.2)) { s with toks := tk }) : wpAny (model prog w) A (dictGet d key) Q E s := by
  obtain ⟨⟨o, es, ep, ho, hc, hd, he⟩, hn⟩ := D
  unfold dictGet
  try with_reducible refine wpAny_holding ?_
  refine wpAny_bind (pyHash_key k key A s _ hk (by omega) (wpAny_bind (find_m (s := { s with toks := s.toks + k.draws }) hu hk h8 ho hd he ok hn (fun no => ?_) (fun j p hj => ?_))))
  · have q := z (s.toks + k.draws)
    rw [(look_iff hn).2 no] at q
    exact wpAny_pure q
  · have q := z (s.toks + k.draws)
    rw [(look_iff hn).1 j p hj] at q
    refine wpAny_bind (wpAny_dictEntries (s := { s with toks := s.toks + k.draws }) ho hd ?_)
    rw [row_at he j, hj]
    exact wpAny_pure q
theorem DM.typeIs (D : DM w s.heap d xs) : s.TypeIs (.ref d) "dict" := let ⟨o, _, _, ho, hc, _⟩ := D.at_; ⟨o, ho, hc.1⟩
theorem DM.raw {h : Heap} (D : DM w h d xs) : ∃ es ep, h.DictRaw d es ep ∧ es.toList = xs.map (rowE w) := let ⟨o, es, ep, ho, hc, hd, he⟩ := D.at_; ⟨es, ep, ⟨o, ho, hc, hd⟩, he⟩
/-- d[k], there -/
theorem item_m {r : Row} {Q : Value → Shared → Prop} (hu : A.units + 10 < cLine) (hk : NestedIs s.heap k key) (h8 : k.depth ≤ 8) (D : DM w s.heap d xs) (ok : KeysOk s.heap xs) (hr : lookM xs k = some r)
    (z : ∀ tk, Q r.2.2 { s with toks := tk }) : wpAny (model prog w) A (getItem (.ref d) key) Q E s := by
  unfold getItem
  try with_reducible refine wpAny_holding ?_
  refine wpAny_bind (wpAny_sequenceKey D.typeIs (by decide) ?_)
  refine wpAny_bind (wpAny_callSpecial?_slot (name := Str.ofString "__getitem__") D.typeIs slot_dict_getitem
    (wpAny_call_entry slot_dict_getitem D.typeIs entry_dict_getitem ?_ (args_dict_getitem _ _)))
  show wpAny _ _ (dictGet d key >>= _) _ _ s
  refine wpAny_bind (get_m (by rw [Around.in1_units]; omega) hk h8 D ok fun tk => ?_)
  rw [hr]
  exact wpAny_pure ⟨r.2.2, rfl, wpAny_pure (z tk)⟩
/-- d[k] = v -/
theorem store_m {Q : Unit → Shared → Prop} (hu : A.units + 10 < cLine) (hk : NestedIs s.heap k key) (h8 : k.depth ≤ 8) (D : DM w s.heap d xs) (ok : KeysOk s.heap xs) (len : xs.length ≤ sizeLine)
    (z : ∀ h' tk, DM w h' d (putM xs k key v) → Heap.SameBut d s.heap h' → Q () { s with heap := h', toks := tk }) : wpAny (model prog w) A (setItem (.ref d) key v) Q E s := by
  unfold setItem
  try with_reducible refine wpAny_holding ?_
  refine wpAny_bind (wpAny_sequenceKey D.typeIs (by decide) ?_)
  refine wpAny_bind (wpAny_callSpecial?_slot (name := Str.ofString "__setitem__") D.typeIs slot_dict_setitem
    (wpAny_call_entry slot_dict_setitem D.typeIs entry_dict_setitem ?_ (args_dict_setitem _ _ _)))
  show wpAny _ _ (Builtin.Dict.notOrdered "__setitem__" ⟨[.ref d, key, v], []⟩ >>= _) _ _ s
  refine wpAny_bind (wpAny_notOrdered_dict D.typeIs ?_)
  show wpAny _ _ (dictSet d key v >>= _) _ _ s
  exact wpAny_bind (set_m (by rw [Around.in1_units]; omega) hk h8 D ok len fun h' tk D' hs => wpAny_pure ⟨.none, rfl, wpAny_pure (z h' tk D' hs)⟩)
end
end KD
end PySem
end
/-! ### KE1 -/
section
namespace L2
namespace KE
open PySem PySem.Spec PyProof.Rows PySem.KD
/-! ## dicts with keys of several sorts, in the hand layer -/
abbrev MRow := NestedKey × V × V
def MRel (p : MRow) (r : KD.Row) : Prop := p.1 = r.1 ∧ RelV p.2.1 r.2.1 ∧ RelV p.2.2 r.2.2
def mdo (w : World) (d : Addr) (xs : List MRow) : HO := .ext fun h => xs.length ≤ 1000 ∧ (d == sysModules) = false ∧ ∃ rows, Paired MRel xs rows ∧ DM w h d rows
mutual
/-- the value v is the key k -/
inductive KA (H : Hp) : NestedKey → V → Prop
  | none : KA H .none .non
  | num (i : Int) : KA H (.num i) (.int i)
  | bool (b : Bool) : KA H (.num (if b = true then 1 else 0)) (.bl b)
  | text (x : Str) : KA H (.text x) (.str x)
  | tup {a : Addr} {vs : List V} {ks : List NestedKey} : H a = some (.tup vs) → KAs H ks vs → KA H (.tup ks) (.ref a)
inductive KAs (H : Hp) : List NestedKey → List V → Prop
  | nil : KAs H [] []
  | cons {k : NestedKey} {v : V} {ks : List NestedKey} {vs : List V} : KA H k v → KAs H ks vs → KAs H (k :: ks) (v :: vs)
end
def kAt (H : Hp) (k : NestedKey) (v : V) : Prop := KA H k v ∧ k.depth ≤ 8
theorem kAt.text (H : Hp) (x : Str) : kAt H (.text x) (.str x) := ⟨.text x, Nat.zero_le _⟩
theorem kAt.num (H : Hp) (i : Int) : kAt H (.num i) (.int i) := ⟨.num i, Nat.zero_le _⟩
theorem kAt.bool (H : Hp) (b : Bool) : kAt H (.num (if b = true then 1 else 0)) (.bl b) := ⟨.bool b, Nat.zero_le _⟩
theorem kAt.none (H : Hp) : kAt H .none .non := ⟨.none, Nat.zero_le _⟩
mutual
theorem KA.mono {H H' : Hp} (t : ∀ a xs, H a = some (.tup xs) → H' a = some (.tup xs)) : ∀ {k : NestedKey} {v : V}, KA H k v → KA H' k v
  | _, _, .none => .none
  | _, _, .num i => .num i
  | _, _, .bool b => .bool b
  | _, _, .text x => .text x
  | _, _, .tup e r => .tup (t _ _ e) (r.mono t)
theorem KAs.mono {H H' : Hp} (t : ∀ a xs, H a = some (.tup xs) → H' a = some (.tup xs)) : ∀ {ks : List NestedKey} {vs : List V}, KAs H ks vs → KAs H' ks vs
  | _, _, .nil => .nil
  | _, _, .cons a r => .cons (a.mono t) (r.mono t)
end
mutual
theorem KA.is {P : Program} {w : World} {H : Hp} {h : Heap} (ok : HOk P w H h) : ∀ {k : NestedKey} {v : V}, KA H k v → ∀ {u : Value}, RelV v u → NestedIs h k u
  | _, _, .none, u, r => by
    obtain rfl : u = Value.none := r
    exact .none
  | _, _, .num i, _, ⟨t, e⟩ => by
    subst e
    exact .int i t
  | _, _, .bool b, u, r => by
    obtain rfl : u = Value.bool b := r
    exact .bool rfl
  | _, _, .text x, _, ⟨t, e⟩ => by
    subst e
    exact .text x t
  | _, _, .tup (a := a) (vs := vs) (ks := ks) e q, u, r => by
    obtain rfl : u = Value.ref a := r
    obtain ⟨_, its, rr, o, h1, h2, n, h3⟩ := (show ObjOk P w H h a (.tup vs) from ok a _ e)
    exact .tup h1 h2 h3 (by simpa using q.is ok rr)
theorem KAs.is {P : Program} {w : World} {H : Hp} {h : Heap} (ok : HOk P w H h) : ∀ {ks : List NestedKey} {vs : List V}, KAs H ks vs → ∀ {us : List Value}, Vals vs us → NestedAll h ks us
  | _, _, .nil, _, .nil => .nil
  | _, _, .cons a q, _, .cons r rs => .cons (a.is ok r) (q.is ok rs)
end
def KAll (H : Hp) (xs : List MRow) : Prop := ∀ p ∈ xs, kAt H p.1 p.2.1
def lookH (xs : List MRow) (k : NestedKey) : Option MRow := xs.find? fun r => NestedKey.beq r.1 k
def putH (xs : List MRow) (k : NestedKey) (key v : V) : List MRow :=
  if xs.any (fun r => NestedKey.beq r.1 k) then xs.map (fun r => if NestedKey.beq r.1 k then (r.1, r.2.1, v) else r) else xs ++ [(k, key, v)]
def mergeH (xs ps : List MRow) : List MRow := ps.foldl (fun acc p => putH acc p.1 p.2.1 p.2.2) xs
theorem putH_len (xs : List MRow) (k : NestedKey) (key v : V) : (putH xs k key v).length ≤ xs.length + 1 := by
  unfold putH
  split
  · rw [List.length_map]
    omega
  · rw [List.length_append]
    exact Nat.le_refl _
theorem mergeH_len (ps : List MRow) : ∀ xs : List MRow, (mergeH xs ps).length ≤ xs.length + ps.length := by
  induction ps with
  | nil => exact fun xs => Nat.le_refl _
  | cons p ps ih =>
    intro xs
    have h1 := ih (putH xs p.1 p.2.1 p.2.2)
    have h2 := putH_len xs p.1 p.2.1 p.2.2
    show (mergeH (putH xs p.1 p.2.1 p.2.2) ps).length ≤ xs.length + (ps.length + 1)
    omega
theorem kAt.mono {H H' : Hp} {k : NestedKey} {v : V} (h : kAt H k v) (t : ∀ a xs, H a = some (.tup xs) → H' a = some (.tup xs)) : kAt H' k v := ⟨h.1.mono t, h.2⟩
section
variable {P : Program} {w : World} {H H' : Hp} {h h' : Heap} {d : Addr} {xs : List MRow} {rows : List KD.Row} {k : NestedKey} {key v : V} {u : Value}
theorem kAt.is (q : kAt H k key) (ok : HOk P w H h) (r : RelV key u) : NestedIs h k u ∧ k.depth ≤ 8 := ⟨q.1.is ok r, q.2⟩
theorem keysOk (q : KAll H xs) (ok : HOk P w H h) (r : Paired MRel xs rows) : KeysOk h rows := by
  induction r with
  | nil => exact fun _ hm => nomatch hm
  | @cons p r ps rs hr t ih =>
    intro x hx
    rcases List.mem_cons.mp hx with rfl | hx
    · have z := (q p List.mem_cons_self).is ok hr.2.1
      rw [hr.1] at z
      exact z
    · exact ih (fun p' hp => q p' (List.mem_cons_of_mem _ hp)) x hx
theorem dmKeep (D : DM w h d rows) (k : ∀ o, h.get? d = some o → h'.get? d = some o) : DM w h' d rows :=
  ⟨let ⟨o, es, ep, ho, r⟩ := D.at_; ⟨o, es, ep, k _ ho, r⟩, D.once⟩
theorem mdo_ok (l : xs.length ≤ 1000) (sy : (d == sysModules) = false) (r : Paired MRel xs rows) (D : DM w h d rows) : ObjOk P w H h d (mdo w d xs) :=
  ⟨⟨l, sy, rows, r, D⟩, let ⟨o, _, _, ho, _⟩ := D.at_; ⟨o, ho⟩, fun _ _ ⟨l', s', rows', r', D'⟩ k => ⟨l', s', rows', r', dmKeep D' k⟩⟩
theorem mdo_rd (ok : HOk P w H h) (e : Rd H d (mdo w d xs)) : xs.length ≤ 1000 ∧ (d == sysModules) = false ∧ ∃ rows, Paired MRel xs rows ∧ DM w h d rows :=
  (show ObjOk P w H h d (.ext _) from e.ok ok).1
theorem rel_any (r : Paired MRel xs rows) : (xs.any fun r => NestedKey.beq r.1 k) = rows.any fun r => NestedKey.beq r.1 k := by
  induction r with
  | nil => rfl
  | cons hr t ih => rw [List.any_cons, List.any_cons, ih, hr.1]
theorem rel_put (r : Paired MRel xs rows) {uk uv : Value} (rk : RelV key uk) (rv : RelV v uv) : Paired MRel (putH xs k key v) (putM rows k uk uv) := by
  unfold putH putM
  rw [rel_any r]
  split
  · rename_i q
    clear q
    induction r with
    | nil => exact .nil
    | @cons p r' ps rs hr t ih =>
      refine .cons ?_ ih
      show MRel (if NestedKey.beq p.1 k then (p.1, p.2.1, v) else p) (if NestedKey.beq r'.1 k then (r'.1, r'.2.1, uv) else r')
      rw [← hr.1]
      split
      · exact ⟨rfl, hr.2.1, rv⟩
      · exact hr
  · rename_i q
    clear q
    induction r with
    | nil => exact .cons ⟨rfl, rk, rv⟩ .nil
    | cons hr t ih => exact .cons hr ih
theorem rel_look (r : Paired MRel xs rows) {p : MRow} (e : lookH xs k = some p) : ∃ q, lookM rows k = some q ∧ MRel p q := by
  unfold lookH at e
  unfold lookM
  induction r with
  | nil => cases e
  | @cons p' r' ps rs hr t ih =>
    rw [List.find?_cons] at e ⊢
    rw [← hr.1]
    cases hb : NestedKey.beq p'.1 k with
    | true =>
      rw [hb] at e
      cases e
      exact ⟨r', rfl, hr⟩
    | false =>
      rw [hb] at e
      exact ih e
theorem KAll.put (q : KAll H xs) (hk : kAt H k key) : KAll H (putH xs k key v) := by
  intro p hp
  unfold putH at hp
  split at hp
  · obtain ⟨r, hr, rfl⟩ := List.mem_map.mp hp
    split
    · exact q r hr
    · exact q r hr
  · rcases List.mem_append.mp hp with hp | hp
    · exact q p hp
    · obtain rfl := List.mem_singleton.mp hp
      exact hk
end
/-! ### readings and rules -/
section
variable {X : Cx} {pins : List (Addr × Obj)} {σ : St} {H : Hp} {s : Shared} {d : Addr} {xs : List MRow}
theorem vals1' {x : V} {us : List Value} (r : Vals [x] us) : ∃ u, us = [u] ∧ RelV x u := by
  cases r with
  | cons h t =>
    cases t
    exact ⟨_, rfl, h⟩
/-- d[k], there -/
def rIxM (w : World) : R2 := fun x y H Q => ∃ a es k p, x = .ref a ∧ Rd H a (mdo w a es) ∧ KAll H es ∧ kAt H k y ∧ lookH es k = some p ∧ Q p.2.2 H
theorem ixM (hu : X.A.units + 10 < cLine) : IxR X (rIxM X.w) := by
  intro value slice pins s σ H x y v u Q I rx ry z hs
  obtain ⟨a, es, k, p, rfl, e, ka, hk, hp, q⟩ := z
  cases rx
  obtain ⟨l, sy, rows, rr, D⟩ := mdo_rd I.hok e
  obtain ⟨r, hr, rel⟩ := rel_look rr hp
  obtain ⟨nk, h8⟩ := hk.is I.hok ry
  exact tail_any D.typeIs slot_dict_getitem.lookup (item_m hu nk h8 D (keysOk ka I.hok rr) hr fun tk => ⟨p.2.2, H, I.tok tk, rel.2.2, q⟩) hs
/-- d[k] = v -/
def rSetM (w : World) : TSet := fun x y v H Q => ∃ a es k, x = .ref a ∧ H a = some (mdo w a es) ∧ es.length < 1000 ∧ KAll H es ∧ kAt H k y ∧ Q (upd H a (mdo w a (putH es k y v)))
theorem wrM {h' : Heap} {tk : Nat} {es : List MRow} {rows : List KD.Row} (I : Inv X pins σ H s) (e : H d = some (mdo X.w d xs)) (l : es.length ≤ 1000) (sy : (d == sysModules) = false) (rr : Paired MRel es rows) (D : DM X.w h' d rows) (hs : Heap.SameBut d s.heap h') :
    Inv X pins σ (upd H d (mdo X.w d es)) { s with heap := h', toks := tk } :=
  I.write (x := d) (e := d) (by rw [e]; exact trivial) (.inl rfl) (fun b q hb z => (hs.2 b hb).trans z) (let ⟨o, _, _, ho, _⟩ := D.at_; ⟨o, ho⟩) (mdo_ok l sy rr D)
theorem setM (hu : X.A.units + 10 < cLine) : PSet X (rSetM X.w) := by
  intro pins s σ H o i v ov iv u Q I ro ri rv z
  obtain ⟨a, es, k, rfl, e, l, ka, hk, q⟩ := z
  cases ro
  obtain ⟨l0, sy, rows, rr, D⟩ := mdo_rd I.hok (.inl e)
  obtain ⟨nk, h8⟩ := hk.is I.hok ri
  have ln : rows.length ≤ sizeLine := by
    rw [← Paired.length rr]
    exact Nat.le_of_lt (small1000 l0)
  refine store_m hu nk h8 D (keysOk ka I.hok rr) ln fun h' tk D' hs => ⟨_, wrM I e ?_ sy (rel_put rr ri rv) D' hs, q⟩
  have := putH_len es k i v
  omega
end
end KE
end L2
end
/-! ### KE2 -/
section
namespace PySem
namespace KD
section
variable {prog : Program} {w : World} {A : Around} {E : Value → Shared → Prop} {s : Shared} {d : Addr} {es : Array DictEntry} {ep : Nat}
theorem lenRaw {Q : Value → Shared → Prop} (sy : (d == sysModules) = false) (raw : s.heap.DictRaw d es ep) (fit : (es.size : Int) < 2 ^ 63) (z : ∀ t tk, Q (.int es.size t) { s with toks := tk }) :
    wpAny (model prog w) A (call (.builtin "len") [.ref d]) Q E s := by
  refine Calls.call_function_entry kind_len plain_len entry_len (args_len1 _) ?_
  unfold Builtin.«len»
  refine wpAny_bind (m := oneArg "len" _) (wpAny_pure ?_)
  refine wpAny_bind (m := callSpecial? (.ref d) (Str.ofString "__len__")) (wpAny_callSpecial?_slot (name := Str.ofString "__len__") raw.typeIs F.slot_dict_len (call_len_raw sy raw ?_))
  refine wpAny_bind (wpAny_holding (wpAny_pure ?_))
  refine wpAny_bind (wpAny_letGo ?_)
  refine wpAny_ite_split (fun q => absurd q (by omega)) (fun _ => ?_)
  refine wpAny_ite_split (fun q => absurd q (by omega)) (fun _ => ?_)
  exact wpAny_bind (wpAny_mkInt (wpAny_pure ⟨_, rfl, z _ _⟩))
end
end KD
end PySem
namespace L2
namespace KE
open PySem PySem.Spec PyProof.Rows PySem.KD
section
variable {X : Cx} {pins : List (Addr × Obj)} {σ : St} {H : Hp} {s : Shared} {d : Addr} {xs : List MRow}
theorem callLenM : CallR X (.builtin "len") (fun ys H Q => ∃ a es, ys = [.ref a] ∧ Rd H a (mdo X.w a es) ∧ Q (.int es.length) H) := by
  intro pins s σ H ys us Q I r z
  obtain ⟨a, es, rfl, e, q⟩ := z
  obtain ⟨u, rfl, ru⟩ := vals1' r
  cases ru
  obtain ⟨l, sy, rows, rr, D⟩ := mdo_rd I.hok e
  obtain ⟨ens, ep, raw, he⟩ := D.raw
  have hl : ens.size = es.length := by
    rw [row_size he]
    exact (Paired.length rr).symm
  refine lenRaw sy raw (by omega) fun t tk => ⟨.int es.length, H, I.tok tk, ⟨t, by rw [hl]⟩, q⟩
theorem rows_at {es : List MRow} {rows : List KD.Row} {ens : Array DictEntry} {w : World} (rr : Paired MRel es rows) (he : ens.toList = rows.map (rowE w)) {i : Nat} {p : MRow} (hp : es[i]? = some p) : ∃ u v, ens[i]? = some ⟨p.1.hash w, u, v⟩ ∧ RelV p.2.1 u ∧ RelV p.2.2 v := by
  obtain ⟨r, hr, rel⟩ := LiI.paired_get rr hp
  refine ⟨r.2.1, r.2.2, ?_, rel.2.1, rel.2.2⟩
  rw [row_at he i, hr, rel.1]
  rfl
/-- list(d): the keys -/
theorem callListM (hc : X.calm = true) : CallR X (.type "list") (fun ys H Q => ∃ a es, ys = [.ref a] ∧ Rd H a (mdo X.w a es) ∧ ∀ l, H l = none → Q (.ref l) (upd H l (.lst (es.map (·.2.1))))) := by
  intro pins s σ H ys us Q I r z
  obtain ⟨a, es, rfl, e, q⟩ := z
  obtain ⟨u, rfl, ru⟩ := vals1' r
  cases ru
  obtain ⟨l, sy, rows, rr, D⟩ := mdo_rd I.hok e
  obtain ⟨ens, ep, raw, he⟩ := D.raw
  have hl : ens.size = es.length := by
    rw [row_size he]
    exact (Paired.length rr).symm
  refine PySem.W.kdl_call (KdlSrc.rawDict (es := ens) (ep := ep) sy) (I.ok.hd hc) raw (by
    rw [hl]
    exact Nat.le_of_lt (small1000 l)) fun h' tk acc c' kp hS hacc => ?_
  refine ⟨.ref s.heap.objs.size, upd H s.heap.objs.size (.lst (es.map (·.2.1))), I.laid kp (Nat.le_refl _) (show ObjOk X.prog X.w _ _ _ (.lst (es.map (·.2.1))) from ⟨?_, acc.toList, c', ?_, ?_⟩), rfl, q _ (I.hok.fresh (Nat.le_refl _))⟩
  · rw [List.length_map]
    exact Nat.le_of_lt (small1000 l)
  · have el : acc.toList.length = acc.size := by simp
    refine vals_of_at (by rw [List.length_map, el, hacc.1, hl]) fun j x w h1 h2 => ?_
    obtain ⟨hi, ev⟩ := hacc.2 j w (by rw [← Array.getElem?_toList]; exact h2)
    rw [List.getElem?_map] at h1
    obtain ⟨p, hp, rfl⟩ := Option.map_eq_some_iff.mp h1
    obtain ⟨u, v, e1, e2, e3⟩ := rows_at rr he hp
    rw [Array.getElem?_eq_getElem hi] at e1
    rw [ev, Option.some.inj e1]
    exact e2
  · rw [Array.toArray_toList]
    exact hS
/-- list(d.values()) -/
def tListVals (w : World) (te : TE) : TE := fun σ H Q => te σ H fun x H1 => ∃ a es, x = .ref a ∧ Rd H1 a (mdo w a es) ∧ ∀ l, H1 l = none → Q (.ref l) (upd H1 l (.lst (es.map (·.2.2))))
theorem peListVals {e : Expr} {te : TE} {p apos cpos pos : Pos} (hc : X.calm = true) (he : PE X e te) (hg : Gl X "list") (hm : X.mg "list" = none) (hv : bootBuiltins "list" = some (.type "list")) (hbase : attributeBase e "values" X.env (eval e X.env) = eval e X.env := by rfl) (hline : (apos.endLine == cpos.line) = true := by rfl)
    (hs : starEach [.Call (.Attribute e "values" apos) [] [] cpos] X.env = (false, eval (.Call (.Attribute e "values" apos) [] [] cpos) X.env) :: starEach [] X.env := by rfl) :
    PE X (.Call (.Name "list" p) [.Call (.Attribute e "values" apos) [] [] cpos] [] pos) (tListVals X.w te) := by
  refine ⟨fun pins s σ H Q I hq => ?_⟩
  refine wpAny_Call_Name_kw (ld_blt I hg hm hv ?_)
  refine PyProof.Rows.callWith_type1 ?_ hs rfl
  rw [hs]
  show wpAny _ _ (spliced ((false, eval (.Call (.Attribute e "values" apos) [] [] cpos) X.env) :: backTo pos (starEach [] X.env))) _ _ s
  refine Calls.spliced_cons ?_
  refine wpAny_Call_method (T := "dict") (id := "dict.values") hbase rfl hline F.plainAttrs_dict F.slot_dict_values F.type_dict_values (thn (he.run pins s σ H _ I hq) fun u s1 ⟨x, H1, I1, rx, a, es, ex, e, q⟩ => ?_)
  subst ex
  obtain rfl : u = Value.ref a := rx
  obtain ⟨l, sy, rows, rr, D⟩ := mdo_rd I1.hok e
  obtain ⟨ens, ep, raw, heq⟩ := D.raw
  have hl : ens.size = es.length := by
    rw [row_size heq]
    exact (Paired.length rr).symm
  have I2 : Inv X pins σ H1 { s1 with heap := s1.heap.push { cls := .type "dict_values", data := .fields #[.ref a] } } := I1.kept (t' := s1.toks) fun b ob q => Heap.get?_push_of_some _ q
  refine ⟨raw.typeIs, fun b eb => ?_, ?_⟩
  · cases eb
    obtain ⟨o, ho, ex, _⟩ := raw
    exact ⟨o, ho, ex.2.1⟩
  show wpAny _ _ (callWith cpos (.builtin "dict.values") [.ref a] [] []) _ X.xe s1
  refine method_meetsIn F.slot_dict_values F.entry_dict_values rfl (PySem.evalArgs_none ⟨rfl, raw.typeIs, F.args_dict_values_1 _, _, meets_dict_values_raw a sy, ⟨ens, ep, raw⟩, ?_⟩)
  refine Calls.spliced_nil ?_
  refine PySem.W.kdl_call (KdlSrc.rawValues (es := ens) (ep := ep) (d := a)) (I1.ok.hd hc) ⟨⟨_, Heap.get?_push_size _ rfl, rfl, rfl⟩, raw.push _⟩ (by
    rw [hl]
    exact Nat.le_of_lt (small1000 l)) fun h' tk acc c' kp hS hacc => ?_
  refine ⟨.ref _, upd H1 _ (.lst (es.map (·.2.2))), I2.laid kp (Nat.le_refl _) (show ObjOk X.prog X.w _ _ _ (.lst (es.map (·.2.2))) from ⟨?_, acc.toList, c', ?_, ?_⟩), rfl, q _ (I2.hok.fresh (Nat.le_refl _))⟩
  · rw [List.length_map]
    exact Nat.le_of_lt (small1000 l)
  · have el : acc.toList.length = acc.size := by simp
    refine vals_of_at (by rw [List.length_map, el, hacc.1, hl]) fun j x w h1 h2 => ?_
    obtain ⟨hi, ev⟩ := hacc.2 j w (by rw [← Array.getElem?_toList]; exact h2)
    rw [List.getElem?_map] at h1
    obtain ⟨p, hp, rfl⟩ := Option.map_eq_some_iff.mp h1
    obtain ⟨u, v, e1, e2, e3⟩ := rows_at rr heq hp
    rw [Array.getElem?_eq_getElem hi] at e1
    rw [ev, Option.some.inj e1]
    exact e3
  · rw [Array.toArray_toList]
    exact hS
/-- for k in d, while d is locked -/
def ItkM (w : World) (d : Addr) (o : Obj) (es : List MRow) : It :=
  ⟨fun i H => H d = some (.frz o (mdo w d es)) ∧ i < es.length, fun i H x H' => H' = H ∧ ∃ p, es[i]? = some p ∧ x = p.2.1, fun i H => H d = some (.frz o (mdo w d es)) ∧ es.length ≤ i⟩
def iKeysMM (w : World) (td : TE) : TI := fun σ H R => td σ H fun x H1 => ∃ d o es, x = .ref d ∧ H1 d = some (.frz o (mdo w d es)) ∧ R (ItkM w d o es) H1
theorem frzM {o : Obj} {es : List MRow} (I : Inv X pins σ H s) (e : H d = some (.frz o (mdo X.w d es))) : (d == sysModules) = false ∧ s.heap.get? d = some o ∧ o.ExactDict ∧ ∃ (ens : Array DictEntry) (ep : Nat), o.data = .dict ens ep ∧ ens.size = es.length ∧
    ∀ (i : Nat) (p : MRow), es[i]? = some p → ∃ u v, ens[i]? = some (⟨p.1.hash X.w, u, v⟩ : DictEntry) ∧ RelV p.2.1 u ∧ RelV p.2.2 v := by
  obtain ⟨l, sy, rows, rr, D⟩ := mdo_rd I.hok (.inr ⟨o, e⟩)
  obtain ⟨o2, ens, ep, ho, ex, hd, he⟩ := D.at_
  have e0 : s.heap.get? d = some o := (show ObjOk X.prog X.w H s.heap d (.frz o (mdo X.w d es)) from I.hok d _ e).1
  rw [e0] at ho
  cases ho
  refine ⟨sy, e0, ex, ens, ep, hd, ?_, fun i p hp => rows_at rr he hp⟩
  rw [row_size he]
  exact (Paired.length rr).symm
theorem turnM {P : Program} {w : World} {K : PySem.W.Frag} {tg : Expr} {o : Obj} {es : List MRow} {ens : Array DictEntry} {ep : Nat} (it : Addr) (hod : o.data = .dict ens ep) : Turn P w K tg (ItkM w d o es) [it] it (fun i h => h.IsKeyIter it d i es.length ep) where
  mem := by simp
  obj := fun i h st b hb => by
    obtain rfl : b = it := by simpa using hb
    obtain ⟨oi, e, c, dd⟩ := st
    refine ⟨oi, e, fun v z => ?_⟩
    rw [dd] at z
    cases z
  keep := fun i h h' st k => st.at fun oi e => k it (by simp) oi e
  item := by
    intro X hP hw hK hc i pins s σ H E I hf st hg
    subst hP hw hK
    obtain ⟨hd, hi⟩ := hg
    obtain ⟨f0, f1, f2, f3, f4, f5⟩ := hf it (by simp)
    obtain ⟨sy, hgd, hx, ens', ep', hdt, hsz, ent⟩ := frzM I hd
    obtain ⟨rfl, rfl⟩ := dict_ep hod hdt
    obtain ⟨u, v, hen, r1, r2⟩ := ent i es[i] (List.getElem?_eq_getElem hi)
    refine next_key_item st hgd hdt hsz hen fun h' st' sb => ?_
    have I1 : Inv X pins σ H { s with heap := h' } := I.turned (t' := s.toks) (fun b ob hb e => (sb.2 b hb).trans e) f0 f1 f3 f4 f5
    obtain ⟨oi, e, c, dd⟩ := id st'
    exact ⟨u, rfl, go_of (s := { s with heap := h' }) e c dd (by decide) ⟨_, H, I1, r1, ⟨rfl, es[i], List.getElem?_eq_getElem hi, rfl⟩, st', fun b hb => (hf b hb).1⟩⟩
  done := by
    intro X hP hw hK hc i pins s σ H E I hf st hg
    subst hP hw hK
    obtain ⟨hd, hi⟩ := hg
    obtain ⟨f0, f1, f2, f3, f4, f5⟩ := hf it (by simp)
    obtain ⟨sy, hgd, hx, ens', ep', hdt, hsz, ent⟩ := frzM I hd
    obtain ⟨rfl, rfl⟩ := dict_ep hod hdt
    exact next_key_end (I.ok.hd hc) st hgd hdt hsz hi fun h' eb => ⟨rfl, I.turned (t' := s.toks) (fun b ob hb e => eb b ob hb e) f0 f1 f3 f4 f5⟩
  self := fun A i s Q E st h => wpAny_pyIter_keyiter st h
theorem piKeysM {tg e : Expr} {td : TE} (he : PE X e td) : PI X tg e (iKeysMM X.w td) := by
  refine ⟨fun pins s σ H R I z => ?_⟩
  refine thn (he.run pins s σ H _ I z) fun u s1 ⟨x, H1, I1, rx, d, o, es, ex, hd, q⟩ => ?_
  subst ex
  obtain rfl : u = Value.ref d := rx
  obtain ⟨sy, hgd, hx, ens, ep, hdt, hsz, ent⟩ := frzM I1 hd
  refine iter_keys sy hgd hx hdt (pi_one (tk := s1.toks) I1 _ (turnM _ hdt) ⟨_, Heap.get?_push_size _ rfl, rfl, ?_⟩ q)
  rw [hsz]
  rfl
theorem walkM {w : World} {o : Obj} {es : List MRow} : Walk (ItkM w d o es) es.length (fun H => H d = some (.frz o (mdo w d es))) (fun i H x H' => H' = H ∧ ∃ p, es[i]? = some p ∧ x = p.2.1) :=
  ⟨fun _ _ hi q => ⟨q, hi⟩, fun _ q => ⟨q, Nat.le_refl _⟩, fun _ _ _ _ _ _ y => y⟩
end
end KE
end L2
end
/-! ### KE3 -/
section
namespace L2
namespace KE
open PySem PySem.Spec PyProof.Rows PySem.KD
def mergeM (xs rs : List KD.Row) : List KD.Row := rs.foldl (fun acc r => putM acc r.1 r.2.1 r.2.2) xs
theorem merge_rel : ∀ {ps : List MRow} {rs : List KD.Row} {xs : List MRow} {ys : List KD.Row}, Paired MRel ps rs → Paired MRel xs ys → Paired MRel (mergeH xs ps) (mergeM ys rs)
  | _, _, _, _, .nil, r => r
  | p :: ps, q :: rs, xs, ys, .cons h t, r => by
    show Paired MRel (mergeH (putH xs p.1 p.2.1 p.2.2) ps) (mergeM (putM ys q.1 q.2.1 q.2.2) rs)
    rw [← h.1]
    exact merge_rel t (rel_put r h.2.1 h.2.2)
theorem mergeM_ok {h : Heap} : ∀ {rs xs : List KD.Row}, KeysOk h rs → KeysOk h xs → KeysOk h (mergeM xs rs)
  | [], _, _, q => q
  | r :: rs, xs, p, q => mergeM_ok (rs := rs) (xs := putM xs r.1 r.2.1 r.2.2) (fun x hx => p x (List.mem_cons_of_mem _ hx)) (q.put (p r List.mem_cons_self).1 (p r List.mem_cons_self).2)
theorem putM_len (xs : List KD.Row) (k : NestedKey) (key v : Value) : (putM xs k key v).length ≤ xs.length + 1 := by
  unfold putM
  split
  · rw [List.length_map]
    omega
  · rw [List.length_append]
    exact Nat.le_refl _
theorem mergeM_len (rs : List KD.Row) : ∀ xs : List KD.Row, (mergeM xs rs).length ≤ xs.length + rs.length := by
  induction rs with
  | nil => exact fun xs => Nat.le_refl _
  | cons p ps ih =>
    intro xs
    have h1 := ih (putM xs p.1 p.2.1 p.2.2)
    have h2 := putM_len xs p.1 p.2.1 p.2.2
    show (mergeM (putM xs p.1 p.2.1 p.2.2) ps).length ≤ xs.length + (ps.length + 1)
    omega
theorem mergeM_step (rs : List KD.Row) {i : Nat} {r : KD.Row} (h : rs[i]? = some r) : mergeM [] (rs.take (i + 1)) = putM (mergeM [] (rs.take i)) r.1 r.2.1 r.2.2 := by
  unfold mergeM
  rw [List.take_succ, h, List.foldl_append]
  rfl
section
variable {X : Cx} {pins : List (Addr × Obj)} {σ : St} {H : Hp} {s : Shared}
theorem pairs_rows (ok : HOk X.prog X.w H s.heap) : ∀ {ts : List Addr} {ps : List MRow}, Paired (fun (t : Addr) (p : MRow) => H t = some (.tup [p.2.1, p.2.2])) ts ps →
    ∃ rs : List KD.Row, Paired MRel ps rs ∧ rs.length = ts.length ∧ ∀ (j : Nat) (k v : Value), (rs.map (·.2))[j]? = some (k, v) → ∃ t, ts[j]? = some t ∧ PairAt s.heap t k v
  | _, _, .nil => ⟨[], .nil, rfl, fun j k v e => by simp at e⟩
  | t :: ts, p :: ps, .cons h r => by
    obtain ⟨rs, r1, l1, a1⟩ := pairs_rows ok r
    obtain ⟨_, its, rr, o, h1, h2, n, h3⟩ := (show ObjOk X.prog X.w H s.heap t (.tup [p.2.1, p.2.2]) from ok t _ h)
    match its, rr with
    | [u, v], .cons ru (.cons rv .nil) =>
      refine ⟨(p.1, u, v) :: rs, .cons ⟨rfl, ru, rv⟩ r1, congrArg Nat.succ l1, fun j k w e => ?_⟩
      cases j with
      | zero =>
        simp at e
        obtain ⟨rfl, rfl⟩ := e
        exact ⟨t, rfl, .inl ⟨o, h1, h2, n, h3⟩⟩
      | succ j => exact a1 j k w (by simpa using e)
/-- dict(pairs) -/
theorem callDictM (hu : X.A.units + 20 < cLine) (hc : X.calm = true) : CallR X (.type "dict") (fun ys H Q => ∃ (a : Addr) (ts : List Addr) (ps : List MRow), ys = [.ref a] ∧ H a = some (.lst (ts.map .ref)) ∧ Paired (fun (t : Addr) (p : MRow) => H t = some (.tup [p.2.1, p.2.2])) ts ps ∧ KAll H ps ∧ ps.length ≤ 900 ∧
    ∀ d, H d = none → Q (.ref d) (upd H d (mdo X.w d (mergeH [] ps)))) := by
  intro pins s σ H ys us Q I r z
  obtain ⟨a, ts, ps, rfl, ha, pr, ka, lp, q⟩ := z
  obtain ⟨u, rfl, ru⟩ := vals1' r
  cases ru
  obtain ⟨rs, rr, lr, at_⟩ := pairs_rows I.hok pr
  obtain ⟨z0, its, n, rv, hla⟩ := (show ObjOk X.prog X.w H s.heap a (.lst (ts.map V.ref)) from I.hok a _ ha)
  have lps : ps.length = rs.length := Paired.length rr
  have lit : its.length = ts.length := by
    have := Paired.length rv
    rw [List.length_map] at this
    exact this.symm
  have keys : KeysOk s.heap rs := keysOk ka I.hok rr
  have ref_at : ∀ j t, ts[j]? = some t → its[j]? = some (Value.ref t) := fun j t e => by
    obtain ⟨u, hu', rl⟩ := rv.get (i := j) (x := V.ref t) (by rw [List.getElem?_map, e]; rfl)
    rw [hu']
    exact congrArg some rl
  have ok : PlainSeq "list" s.heap a its.toArray ∧ PairItems s.heap its.toArray (fun j => ts.getD j 0) (rs.map (·.2)) := by
    refine ⟨⟨_, n, hla, rfl, rfl, rfl⟩, by simp [lit, lr], fun j k v e => ?_⟩
    obtain ⟨t, et, pa⟩ := at_ j k v e
    have eg : ts.getD j 0 = t := by rw [List.getD_eq_getElem?_getD, et]; rfl
    show its.toArray[j]? = some (Value.ref (ts.getD j 0)) ∧ PairAt s.heap (ts.getD j 0) k v
    rw [eg]
    exact ⟨by rw [List.getElem?_toArray]; exact ref_at j t et, pa⟩
  have big : (s.heap.objs.size == sysModules) = false := beq_eq_false_iff_ne.mpr (Ne.symm (Nat.ne_of_lt I.big))
  refine call_dict_arg (PairArg.list a its.toArray (fun j => ts.getD j 0) (rs.map (·.2))) ok fun s1 hs1 hdf ok1 => ?_
  subst hs1
  let d := s.heap.objs.size
  let Tab : Nat → Heap → Prop := fun i h => DM X.w h d (mergeM [] (rs.take i)) ∧ ∀ b o vs n, s.heap.get? b = some o → o.data = .seq vs n → h.get? b = some o
  have tab0 : Tab 0 (s.heap.push { cls := .type "dict", data := .dict #[] }) := by
    refine ⟨⟨⟨_, #[], 0, Heap.get?_push_size _ rfl, ⟨rfl, rfl, rfl⟩, rfl, rfl⟩, List.nodup_nil⟩, fun b o vs n e _ => Heap.get?_push_of_some _ e⟩
  refine updateFrom_arg (A := X.A.in1) (d := d) (Tab := Tab) (PairArg.list a its.toArray (fun j => ts.getD j 0) (rs.map (·.2))) .none (I.ok.hd hc) ok1 hdf tab0 (fun i h t => ?_) (fun i h h' wr' off new t kp => ?_) (fun i k v s2 Q2 E2 hi hrel t _ z2 => ?_) (fun h' tk t kp => ?_)
  · obtain ⟨⟨o, es, ep, ho, _⟩, _⟩ := t.1
    exact Heap.lt_size ho
  · refine ⟨dmKeep t.1 fun o e => kp d o off e, fun b o vs n e hd => kp b o (fun hb => ?_) (t.2 b o vs n e hd)⟩
    rcases new b hb with w0 | w0
    · cases w0
    · rw [Heap.get?_push_of_some _ e] at w0
      cases w0
  · have hr0 : (rs.map (·.2))[i]? = some (k, v) := hrel
    rw [List.getElem?_map] at hr0
    obtain ⟨r, er, e2⟩ := Option.map_eq_some_iff.mp hr0
    obtain ⟨kd, k', v'⟩ := r
    cases e2
    have kk : KeysOk s2.heap rs := fun x hx => ⟨NestedIs.at (fun b o vs n e hd => t.2 b o vs n e hd) _ _ (keys x hx).1, (keys x hx).2⟩
    have hm := List.mem_of_getElem? er
    have lm : (mergeM [] (rs.take i)).length ≤ sizeLine := by
      have h1 := mergeM_len (rs.take i) []
      rw [List.length_nil, List.length_take] at h1
      exact Nat.le_of_lt (small1000 (by omega))
    refine set_m (A := X.A.in1.in1) (by
      rw [Around.in1_units, Around.in1_units]
      omega) (kk _ hm).1 (kk _ hm).2 t.1 (mergeM_ok (fun x hx => kk x (List.mem_of_mem_take hx)) (fun x hx => nomatch hx)) lm fun h' tk D' hs => z2 h' tk ⟨?_, fun b o vs n e hd => ?_⟩ hs
    · rw [mergeM_step rs er]
      exact D'
    · have q1 := t.2 b o vs n e hd
      refine (hs.2 b fun eb => ?_).trans q1
      obtain ⟨⟨o3, es3, ep3, ho3, _, hd3, _⟩, _⟩ := t.1
      rw [eb, ho3] at q1
      cases q1
      rw [hd3] at hd
      cases hd
  · have t1 : DM X.w h' d (mergeM [] rs) := by
      have := t.1
      rw [List.length_map, List.take_length] at this
      exact this
    have l0 : (mergeH [] ps).length ≤ 1000 := by
      have := mergeH_len ps []
      rw [List.length_nil] at this
      omega
    refine ⟨rfl, .ref d, upd H d (mdo X.w d (mergeH [] ps)), I.laid (fun b o e => kp b o (Nat.ne_of_lt (Heap.lt_size e)) (fun w0 => nomatch w0) (Heap.get?_push_of_some _ e)) (Nat.le_refl _) (mdo_ok l0 big (merge_rel rr .nil) t1), rfl, q d (I.hok.fresh (Nat.le_refl _))⟩
end
end KE
end L2
end
/-! ### KE4 -/
section
namespace L2
namespace KE
open PySem PySem.Spec PyProof.Rows PySem.KD
/-! ## {k: v for target in iter}, keys of several sorts -/
theorem dictSetM {X : Cx} {pins : List (Addr × Obj)} {σ : St} {H : Hp} {s : Shared} {E : Value → Shared → Prop} {D : Addr} {xs : List MRow} {k : NestedKey} {y v : V} {u r : Value} {Q : Unit → Shared → Prop} (hu : X.A.units + 10 < cLine) (I : Inv X pins σ H s)
    (e : H D = some (mdo X.w D xs)) (l : xs.length < 1000) (ka : KAll H xs) (hk : kAt H k y) (ry : RelV y u) (rv : RelV v r) (z : ∀ s', Inv X pins σ (upd H D (mdo X.w D (putH xs k y v))) s' → Q () s') : wpAny (model X.prog X.w) X.A (dictSet D u r) Q E s := by
  obtain ⟨l0, sy, rows, rr, dm⟩ := mdo_rd I.hok (.inl e)
  obtain ⟨nk, h8⟩ := hk.is I.hok ry
  refine set_m (by omega) nk h8 dm (keysOk ka I.hok rr) (by
    rw [← Paired.length rr]
    exact Nat.le_of_lt (small1000 l0)) fun h' tk D' hs => z _ (wrM I e ?_ sy (rel_put rr ry rv) D' hs)
  have := putH_len xs k y v
  omega
/-- the reading: D the new dict; J goes on or stops; a turn stores one pair -/
def tDcM (w : World) (wi : TI) (g : TG) (tk tv : TE) (vs : List Nat) : TE := fun σ H Q => wi σ H fun J H1 => ∀ D, H1 D = none → ∃ W : Nat → Nat → Hp → Prop, (∃ m, W 0 m (upd H1 D (mdo w D []))) ∧ ∀ i m H, W i m H →
  (J.stop i H ∧ Q (.ref D) H) ∨ (J.go i H ∧ ∃ Nx : Hp → Prop, (∀ H', Nx H' → ∃ m', m' < m ∧ W (i + 1) m' H') ∧ ∀ x H', J.yld i H x H' → g x (wipe σ vs) H' fun σ2 H2 => wipe σ2 vs = wipe σ vs ∧ tk σ2 H2 fun y H4 => tv σ2 H4 fun z H5 =>
    ∃ xs k, kAt H5 k y ∧ H5 D = some (mdo w D xs) ∧ KAll H5 xs ∧ xs.length < 1000 ∧ Nx (upd H5 D (mdo w D (putH xs k y z))))
section
variable {X : Cx}
theorem dcM_core {pins : List (Addr × Obj)} {s : Shared} {σ : St} {H : Hp} {Q : VK} {kx vx tg iter : Expr} {scope : Scope} {own : List (Str × Nat)} {pos pos' : Pos} {wi : TI} {g : TG} {tk tv : TE} {use : Option (Value → Sem Unit)} {Qf : Value → Shared → Prop}
    (hu : X.A.units + 10 < cLine) (hc : X.calm = true) (hN : X.N.Nodup) (I : Inv X pins σ H s) (hi : PI X tg iter wi) (ok : BlkOk X.N X.env.scope scope own)
    (hg : ∀ (s : Shared) (H : Hp) (C : Addr) (cl : List (Str × Addr)) (fp : List Addr), PG (X.blk s H scope (compEnvC scope cl C X.env) fp) tg g)
    (hk : ∀ (s : Shared) (H : Hp) (C : Addr) (cl : List (Str × Addr)) (fp : List Addr), PE (X.blk s H scope (compEnvC scope cl C X.env) fp) kx tk)
    (he : ∀ (s : Shared) (H : Hp) (C : Addr) (cl : List (Str × Addr)) (fp : List Addr), PE (X.blk s H scope (compEnvC scope cl C X.env) fp) vx tv) (hs : ∀ x, foldedSetIterable iter X.env x = pure x)
    (z : tDcM X.w wi g tk tv (own.map (·.2)) σ H Q)
    (fin : ∀ D C s' m H', Inv X pins σ H' s' → Q (.ref D) H' → s'.heap.Ns C m → FpOk X pins H' C → compPost (model X.prog X.w) X.A X.xe use Qf (.ref D) C (.ok .next) s') :
    wpAny (model X.prog X.w) X.A (comprehension (.DictComp kx vx [⟨tg, iter, [], 0⟩] scope pos) scope X.env pos' newDict false (eval iter X.env) use) Qf X.xe s := by
  have cells : ∀ y ∈ scope.names, y.2 = .free → ∃ c, X.env.cells.lookup y.1 = some c := fun y hy e =>
    (ok.free y hy e).elim (fun q => I.ok.has _ (.inl q)) fun q => I.ok.has _ (.inr q)
  refine wpAny_comprehension_free (use := use) rfl hs (closure_ok cells) ok.kind (fun y hy e => by rw [ok.uniq y hy, e]) (thn (hi.run pins s σ H _ I z) fun xv s1 hx => thn hx fun itv s2 hq2 => ?_)
  obtain ⟨it, fp, tn, J, H2, ei, I2, T, st2, f2, q⟩ := hq2
  subst ei
  refine wpAny_newObj_type (newEnv_comp ?_)
  generalize eD : s2.heap.objs.size = D
  have Dn : H2 D = none := I2.hok.fresh (Nat.le_of_eq eD)
  obtain ⟨W, ⟨m0, w0⟩, turn⟩ := q D Dn
  generalize e3 : ({ s2 with heap := s2.heap.push { cls := .type "dict", data := .dict #[] } } : Shared) = s3
  have I3 : Inv X pins σ (upd H2 D (mdo X.w D [])) s3 := by
    rw [← e3]
    refine I2.laid (t' := s2.toks) (fun b o e => Heap.get?_push_of_some _ e) (Nat.le_of_eq eD) ?_
    rw [← eD]
    exact mdo_ok (Nat.zero_le _) (beq_eq_false_iff_ne.mpr (Ne.symm (Nat.ne_of_lt I2.big))) .nil ⟨⟨_, #[], 0, Heap.get?_push_size _ rfl, ⟨rfl, rfl, rfl⟩, rfl, rfl⟩, List.nodup_nil⟩
  have hp3 : s3.heap = s2.heap.push { cls := .type "dict", data := .dict #[] } := by rw [← e3]
  have low : ∀ b ∈ fp, b < s2.heap.objs.size := fun b hb => let ⟨_, e, _⟩ := T.obj _ _ st2 b hb; Heap.lt_size e
  have f3 : ∀ b ∈ fp, FpOk X pins (upd H2 D (mdo X.w D [])) b ∧ b < s3.heap.objs.size := fun b hb => by
    have lt := low b hb
    refine ⟨⟨?_, (f2 b hb).2⟩, ?_⟩
    · rw [upd_ne (by rw [← eD]; exact Nat.ne_of_lt lt)]
      exact (f2 b hb).1
    · rw [hp3, Heap.size_push]
      exact Nat.lt_succ_of_lt lt
  have st3 : tn 0 s3.heap := T.keep _ _ _ st2 fun b _ o e => by
    rw [hp3]
    exact Heap.get?_push_of_some _ e
  have I4 := block_start I3 ok hN f3
  have pg := hg s3 (upd H2 D (mdo X.w D [])) s3.heap.objs.size (cellsFrom (s3.heap.objs.size + 1) scope.names (cloFrom X.env.cells scope.names [])) fp
  have pk := hk s3 (upd H2 D (mdo X.w D [])) s3.heap.objs.size (cellsFrom (s3.heap.objs.size + 1) scope.names (cloFrom X.env.cells scope.names [])) fp
  have pe := he s3 (upd H2 D (mdo X.w D [])) s3.heap.objs.size (cellsFrom (s3.heap.objs.size + 1) scope.names (cloFrom X.env.cells scope.names [])) fp
  show codeAny _ _ (.compStart (.DictComp kx vx [⟨tg, iter, [], 0⟩] scope pos) 0 (.ref it) (.ref D) (compEnvC scope (cellsFrom (s3.heap.objs.size + 1) scope.names (cloFrom X.env.cells scope.names [])) s3.heap.objs.size X.env)) (compPost (model X.prog X.w) X.A X.xe use Qf (.ref D) s3.heap.objs.size) { s3 with heap := pushCells (s3.heap.push { cls := .type "dict", data := .dict #[] }) scope.names }
  have none3 : ∀ b ∈ fp, (upd H2 D (mdo X.w D [])) b = none := fun b hb => (f3 b hb).1.1
  generalize ec : compEnvC scope (cellsFrom (s3.heap.objs.size + 1) scope.names (cloFrom X.env.cells scope.names [])) s3.heap.objs.size X.env = ce at I4 pg pk pe ⊢
  have eL : ce.locals = s3.heap.objs.size := by
    subst ec
    rfl
  generalize eH : upd H2 D (mdo X.w D []) = H3 at I3 I4 pg pk pe w0 none3 f3
  generalize e4 : ({ s3 with heap := pushCells (s3.heap.push { cls := .type "dict", data := .dict #[] }) scope.names } : Shared) = s4 at I4 ⊢
  have st4 : tn 0 s4.heap := T.keep _ _ _ st3 fun b _ o e => by
    rw [← e4]
    exact pushCells_keeps _ _ _ _ (Heap.get?_push_of_some _ e)
  have foot : ∀ {σ' : St} {H' : Hp} {s' : Shared}, Inv (X.blk s3 H3 scope ce fp) [] σ' H' s' → (∀ b ∈ fp, H' b = none) → ∀ b ∈ fp, FpOk (X.blk s3 H3 scope ce fp) [] H' b := fun {σ' H' s'} K n b hb => by
    refine ⟨n b hb, (K.ok.exf b hb).1, K.ok.exfs b hb, .inl hb, fun x c e => (K.ok.exf b hb).2 x c e, fun p hp => ?_⟩
    exact absurd (show p ∈ ([] : List (Addr × Obj)) ++ [] from hp) (by simp)
  have loop : codeAny (model X.prog X.w) X.A (.compLoop (.DictComp kx vx [⟨tg, iter, [], 0⟩] scope pos) 0 (.ref it) (.ref D) ce) (compPost (model X.prog X.w) X.A X.xe use Qf (.ref D) s3.heap.objs.size) s4 := by
    refine compLoop_anyD (fun n s' => ∃ i H', Inv (X.blk s3 H3 scope ce fp) [] (wipe σ (own.map (·.2))) H' s' ∧ tn i s'.heap ∧ (∀ b ∈ fp, H' b = none) ∧ W i n H') ?_ m0 ⟨0, H3, I4, st4, none3, w0⟩
    rintro n s5 ⟨i, H5, I5, st5, n5, w5⟩
    rcases turn i n H5 w5 with ⟨stop, qq⟩ | ⟨go, Nx, hNx, step⟩
    · refine thnF (T.done (X.blk s3 H3 scope ce fp) rfl rfl rfl hc i [] s5 _ H5 (fun _ _ => False) I5 (foot I5 n5) st5 stop) fun r s6 ⟨hr, I6⟩ => ?_
      subst hr
      have I7 : Inv X pins σ H5 s6 := I3.call' (ch := fp) I6.os I6.base I6.hok I6.bare fun b hb =>
        ⟨(f3 b hb).1.2.2.2.1, (f3 b hb).1.2.1, (f3 b hb).1.2.2.2.2.1, (f3 b hb).1.2.2.2.2.2⟩
      have nC : H5 s3.heap.objs.size = none := by
        have y : H5 ce.locals = none := I6.free
        rw [eL] at y
        exact y
      obtain ⟨m, hn, _⟩ := I6.loc
      have hn' : s6.heap.Ns ce.locals m := hn
      rw [eL] at hn'
      exact fin D s3.heap.objs.size s6 m H5 I7 qq hn' (I3.fpOk (Nat.le_refl _) nC)
    · refine thnF (T.item (X.blk s3 H3 scope ce fp) rfl rfl rfl hc i [] s5 _ H5 (fun _ _ => False) I5 (foot I5 n5) st5 go) fun r s6 ⟨u, hr, h6⟩ => ?_
      subst hr
      refine thnF h6 fun _ s7 ⟨x, H7, I7, r7, y7, st7, n7⟩ => ?_
      have P7 := I7.pinned (foot I7 n7) (T.obj _ _ st7)
      refine thnF (pg.run _ s7 _ H7 x u _ P7 r7 (step x H7 y7)) fun _ s8 ⟨σ8, H8, I8, hw8, q8⟩ => ?_
      refine wpAny_pure (a := true) ?_
      have done : ∀ {s' : Shared} {H' : Hp}, Inv (X.blk s3 H3 scope ce fp) ([] ++ pinsAt fp s7.heap) σ8 H' s' → Nx H' → ∃ m, m < n ∧ ∃ i H', Inv (X.blk s3 H3 scope ce fp) [] (wipe σ (own.map (·.2))) H' s' ∧ tn i s'.heap ∧ (∀ b ∈ fp, H' b = none) ∧ W i m H' := by
        intro s' H' K nx
        obtain ⟨m', hm, w'⟩ := hNx H' nx
        have pin : ∀ b ∈ fp, ∀ o, s7.heap.get? b = some o → s'.heap.get? b = some o ∧ H' b = none := fun b hb o e =>
          let y := K.pin (b, o) (List.mem_append_right _ (List.mem_append_right _ (mem_pinsAt hb e)))
          ⟨y.1, y.2.1⟩
        have ll : (wipe σ (own.map (·.2))).length = σ8.length := by rw [← hw8, wipe_length]
        refine ⟨m', hm, i + 1, H', (K.unpinned (pins := [])).weak ll (fun j v e => ?_), T.keep _ _ _ st7 fun b hb o e => (pin b hb o e).1, fun b hb => ?_, w'⟩
        · rw [← hw8] at e
          exact (wipe_some e).1
        · obtain ⟨o, e, _⟩ := T.obj _ _ st7 b hb
          exact (pin b hb o e).2
      rw [if_pos rfl]
      have u8 : (X.blk s3 H3 scope ce fp).A.units + 10 < cLine := hu
      refine thnF (pk.run _ s8 σ8 H8 _ I8 q8) fun a1 s10 ⟨yk, H10, I10, r10, q10⟩ => ?_
      refine thnF (pe.run _ s10 σ8 H10 _ I10 q10) fun a2 s11 ⟨yv, H11, I11, r11, xs, k, kat, eD11, ka, l11, nx⟩ => ?_
      exact dictSetM (X := X.blk s3 H3 scope ce fp) u8 I11 eD11 l11 ka kat r10 r11 fun s12 I12 => done I12 nx
  exact codeAny_compStart_dict loop (T.self X.A 0 _ _ _ st4 loop)
/-- as a value -/
theorem peDcM {kx vx tg iter : Expr} {scope : Scope} {own : List (Str × Nat)} {pos : Pos} {wi : TI} {g : TG} {tk tv : TE} (hu : X.A.units + 10 < cLine) (hc : X.calm = true) (hN : X.N.Nodup) (hi : PI X tg iter wi) (ok : BlkOk X.N X.env.scope scope own)
    (hg : ∀ (s : Shared) (H : Hp) (C : Addr) (cl : List (Str × Addr)) (fp : List Addr), PG (X.blk s H scope (compEnvC scope cl C X.env) fp) tg g)
    (hk : ∀ (s : Shared) (H : Hp) (C : Addr) (cl : List (Str × Addr)) (fp : List Addr), PE (X.blk s H scope (compEnvC scope cl C X.env) fp) kx tk)
    (he : ∀ (s : Shared) (H : Hp) (C : Addr) (cl : List (Str × Addr)) (fp : List Addr), PE (X.blk s H scope (compEnvC scope cl C X.env) fp) vx tv) (hs : ∀ x, foldedSetIterable iter X.env x = pure x := by intro _; rfl) :
    PE X (.DictComp kx vx [⟨tg, iter, [], 0⟩] scope pos) (tDcM X.w wi g tk tv (own.map (·.2))) := by
  refine ⟨fun pins s σ H Q I z => ?_⟩
  rw [arm_eval_DictComp]
  refine dcM_core hu hc hN I hi ok hg hk he hs z fun D C s' m H' I' q hn f => ⟨m, hn, fun h2 sb => ?_⟩
  exact ⟨.ref D, H', I'.turned (t' := s'.toks) (fun b o hb e => (sb.2 b hb).trans e) f.1 f.2.1 f.2.2.2.1 f.2.2.2.2.1 f.2.2.2.2.2, rfl, q⟩
/-- over a walk -/
theorem dcM_it {w : World} {J : It} {n : Nat} {G : Hp → Prop} {Y : Nat → Hp → V → Hp → Prop} (wk : Walk J n G Y) {g : TG} {tk tv : TE} {vs : List Nat} {σ : St} {H1 : Hp} {D : Addr} {Qd : Hp → Prop} (Pv : Nat → Hp → Prop) (h0 : Pv 0 (upd H1 D (mdo w D []))) (hG : ∀ i H, i ≤ n → Pv i H → G H)
    (hs : ∀ i x H H', i < n → Pv i H → Y i H x H' → g x (wipe σ vs) H' fun σ2 H2 => wipe σ2 vs = wipe σ vs ∧ tk σ2 H2 fun y H4 => tv σ2 H4 fun z H5 =>
      ∃ xs k, kAt H5 k y ∧ H5 D = some (mdo w D xs) ∧ KAll H5 xs ∧ xs.length < 1000 ∧ Pv (i + 1) (upd H5 D (mdo w D (putH xs k y z)))) (hd : ∀ H, Pv n H → Qd H) :
    ∃ W : Nat → Nat → Hp → Prop, (∃ m, W 0 m (upd H1 D (mdo w D []))) ∧ ∀ i m H, W i m H →
      (J.stop i H ∧ Qd H) ∨ (J.go i H ∧ ∃ Nx : Hp → Prop, (∀ H', Nx H' → ∃ m', m' < m ∧ W (i + 1) m' H') ∧ ∀ x H', J.yld i H x H' → g x (wipe σ vs) H' fun σ2 H2 => wipe σ2 vs = wipe σ vs ∧ tk σ2 H2 fun y H4 => tv σ2 H4 fun z H5 =>
        ∃ xs k, kAt H5 k y ∧ H5 D = some (mdo w D xs) ∧ KAll H5 xs ∧ xs.length < 1000 ∧ Nx (upd H5 D (mdo w D (putH xs k y z)))) := by
  refine ⟨fun i m H => m = n - i ∧ i ≤ n ∧ Pv i H, ⟨n, by simp, Nat.zero_le _, h0⟩, ?_⟩
  rintro i m H ⟨rfl, hi, p⟩
  have q := hG i H hi p
  rcases Nat.lt_or_ge i n with lt | ge
  · exact .inr ⟨wk.goes i H lt q, Pv (i + 1), fun H' p' => ⟨n - (i + 1), by omega, rfl, lt, p'⟩, fun x H' y => hs i x H H' lt p (wk.yields i H x H' lt q y)⟩
  · obtain rfl : i = n := by omega
    exact .inl ⟨wk.stops H q, hd H p⟩
end
end KE
end L2
end
/-! ### KF -/
section
namespace L2
namespace KF
open PySem PySem.Spec PyProof.Rows PySem.KD KE
/-! ## values that are data, by what they are in the abstract heap -/
mutual
/-- x is the data d; its lists and dicts stand at fp -/
inductive Rep (w : World) (H : Hp) : V → PyData → List Addr → Prop
  | none : Rep w H .non .none []
  | bool (b : Bool) : Rep w H (.bl b) (.bool b) []
  | int (i : Int) : Rep w H (.int i) (.int i) []
  | str (x : Str) : Rep w H (.str x) (.str x) []
  | lst {a : Addr} {vs : List V} {ds : List PyData} {fp : List Addr} : H a = some (.lst vs) → RepAll w H vs ds fp → Rep w H (.ref a) (.list ds) (a :: fp)
  | tup {a : Addr} {vs : List V} {ds : List PyData} {fp : List Addr} : H a = some (.tup vs) → RepAll w H vs ds fp → Rep w H (.ref a) (.tuple ds) fp
  | dct {a : Addr} {es : List MRow} {kvs : List (PyData × PyData)} {fk fv : List Addr} : H a = some (mdo w a es) → KAll H es → (es.map (·.1)).Nodup → fk = [] → RepAll w H (es.map fun r => r.2.1) (kvs.map (·.1)) fk → RepAll w H (es.map fun r => r.2.2) (kvs.map (·.2)) fv → Rep w H (.ref a) (.dict kvs) (a :: fv)
inductive RepAll (w : World) (H : Hp) : List V → List PyData → List Addr → Prop
  | nil : RepAll w H [] [] []
  | cons {v : V} {d : PyData} {vs : List V} {ds : List PyData} {f1 f2 : List Addr} : Rep w H v d f1 → RepAll w H vs ds f2 → RepAll w H (v :: vs) (d :: ds) (f1 ++ f2)
end
/-- fp's objects and all tuples stay -/
structure Keep (fp : List Addr) (H H' : Hp) : Prop where
  at_ : ∀ a ∈ fp, H' a = H a
  tup : ∀ a xs, H a = some (.tup xs) → H' a = some (.tup xs)
theorem Keep.sub {f g : List Addr} {H H' : Hp} (k : Keep g H H') (s : ∀ a ∈ f, a ∈ g) : Keep f H H' := ⟨fun a h => k.at_ a (s a h), k.tup⟩
theorem KAll.keep {H H' : Hp} {es : List MRow} (q : KAll H es) (t : ∀ a xs, H a = some (.tup xs) → H' a = some (.tup xs)) : KAll H' es := fun p hp => (q p hp).mono t
mutual
theorem Rep.keep {w : World} {H H' : Hp} : ∀ {v : V} {d : PyData} {fp : List Addr}, Rep w H v d fp → Keep fp H H' → Rep w H' v d fp
  | _, _, _, .none, _ => .none
  | _, _, _, .bool b, _ => .bool b
  | _, _, _, .int i, _ => .int i
  | _, _, _, .str x, _ => .str x
  | _, _, _, .lst e r, k => .lst ((k.at_ _ List.mem_cons_self).trans e) (r.keep (k.sub fun a h => List.mem_cons_of_mem _ h))
  | _, _, _, .tup e r, k => .tup (k.tup _ _ e) (r.keep k)
  | _, _, _, .dct e ka nd hf rk rv, k => .dct ((k.at_ _ List.mem_cons_self).trans e) (KAll.keep ka k.tup) nd hf (rk.keep (k.sub fun a h => absurd (hf ▸ h) (by simp))) (rv.keep (k.sub fun a h => List.mem_cons_of_mem _ h))
theorem RepAll.keep {w : World} {H H' : Hp} : ∀ {vs : List V} {ds : List PyData} {fp : List Addr}, RepAll w H vs ds fp → Keep fp H H' → RepAll w H' vs ds fp
  | _, _, _, .nil, _ => .nil
  | _, _, _, .cons r rs, k => .cons (r.keep (k.sub fun a h => List.mem_append_left _ h)) (rs.keep (k.sub fun a h => List.mem_append_right _ h))
end
mutual
theorem Rep.dom {w : World} {H : Hp} : ∀ {v : V} {d : PyData} {fp : List Addr}, Rep w H v d fp → ∀ a ∈ fp, H a ≠ none
  | _, _, _, .none, _, h => nomatch h
  | _, _, _, .bool _, _, h => nomatch h
  | _, _, _, .int _, _, h => nomatch h
  | _, _, _, .str _, _, h => nomatch h
  | _, _, _, .lst e r, a, h => by
    rcases List.mem_cons.mp h with rfl | h
    · rw [e]; simp
    · exact r.dom a h
  | _, _, _, .tup e r, a, h => r.dom a h
  | _, _, _, .dct e _ _ _ _ rv, a, h => by
    rcases List.mem_cons.mp h with rfl | h
    · rw [e]; simp
    · exact rv.dom a h
theorem RepAll.dom {w : World} {H : Hp} : ∀ {vs : List V} {ds : List PyData} {fp : List Addr}, RepAll w H vs ds fp → ∀ a ∈ fp, H a ≠ none
  | _, _, _, .nil, _, h => nomatch h
  | _, _, _, .cons r rs, a, h => (List.mem_append.mp h).elim (r.dom a) (rs.dom a)
end
theorem RepAll.length {w : World} {H : Hp} : ∀ {vs : List V} {ds : List PyData} {fp : List Addr}, RepAll w H vs ds fp → vs.length = ds.length
  | _, _, _, .nil => rfl
  | _, _, _, .cons _ rs => congrArg Nat.succ rs.length
theorem vals_rows {w : World} {es : List MRow} {rows : List KD.Row} {ens : Array DictEntry} (l : es.length ≤ 1000) (rr : Paired MRel es rows) (he : ens.toList = rows.map (rowE w)) : Vals (es.map fun r => r.2.1) (ens.toList.map (·.key)) ∧ Vals (es.map fun r => r.2.2) (ens.toList.map (·.val)) := by
  rw [he, List.map_map, List.map_map]
  clear he l
  induction rr with
  | nil => exact ⟨.nil, .nil⟩
  | cons hr t ih => exact ⟨.cons hr.2.1 ih.1, .cons hr.2.2 ih.2⟩
/-! ### what is shown of it -/
section
variable {P : Program} {w : World} {H : Hp} {h : Heap}
mutual
theorem Rep.shows (ok : HOk P w H h) : ∀ {v : V} {d : PyData} {fp : List Addr}, Rep w H v d fp → d.showable = true → d.shown.length ≤ sizeLine → ∀ {u : Value}, RelV v u →
    ∃ as bs, Reads h u d as ∧ ReadAtMost h d.depth bs ∧ ReprK P w bs h d.depth u d.shown
  | _, _, _, .none, _, _, u, ru => by
    obtain rfl : u = Value.none := ru
    exact ⟨[], [], .none, (fun _ z => nomatch z), by simp only [PyData.shown]; exact .of_is ReprIs.none _ _ _⟩
  | _, _, _, .bool b, _, _, u, ru => by
    obtain rfl : u = Value.bool b := ru
    exact ⟨[], [], .bool b, (fun _ z => nomatch z), by simp only [PyData.shown]; exact .of_is (ReprIs.bool b) _ _ _⟩
  | _, _, _, .int i, hs, _, u, ru => by
    obtain ⟨t, rfl⟩ := ru
    exact ⟨[], [], .int i t, (fun _ z => nomatch z), by simp only [PyData.shown]; exact .of_is (ReprIs.int t (by simpa [PyData.showable] using hs)) _ _ _⟩
  | _, _, _, .str x, _, hz, u, ru => by
    obtain ⟨t, rfl⟩ := ru
    exact ⟨[], [], .str x t, (fun _ z => nomatch z), by simp only [PyData.shown]; exact .of_is (ReprIs.str x t (by simpa only [PyData.shown] using hz)) _ _ _⟩
  | _, _, _, .lst (a := a) (ds := ds) e r, hs, hz, u, ru => by
    obtain rfl : u = Value.ref a := ru
    obtain ⟨_, its, n, rv, ho⟩ := (show ObjOk P w H h a (.lst _) from ok a _ e)
    have hz' : (listText (PyData.shownAll ds)).length ≤ sizeLine := by simpa only [PyData.shown] using hz
    obtain ⟨as, bs, rd, hb, hk⟩ := r.shows ok (by simpa [PyData.showable] using hs) (fun t ht => Nat.le_trans (listText_mem_le ht) hz') rv
    have R : Reads h (.ref a) (.list ds) (a :: as) := .list ho rfl rfl (by simpa using rd)
    have hna : a ∉ bs := not_mem_of_deeper R (by simp only [PyData.depth]; omega) hb
    refine ⟨_, a :: bs, R, ReadAtMost.cons R (by simp only [PyData.depth]; omega) hb, ?_⟩
    simp only [PyData.depth, PyData.shown]
    cases its with
    | nil =>
      cases rd
      simp only [PyData.shownAll, listText_nil]
      exact ReprK.listEmpty ho rfl rfl
    | cons x l => exact ReprK.list ho rfl rfl hna (by simpa using hk.length_eq) (fun i y e => hk.item i y (by simpa using e))
  | _, _, _, .tup (a := a) (ds := ds) e r, hs, hz, u, ru => by
    obtain rfl : u = Value.ref a := ru
    obtain ⟨_, its, rv, o, ho, hc, n, hd⟩ := (show ObjOk P w H h a (.tup _) from ok a _ e)
    have hz' : (tupleText (PyData.shownAll ds)).length ≤ sizeLine := by simpa only [PyData.shown] using hz
    obtain ⟨as, bs, rd, hb, hk⟩ := r.shows ok (by simpa [PyData.showable] using hs) (fun t ht => Nat.le_trans (tupleText_mem_le ht) hz') rv
    have R : Reads h (.ref a) (.tuple ds) as := .tuple ho hc hd (by simpa using rd)
    have hna : a ∉ bs := not_mem_of_deeper R (by simp only [PyData.depth]; omega) hb
    refine ⟨_, a :: bs, R, ReadAtMost.cons R (by simp only [PyData.depth]; omega) hb, ?_⟩
    simp only [PyData.depth, PyData.shown]
    exact ReprK.tuple ho hc hd hna (by simpa using hk)
  | _, _, _, .dct (a := a) (es := es) (kvs := kvs) e ka nd hf rk rv, hs, hz, u, ru => by
    obtain rfl : u = Value.ref a := ru
    obtain ⟨l, sy, rows, rr, D⟩ := mdo_rd ok (.inl e)
    obtain ⟨o, ens, ep, ho, hc, hd, he⟩ := D.at_
    have hz' : (dictText (PyData.shownKv kvs)).length ≤ sizeLine := by simpa only [PyData.shown] using hz
    obtain ⟨hs1, hs2⟩ := PyData.showableKv_split kvs (by simpa [PyData.showable] using hs)
    obtain ⟨v1, v2⟩ := vals_rows l rr he
    obtain ⟨a1, b1, rd1, hb1, k1⟩ := rk.shows ok hs1 (fun t ht => let ⟨p, hp, hl⟩ := PyData.shownKv_key_le kvs t ht; Nat.le_trans hl (Nat.le_trans (dictText_mem_le hp) hz')) v1
    obtain ⟨a2, b2, rd2, hb2, k2⟩ := rv.shows ok hs2 (fun t ht => let ⟨p, hp, hl⟩ := PyData.shownKv_val_le kvs t ht; Nat.le_trans hl (Nat.le_trans (dictText_mem_le hp) hz')) v2
    have R : Reads h (.ref a) (.dict kvs) (a :: a1 ++ a2) := .dict ho hc.1 hd rd1 rd2
    have hb : ReadAtMost h (PyData.depthKv kvs) (b1 ++ b2) := (hb1.mono (PyData.depthAll_keys_le kvs)).append (hb2.mono (PyData.depthAll_vals_le kvs))
    have hna : a ∉ b1 ++ b2 := not_mem_of_deeper R (by simp only [PyData.depth]; omega) hb
    refine ⟨_, a :: (b1 ++ b2), R, ReadAtMost.cons R (by simp only [PyData.depth]; omega) hb, ?_⟩
    simp only [PyData.depth, PyData.shown, PyData.shownKv_eq]
    exact ReprK.dict ho hc.1 hd sy hna (ReprEntriesK.of_two ens.toList _ _
      (k1.more_le (fun b hb => List.mem_append_left _ hb) (PyData.depthAll_keys_le kvs)) (k2.more_le (fun b hb => List.mem_append_right _ hb) (PyData.depthAll_vals_le kvs)))
theorem RepAll.shows (ok : HOk P w H h) : ∀ {vs : List V} {ds : List PyData} {fp : List Addr}, RepAll w H vs ds fp → PyData.showableAll ds = true → (∀ t ∈ PyData.shownAll ds, t.length ≤ sizeLine) → ∀ {us : List Value}, Vals vs us →
    ∃ as bs, ReadsAll h us ds as ∧ ReadAtMost h (PyData.depthAll ds) bs ∧ ReprAllK P w bs h (PyData.depthAll ds) us (PyData.shownAll ds)
  | _, _, _, .nil, _, _, _, .nil => ⟨[], [], .nil, (fun _ z => nomatch z), by simp only [PyData.shownAll]; exact .nil⟩
  | _, _, _, .cons (d := d) (ds := ds) r rs, hs, hz, _, .cons hu ht => by
    have hs' : d.showable = true ∧ PyData.showableAll ds = true := by simpa [PyData.showableAll] using hs
    obtain ⟨a1, b1, r1, hb1, k1⟩ := r.shows ok hs'.1 (hz _ (by simp only [PyData.shownAll]; exact List.mem_cons_self ..)) hu
    obtain ⟨a2, b2, r2, hb2, k2⟩ := rs.shows ok hs'.2 (fun t ht => hz t (by simp only [PyData.shownAll]; exact List.mem_cons_of_mem _ ht)) ht
    refine ⟨_, b1 ++ b2, .cons r1 r2, ?_, ?_⟩
    · simp only [PyData.depthAll]
      exact (hb1.mono (Nat.le_max_left _ _)).append (hb2.mono (Nat.le_max_right _ _))
    · simp only [PyData.depthAll, PyData.shownAll]
      have g1 := (k1.more (as' := b1 ++ b2) fun _ z => List.mem_append_left _ z).level_le (Nat.le_max_left _ (PyData.depthAll ds))
      exact .cons g1 (k2.more_le (fun _ z => List.mem_append_right _ z) (Nat.le_max_right _ _))
end
end
end KF
end L2
end
/-! ### KG -/
section
namespace L2
namespace KF
open PySem PySem.Spec PyProof.Rows PySem.KD KE
/-! ## repr and isinstance of data -/
def tyD : PyData → String
  | .none => "NoneType"
  | .bool _ => "bool"
  | .int _ => "int"
  | .str _ => "str"
  | .list _ => "list"
  | .tuple _ => "tuple"
  | .dict _ => "dict"
def isDictD : PyData → Bool
  | .dict _ => true
  | _ => false
def isTupD : PyData → Bool
  | .tuple _ => true
  | _ => false
def isListD : PyData → Bool
  | .list _ => true
  | _ => false
theorem kit_none (b : String) (h : b = "dict" ∨ b = "tuple" ∨ b = "list") : kitB "NoneType" b = some false := by rcases h with rfl | rfl | rfl <;> decide +kernel
theorem kitDict (d : PyData) : kitB (tyD d) "dict" = some (isDictD d) := by cases d <;> (show kitB _ _ = some _; simp only [tyD, isDictD]; decide +kernel)
theorem kitTup (d : PyData) : kitB (tyD d) "tuple" = some (isTupD d) := by cases d <;> (show kitB _ _ = some _; simp only [tyD, isTupD]; decide +kernel)
theorem kitList (d : PyData) : kitB (tyD d) "list" = some (isListD d) := by cases d <;> (show kitB _ _ = some _; simp only [tyD, isListD]; decide +kernel)
theorem kitLT {K : PySem.W.Frag} (d : PyData) : PySem.W.kitAny K (.type (tyD d)) [.type "list", .type "tuple"] = some (isListD d || isTupD d) :=
  kitAny_cons (kit_ty (kitList d)) (fun e => by
    rw [e]
    exact kitAny_cons (kit_ty (kitTup d)) (fun e2 => by rw [e2]; rfl) (fun e2 => by rw [e2]; rfl)) (fun e => by rw [e]; rfl)
theorem kitLTD {K : PySem.W.Frag} (d : PyData) : PySem.W.kitAny K (.type (tyD d)) [.type "list", .type "tuple", .type "dict"] = some (isListD d || isTupD d || isDictD d) :=
  kitAny_cons (kit_ty (kitList d)) (fun e => by
    rw [e]
    exact kitAny_cons (kit_ty (kitTup d)) (fun e2 => by
      rw [e2]
      exact kitAny_cons (kit_ty (kitDict d)) (fun e3 => by rw [e3]; rfl) (fun e3 => by rw [e3]; rfl)) (fun e2 => by rw [e2]; rfl)) (fun e => by rw [e]; rfl)
section
variable {X : Cx} {pins : List (Addr × Obj)} {σ : St} {H : Hp} {s : Shared}
theorem kitR {v : V} {d : PyData} {fp : List Addr} {u : Value} (I : Inv X pins σ H s) (r : Rep X.w H v d fp) (ru : RelV v u) : ∃ P : Heap → Prop, PySem.W.KitX X.K u (.type (tyD d)) P ∧ P s.heap ∧ u ≠ .builtin "__main__.__loader__#opaque" := by
  cases r with
  | none => cases (show u = Value.none from ru); exact ⟨_, PySem.W.kitx_none, True.intro, fun z => nomatch z⟩
  | bool y => cases (show u = Value.bool y from ru); exact ⟨_, PySem.W.kitx_bool, True.intro, fun z => nomatch z⟩
  | int i =>
    obtain ⟨t, rfl⟩ := ru
    exact ⟨_, PySem.W.kitx_int, True.intro, fun z => nomatch z⟩
  | str y =>
    obtain ⟨t, rfl⟩ := ru
    exact ⟨_, PySem.W.kitx_str, True.intro, fun z => nomatch z⟩
  | @lst a vs ds fp e rr =>
    obtain rfl : u = Value.ref a := ru
    have ho := (show ObjOk X.prog X.w H s.heap a (.lst vs) from I.hok a _ e).2
    obtain ⟨its, n, _, h1⟩ := ho
    exact ⟨_, PySem.W.kitx_list, ⟨_, h1, rfl⟩, fun z => nomatch z⟩
  | @tup a vs ds fp e rr =>
    obtain rfl : u = Value.ref a := ru
    have ho := (show ObjOk X.prog X.w H s.heap a (.tup vs) from I.hok a _ e).2
    obtain ⟨its, _, o, h1, h2, _⟩ := ho
    exact ⟨_, PySem.W.kitx_tuple, ⟨o, h1, h2⟩, fun z => nomatch z⟩
  | @dct a es kvs fk fv e ka nd hf rk rv =>
    obtain rfl : u = Value.ref a := ru
    obtain ⟨_, _, rows, _, D⟩ := mdo_rd I.hok (.inl e)
    obtain ⟨o, ens, ep, ho, hc, _⟩ := D.at_
    exact ⟨_, PySem.W.kitx_dict, ⟨o, ho, hc.1⟩, fun z => nomatch z⟩
/-- isinstance(x, T), T one built-in type -/
def rIsD (w : World) : List V → Hp → VK → Prop := fun xs H Q => ∃ v d fp T b, xs = [v, .ty T] ∧ Rep w H v d fp ∧ kitB (tyD d) T = some b ∧ Q (.bl b) H
theorem callIsD : CallR X (.builtin "isinstance") (rIsD X.w) := by
  intro pins s σ H xs us Q I r h
  obtain ⟨v, d, fp, T, b, rfl, rp, e, q⟩ := h
  obtain ⟨u1, u2, rfl, r1, r2⟩ := vals2 r
  cases (show u2 = Value.type T from r2)
  obtain ⟨P, Z, p, hx⟩ := kitR I rp r1
  exact PySem.W.kia_one Z I.kIn p (kit_ty e) hx fun tk => ⟨.bl b, H, I.tok tk, rfl, q⟩
/-- isinstance(x, (T1, T2, ..)), built-in types -/
def rIsDT (w : World) : List V → Hp → VK → Prop := fun xs H Q => ∃ v d fp tp Ts b, xs = [v, .ref tp] ∧ H tp = some (.tup (List.map V.ty Ts)) ∧ Rep w H v d fp ∧ (∀ K, PySem.W.kitAny K (.type (tyD d)) (Ts.map Value.type) = some b) ∧ Q (.bl b) H
theorem vals_ty : ∀ {Ts : List String} {us : List Value}, Vals (Ts.map V.ty) us → us = Ts.map Value.type
  | [], _, .nil => rfl
  | _ :: _, _, .cons r t => by
    cases r
    rw [vals_ty t]
    rfl
theorem callIsDT : CallR X (.builtin "isinstance") (rIsDT X.w) := by
  intro pins s σ H xs us Q I r h
  obtain ⟨v, d, fp, tp, Ts, b, rfl, hT, rp, e, q⟩ := h
  obtain ⟨u1, u2, rfl, r1, r2⟩ := vals2 r
  cases (show u2 = Value.ref tp from r2)
  obtain ⟨P, Z, p, hx⟩ := kitR I rp r1
  have ho := (show ObjOk X.prog X.w H s.heap tp (.tup (Ts.map V.ty)) from I.hok tp _ hT).2
  obtain ⟨its, rv, o, h1, h2, n, h3⟩ := ho
  obtain rfl := vals_ty rv
  obtain ⟨oc, od, dt, sl⟩ := o
  simp only at h2 h3
  subst h2 h3
  exact PySem.W.kia_tup Z I.kIn p h1 (e _) hx fun tk => ⟨.bl b, H, I.tok tk, rfl, q⟩
/-- repr(x) -/
def rReprD (w : World) : List V → Hp → VK → Prop := fun xs H Q => ∃ v d fp, xs = [v] ∧ Rep w H v d fp ∧ d.showable = true ∧ d.shown.length ≤ sizeLine ∧ d.depth ≤ 20 ∧ Q (.str d.shown) H
theorem callReprD (hg : X.A.guards = some []) (hu : X.A.units + 40 < cLine) : CallR X (.builtin "repr") (rReprD X.w) := by
  intro pins s σ H xs us Q I r h
  obtain ⟨v, d, fp, rfl, rp, hs, hz, h20, q⟩ := h
  obtain ⟨u, rfl, ru⟩ := vals1' r
  obtain ⟨as, bs, rd, hb, _⟩ := rp.shows I.hok hs hz ru
  have fin : ∀ h' tk t, (∀ b o, s.heap.get? b = some o → h'.get? b = some o) → EP X pins σ Q (.str d.shown t) { s with heap := h', toks := tk } := fun h' tk t kp => ⟨.str d.shown, H, I.kept kp, ⟨t, rfl⟩, q⟩
  have k0 : ∀ b o, s.heap.get? b = some o → s.heap.get? b = some o := fun _ _ e => e
  have hu1 : X.A.units + 1 < cLine := by omega
  have hu2 : (X.A.in1).units + (d.depth + 1) < cLine := by
    show X.A.units + 1 + (d.depth + 1) < cLine
    omega
  have hg1 : (X.A.in1).guards = some [] := hg
  cases rp with
  | none =>
    obtain rfl : u = Value.none := ru
    refine PySem.P.repr_of_none ?_
    simpa only [PyData.shown] using fin _ _ _ k0
  | bool y =>
    obtain rfl : u = Value.bool y := ru
    refine PySem.P.repr_of_bool ?_
    simpa only [PyData.shown] using fin _ _ _ k0
  | int i =>
    obtain ⟨t, rfl⟩ := ru
    refine PySem.P.repr_of_int (by simpa [PyData.showable] using hs) ?_
    simpa only [PyData.shown] using fin _ _ _ k0
  | str y =>
    obtain ⟨t, rfl⟩ := ru
    refine PySem.P.repr_of_str ?_ (by simpa only [PyData.shown] using hz)
    simpa only [PyData.shown] using fin _ _ _ k0
  | @lst a vs ds fp e rr =>
    obtain rfl : u = Value.ref a := ru
    have ho := (show ObjOk X.prog X.w H s.heap a (.lst vs) from I.hok a _ e).2
    obtain ⟨its, n, rv, h1⟩ := ho
    have hz' : (listText (PyData.shownAll ds)).length ≤ sizeLine := by simpa only [PyData.shown] using hz
    have h20' : PyData.depthAll ds + 1 ≤ 20 := by simpa only [PyData.depth] using h20
    obtain ⟨as2, bs2, rd2, hb2, k2⟩ := rr.shows I.hok (by simpa [PyData.showable] using hs) (fun t ht => Nat.le_trans (listText_mem_le ht) hz') rv
    have R : Reads s.heap (.ref a) (.list ds) (a :: as2) := .list h1 rfl rfl (by simpa using rd2)
    have hna : a ∉ bs2 := not_mem_of_deeper R (by simp only [PyData.depth]; omega) hb2
    refine call_repr_slot hu1 ⟨_, h1, rfl⟩ F.slot_list_repr.toG ?_
    simp only [PyData.shown] at fin
    cases its with
    | nil =>
      cases rd2
      simp only [PyData.shownAll, listText_nil] at fin
      exact call_list_repr_empty ⟨_, h1, rfl⟩ h1 rfl ⟨_, _, rfl, fin _ _ _ k0⟩
    | cons x l =>
      exact call_list_reprK h1 rfl rfl hna (by simpa using k2.length_eq) (fun i y e => k2.item i y (by simpa using e)) hg1 (fun b _ => Clear.nil b) (by show X.A.units + 1 + _ < _; omega) k0 (fun h' t tk kp => ⟨_, _, rfl, fin h' tk t kp⟩) hz'
  | @tup a vs ds fp e rr =>
    obtain rfl : u = Value.ref a := ru
    have ho := (show ObjOk X.prog X.w H s.heap a (.tup vs) from I.hok a _ e).2
    obtain ⟨its, rv, o, h1, h2, n, h3⟩ := ho
    have hz' : (tupleText (PyData.shownAll ds)).length ≤ sizeLine := by simpa only [PyData.shown] using hz
    have h20' : PyData.depthAll ds + 1 ≤ 20 := by simpa only [PyData.depth] using h20
    obtain ⟨as2, bs2, rd2, hb2, k2⟩ := rr.shows I.hok (by simpa [PyData.showable] using hs) (fun t ht => Nat.le_trans (tupleText_mem_le ht) hz') rv
    have R : Reads s.heap (.ref a) (.tuple ds) as2 := .tuple h1 h2 h3 (by simpa using rd2)
    have hna : a ∉ bs2 := not_mem_of_deeper R (by simp only [PyData.depth]; omega) hb2
    simp only [PyData.shown] at fin
    refine call_repr_slot hu1 ⟨_, h1, h2⟩ F.slot_tuple_repr ?_
    exact call_tuple_reprK h1 h2 h3 hna (by simpa using k2) hg1 (fun b _ => Clear.nil b) (by show X.A.units + 1 + _ < _; omega) k0 (fun h' t tk kp => ⟨_, _, rfl, fin h' tk t kp⟩) hz'
  | @dct a es kvs fk fv e ka nd hf rk rv =>
    obtain rfl : u = Value.ref a := ru
    obtain ⟨as3, bs3, rd3, hb3, k3⟩ := (Rep.dct e ka nd hf rk rv).shows I.hok hs hz (show RelV (.ref a) (Value.ref a) from rfl)
    obtain ⟨l, sy, rows, rr, D⟩ := mdo_rd I.hok (.inl e)
    obtain ⟨o, ens, ep, ho, hc, hd, he⟩ := D.at_
    have hz' : (dictText (PyData.shownKv kvs)).length ≤ sizeLine := by simpa only [PyData.shown] using hz
    have h20' : PyData.depthKv kvs + 1 ≤ 20 := by simpa only [PyData.depth] using h20
    obtain ⟨hs1, hs2⟩ := PyData.showableKv_split kvs (by simpa [PyData.showable] using hs)
    obtain ⟨v1, v2⟩ := vals_rows l rr he
    obtain ⟨a1, b1, rd1, hb1, k1⟩ := rk.shows I.hok hs1 (fun t ht => let ⟨p, hp, hl⟩ := PyData.shownKv_key_le kvs t ht; Nat.le_trans hl (Nat.le_trans (dictText_mem_le hp) hz')) v1
    obtain ⟨a2, b2, rd2, hb2, k2⟩ := rv.shows I.hok hs2 (fun t ht => let ⟨p, hp, hl⟩ := PyData.shownKv_val_le kvs t ht; Nat.le_trans hl (Nat.le_trans (dictText_mem_le hp) hz')) v2
    have R : Reads s.heap (.ref a) (.dict kvs) (a :: a1 ++ a2) := .dict ho hc.1 hd rd1 rd2
    have hb : ReadAtMost s.heap (PyData.depthKv kvs) (b1 ++ b2) := (hb1.mono (PyData.depthAll_keys_le kvs)).append (hb2.mono (PyData.depthAll_vals_le kvs))
    have hna : a ∉ b1 ++ b2 := not_mem_of_deeper R (by simp only [PyData.depth]; omega) hb
    simp only [PyData.shown, PyData.shownKv_eq] at fin
    refine call_repr_slot hu1 ⟨_, ho, hc.1⟩ F.slot_dict_repr ?_
    exact call_dict_reprK ho hc.1 hd sy hna (ReprEntriesK.of_two ens.toList _ _
      (k1.more_le (fun _ z => List.mem_append_left _ z) (PyData.depthAll_keys_le kvs)) (k2.more_le (fun _ z => List.mem_append_right _ z) (PyData.depthAll_vals_le kvs))) hg1 (fun b _ => Clear.nil b) (by show X.A.units + 1 + _ < _; omega) k0 (fun h' t tk kp => ⟨_, _, rfl, fin h' tk t kp⟩) (by rw [← PyData.shownKv_eq]; exact hz')
end
end KF
end L2
end
/-! ### PI -/
section
namespace L2
namespace KF
open PySem PySem.Spec PyProof.Rows PySem.KD KE
/-! ## surelyset.kinds -/
def topS (i : Nat) : Stmt := PySem.Challenge.pw_surelyset_k77_probes.main.body.getD i (.Pass ⟨0, 0, 0, 0⟩)
abbrev sCopied : Stmt := topS 6
abbrev sItems : Stmt := topS 7
abbrev sRebuilt : Stmt := topS 8
theorem scItems : FnScope ["value"] ["value"] (defScope sItems) := ⟨rfl, rfl, rfl, by decide +kernel, rfl, by decide +kernel, by decide +kernel⟩
theorem scRebuilt : FnScope ["value", "items", "key", "item"] ["value", "items"] (defScope sRebuilt) := ⟨rfl, rfl, rfl, by decide +kernel, rfl, by decide +kernel, by decide +kernel⟩
/-- what stands in a value -/
def kids : PyData → List PyData
  | .list ds => ds
  | .tuple ds => ds
  | .dict kvs => kvs.map (·.2)
  | _ => []
def isCont (d : PyData) : Bool := isListD d || isTupD d || isDictD d
theorem same_upd {H : Hp} {p : Addr} {o : HO} (h : H p = none) : Same H (upd H p o) := fun b x e => by
  rw [upd_ne (ne_of_none e h)]
  exact e
theorem Keep.same {fp : List Addr} {H H' : Hp} (s : Same H H') (d : ∀ a ∈ fp, H a ≠ none) : Keep fp H H' := ⟨fun a ha => by
  cases e : H a with
  | none => exact absurd e (d a ha)
  | some o => exact s a o e, fun a xs e => s a _ e⟩
theorem Rep.same {w : World} {H H' : Hp} {v : V} {d : PyData} {fp : List Addr} (r : Rep w H v d fp) (s : Same H H') : Rep w H' v d fp := r.keep (.same s r.dom)
theorem RepAll.same {w : World} {H H' : Hp} {v : List V} {d : List PyData} {fp : List Addr} (r : RepAll w H v d fp) (s : Same H H') : RepAll w H' v d fp := r.keep (.same s r.dom)
/-- the names that kinds uses -/
structure Blt (mg : Str → Option Value) : Prop where
  len : mg "len" = none
  list : mg "list" = none
  tuple : mg "tuple" = none
  dict : mg "dict" = none
  isi : mg "isinstance" = none
  zip : mg "zip" = none
  range : mg "range" = none
  reversed : mg "reversed" = none
section
variable {P : Program} {w : World} {K : PySem.W.Frag} {mg : Str → Option Value} {base : Heap}
def spItems (w : World) : Sp := fun vs H Q _ => ∃ G v d fp, vs = [v] ∧ Same G H ∧ Rep w G v d fp ∧ ∀ H' p ws fk, Same H H' → H p = none → H' p = some (.lst ws) → RepAll w G ws (kids d) fk → Q (.ref p) H'
theorem ok_items {f : Addr} {fd : FuncData} {k : Nat} (F : Fun K "items_of" "items_of" sItems f fd) (B : Blt mg) : FnOk P w K mg base CX0 (k + 1) f fd ["value"] (spItems w) := by
  refine F.ok scItems (fun vs H Q E h => ?_) (fun cdv A outer s H vs Q E hr h => ?_)
  · obtain ⟨G, v, d, fp, rfl, _⟩ := h
    rfl
  · obtain ⟨G, v, d, fp, rfl, sG, rp, q⟩ := h
    have hc : (cxOf CX0 P w K mg base ["value"] "items_of" (defScope sItems) f cdv A outer s H E).nox.calm = true := rfl
    refine ⟨_, pss_cons (ps_if (pt_val (pe_callB callIsD (by rfl) B.isi boot_isinstance (pa_cons (pv 0) (pa_cons (pe_bltn (v := .ty "dict") (by rfl) B.dict boot_dict rfl) pa_nil))))
          (pss_one (ps_ret (peListVals hc (pv 0) (by rfl) B.list boot_list))) pss_nil)
      (pss_cons (ps_if (pt_val (pe_callB callIsDT (by rfl) B.isi boot_isinstance (pa_cons (pv 0) (pa_cons (pe_tup (pa_cons (pe_bltn (v := .ty "list") (by rfl) B.list boot_list rfl) (pa_cons (pe_bltn (v := .ty "tuple") (by rfl) B.tuple boot_tuple rfl) pa_nil))) pa_nil))))
          (pss_one (ps_ret (pe_callTy call_list_of (by rfl) B.list boot_list (pa_cons (pv 0) pa_nil)))) pss_nil)
      (pss_one (ps_ret (pe_lst pa_nil)))), ?_⟩
    refine ⟨v, rfl, v, d, fp, "dict", isDictD d, rfl, rp.same sG, kitDict d, isDictD d, rfl, ?_⟩
    cases hd : isDictD d with
    | true =>
      refine iteT ?_
      cases rp with
      | @dct a es kvs fk fv e ka nd hf rk rv =>
        refine ⟨.ref a, rfl, a, es, rfl, .inl (sG _ _ e), fun l nl => ?_⟩
        exact q _ l _ fv (same_upd nl) nl upd_same rv
      | _ => cases hd
    | false =>
      refine iteF ?_
      refine ⟨v, rfl, by show 2 ≤ sizeLine; decide, fun t nt => ?_⟩
      have s1 := same_upd (o := HO.tup [.ty "list", .ty "tuple"]) nt
      refine ⟨v, d, fp, t, ["list", "tuple"], isListD d || isTupD d, rfl, upd_same, rp.same (sG.trans s1), fun K => kitLT d, isListD d || isTupD d, rfl, ?_⟩
      cases rp with
      | @lst a vs ds fp e rr =>
        refine iteT ⟨.ref a, rfl, a, vs, rfl, .inl (.inl (.inl (s1 _ _ (sG _ _ e)))), fun l nl => ?_⟩
        exact q _ l _ fp (s1.trans (same_upd nl)) (s1.free nl) upd_same rr
      | @tup a vs ds fp e rr =>
        refine iteT ⟨.ref a, rfl, a, vs, rfl, .inr (.inl (.inl (s1 _ _ (sG _ _ e)))), fun l nl => ?_⟩
        exact q _ l _ fp (s1.trans (same_upd nl)) (s1.free nl) upd_same rr
      | dct => cases hd
      | none => exact iteF ⟨Nat.zero_le _, fun l nl => q _ l _ [] (s1.trans (same_upd nl)) (s1.free nl) upd_same .nil⟩
      | bool b => exact iteF ⟨Nat.zero_le _, fun l nl => q _ l _ [] (s1.trans (same_upd nl)) (s1.free nl) upd_same .nil⟩
      | int i => exact iteF ⟨Nat.zero_le _, fun l nl => q _ l _ [] (s1.trans (same_upd nl)) (s1.free nl) upd_same .nil⟩
      | str x => exact iteF ⟨Nat.zero_le _, fun l nl => q _ l _ [] (s1.trans (same_upd nl)) (s1.free nl) upd_same .nil⟩
end
end KF
end L2
namespace L2
namespace KF
open PySem PySem.Spec PyProof.Rows PySem.KD KE
/-! ## rebuilt -/
def newRows (es : List MRow) (ws : List V) : List MRow := (es.zip ws).map fun p => (p.1.1, p.1.2.1, p.2)
theorem newRows_len {es : List MRow} {ws : List V} (h : es.length = ws.length) : (newRows es ws).length = es.length := by
  unfold newRows
  rw [List.length_map, List.length_zip, h, Nat.min_self]
theorem newRows_key : ∀ {es : List MRow} {ws : List V}, es.length = ws.length → (newRows es ws).map (·.1) = es.map (·.1)
  | [], [], _ => rfl
  | e :: es, x :: ws, h => by
    show e.1 :: (newRows es ws).map (·.1) = _
    rw [newRows_key (Nat.succ.inj h)]
    rfl
  | [], _ :: _, h => nomatch h
  | _ :: _, [], h => nomatch h
theorem newRows_kv : ∀ {es : List MRow} {ws : List V}, es.length = ws.length → (newRows es ws).map (fun r => r.2.1) = es.map fun r => r.2.1
  | [], [], _ => rfl
  | e :: es, x :: ws, h => by
    show e.2.1 :: (newRows es ws).map (fun r => r.2.1) = _
    rw [newRows_kv (Nat.succ.inj h)]
    rfl
  | [], _ :: _, h => nomatch h
  | _ :: _, [], h => nomatch h
theorem newRows_v : ∀ {es : List MRow} {ws : List V}, es.length = ws.length → (newRows es ws).map (fun r => r.2.2) = ws
  | [], [], _ => rfl
  | e :: es, x :: ws, h => by
    show x :: (newRows es ws).map (fun r => r.2.2) = _
    rw [newRows_v (Nat.succ.inj h)]
  | [], _ :: _, h => nomatch h
  | _ :: _, [], h => nomatch h
theorem newRows_at {es : List MRow} {ws : List V} {i : Nat} {e : MRow} {x : V} (h1 : es[i]? = some e) (h2 : ws[i]? = some x) : (newRows es ws)[i]? = some (e.1, e.2.1, x) := by
  unfold newRows
  have h3 : (es.zip ws)[i]? = some (e, x) := List.getElem?_zip_eq_some.mpr ⟨h1, h2⟩
  rw [List.getElem?_map, h3]
  rfl
theorem put_fresh {xs : List MRow} {k : NestedKey} {key v : V} (h : k ∉ xs.map (·.1)) : putH xs k key v = xs ++ [(k, key, v)] := by
  unfold putH
  rw [if_neg]
  intro z
  obtain ⟨r, hr, e⟩ := List.any_eq_true.mp z
  exact h (List.mem_map.mpr ⟨r, hr, (beq_iff r.1 k).mp e⟩)
theorem put_next {rows : List MRow} {i : Nat} {r : MRow} (nd : (rows.map (·.1)).Nodup) (h : rows[i]? = some r) : putH (rows.take i) r.1 r.2.1 r.2.2 = rows.take (i + 1) := by
  rw [List.take_add_one, h]
  refine put_fresh fun z => ?_
  rw [List.map_take] at z
  obtain ⟨j, hj, e⟩ := List.getElem_of_mem z
  rw [List.length_take, List.length_map] at hj
  rw [List.getElem_take, List.getElem_map] at e
  have hi := (List.getElem?_eq_some_iff.mp h)
  obtain ⟨hi, ei⟩ := hi
  have h2 : j = i := (List.getElem_inj (xs := rows.map (·.1)) (i := j) (j := i) (h₀ := by rw [List.length_map]; omega) (h₁ := by rw [List.length_map]; exact hi) nd).mp (by rw [List.getElem_map, List.getElem_map, e, ei])
  omega
/-- all but D's object stays -/
def SameBut (D : Addr) (H H' : Hp) : Prop := ∀ b o, b ≠ D → H b = some o → H' b = some o
theorem KAll.take {H : Hp} {es : List MRow} (q : KAll H es) (n : Nat) : KAll H (es.take n) := fun p hp => q p (List.mem_of_mem_take hp)
theorem KAll.new {H : Hp} {es : List MRow} {ws : List V} (q : KAll H es) : KAll H (newRows es ws) := fun p hp => by
  unfold newRows at hp
  obtain ⟨r, hr, rfl⟩ := List.mem_map.mp hp
  exact q r.1 (List.of_mem_zip hr).1
section
variable {P : Program} {w : World} {K : PySem.W.Frag} {mg : Str → Option Value} {base : Heap}
def spReb (w : World) : Sp := fun vs H Q _ => ∃ v b d fp ws f2, vs = [v, .ref b] ∧ Rep w H v d fp ∧ isCont d = true ∧ H b = some (.lst ws) ∧ RepAll w H ws (kids d) f2 ∧ (kids d).length ≤ 1000 ∧
  ∀ H' v' f3, Same H H' → Rep w H' v' d f3 → (∀ a ∈ f3, a ∈ f2 ∨ H a = none) → Q v' H'
theorem ok_reb {f : Addr} {fd : FuncData} {k : Nat} (F : Fun K "rebuilt" "rebuilt" sRebuilt f fd) (B : Blt mg) : FnOk P w K mg base CX0 (k + 1) f fd ["value", "items"] (spReb w) := by
  refine F.ok scRebuilt (fun vs H Q E h => ?_) (fun cdv A outer s H vs Q E hr h => ?_)
  · obtain ⟨v, b, d, fp, ws, f2, rfl, _⟩ := h
    rfl
  · obtain ⟨v, b, d, fp, ws, f2, rfl, rp, hcont, hb, rw_, h1000, q⟩ := h
    have hc : (cxOf CX0 P w K mg base ["value", "items", "key", "item"] "rebuilt" (defScope sRebuilt) f cdv A outer s H E).nox.calm = true := rfl
    have hu : (cxOf CX0 P w K mg base ["value", "items", "key", "item"] "rebuilt" (defScope sRebuilt) f cdv A outer s H E).nox.A.units + 10 < cLine := by
      have := hr.un
      show (A.deeper _).units + 10 < cLine
      omega
    refine ⟨_, pss_cons (ps_if (pt_val (pe_callB callIsD (by rfl) B.isi boot_isinstance (pa_cons (pv 0) (pa_cons (pe_bltn (v := .ty "dict") (by rfl) B.dict boot_dict rfl) pa_nil))))
          (pss_one (ps_ret (peDcM (own := [("key", 2), ("item", 3)]) (g := gTup K 2 (gCons (gName 2) (gCons (gName 3) gNil))) hu hc scRebuilt.nd
            (pi_zip (by rfl) B.zip (pa_cons (pe_callTy (callListM hc) (by rfl) B.list boot_list (pa_cons (pv 0) pa_nil)) (pa_cons (pv 1) pa_nil)))
            (blkOk_by (N := ["value", "items", "key", "item"]) (sc := defScope sRebuilt) (by decide +kernel))
            (fun _ _ _ _ _ => pg_tup (by rfl) (pgs_cons (pg_name (i := 2) scRebuilt.nd (by rfl) (by exact .inl rfl)) (pgs_cons (pg_name (i := 3) scRebuilt.nd (by rfl) (by exact .inl rfl)) pgs_nil)))
            (fun _ _ _ _ _ => pv 2) (fun _ _ _ _ _ => pv 3)))) pss_nil)
      (pss_cons (ps_if (pt_val (pe_callB callIsD (by rfl) B.isi boot_isinstance (pa_cons (pv 0) (pa_cons (pe_bltn (v := .ty "tuple") (by rfl) B.tuple boot_tuple rfl) pa_nil))))
          (pss_one (ps_ret (pe_callTy call_tuple_of (by rfl) B.tuple boot_tuple (pa_cons (pv 1) pa_nil)))) pss_nil)
      (pss_one (ps_ret (pe_callTy call_list_of (by rfl) B.list boot_list (pa_cons (pv 1) pa_nil))))), ?_⟩
    refine ⟨v, rfl, v, d, fp, "dict", isDictD d, rfl, rp, kitDict d, isDictD d, rfl, ?_⟩
    cases hd : isDictD d with
    | true =>
      refine iteT ?_
      cases rp with
      | @dct a es kvs fk fv e ka nd hf rk rv =>
        subst hf
        have hl : es.length = ws.length := by
          have h1 := rv.length
          have h2 := rw_.length
          rw [List.length_map] at h1
          rw [h1, h2]
          rfl
        have hl2 : es.length ≤ 1000 := by
          have h2 := rw_.length
          rw [hl, h2]
          exact h1000
        refine ⟨.ref a, rfl, a, es, rfl, .inl e, fun l nl => ?_⟩
        have s1 : Same H (upd H l (.lst (es.map (·.2.1)))) := same_upd nl
        refine ⟨.ref b, rfl, l, b, es.map (·.2.1), ws, rfl, .inl (.inl upd_same), .inl (.inl (s1 _ _ hb)), fun D nD => ?_⟩
        have sz : (newRows es ws).length = es.length := newRows_len hl
        refine dcM_it (walk_zip (n := es.length) (xs := es.map (·.2.1)) (ys := ws) (by rw [List.length_map, hl, Nat.min_self]))
          (fun i H2 => SameBut D (upd (upd H l (.lst (es.map (·.2.1)))) D (mdo w D [])) H2 ∧ H2 D = some (mdo w D ((newRows es ws).take i)))
          ⟨fun _ _ _ z => z, upd_same⟩ (fun i H2 _ h => ?_) (fun i x H2 H3 hi hp hy => ?_) (fun H2 hp => ?_)
        · have nDl : l ≠ D := fun z => by
            rw [← z, upd_same] at nD
            cases nD
          refine ⟨.inl (.inl (h.1 l _ nDl ?_)), .inl (.inl (h.1 b _ ?_ ?_))⟩
          · rw [upd_ne nDl, upd_same]
          · exact ne_of_none (s1 _ _ hb) nD
          · rw [upd_ne (ne_of_none (s1 _ _ hb) nD)]
            exact s1 _ _ hb
        · obtain ⟨T, x1, x2, rfl, nT, rfl, g1, g2⟩ := hy
          obtain ⟨hs, hD⟩ := hp
          have g3 : es[i]?.map (fun r => r.2.1) = some x1 := by
            rw [← List.getElem?_map]
            exact g1
          have g1 := g3
          obtain ⟨r, hr1, rfl⟩ := Option.map_eq_some_iff.mp g1
          have ga := newRows_at hr1 g2
          have sT : Same H2 (upd H2 T (.tup [r.2.1, x2])) := same_upd nT
          have tl : ∀ c xs, H c = some (.tup xs) → (upd H2 T (.tup [r.2.1, x2])) c = some (.tup xs) := fun c xs z => by
            have z1 := s1 _ _ z
            have nc := ne_of_none z1 nD
            refine sT _ _ (hs c _ nc ?_)
            rw [upd_ne nc]
            exact z1
          refine ⟨T, [r.2.1, x2], rfl, .inl (.inl upd_same), rfl, r.2.1, [x2], rfl, x2, [], rfl, rfl, rfl, r.2.1, rfl, x2, rfl, (newRows es ws).take i, r.1, ?_, ?_, ?_, ?_, ?_, ?_⟩
          · exact (ka r (List.mem_of_getElem? hr1)).mono tl
          · exact sT _ _ hD
          · exact KAll.keep (KAll.take (KAll.new ka) i) tl
          · rw [List.length_take, sz]
            omega
          · intro c o nc z
            rw [upd_ne nc]
            exact sT _ _ (hs c o nc z)
          · rw [upd_same, ← put_next (r := (r.1, r.2.1, x2)) (by rw [newRows_key hl]; exact nd) ga]
            rfl
        · obtain ⟨hs, hD⟩ := hp
          rw [List.take_of_length_le (by omega)] at hD
          have sH : Same H H2 := fun c o z => by
            have z1 := s1 _ _ z
            have nc := ne_of_none z1 nD
            refine hs c _ nc ?_
            rw [upd_ne nc]
            exact z1
          refine q H2 (.ref D) (D :: f2) sH (.dct hD (KAll.keep (KAll.new ka) fun c xs z => sH _ _ z) (by rw [newRows_key hl]; exact nd) rfl ?_ ?_) fun c hc2 => ?_
          · rw [newRows_kv hl]
            exact rk.same sH
          · rw [newRows_v hl]
            exact rw_.same sH
          · rcases List.mem_cons.mp hc2 with rfl | hc2
            · exact .inr (s1.free nD)
            · exact .inl hc2
      | _ => cases hd
    | false =>
      refine iteF ⟨v, rfl, v, d, fp, "tuple", isTupD d, rfl, rp, kitTup d, isTupD d, rfl, ?_⟩
      cases rp with
      | @lst a vs ds fp e rr =>
        refine iteF ⟨.ref b, rfl, b, ws, rfl, .inl (.inl (.inl hb)), fun l nl => ?_⟩
        refine q _ (.ref l) (l :: f2) (same_upd nl) (.lst upd_same (rw_.same (same_upd nl))) fun c hc2 => ?_
        rcases List.mem_cons.mp hc2 with rfl | hc2
        · exact .inr nl
        · exact .inl hc2
      | @tup a vs ds fp e rr =>
        refine iteT ⟨.ref b, rfl, b, ws, rfl, .inl ⟨.inl (.inl hb), fun l nl => ?_⟩⟩
        exact q _ (.ref l) f2 (same_upd nl) (.tup upd_same (rw_.same (same_upd nl))) fun c hc2 => .inl hc2
      | dct => cases hd
      | none => cases hcont
      | bool b => cases hcont
      | int i => cases hcont
      | str x => cases hcont
end
end KF
end L2
namespace L2
namespace KF
open PySem PySem.Spec PyProof.Rows PySem.KD KE
/-! ## copied -/
mutual
def sz : PyData → Nat
  | .list xs => szAll xs + 1
  | .tuple xs => szAll xs + 1
  | .dict kvs => szKv kvs + 1
  | .none => 1
  | .bool _ => 1
  | .int _ => 1
  | .str _ => 1
def szAll : List PyData → Nat
  | [] => 0
  | x :: xs => sz x + szAll xs
def szKv : List (PyData × PyData) → Nat
  | [] => 0
  | (k, v) :: r => sz v + szKv r
end
theorem szKv_eq : ∀ kvs, szKv kvs = szAll (kvs.map (·.2))
  | [] => by simp only [szKv, List.map_nil, szAll]
  | (k, v) :: r => by simp only [szKv, List.map_cons, szAll, szKv_eq r]
theorem sz_kids (d : PyData) : sz d = szAll (kids d) + 1 := by
  cases d <;> simp only [sz, kids, szAll, szKv_eq]
theorem szAll_append : ∀ xs ys, szAll (xs ++ ys) = szAll xs + szAll ys
  | [], ys => by simp only [List.nil_append, szAll, Nat.zero_add]
  | x :: xs, ys => by simp only [List.cons_append, szAll, szAll_append xs ys, Nat.add_assoc]
theorem szAll_len : ∀ xs, xs.length ≤ szAll xs
  | [] => Nat.zero_le _
  | x :: xs => by
    have := szAll_len xs
    have := sz_kids x
    simp only [List.length_cons, szAll]
    omega
theorem drop_one {α : Type} {l : List α} {i : Nat} {x : α} (h : l[i]? = some x) : l.drop i = x :: l.drop (i + 1) := by
  obtain ⟨hi, e⟩ := List.getElem?_eq_some_iff.mp h
  rw [List.drop_eq_getElem_cons hi, e]
/-- the nodes found so far: their data ds, their starts ss -/
structure Bfs (ds : List PyData) (ss : List Nat) : Prop where
  le : ss.length ≤ ds.length
  at_ : ∀ j d, j < ss.length → ds[j]? = some d → ∃ s, ss[j]? = some s ∧ j < s ∧ s + (kids d).length ≤ ds.length ∧ ∀ m, m < (kids d).length → ds[s + m]? = (kids d)[m]?
theorem Bfs.next {ds : List PyData} {ss : List Nat} {d : PyData} (b : Bfs ds ss) (h : ds[ss.length]? = some d) : Bfs (ds ++ kids d) (ss ++ [ds.length]) := by
  have hl := (List.getElem?_eq_some_iff.mp h).1
  refine ⟨by rw [List.length_append, List.length_append]; simp only [List.length_singleton]; omega, fun j d' hj hd => ?_⟩
  rw [List.length_append, List.length_singleton] at hj
  by_cases hj2 : j < ss.length
  · have hd' : ds[j]? = some d' := by
      rw [List.getElem?_append_left (by omega)] at hd
      exact hd
    obtain ⟨s, h1, h2, h3, h4⟩ := b.at_ j d' hj2 hd'
    refine ⟨s, by rw [List.getElem?_append_left hj2]; exact h1, h2, by rw [List.length_append]; omega, fun m hm => ?_⟩
    rw [List.getElem?_append_left (by omega)]
    exact h4 m hm
  · have ej : j = ss.length := by omega
    subst ej
    rw [List.getElem?_append_left hl, h] at hd
    obtain rfl := Option.some.inj hd
    refine ⟨ds.length, by rw [List.getElem?_append_right (Nat.le_refl _), Nat.sub_self]; rfl, hl, by rw [List.length_append]; exact Nat.le_refl _, fun m hm => ?_⟩
    rw [List.getElem?_append_right (Nat.le_add_right _ _), Nat.add_sub_cancel_left]
theorem Bfs.size {ds : List PyData} {i N : Nat} {d : PyData} (h : ds[i]? = some d) (e : i + szAll (ds.drop i) = N) : i + 1 + szAll ((ds ++ kids d).drop (i + 1)) = N := by
  have hl := (List.getElem?_eq_some_iff.mp h).1
  rw [drop_one h] at e
  rw [List.drop_append_of_le_length (by omega), szAll_append]
  simp only [szAll] at e
  have := sz_kids d
  omega
theorem Bfs.bound {ds : List PyData} {i N : Nat} (hi : i ≤ ds.length) (e : i + szAll (ds.drop i) = N) : ds.length ≤ N := by
  have := szAll_len (ds.drop i)
  rw [List.length_drop] at this
  omega
/-- all of them are what they are -/
def Reps (w : World) (H : Hp) (vs : List V) (ds : List PyData) : Prop := Paired (fun v d => ∃ f, Rep w H v d f) vs ds
theorem Reps.of {w : World} {H : Hp} : ∀ {vs : List V} {ds : List PyData} {f : List Addr}, RepAll w H vs ds f → Reps w H vs ds
  | _, _, _, .nil => .nil
  | _, _, _, .cons r rs => .cons ⟨_, r⟩ (Reps.of rs)
theorem paired_append {α β : Type} {R : α → β → Prop} : ∀ {xs : List α} {ys : List β} {xs' : List α} {ys' : List β}, Paired R xs ys → Paired R xs' ys' → Paired R (xs ++ xs') (ys ++ ys')
  | _, _, _, _, .nil, h => h
  | _, _, _, _, .cons a t, h => .cons a (paired_append t h)
section
variable {X : Cx}
/-- len(x) of data -/
def rLenD (w : World) : List V → Hp → VK → Prop := fun xs H Q => ∃ v d fp, xs = [v] ∧ Rep w H v d fp ∧ isCont d = true ∧ Q (.int (kids d).length) H
theorem callLenD : CallR X (.builtin "len") (rLenD X.w) := by
  intro pins s σ H xs us Q I r z
  obtain ⟨v, d, fp, rfl, rp, hc, q⟩ := z
  cases rp with
  | @lst a vs ds fp e rr => exact call_len_seq pins s σ H _ us Q I r ⟨a, vs, rfl, .inl (.inl (.inl e)), by rw [rr.length]; exact q⟩
  | @tup a vs ds fp e rr => exact call_len_seq pins s σ H _ us Q I r ⟨a, vs, rfl, .inr (.inl (.inl e)), by rw [rr.length]; exact q⟩
  | @dct a es kvs fk fv e ka nd hf rk rv =>
    refine callLenM pins s σ H _ us Q I r ⟨a, es, rfl, .inl e, ?_⟩
    have h1 := rv.length
    rw [List.length_map] at h1
    rw [h1]
    exact q
  | _ => cases hc
end
/-- a part of the made ones -/
theorem repAll_of {w : World} {H : Hp} {N : Addr → Prop} : ∀ {vs : List V} {ds : List PyData}, vs.length = ds.length → (∀ (m : Nat) (v : V) (d : PyData), vs[m]? = some v → ds[m]? = some d → ∃ f, Rep w H v d f ∧ ∀ a ∈ f, N a) → ∃ f, RepAll w H vs ds f ∧ ∀ a ∈ f, N a
  | [], [], _, _ => ⟨[], .nil, fun _ z => nomatch z⟩
  | v :: vs, d :: ds, hl, h => by
    obtain ⟨f1, r1, n1⟩ := h 0 v d rfl rfl
    obtain ⟨f2, r2, n2⟩ := repAll_of (vs := vs) (ds := ds) (Nat.succ.inj hl) fun m v' d' e1 e2 => h (m + 1) v' d' e1 e2
    exact ⟨f1 ++ f2, .cons r1 r2, fun a z => (List.mem_append.mp z).elim (n1 a) (n2 a)⟩
  | [], _ :: _, hl, _ => nomatch hl
  | _ :: _, [], hl, _ => nomatch hl
theorem cut_nat (xs : List V) (i n : Nat) (h : i + n ≤ xs.length) : cutV xs (some (i : Int)) (some ((i : Int) + (n : Int))) = (xs.drop i).take n := by
  unfold cutV
  rw [HT.sIx_nat, show ((i : Int) + (n : Int)) = ((i + n : Nat) : Int) by omega, HT.sIx_nat, Nat.min_eq_left h, Nat.min_eq_left (by omega), Nat.add_sub_cancel_left]
abbrev cpN : List Str := ["value", "nodes", "starts", "at", "made", "k", "node"]
theorem scCopied : FnScope cpN ["value"] (defScope sCopied) := ⟨rfl, rfl, rfl, by decide +kernel, rfl, by decide +kernel, by decide +kernel⟩
theorem Rep.scalar {w : World} {H : Hp} {v : V} {d : PyData} {fp : List Addr} (r : Rep w H v d fp) (h : isCont d = false) : fp = [] := by
  cases r with
  | lst => cases h
  | tup => cases h
  | dct => cases h
  | _ => rfl
theorem atN {xs : List V} {i : Nat} {x : V} (h : xs[i]? = some x) : atI xs ((i : Nat) : Int) = some x := atI_nat h
theorem paired_at {α β : Type} {R : α → β → Prop} : ∀ {xs : List α} {ys : List β} {i : Nat} {x : α}, Paired R xs ys → xs[i]? = some x → ∃ y, ys[i]? = some y ∧ R x y
  | _, _, 0, _, .cons a _, h => ⟨_, rfl, by rw [← Option.some.inj h]; exact a⟩
  | _, _, i + 1, _, .cons _ t, h => paired_at (i := i) t h
  | _, _, _, _, .nil, h => by simp at h
/-- the first loop: nodes and starts, found so far -/
structure CpA (w : World) (H0 : Hp) (pn ps : Addr) (v : V) (d : PyData) (N i : Nat) (vs : List V) (ds : List PyData) (ss : List Nat) (H : Hp) : Prop where
  same : Same H0 H
  nodes : H pn = some (.lst vs)
  starts : H ps = some (.lst (ss.map fun k => V.int (k : Nat)))
  reps : Reps w H0 vs ds
  len : vs.length = ds.length
  bfs : Bfs ds ss
  at_ : ss.length = i
  size : i + szAll (ds.drop i) = N
  v0 : vs[0]? = some v
  d0 : ds[0]? = some d
/-- the second loop: the made ones from n - t on -/
structure CpB (w : World) (H1 : Hp) (pm : Addr) (vs : List V) (ds : List PyData) (t : Nat) (ms : List V) (H : Hp) : Prop where
  but : SameBut pm H1 H
  made : H pm = some (.lst ms)
  len : ms.length = ds.length
  low : ∀ j, j + t < ds.length → ms[j]? = vs[j]?
  high : ∀ (j : Nat) (m : V) (d : PyData), ds.length ≤ j + t → ms[j]? = some m → ds[j]? = some d → ∃ f, Rep w H m d f ∧ ∀ a ∈ f, H1 a = none
section
variable {P : Program} {w : World} {K : PySem.W.Frag} {mg : Str → Option Value} {base : Heap}
def spCopied (w : World) : Sp := fun vs H Q _ => ∃ v d fp, vs = [v] ∧ Rep w H v d fp ∧ sz d ≤ 1000 ∧ ∀ H' v' f3, Same H H' → Rep w H' v' d f3 → (∀ a ∈ f3, H a = none) → Q v' H'
theorem ok_copied {f fI fR : Addr} {fd fdI fdR : FuncData} (F : Fun K "copied" "copied" sCopied f fd) (FI : Fun K "items_of" "items_of" sItems fI fdI) (FR : Fun K "rebuilt" "rebuilt" sRebuilt fR fdR) (B : Blt mg)
    (gI : mg "items_of" = some (.ref fI)) (gR : mg "rebuilt" = some (.ref fR)) (bI : Binds K fdI ["value"] []) (bR : Binds K fdR ["value", "items"] []) : FnOk P w K mg base CX0 2 f fd ["value"] (spCopied w) := by
  have GI : FnOk P w K mg base CX0 1 fI fdI ["value"] (spItems w) := ok_items FI B
  have GR : FnOk P w K mg base CX0 1 fR fdR ["value", "items"] (spReb w) := ok_reb FR B
  refine F.ok scCopied (fun vs H Q E h => ?_) (fun cdv A outer s H vs Q E hr h => ?_)
  · obtain ⟨v, d, fp, rfl, _⟩ := h
    rfl
  · obtain ⟨v, d, fp, rfl, rp, hN, q⟩ := h
    refine ⟨_, pss_cons (ps_set (i := 1) scCopied.nd rfl (.inl rfl) (pe_lst (pa_cons (pv 0) pa_nil)))
      (pss_cons (ps_set (i := 2) scCopied.nd rfl (.inl rfl) (pe_lst pa_nil))
      (pss_cons (ps_set (i := 3) scCopied.nd rfl (.inl rfl) pe_int)
      (pss_cons (ps_while PassesOwn.never (pt_cmpR op_lt (pv 3) (pe_callB call_len_seq (by rfl) B.len PySem.boot_len (pa_cons (pv 1) pa_nil)) (nomark _))
          (pss_cons (ps_expr (pe_bm PySem.F.plainAttrs_list PySem.F.slot_list_append PySem.F.type_list_append mt_append (pv 2) (pa_cons (pe_callB call_len_seq (by rfl) B.len PySem.boot_len (pa_cons (pv 1) pa_nil)) pa_nil)))
          (pss_cons (ps_expr (pe_bm PySem.F.plainAttrs_list PySem.F.slot_list_extend PySem.F.type_list_extend mt_extend (pv 1) (pa_cons (pe_call GI hr (by rfl) gI FI.kp bI .nil pass0 (pa_cons (pe_ix ix_list (pv 1) (pv 3) (fun _ _ => rfl)) pa_nil)) pa_nil)))
          (pss_one (ps_aug (i := 3) scCopied.nd rfl (.inl rfl) pe_int ip_add)))))
      (pss_cons (ps_set (i := 4) scCopied.nd rfl (.inl rfl) (pe_callTy call_list_of (by rfl) B.list boot_list (pa_cons (pv 1) pa_nil)))
      (pss_cons (ps_for PassesOwn.never rfl (pi_revR (by rfl) B.reversed (prg_1 (by rfl) B.range (pe_callB call_len_seq (by rfl) B.len PySem.boot_len (pa_cons (pv 1) pa_nil)))) (pg_name (i := 5) scCopied.nd rfl (.inl rfl))
          (pss_cons (ps_set (i := 6) scCopied.nd rfl (.inl rfl) (pe_ix ix_list (pv 1) (pv 5) (fun _ _ => rfl)))
          (pss_one (ps_if (pt_val (pe_callB callIsDT (by rfl) B.isi boot_isinstance (pa_cons (pv 6) (pa_cons (pe_tup (pa_cons (pe_bltn (v := .ty "list") (by rfl) B.list boot_list rfl) (pa_cons (pe_bltn (v := .ty "tuple") (by rfl) B.tuple boot_tuple rfl) (pa_cons (pe_bltn (v := .ty "dict") (by rfl) B.dict boot_dict rfl) pa_nil)))) pa_nil))))
              (pss_one (ps_asg (pe_call GR hr (by rfl) gR FR.kp bR .nil pass0 (pa_cons (pv 6) (pa_cons (pe_slice sl_list (pv 4) (po_some (pe_ix ix_list (pv 2) (pv 5) (fun _ _ => rfl)))
                  (po_some (pe_op op_add (pe_ix ix_list (pv 2) (pv 5) (fun _ _ => rfl)) (pe_callB callLenD (by rfl) B.len PySem.boot_len (pa_cons (pv 6) pa_nil))))) pa_nil)))
                (pg_sub (pv 4) (pv 5) set_list))) pss_nil))))
      (pss_one (ps_ret (pe_ix ix_list (pv 4) pe_int (fun _ _ => rfl))))))))), ?_⟩
    -- nodes, starts, at
    refine ⟨v, rfl, by show 1 ≤ sizeLine; decide, fun pn nn => ⟨Nat.zero_le _, fun ps np => ?_⟩⟩
    have npn : ps ≠ pn := fun z => by
      rw [z, upd_same] at np
      cases np
    have s1 : Same H (upd H pn (.lst [v])) := same_upd nn
    have s2 : Same H (upd (upd H pn (.lst [v])) ps (.lst [])) := s1.trans (same_upd np)
    have nps : H ps = none := s1.free np
    refine while_by (fun σ H2 => ∃ i vs ds ss y4 y5 y6, σ = [some v, some (.ref pn), some (.ref ps), some (.int (i : Nat)), y4, y5, y6] ∧ CpA w H pn ps v d (sz d) i vs ds ss H2)
      (fun σ H2 => match σ with
        | [_, _, _, some (.int i), _, _, _] => 1000 - i.toNat
        | _ => 0) ⟨0, [v], [d], [], none, none, none, rfl, ⟨s2, ?_, upd_same, .cons ⟨fp, rp⟩ .nil, rfl, ⟨Nat.zero_le _, fun j d' hj => absurd hj (Nat.not_lt_zero j)⟩, rfl, ?_, rfl, rfl⟩⟩ (fun σ H2 hP => ?_) (fun σ H2 Q1 Q2 mono hq => ?_)
    · rw [upd_ne npn.symm, upd_same]
    · simp only [List.drop_zero, szAll]
      omega
    · obtain ⟨i, vs, ds, ss, y4, y5, y6, rfl, C⟩ := hP
      have hS : SqL K H2 pn vs := .inl (.inl C.nodes)
      refine ⟨.int (i : Nat), rfl, .ref pn, rfl, pn, vs, rfl, .inl hS, _, _, rfl, rfl, _, rfl, ite2 (fun lt => ?_) (fun ge => ?_)⟩
      · have li : i < vs.length := by
          have z := of_decide_eq_true lt
          omega
        have gv : vs[i]? = some vs[i] := List.getElem?_eq_getElem li
        obtain ⟨di, gd, fi, ri⟩ := paired_at C.reps gv
        have hb : ds.length ≤ sz d := Bfs.bound (by rw [← C.len]; omega) C.size
        have hps : (upd H2 ps (.lst (ss.map (fun k => V.int (k : Nat)) ++ [V.int (vs.length : Nat)]))) pn = some (.lst vs) := by
          rw [upd_ne npn.symm]
          exact C.nodes
        have s3 : Same H (upd H2 ps (.lst (ss.map (fun k => V.int (k : Nat)) ++ [V.int (vs.length : Nat)]))) := fun c o z => by
          rw [upd_ne (ne_of_none z nps)]
          exact C.same _ _ z
        -- starts.append(len(nodes))
        refine ⟨.ref ps, rfl, .inl ⟨rfl, _, .inl (.inl C.starts)⟩, .ref pn, rfl, pn, vs, rfl, .inl hS, ps, _, _, rfl, rfl, C.starts, ?_, ?_⟩
        · rw [List.length_map, C.at_]
          exact small1000 (by have := C.len; omega)
        -- nodes.extend(items_of(nodes[at]))
        refine ⟨.ref pn, rfl, .inl ⟨rfl, _, .inl (.inl hps)⟩, .ref pn, rfl, .int (i : Nat), rfl, pn, vs, _, vs[i], rfl, rfl, .inl (.inl hps), atN gv, H, vs[i], di, fi, rfl, s3, ri, fun H4 p ws fk s4 np4 ep rws => ?_⟩
        have hp4 : H4 pn = some (.lst vs) := s4 _ _ hps
        have lw := rws.length
        have nx := C.bfs.next (d := di) (by rw [C.at_]; exact gd)
        have sz2 := Bfs.size gd C.size
        have hb2 : (ds ++ kids di).length ≤ sz d := Bfs.bound (i := i + 1) (by
          rw [List.length_append]
          have := C.len
          omega) sz2
        rw [List.length_append] at hb2
        refine ⟨pn, p, vs, ws, rfl, rfl, hp4, ep, ?_, ?_⟩
        · have := C.len
          exact Nat.le_of_lt (small1000 (by omega))
        -- at += 1
        have nnp : ∀ c o, H c = some o → c ≠ pn := fun c o z => ne_of_none z nn
        refine ⟨_, rfl, i, 1, rfl, rfl, ⟨i + 1, vs ++ ws, ds ++ kids di, ss ++ [ds.length], y4, y5, y6, rfl, ⟨fun c o z => ?_, upd_same, ?_, paired_append C.reps (Reps.of rws), ?_, nx, ?_, sz2, ?_, ?_⟩⟩, ?_⟩
        · rw [upd_ne (nnp c o z)]
          exact s4 _ _ (s3 _ _ z)
        · rw [upd_ne npn, s4 _ _ upd_same, List.map_append, C.len]
          rfl
        · rw [List.length_append, List.length_append, C.len, lw]
        · rw [List.length_append, C.at_]
          rfl
        · rw [List.getElem?_append_left (by omega)]
          exact C.v0
        · rw [List.getElem?_append_left (by have := C.len; omega)]
          exact C.d0
        · show 1000 - ((i : Int) + 1).toNat < 1000 - (i : Int).toNat
          have := C.len
          omega
      · have hn : vs.length = i := by
          have z : ¬ ((i : Nat) : Int) < ((vs.length : Nat) : Int) := fun z => ge (decide_eq_true z)
          have := C.bfs.le
          have := C.at_
          have := C.len
          omega
        have hnd : ds.length = i := by rw [← C.len, hn]
        have hb : i ≤ sz d := by
          rw [← hnd]
          exact Bfs.bound (by rw [hnd]; exact Nat.le_refl _) C.size
        -- made = list(nodes)
        refine ⟨.ref pn, rfl, pn, vs, rfl, .inl hS, fun pm nm => ?_⟩
        have sm : Same H2 (upd H2 pm (.lst vs)) := same_upd nm
        have npm : H pm = none := C.same.free nm
        have hpn : (upd H2 pm (.lst vs)) pn = some (.lst vs) := sm _ _ C.nodes
        refine ⟨.ref pn, rfl, pn, vs, rfl, .inl (.inl (.inl hpn)), vs.length, rfl, by decide, by decide, by omega, by omega, ?_⟩
        refine for_it (walk_rangeC (lo := _) (c := -1)) (fun t σ H3 => ∃ ms y5 y6, σ = [some v, some (.ref pn), some (.ref ps), some (.int (i : Nat)), some (.ref pm), y5, y6] ∧ CpB w (upd H2 pm (.lst vs)) pm vs ds t ms H3)
          ⟨vs, y5, y6, rfl, fun _ _ _ z => z, upd_same, C.len, fun _ _ => rfl, fun j m d' hj hm _ => ?_⟩ (fun _ _ _ _ _ => trivial) (fun t x σ H3 H4 ht hP hy => ?_) (fun σ H3 hP => ?_)
        · have := (List.getElem?_eq_some_iff.mp hm).1
          have := C.len
          omega
        · obtain ⟨ms, z5, z6, rfl, D⟩ := hP
          obtain ⟨rfl, ex⟩ := hy
          have ht2 : t < i := by
            have z : t < (((vs.length : Nat) : Int) - 0).toNat := ht
            omega
          obtain ⟨k, hk⟩ : ∃ k, k + t + 1 = i := ⟨i - 1 - t, by omega⟩
          have ek : (0 : Int) + (((((vs.length : Nat) : Int) - 0).toNat : Nat) : Int) - 1 + ((t : Nat) : Int) * -1 = ((k : Nat) : Int) := by omega
          have ex2 : x = .int ((k : Nat) : Int) := ex.trans (congrArg V.int ek)
          subst ex2
          have lk : k < vs.length := by omega
          have gv : vs[k]? = some vs[k] := List.getElem?_eq_getElem lk
          obtain ⟨dk, gd, fk, rk⟩ := paired_at C.reps gv
          obtain ⟨sk, g1, g2, g3, g4⟩ := C.bfs.at_ k dk (by rw [C.at_]; omega) gd
          have nmp : pn ≠ pm := ne_of_none C.nodes nm
          have nms : ps ≠ pm := ne_of_none C.starts nm
          have e1 : H4 pn = some (.lst vs) := D.but _ _ nmp hpn
          have e2 : H4 ps = some (.lst (ss.map fun k => V.int (k : Nat))) := D.but _ _ nms (sm _ _ C.starts)
          have s4 : Same H H4 := fun c o z => D.but c o (ne_of_none z npm) (sm _ _ (C.same _ _ z))
          -- node = nodes[k]
          refine ⟨.ref pn, rfl, .int (k : Nat), rfl, pn, vs, _, vs[k], rfl, rfl, .inl (.inl e1), atN gv, ?_⟩
          -- isinstance(node, (list, tuple, dict))
          refine ⟨vs[k], rfl, by show 3 ≤ sizeLine; decide, fun T nT => ?_⟩
          have sT : Same H4 (upd H4 T (.tup [.ty "list", .ty "tuple", .ty "dict"])) := same_upd nT
          refine ⟨vs[k], dk, fk, T, ["list", "tuple", "dict"], isCont dk, rfl, upd_same, rk.same (s4.trans sT), fun K => kitLTD dk, isCont dk, rfl, ?_⟩
          have keepM : ∀ {H5 : Hp} {m : V} {d' : PyData} {f' : List Addr}, Same H4 H5 → Rep w H4 m d' f' → (∀ a ∈ f', (upd H2 pm (.lst vs)) a = none) → Rep w H5 m d' f' := fun s5 r _ => r.same s5
          cases hcont : isCont dk with
          | false =>
            refine iteF ⟨ms, _, _, rfl, fun c o nc z => sT _ _ (D.but c o nc z), sT _ _ D.made, D.len, fun j hj => D.low j (by omega), fun j m d' hj hm hd => ?_⟩
            by_cases hjk : j = k
            · subst hjk
              rw [D.low j (by omega), gv] at hm
              rw [gd] at hd
              obtain rfl := Option.some.inj hm
              obtain rfl := Option.some.inj hd
              refine ⟨fk, rk.same (s4.trans sT), fun a ha => ?_⟩
              rw [rk.scalar hcont] at ha
              exact nomatch ha
            · obtain ⟨f5, r5, n5⟩ := D.high j m d' (by omega) hm hd
              exact ⟨f5, r5.same sT, n5⟩
          | true =>
            have eT2 : (upd H4 T (.tup [.ty "list", .ty "tuple", .ty "dict"])) ps = _ := sT _ _ e2
            have gs : (ss.map fun k => V.int (k : Nat))[k]? = some (.int (sk : Nat)) := by
              rw [List.getElem?_map, g1]
              rfl
            have hsl : SqL K (upd H4 T (.tup [.ty "list", .ty "tuple", .ty "dict"])) ps (ss.map fun k => V.int (k : Nat)) := .inl (.inl eT2)
            refine iteT ⟨vs[k], rfl, .ref pm, rfl, .ref ps, rfl, .int (k : Nat), rfl, ps, _, _, .int (sk : Nat), rfl, rfl, hsl, atN gs, (sk : Nat), rfl, .ref ps, rfl, .int (k : Nat), rfl, ps, _, _, .int (sk : Nat), rfl, rfl, hsl, atN gs,
              vs[k], rfl, vs[k], dk, fk, rfl, rk.same (s4.trans sT), hcont, _, _, rfl, rfl, _, rfl, pm, ms, rfl, .inl (.inl (sT _ _ D.made)), fun c nc => ?_⟩
            have lc : sk + (kids dk).length ≤ ms.length := by rw [D.len]; exact g3
            have ec := cut_nat ms sk (kids dk).length lc
            have sc : Same H4 (upd (upd H4 T (.tup [.ty "list", .ty "tuple", .ty "dict"])) c (.lst (cutV ms (some (sk : Nat)) (some ((sk : Nat) + ((kids dk).length : Nat)))))) := sT.trans (same_upd nc)
            have lcut : ((ms.drop sk).take (kids dk).length).length = (kids dk).length := by
              rw [List.length_take, List.length_drop]
              omega
            obtain ⟨f2, r2, n2⟩ := repAll_of (w := w) (H := upd (upd H4 T (.tup [.ty "list", .ty "tuple", .ty "dict"])) c (.lst (cutV ms (some (sk : Nat)) (some ((sk : Nat) + ((kids dk).length : Nat)))))) (N := fun a => (upd H2 pm (.lst vs)) a = none) lcut fun m v' d' h1 h2 => by
              have lm := (List.getElem?_eq_some_iff.mp h2).1
              rw [List.getElem?_take_of_lt lm, List.getElem?_drop] at h1
              obtain ⟨f5, r5, n5⟩ := D.high (sk + m) v' d' (by omega) h1 ((g4 m lm).trans h2)
              exact ⟨f5, r5.same sc, n5⟩
            have hcutR : RepAll w (upd (upd H4 T (.tup [.ty "list", .ty "tuple", .ty "dict"])) c (.lst (cutV ms (some (sk : Nat)) (some ((sk : Nat) + ((kids dk).length : Nat)))))) (cutV ms (some (sk : Nat)) (some ((sk : Nat) + ((kids dk).length : Nat)))) (kids dk) f2 := ec ▸ r2
            refine ⟨vs[k], c, dk, fk, _, f2, rfl, rk.same (s4.trans sc), hcont, upd_same, hcutR, by omega, fun H5 v' f3 s5 r5 n5 => ?_⟩
            -- made[k] = ..
            have em5 : H5 pm = some (.lst ms) := s5 _ _ (sc _ _ D.made)
            have nf : ∀ a ∈ f3, (upd H2 pm (.lst vs)) a = none := fun a ha => by
              rcases n5 a ha with z | z
              · exact n2 a z
              · by_cases ea : a = pm
                · exfalso
                  rw [ea, sc _ _ D.made] at z
                  cases z
                · cases e6 : (upd H2 pm (.lst vs)) a with
                  | none => rfl
                  | some o =>
                    rw [sc _ _ (D.but a o ea e6)] at z
                    cases z
            have keepU : ∀ {m : V} {d' : PyData} {f' : List Addr}, Rep w H5 m d' f' → (∀ a ∈ f', (upd H2 pm (.lst vs)) a = none) → Rep w (upd H5 pm (.lst (ms.set k v'))) m d' f' := by
              intro m d' f' r n
              refine r.keep ⟨fun a ha => ?_, fun a xs z => ?_⟩
              · refine upd_ne fun z => ?_
                have := n a ha
                rw [z, upd_same] at this
                cases this
              · have na : a ≠ pm := fun q => by
                  rw [q, em5] at z
                  cases z
                rw [upd_ne na]
                exact z
            refine ⟨.ref pm, rfl, .int (k : Nat), rfl, pm, ms, k, k, rfl, rfl, em5, ?_, ms.set k v', _, _, rfl, fun b o nb z => ?_, upd_same, ?_, fun j hj => ?_, fun j m d' hj hm hd => ?_⟩
            · unfold ixN
              rw [if_pos (by omega), if_pos (by rw [D.len]; omega)]
              rfl
            · rw [upd_ne nb]
              exact s5 _ _ (sc _ _ (D.but b o nb z))
            · rw [List.length_set]
              exact D.len
            · rw [List.getElem?_set_ne (by omega)]
              exact D.low j (by omega)
            · by_cases hjk : j = k
              · subst hjk
                rw [List.getElem?_set_self (by rw [D.len]; omega)] at hm
                rw [gd] at hd
                obtain rfl := Option.some.inj hm
                obtain rfl := Option.some.inj hd
                exact ⟨f3, keepU r5 nf, nf⟩
              · rw [List.getElem?_set_ne (fun z => hjk z.symm)] at hm
                obtain ⟨f5, r6, n6⟩ := D.high j m d' (by omega) hm hd
                exact ⟨f5, keepU (r6.same (sc.trans s5)) n6, n6⟩
        · obtain ⟨ms, z5, z6, rfl, D⟩ := hP
          have zn : (((vs.length : Nat) : Int) - 0).toNat = ds.length := by omega
          rw [zn] at D
          have l0 := (List.getElem?_eq_some_iff.mp C.d0).1
          obtain ⟨m0, gm⟩ : ∃ m, ms[0]? = some m := ⟨ms[0]'(by rw [D.len]; exact l0), List.getElem?_eq_getElem _⟩
          obtain ⟨f5, r5, n5⟩ := D.high 0 m0 d (by omega) gm C.d0
          refine ⟨.ref pm, rfl, pm, ms, 0, m0, rfl, rfl, .inl (.inl D.made), atI_nat (j := 0) gm, ?_⟩
          refine q H3 m0 f5 (fun c o z => D.but c o (ne_of_none z npm) (sm _ _ (C.same _ _ z))) r5 fun a ha => ?_
          exact C.same.free (sm.free (n5 a ha))
    · obtain ⟨a1, e1, a2, e2, p, ys, e3, h3, i3, j3, e4, e5, b, e6, h6⟩ := hq
      exact ⟨a1, e1, a2, e2, p, ys, e3, h3, i3, j3, e4, e5, b, e6, mono _ _ h6⟩
end
end KF
end L2
end
/-! ### PP -/
section
namespace L2
namespace KF
open PySem PySem.Spec PyProof.Rows PySem.KD KE KC PySem.KA
/-! ## the pen -/
abbrev sPen : Stmt := topS 34
abbrev sDraw : Stmt := topS 35
abbrev sPick : Stmt := topS 36
abbrev drN : List Str := ["_law_pen", "_law_many", "_law_digit", "_law_at", "_law_cell", "_law_mixed"]
theorem scPen : FnScope ["_law_script"] ["_law_script"] (defScope sPen) := ⟨rfl, rfl, rfl, by decide +kernel, rfl, by decide +kernel, by decide +kernel⟩
theorem scDraw : FnScope drN ["_law_pen", "_law_many"] (defScope sDraw) := ⟨rfl, rfl, rfl, by decide +kernel, rfl, by decide +kernel, by decide +kernel⟩
theorem scPick : FnScope ["_law_pen", "_law_items"] ["_law_pen", "_law_items"] (defScope sPick) := ⟨rfl, rfl, rfl, by decide +kernel, rfl, by decide +kernel, by decide +kernel⟩
abbrev kCells : Key := .inr "cells"
abbrev kAtt : Key := .inr "at"
abbrev kLeft : Key := .inr "left"
def penRows (c : Addr) (at_ left : Int) : List (Key × V) := [(kCells, .ref c), (kAtt, .int at_), (kLeft, .int left)]
/-- the pen at p, its cells at c -/
structure PenAt (H : Hp) (p c : Addr) (ns : List Int) (at_ left : Int) : Prop where
  row : H p = some (.dK (penRows c at_ left))
  cells : H c = some (.lst (ns.map V.int))
theorem PenAt.same {H H' : Hp} {p c : Addr} {ns : List Int} {a l : Int} (e : PenAt H p c ns a l) (s : Same H H') : PenAt H' p c ns a l := ⟨s _ _ e.row, s _ _ e.cells⟩
theorem PenAt.ne {H : Hp} {p c : Addr} {ns : List Int} {a l : Int} (e : PenAt H p c ns a l) : c ≠ p := fun z => by
  have h1 := e.row
  rw [← z, e.cells] at h1
  cases h1
theorem val_cells (c : Addr) (a l : Int) : valV (penRows c a l) kCells = some (.ref c) := by rfl
theorem val_at (c : Addr) (a l : Int) : valV (penRows c a l) kAtt = some (.int a) := by rfl
theorem val_left (c : Addr) (a l : Int) : valV (penRows c a l) kLeft = some (.int l) := by rfl
theorem put_at (c : Addr) (a l b : Int) : putK (penRows c a l) kAtt (.int b) = penRows c b l := by rfl
theorem put_left (c : Addr) (a l b : Int) : putK (penRows c a l) kLeft (.int b) = penRows c a b := by rfl
theorem merge_pen (c : Addr) (a l : Int) : mergeK [] (penRows c a l) = penRows c a l := by rfl
theorem PenAt.get {H : Hp} {p c : Addr} {ns : List Int} {a l : Int} (e : PenAt H p c ns a l) (k : Key) : DGet H p (kV k) (valV (penRows c a l) k) := DGet.k e.row
theorem PenAt.putL {H : Hp} {p c : Addr} {ns : List Int} {a l : Int} (e : PenAt H p c ns a l) (b : Int) : PenAt (upd H p (.dK (penRows c a b))) p c ns a b ∧ DPut H p (kV kLeft) (.int b) (upd H p (.dK (penRows c a b))) := by
  refine ⟨⟨upd_same, by rw [upd_ne e.ne]; exact e.cells⟩, ?_⟩
  rw [← put_left c a l b]
  exact DPut.k e.row (by show 3 < sizeLine; decide)
theorem PenAt.putA {H : Hp} {p c : Addr} {ns : List Int} {a l : Int} (e : PenAt H p c ns a l) (b : Int) : PenAt (upd H p (.dK (penRows c b l))) p c ns b l ∧ DPut H p (kV kAtt) (.int b) (upd H p (.dK (penRows c b l))) := by
  refine ⟨⟨upd_same, by rw [upd_ne e.ne]; exact e.cells⟩, ?_⟩
  rw [← put_at c a l b]
  exact DPut.k e.row (by show 3 < sizeLine; decide)
theorem SameBut.refl (p : Addr) (H : Hp) : SameBut p H H := fun _ _ _ z => z
theorem SameBut.trans {p : Addr} {H H1 H2 : Hp} (a : SameBut p H H1) (b : SameBut p H1 H2) : SameBut p H H2 := fun c o n z => b c o n (a c o n z)
theorem Same.but {H H' : Hp} (s : Same H H') (p : Addr) : SameBut p H H' := fun c o _ z => s c o z
theorem but_upd (p : Addr) (H : Hp) (o : HO) : SameBut p H (upd H p o) := fun c x n z => by
  rw [upd_ne n]
  exact z
/-- lists of ints against [] -/
theorem ints_dp {K : PySem.W.Frag} {H : Hp} : ∀ ns : List Int, DpAll K H (ns.map V.int) (ns.map PyData.int)
  | [] => .nil
  | n :: ns => .cons (.int n) (ints_dp ns)
theorem ints_lay : ∀ ns : List Int, PyData.canLayAll0 (ns.map PyData.int) = true
  | [] => by simp only [List.map_nil, PyData.canLayAll0]
  | n :: ns => by simp only [List.map_cons, PyData.canLayAll0, PyData.canLay0, ints_lay ns, Bool.and_self]
theorem ints_depth : ∀ ns : List Int, PyData.depthAll (ns.map PyData.int) ≤ 1
  | [] => by simp only [List.map_nil, PyData.depthAll]; decide
  | n :: ns => by
    have := ints_depth ns
    simp only [List.map_cons, PyData.depthAll, PyData.depth]
    omega
theorem ints_shaped (ns : List Int) : SeqAt.shaped (.list (ns.map PyData.int)) = true := by
  unfold SeqAt.shaped
  have := ints_depth ns
  rw [Bool.and_eq_true]
  exact ⟨by simp only [PyData.canLay0, ints_lay], decide_eq_true (by simp only [PyData.depth]; omega)⟩
theorem ints_eqv (ns : List Int) : PyData.eqv (.list (ns.map PyData.int)) (.list []) = ns.isEmpty := by
  cases ns with
  | nil => simp [PyData.eqv, PyData.eqvAll]
  | cons n ns => simp [PyData.eqv, PyData.eqvAll]
structure BltD (mg : Str → Option Value) : Prop where
  int : mg "int" = none
  len : mg "len" = none
  list : mg "list" = none
section
variable {P : Program} {w : World} {K : PySem.W.Frag} {mg : Str → Option Value} {base : Heap}
def spPen (K : PySem.W.Frag) : Sp := fun vs H Q _ => ∃ a ns, vs = [.ref a] ∧ SqL K H a (List.map V.int ns) ∧ ns.length ≤ 63 ∧ ∀ H' p c ns', Same H H' → H p = none → H c = none → ns'.length ≤ 63 → PenAt H' p c ns' 0 0 → Q (.ref p) H'
theorem ok_pen {f : Addr} {fd : FuncData} {k : Nat} (F : Fun K "_law_source" "_law_source" sPen f fd) (B : BltD mg) : FnOk P w K mg base CX0 (k + 1) f fd ["_law_script"] (spPen K) := by
  refine F.ok scPen (fun vs H Q E h => ?_) (fun cdv A outer s H vs Q E hr h => ?_)
  · obtain ⟨a, ns, rfl, _⟩ := h
    rfl
  · obtain ⟨a, ns, rfl, hS, hl, q⟩ := h
    refine ⟨_, pss_one (ps_ret (pe_disp (pps_cons pe_str (pe_callTy call_list_of (by rfl) B.list boot_list (pa_cons (pe_slice sl_list (pv 0) po_none (po_some pe_int)) pa_nil)) (pps_cons pe_str pe_int (pps_cons pe_str pe_int pps_nil))) rfl rfl (by decide) (by decide))), ?_⟩
    intro p np
    have s1 := same_upd (o := HO.dK []) np
    refine ⟨.ref a, rfl, 63, rfl, a, _, rfl, s1.seq hS, fun c nc => ?_⟩
    have s2 := same_upd (o := HO.lst (cutV (ns.map V.int) none (some 63))) nc
    refine ⟨c, _, rfl, .inl (.inl (.inl upd_same)), fun l nl => ?_⟩
    have s3 := same_upd (o := HO.lst (cutV (ns.map V.int) none (some 63))) nl
    refine ⟨s3 _ _ (s2 _ _ upd_same), penRows l 0 0, rfl, by show 3 ≤ 15; decide, ?_⟩
    rw [merge_pen]
    have npl : l ≠ p := fun z => by
      rw [z, s2 _ _ upd_same] at nl
      cases nl
    have ec : cutV (ns.map V.int) none (some 63) = (ns.take (min 63 ns.length)).map V.int := by
      unfold cutV
      rw [HT.sIx_none, show (63 : Int) = ((63 : Nat) : Int) from rfl, HT.sIx_nat, List.length_map, List.drop_zero, Nat.sub_zero, List.map_take]
    refine q _ p l (ns.take (min 63 ns.length)) (fun b o z => ?_) np (s1.free (s2.free nl)) ?_ ⟨upd_same, ?_⟩
    · rw [upd_ne (ne_of_none z np)]
      exact s3 _ _ (s2 _ _ (s1 _ _ z))
    · rw [List.length_take]
      omega
    · rw [upd_ne npl, upd_same, ec]
/-- a digit drawn: the pen goes on -/
def spDraw : Sp := fun vs H Q _ => ∃ (p c : Addr) (ns : List Int) (a l m : Int), vs = [.ref p, .int m] ∧ PenAt H p c ns a l ∧ ns.length ≤ 63 ∧ 0 ≤ a ∧ a ≤ 1000000 ∧ 0 ≤ l ∧ 1 ≤ m ∧ m ≤ 1000 ∧
  ∀ H' d a' l', SameBut p H H' → PenAt H' p c ns a' l' → a ≤ a' → a' ≤ a + 1 → 0 ≤ l' → 0 ≤ d → d < m → Q (.int d) H'
abbrev tI1 (t : TE) : TE := tCB (fun xs H Q => (∃ i, xs = [V.int i] ∧ Q (V.int i) H) ∨ ∃ k, xs = [V.bl k] ∧ Q (V.int (if k = true then 1 else 0)) H) (tCons t tNil)
abbrev tMod (a b : TE) : TE := tOp (rI (fun _ j => 0 < j) fun i j => V.int (i % j)) a b
abbrev tMul (a b : TE) : TE := tOp (rI CMul fun i j => V.int (i * j)) a b
abbrev tAdd (a b : TE) : TE := tOp (rI0 fun i j => V.int (i + j)) a b
abbrev tSub (a b : TE) : TE := tOp (rI0 fun i j => V.int (i - j)) a b
abbrev tDvd (a b : TE) : TE := tOp (rI CDiv fun i j => V.int (i / j)) a b
abbrev tPow (a b : TE) : TE := tOp (rI CPow fun i j => V.int (i ^ j.toNat)) a b
def tMix : TS := tSeq (tAsg (tMod (tI1 (tAdd (tAdd (tAdd (tMul (tMod (tI1 (tVar 4)) (tC (.int 2147483587))) (tC (.int 48271))) (tMul (tMul (tC (.int 40014)) (tVar 3)) (tVar 3))) (tMul (tC (.int 59)) (tVar 3))) (tC (.int 17)))) (tC (.int 2147483629))) (gName 5))
  (tSeq (tAsg (tMod (tI1 (tMul (tVar 5) (tAdd (tVar 5) (tC (.int 69621))))) (tC (.int 2147483549))) (gName 5))
  (tRet (tMod (tI1 (tDvd (tMod (tI1 (tMul (tVar 5) (tVar 5))) (tC (.int 2147483579))) (tC (.int 32)))) (tVar 1))))
theorem Int.pos_of_lt_lit {j : Int} (h : 0 < j) : 0 < j := h
theorem cmul_mod {x k y : Int} (h : 0 < k) (h2 : k < 1099511627776) : CMul (x % k) y := by
  have h3 := Int.emod_lt_of_pos x h
  have h4 := Int.emod_nonneg x (show k ≠ 0 by omega)
  exact .inl ⟨by omega, by omega⟩
theorem mix_ok {D : Ends} {H : Hp} {x0 y2 y5 : Option V} {a m cell : Int} (hm0 : 0 < m) (ha : 0 ≤ a) (ha2 : a ≤ 1000000) (q : ∀ e : Int, D.rt (.int (e % m)) H) : tMix D [x0, some (.int m), y2, some (.int a), some (.int cell), y5] H := by
  refine ⟨.int cell, rfl, .inl ⟨cell, rfl, cell, 2147483587, rfl, rfl, Int.pos_of_lt_lit (by decide), _, 48271, rfl, rfl, .inr ⟨by decide, by decide⟩, .int a, rfl, 40014, a, rfl, rfl, .inl ⟨by decide, by decide⟩, .int a, rfl, _, a, rfl, rfl, .inr ⟨by omega, by omega⟩, _, _, rfl, rfl, .int a, rfl, 59, a, rfl, rfl, .inl ⟨by decide, by decide⟩, _, _, rfl, rfl, _, 17, rfl, rfl, .inl ⟨_, rfl, _, 2147483629, rfl, rfl, Int.pos_of_lt_lit (by decide), ?_⟩⟩⟩
  refine ⟨.int _, rfl, .int _, rfl, _, 69621, rfl, rfl, _, _, rfl, rfl, cmul_mod (by decide) (by decide), .inl ⟨_, rfl, _, 2147483549, rfl, rfl, Int.pos_of_lt_lit (by decide), ?_⟩⟩
  refine ⟨.int _, rfl, .int _, rfl, _, _, rfl, rfl, cmul_mod (by decide) (by decide), .inl ⟨_, rfl, _, 2147483579, rfl, rfl, Int.pos_of_lt_lit (by decide), _, 32, rfl, rfl, ⟨by decide, by decide⟩, .inl ⟨_, rfl, .int m, rfl, _, m, rfl, rfl, hm0, q _⟩⟩⟩
def tTail (K : PySem.W.Frag) : TS := tSeq (tIfS (tAnd (tTest (tOp (rI0 fun i j => V.bl (decide (i < j))) (tVar 3) (tCB (fun xs H Q => ∃ p ys, xs = [V.ref p] ∧ (SqL K H p ys ∨ SqT K H p ys) ∧ Q (V.int ys.length) H) (tCons (tDGet (tVar 0) (tC (.str "cells"))) tNil))))
    (tTest (tOp (rI0 fun i j => V.bl (decide (j ≤ i))) (tVar 4) (tPow (tC (.int 10)) (tC (.int 18))))))
    (tSeq (sDPut (tVar 0) (tC (.str "left")) (tDvd (tSub (tVar 4) (tPow (tC (.int 10)) (tC (.int 18)))) (tVar 1))) (tRet (tMod (tI1 (tSub (tVar 4) (tPow (tC (.int 10)) (tC (.int 18))))) (tVar 1)))) tNext) tMix
theorem tail_ok {K : PySem.W.Frag} {D : Ends} {H : Hp} {p c : Addr} {ns : List Int} {y2 y5 : Option V} {a b l m cell : Int} (pen : PenAt H p c ns b l) (hl : 0 ≤ l) (hm0 : 0 < m) (hm2 : m ≤ 1000) (ha : 0 ≤ a) (ha2 : a ≤ 1000000)
    (q : ∀ H' (e : Int) l', SameBut p H H' → PenAt H' p c ns b l' → 0 ≤ l' → D.rt (.int (e % m)) H') : tTail K D [some (.ref p), some (.int m), y2, some (.int a), some (.int cell), y5] H := by
  have hSq : SqL K H c (ns.map V.int) := .inl (.inl pen.cells)
  refine ⟨.int a, rfl, .ref p, rfl, p, .ref c, rfl, pen.get kCells, c, _, rfl, .inl hSq, a, _, rfl, rfl, _, rfl, ?_⟩
  have mixed : tMix D [some (.ref p), some (.int m), y2, some (.int a), some (.int cell), y5] H := mix_ok hm0 ha ha2 fun e => q H e l (SameBut.refl _ _) pen hl
  cases decide (a < ((ns.map V.int).length : Nat)) with
  | false => exact iteF (iteF mixed)
  | true =>
    refine iteT ⟨.int cell, rfl, 10, 18, rfl, rfl, ⟨by decide, by decide, by decide⟩, cell, _, rfl, rfl, _, rfl, ite2 (fun big => ?_) (fun small => mixed)⟩
    have hbig : (0 : Int) ≤ cell - 10 ^ (18 : Int).toNat := by
      have z := of_decide_eq_true big
      exact Int.sub_nonneg_of_le z
    obtain ⟨pn3, dp3⟩ := pen.putL ((cell - 10 ^ (18 : Int).toNat) / m)
    refine ⟨.int cell, rfl, 10, 18, rfl, rfl, ⟨by decide, by decide, by decide⟩, cell, _, rfl, rfl, .int m, rfl, _, m, rfl, rfl, ⟨hm0, by omega⟩, .ref p, rfl, p, _, rfl, dp3, ?_⟩
    refine ⟨.int cell, rfl, 10, 18, rfl, rfl, ⟨by decide, by decide, by decide⟩, cell, _, rfl, rfl, .inl ⟨_, rfl, .int m, rfl, _, m, rfl, rfl, hm0, ?_⟩⟩
    exact q _ _ _ (but_upd _ _ _) pn3 (Int.ediv_nonneg hbig (by omega))
theorem ok_draw {f : Addr} {fd : FuncData} {k : Nat} (F : Fun K "_law_draw" "_law_draw" sDraw f fd) (B : BltD mg) : FnOk P w K mg base CX0 (k + 1) f fd ["_law_pen", "_law_many"] spDraw := by
  refine F.ok scDraw (fun vs H Q E h => ?_) (fun cdv A outer s H vs Q E hr h => ?_)
  · obtain ⟨p, c, ns, a, l, m, rfl, _⟩ := h
    rfl
  · obtain ⟨p, c, ns, a, l, m, rfl, pen, hns, ha, ha2, hl, hm1, hm2, q⟩ := h
    have hu : (cxOf CX0 P w K mg base drN "_law_draw" (defScope sDraw) f cdv A outer s H E).nox.A.units + 1 < cLine := by
      have := hr.un
      show (A.deeper _).units + 1 < cLine
      omega
    have hu64 : (cxOf CX0 P w K mg base drN "_law_draw" (defScope sDraw) f cdv A outer s H E).nox.A.units + 64 < cLine := by
      have := hr.un
      show (A.deeper _).units + 64 < cLine
      omega
    have hm0 : (0 : Int) < m := by omega
    refine ⟨_, pss_cons (ps_if (pt_cmpR op_ge (pe_dget hu (pv 0) pe_str (fun _ _ => rfl)) (pv 1) (nomark _))
          (pss_cons (ps_set (i := 2) scDraw.nd rfl (.inl rfl) (pe_op op_mod (pe_callTy call_int1 (by rfl) B.int boot_int (pa_cons (pe_dget hu (pv 0) pe_str (fun _ _ => rfl)) pa_nil)) (pv 1)))
          (pss_cons (ps_dput hu (pv 0) pe_str (pe_op op_fdiv (pe_dget hu (pv 0) pe_str (fun _ _ => rfl)) (pv 1)) rfl) (pss_one (ps_ret (pv 2))))) pss_nil)
      (pss_cons (ps_set (i := 3) scDraw.nd rfl (.inl rfl) (pe_dget hu (pv 0) pe_str (fun _ _ => rfl)))
      (pss_cons (ps_dput hu (pv 0) pe_str (pe_op op_add (pv 3) pe_int) rfl)
      (pss_cons (ps_set (i := 4) scDraw.nd rfl (.inl rfl) (pe_op op_add (pe_op op_mul pe_int (pv 3)) pe_int))
      (pss_cons (ps_if (pt_cmpR (op_neD hu64) (pe_dget hu (pv 0) pe_str (fun _ _ => rfl)) (pe_lst pa_nil) (nomark _))
          (pss_one (ps_set (i := 4) scDraw.nd rfl (.inl rfl) (pe_ix ix_list (pe_dget hu (pv 0) pe_str (fun _ _ => rfl)) (pe_op op_mod (pe_callTy call_int1 (by rfl) B.int boot_int (pa_cons (pv 3) pa_nil)) (pe_callB call_len_seq (by rfl) B.len PySem.boot_len (pa_cons (pe_dget hu (pv 0) pe_str (fun _ _ => rfl)) pa_nil))) (fun _ _ => rfl)))) pss_nil)
      (pss_cons (ps_if (PW.pt (pw_and (pt_cmpR op_lt (pv 3) (pe_callB call_len_seq (by rfl) B.len PySem.boot_len (pa_cons (pe_dget hu (pv 0) pe_str (fun _ _ => rfl)) pa_nil)) (nomark _)) (pw_and1 (pt_cmpR op_ge (pv 4) (pe_op op_pow pe_int pe_int) (nomark _)))))
          (pss_cons (ps_dput hu (pv 0) pe_str (pe_op op_fdiv (pe_op op_sub (pv 4) (pe_op op_pow pe_int pe_int)) (pv 1)) rfl)
          (pss_one (ps_ret (pe_op op_mod (pe_callTy call_int1 (by rfl) B.int boot_int (pa_cons (pe_op op_sub (pv 4) (pe_op op_pow pe_int pe_int)) pa_nil)) (pv 1))))) pss_nil)
      (pss_cons (ps_set (i := 5) scDraw.nd rfl (.inl rfl) (pe_op op_mod (pe_callTy call_int1 (by rfl) B.int boot_int (pa_cons (pe_op op_add (pe_op op_add (pe_op op_add (pe_op op_mul (pe_op op_mod (pe_callTy call_int1 (by rfl) B.int boot_int (pa_cons (pv 4) pa_nil)) pe_int) pe_int) (pe_op op_mul (pe_op op_mul pe_int (pv 3)) (pv 3))) (pe_op op_mul pe_int (pv 3))) pe_int) pa_nil)) pe_int))
      (pss_cons (ps_set (i := 5) scDraw.nd rfl (.inl rfl) (pe_op op_mod (pe_callTy call_int1 (by rfl) B.int boot_int (pa_cons (pe_op op_mul (pv 5) (pe_op op_add (pv 5) pe_int)) pa_nil)) pe_int))
      (pss_one (ps_ret (pe_op op_mod (pe_callTy call_int1 (by rfl) B.int boot_int (pa_cons (pe_op op_fdiv (pe_op op_mod (pe_callTy call_int1 (by rfl) B.int boot_int (pa_cons (pe_op op_mul (pv 5) (pv 5)) pa_nil)) pe_int) pe_int) pa_nil)) (pv 1))))))))))), ?_⟩
    have g0 := fun k => pen.get k
    -- if pen['left'] >= many
    refine ⟨.ref p, rfl, p, .int l, rfl, g0 kLeft, _, rfl, _, _, rfl, rfl, _, rfl, ite2 (fun ge => ?_) (fun lt => ?_)⟩
    · obtain ⟨pn, dp⟩ := pen.putL (l / m)
      refine ⟨.ref p, rfl, p, .int l, rfl, g0 kLeft, .inl ⟨l, rfl, .int m, rfl, l, m, rfl, rfl, hm0, ?_⟩⟩
      refine ⟨.ref p, rfl, p, .int l, rfl, g0 kLeft, .int m, rfl, l, m, rfl, rfl, ⟨hm0, by omega⟩, .ref p, rfl, p, _, rfl, dp, .int (l % m), rfl, ?_⟩
      exact q _ (l % m) a (l / m) (but_upd _ _ _) pn (Int.le_refl _) (by omega) (Int.ediv_nonneg hl (by omega)) (Int.emod_nonneg _ (by omega)) (Int.emod_lt_of_pos _ hm0)
    · obtain ⟨pn, dp⟩ := pen.putA (a + 1)
      have b1 := but_upd p H (.dK (penRows c (a + 1) l))
      -- at, pen['at'], cell
      refine ⟨.ref p, rfl, p, .int a, rfl, g0 kAtt, .int a, rfl, a, 1, rfl, rfl, .ref p, rfl, p, _, rfl, dp, ?_⟩
      refine ⟨.int a, rfl, 41, a, rfl, rfl, .inl ⟨by decide, by decide⟩, 41 * a, 23, rfl, rfl, ?_⟩
      generalize upd H p (.dK (penRows c (a + 1) l)) = H1 at pn b1 ⊢
      have g1 := fun k => pn.get k
      -- if pen['cells'] != []
      refine ⟨.ref p, rfl, p, .ref c, rfl, g1 kCells, Nat.zero_le _, fun o no => ?_⟩
      have so := same_upd (o := HO.lst []) no
      refine ⟨.list (ns.map PyData.int), .list [], .lst (.inl (.inl (so _ _ pn.cells))) (ints_dp ns), .lst (.inl (.inl upd_same)) .nil, ints_shaped ns, ints_shaped [], !ns.isEmpty, by rw [ints_eqv], ?_⟩
      generalize upd H1 o (.lst []) = H2 at so ⊢
      have s2 : Same H1 H2 := so
      have pn2 := pn.same s2
      have b2 : SameBut p H H2 := b1.trans (Same.but s2 p)
      have tail : ∀ (cell : Int), tTail K { nx := fun _ H' => Q .non H', rt := Q } [some (.ref p), some (.int m), none, some (.int a), some (.int cell), none] H2 := fun cell =>
        tail_ok pn2 hl hm0 (by omega) ha ha2 fun H3 e l' b3 pe hl' => q H3 (e % m) (a + 1) l' (b2.trans b3) pe (by omega) (Int.le_refl _) hl' (Int.emod_nonneg _ (by omega)) (Int.emod_lt_of_pos _ hm0)
      cases hne : ns.isEmpty with
      | true => exact iteF (tail _)
      | false =>
        have hpos : 0 < ns.length := by
          cases ns with
          | nil => cases hne
          | cons _ _ => exact Nat.succ_pos _
        have hlen : ((ns.map V.int).length : Int) = (ns.length : Int) := by rw [List.length_map]
        have e0 := Int.emod_nonneg a (show ((ns.map V.int).length : Int) ≠ 0 by omega)
        have e1 := Int.emod_lt_of_pos a (show (0 : Int) < ((ns.map V.int).length : Int) by omega)
        obtain ⟨j, hj⟩ := Int.eq_ofNat_of_zero_le e0
        have lj : j < ns.length := by omega
        have gj : atI (ns.map V.int) (a % ((ns.map V.int).length : Int)) = some (.int ns[j]) := by
          rw [hj]
          refine atN ?_
          rw [List.getElem?_map, List.getElem?_eq_getElem lj]
          rfl
        refine iteT ⟨.ref p, rfl, p, .ref c, rfl, pn2.get kCells, .int a, rfl, .inl ⟨a, rfl, .ref p, rfl, p, .ref c, rfl, pn2.get kCells, c, _, rfl, .inl (.inl (.inl pn2.cells)), a, _, rfl, rfl, by omega, c, _, _, _, rfl, rfl, .inl (.inl pn2.cells), gj, ?_⟩⟩
        exact tail _
end
end KF
end L2
end
/-! ### PQ -/
section
namespace L2
namespace KF
open PySem PySem.Spec PyProof.Rows PySem.KD KE KC PySem.KA
/-! ## _law_pick, of lists and texts -/
theorem CallR.orR {X : Cx} {f : Value} {r q : List V → Hp → VK → Prop} (h1 : CallR X f r) (h2 : CallR X f q) : CallR X f (fun xs H Q => r xs H Q ∨ q xs H Q) := fun pins s σ H xs us Q I rr h => h.elim (h1 pins s σ H xs us Q I rr) (h2 pins s σ H xs us Q I rr)
/-- the pen, ready -/
structure Pn (H : Hp) (p c : Addr) (ns : List Int) (a : Int) : Prop where
  at_ : ∃ l, PenAt H p c ns a l ∧ 0 ≤ l
  few : ns.length ≤ 63
  lo : 0 ≤ a
theorem Pn.same {H H' : Hp} {p c : Addr} {ns : List Int} {a : Int} (e : Pn H p c ns a) (s : Same H H') : Pn H' p c ns a := ⟨let ⟨l, h, z⟩ := e.at_; ⟨l, h.same s, z⟩, e.few, e.lo⟩
theorem Pn.ne {H : Hp} {p c b : Addr} {ns : List Int} {a : Int} {xs : List V} (e : Pn H p c ns a) (h : H b = some (.lst xs)) : b ≠ p := fun z => by
  obtain ⟨l, h1, _⟩ := e.at_
  have y := h1.row
  rw [← z, h] at y
  cases y
theorem Pn.some {H : Hp} {p c : Addr} {ns : List Int} {a : Int} (e : Pn H p c ns a) : H p ≠ none ∧ H c ≠ none := by
  obtain ⟨l, h1, _⟩ := e.at_
  rw [h1.row, h1.cells]
  simp
/-- the pen stays where nothing at p and c is touched -/
theorem Pn.off {H H' : Hp} {p c : Addr} {ns : List Int} {a : Int} (e : Pn H p c ns a) (h1 : H' p = H p) (h2 : H' c = H c) : Pn H' p c ns a := ⟨let ⟨l, h, z⟩ := e.at_; ⟨l, ⟨h1.trans h.row, h2.trans h.cells⟩, z⟩, e.few, e.lo⟩
section
variable {P : Program} {w : World} {K : PySem.W.Frag} {mg : Str → Option Value} {base : Heap}
def spPick (K : PySem.W.Frag) : Sp := fun vs H Q _ => ∃ (p c : Addr) (ns : List Int) (a : Int) (x : V), vs = [.ref p, x] ∧ Pn H p c ns a ∧ a ≤ 1000000 ∧
  ((∃ b xs, x = .ref b ∧ H b = some (.lst xs) ∧ 1 ≤ xs.length ∧ xs.length ≤ 100 ∧ ∀ H' y a', SameBut p H H' → Pn H' p c ns a' → a' ≤ a + 1 → y ∈ xs → Q y H') ∨
   (∃ z : Str, x = .str z ∧ 1 ≤ z.length ∧ z.length ≤ 100 ∧ ∀ H' ch a', SameBut p H H' → Pn H' p c ns a' → a' ≤ a + 1 → ch ∈ z.cps.toList → Q (.str ⟨#[ch]⟩) H'))
theorem ok_pick {f fD : Addr} {fd fdD : FuncData} (F : Fun K "_law_pick" "_law_pick" sPick f fd) (FD : Fun K "_law_draw" "_law_draw" sDraw fD fdD) (gD : mg "_law_draw" = some (.ref fD)) (bD : Binds K fdD ["_law_pen", "_law_many"] []) (B : BltD mg) :
    FnOk P w K mg base CX0 2 f fd ["_law_pen", "_law_items"] (spPick K) := by
  have GD : FnOk P w K mg base CX0 1 fD fdD ["_law_pen", "_law_many"] spDraw := ok_draw FD B
  refine F.ok scPick (fun vs H Q E h => ?_) (fun cdv A outer s H vs Q E hr h => ?_)
  · obtain ⟨p, c, ns, a, x, rfl, _⟩ := h
    rfl
  · obtain ⟨p, c, ns, a, x, rfl, pn, ha, h⟩ := h
    obtain ⟨l, pen, hl⟩ := pn.at_
    refine ⟨_, pss_one (ps_ret (pe_ix ix_seq (pv 1) (pe_call GD hr (by rfl) gD FD.kp bD .nil pass0 (pa_cons (pv 0) (pa_cons (pe_callB (CallR.orR call_len_seq call_len_str) (by rfl) B.len PySem.boot_len (pa_cons (pv 1) pa_nil)) pa_nil))) (fun _ _ => rfl))), ?_⟩
    rcases h with ⟨b, xs, rfl, hb, h1, h2, q⟩ | ⟨z, rfl, h1, h2, q⟩
    · refine ⟨.ref b, rfl, .ref p, rfl, .ref b, rfl, .inl ⟨b, xs, rfl, .inl (.inl (.inl hb)), p, c, ns, a, l, _, rfl, pen, pn.few, pn.lo, ha, hl, by omega, by omega, fun H' d a' l' sb pen' h3 h4 h5 h6 h7 => ?_⟩⟩
      obtain ⟨j, rfl⟩ := Int.eq_ofNat_of_zero_le h6
      have lj : j < xs.length := by omega
      exact .inl ⟨b, xs, _, xs[j], rfl, rfl, .inl (.inl (sb b _ (pn.ne hb) hb)), atN (List.getElem?_eq_getElem lj), q H' _ a' sb ⟨⟨l', pen', h5⟩, pn.few, Int.le_trans pn.lo h3⟩ h4 (List.getElem_mem lj)⟩
    · have big : z.length ≤ sizeLine := Nat.le_trans h2 (by decide)
      refine ⟨.str z, rfl, .ref p, rfl, .str z, rfl, .inr ⟨z, rfl, big, p, c, ns, a, l, _, rfl, pen, pn.few, pn.lo, ha, hl, by omega, by omega, fun H' d a' l' sb pen' h3 h4 h5 h6 h7 => ?_⟩⟩
      obtain ⟨j, rfl⟩ := Int.eq_ofNat_of_zero_le h6
      have lj : j < z.cps.toList.length := by
        have : z.cps.toList.length = z.length := by simp [Str.length]
        omega
      exact .inr (.inr ⟨z, _, z.cps.toList[j], rfl, rfl, big, atI_nat (List.getElem?_eq_getElem lj), q H' _ a' sb ⟨⟨l', pen', h5⟩, pn.few, Int.le_trans pn.lo h3⟩ h4 (List.getElem_mem lj)⟩)
end
end KF
end L2
end
/-! ### PR -/
section
namespace L2
namespace KF
open PySem PySem.Spec PyProof.Rows PySem.KD KE KC PySem.KA
/-! ## _law_shuffled, of texts (k02's place) -/
abbrev sShuf : Stmt := topS 37
abbrev shN : List Str := ["_law_pen", "_law_items", "_law_left", "_law_found"]
theorem scShuf : FnScope shN ["_law_pen", "_law_items"] (defScope sShuf) := ⟨rfl, rfl, rfl, by decide +kernel, rfl, by decide +kernel, by decide +kernel⟩
theorem strs_dp {K : PySem.W.Frag} {H : Hp} : ∀ xs : List Str, DpAll K H (xs.map V.str) (xs.map PyData.str)
  | [] => .nil
  | x :: xs => .cons (.str x) (strs_dp xs)
theorem strs_lay : ∀ {xs : List Str}, (∀ x ∈ xs, PyData.strOk x = true) → PyData.canLayAll0 (xs.map PyData.str) = true
  | [], _ => by simp only [List.map_nil, PyData.canLayAll0]
  | x :: xs, h => by simp only [List.map_cons, PyData.canLayAll0, PyData.canLay0, strs_lay (fun y hy => h y (List.mem_cons_of_mem _ hy)), h x List.mem_cons_self, Bool.and_self]
theorem strs_depth : ∀ xs : List Str, PyData.depthAll (xs.map PyData.str) ≤ 1
  | [] => by simp only [List.map_nil, PyData.depthAll]; decide
  | x :: xs => by
    have := strs_depth xs
    simp only [List.map_cons, PyData.depthAll, PyData.depth]
    omega
theorem strs_shaped {xs : List Str} (h : ∀ x ∈ xs, PyData.strOk x = true) : SeqAt.shaped (.list (xs.map PyData.str)) = true := by
  unfold SeqAt.shaped
  have := strs_depth xs
  rw [Bool.and_eq_true]
  exact ⟨by simp only [PyData.canLay0, strs_lay h], decide_eq_true (by simp only [PyData.depth]; omega)⟩
theorem strs_eqv (xs : List Str) : PyData.eqv (.list (xs.map PyData.str)) (.list []) = xs.isEmpty := by
  cases xs with
  | nil => simp [PyData.eqv, PyData.eqvAll]
  | cons n ns => simp [PyData.eqv, PyData.eqvAll]
theorem map_erase {α β : Type} (g : α → β) : ∀ (l : List α) (j : Nat), (l.map g).eraseIdx j = (l.eraseIdx j).map g
  | [], _ => rfl
  | _ :: _, 0 => rfl
  | x :: l, j + 1 => by
    show g x :: (l.map g).eraseIdx j = g x :: (l.eraseIdx j).map g
    rw [map_erase g l j]
theorem erase_perm {α : Type} : ∀ (l : List α) (j : Nat) (h : j < l.length), (l[j] :: l.eraseIdx j).Perm l
  | x :: l, 0, _ => List.Perm.refl _
  | x :: l, j + 1, h => by
    show (l[j]'(Nat.lt_of_succ_lt_succ h) :: x :: l.eraseIdx j).Perm (x :: l)
    exact (List.Perm.swap _ _ _).trans ((erase_perm l j (Nat.lt_of_succ_lt_succ h)).cons x)
structure ShufSt (H0 : Hp) (p c : Addr) (ns : List Int) (a : Int) (xs0 : List Str) (L Fd : Addr) (xs ys : List Str) (H : Hp) : Prop where
  sb : SameBut p H0 H
  pen : ∃ a' l', PenAt H p c ns a' l' ∧ a ≤ a' ∧ a' ≤ a + ys.length ∧ 0 ≤ l'
  left : H L = some (.lst (xs.map V.str))
  found : H Fd = some (.lst (ys.map V.str))
  perm : (ys ++ xs).Perm xs0
section
variable {P : Program} {w : World} {K : PySem.W.Frag} {mg : Str → Option Value} {base : Heap}
def spShuf (K : PySem.W.Frag) : Sp := fun vs H Q _ => ∃ (p c b : Addr) (ns : List Int) (a l : Int) (xs : List Str), vs = [.ref p, .ref b] ∧ PenAt H p c ns a l ∧ ns.length ≤ 63 ∧ 0 ≤ a ∧ a + 100 ≤ 1000000 ∧ 0 ≤ l ∧ SqL K H b (xs.map V.str) ∧ xs.length ≤ 60 ∧ (∀ x ∈ xs, PyData.strOk x = true) ∧
  ∀ H' q ys a' l', SameBut p H H' → H q = none → PenAt H' p c ns a' l' → a ≤ a' → a' ≤ a + xs.length → 0 ≤ l' → H' q = some (.lst (List.map V.str ys)) → ys.Perm xs → Q (.ref q) H'
theorem ok_shuf {f fD : Addr} {fd fdD : FuncData} (F : Fun K "_law_shuffled" "_law_shuffled" sShuf f fd) (FD : Fun K "_law_draw" "_law_draw" sDraw fD fdD) (gD : mg "_law_draw" = some (.ref fD)) (bD : Binds K fdD ["_law_pen", "_law_many"] []) (B : BltD mg) :
    FnOk P w K mg base CX0 2 f fd ["_law_pen", "_law_items"] (spShuf K) := by
  have GD : FnOk P w K mg base CX0 1 fD fdD ["_law_pen", "_law_many"] spDraw := ok_draw FD B
  refine F.ok scShuf (fun vs H Q E h => ?_) (fun cdv A outer s H vs Q E hr h => ?_)
  · obtain ⟨p, c, b, ns, a, l, xs, rfl, _⟩ := h
    rfl
  · obtain ⟨p, c, b, ns, a, l, xs0, rfl, pen, hns, ha, ha2, hl, hb, h60, hok, q⟩ := h
    have hc : (cxOf CX0 P w K mg base shN "_law_shuffled" (defScope sShuf) f cdv A outer s H E).nox.calm = true := rfl
    have hu64 : (cxOf CX0 P w K mg base shN "_law_shuffled" (defScope sShuf) f cdv A outer s H E).nox.A.units + 64 < cLine := by
      have := hr.un
      show (A.deeper _).units + 64 < cLine
      omega
    refine ⟨_, pss_cons (ps_par (i := 2) (j := 3) hc scShuf.nd rfl rfl (by decide) rfl rfl (pa_cons (pe_callTy call_list_of (by rfl) B.list boot_list (pa_cons (pv 1) pa_nil)) (pa_cons (pe_lst pa_nil) pa_nil)) (by rfl))
      (pss_cons (ps_while PassesOwn.never (pt_cmpR (op_neD hu64) (pv 2) (pe_lst pa_nil) (nomark _))
        (pss_one (ps_expr (pe_bm PySem.F.plainAttrs_list PySem.F.slot_list_append PySem.F.type_list_append mt_append (pv 3) (pa_cons
          (pe_bm PySem.F.plainAttrs_list PySem.F.slot_list_pop PySem.F.type_list_pop mt_popAt (pv 2) (pa_cons (pe_call GD hr (by rfl) gD FD.kp bD .nil pass0 (pa_cons (pv 0) (pa_cons (pe_callB call_len_seq (by rfl) B.len PySem.boot_len (pa_cons (pv 2) pa_nil)) pa_nil))) pa_nil)) pa_nil)))))
      (pss_one (ps_ret (pv 3)))), ?_⟩
    refine ⟨.ref b, rfl, b, _, rfl, .inl hb, fun L nL => ⟨Nat.zero_le _, fun Fd nF => ⟨_, _, rfl, ?_⟩⟩⟩
    have s1 := same_upd (o := HO.lst (xs0.map V.str)) nL
    have s2 := same_upd (o := HO.lst []) nF
    have nFL : Fd ≠ L := fun z => by
      rw [z, upd_same] at nF
      cases nF
    refine while_by (fun σ H2 => ∃ xs ys, σ = [some (.ref p), some (.ref b), some (.ref L), some (.ref Fd)] ∧ ShufSt H p c ns a xs0 L Fd xs ys H2)
      (fun σ H2 => match H2 L with
        | some (.lst zs) => zs.length
        | _ => 0) ⟨xs0, [], rfl, Same.but (s1.trans s2) p, ⟨a, l, (pen.same s1).same s2, Int.le_refl _, by simp, hl⟩, s2 _ _ upd_same, upd_same, by simp⟩ (fun σ H2 hP => ?_) (fun σ H2 Q1 Q2 mono hq => ?_)
    · obtain ⟨xs, ys, rfl, S⟩ := hP
      obtain ⟨a', l', pn, g1, g2, g3⟩ := S.pen
      have len := S.perm.length_eq
      rw [List.length_append] at len
      have ok : ∀ x ∈ xs, PyData.strOk x = true := fun x hx => hok x (S.perm.mem_iff.mp (List.mem_append_right _ hx))
      refine ⟨.ref L, rfl, Nat.zero_le _, fun o no => ?_⟩
      have so := same_upd (o := HO.lst []) no
      refine ⟨.list (xs.map PyData.str), .list [], .lst (.inl (.inl (so _ _ S.left))) (strs_dp xs), .lst (.inl (.inl upd_same)) .nil, strs_shaped ok, ints_shaped [], !xs.isEmpty, by rw [strs_eqv], ?_⟩
      cases hne : xs.isEmpty with
      | true =>
        have e0 : xs = [] := List.isEmpty_iff.mp hne
        subst e0
        refine iteF ⟨.ref Fd, rfl, ?_⟩
        refine q _ Fd ys a' l' (S.sb.trans (Same.but so p)) (s1.free nF) (pn.same so) g1 (by omega) g3 (so _ _ S.found) ?_
        have z := S.perm
        rw [List.append_nil] at z
        exact z
      | false =>
        have hpos : 0 < xs.length := by
          cases xs with
          | nil => cases hne
          | cons _ _ => exact Nat.succ_pos _
        refine iteT ?_
        have nLp : L ≠ p := fun z => by
          have y := pn.row
          rw [← z, S.left] at y
          cases y
        have nFp : Fd ≠ p := fun z => by
          have y := pn.row
          rw [← z, S.found] at y
          cases y
        refine ⟨.ref Fd, rfl, .inl ⟨rfl, _, .inl (.inl (so _ _ S.found))⟩, .ref L, rfl, .inl ⟨rfl, _, .inl (.inl (so _ _ S.left))⟩, .ref p, rfl, .ref L, rfl, L, _, rfl, .inl (.inl (.inl (so _ _ S.left))), p, c, ns, a', l', _, rfl, pn.same so, hns, by omega, by omega, g3, by rw [List.length_map]; omega, by rw [List.length_map]; omega, fun H3 d a3 l3 sb3 pn3 i1 i2 i3 d0 d1 => ?_⟩
        obtain ⟨j, rfl⟩ := Int.eq_ofNat_of_zero_le d0
        have lj : j < xs.length := by
          rw [List.length_map] at d1
          omega
        have sb4 : SameBut p H2 H3 := (Same.but so p).trans sb3
        have eL : H3 L = some (.lst (xs.map V.str)) := sb4 L _ nLp S.left
        have eF : H3 Fd = some (.lst (ys.map V.str)) := sb4 Fd _ nFp S.found
        have gj : (xs.map V.str)[j]? = some (.str xs[j]) := by
          rw [List.getElem?_map, List.getElem?_eq_getElem lj]
          rfl
        have sj : seqIndex? ((j : Nat) : Int) (xs.map V.str).length = some j := by
          refine (ixN_seq ?_).1
          unfold ixN
          rw [if_pos (by omega), if_pos (by rw [List.length_map]; omega)]
          rfl
        refine ⟨L, _, _, j, _, rfl, rfl, eL, by omega, by omega, sj, gj, ?_⟩
        have eF2 : (upd H3 L (.lst ((xs.map V.str).eraseIdx j))) Fd = some (.lst (ys.map V.str)) := by
          rw [upd_ne nFL]
          exact eF
        refine ⟨Fd, _, _, rfl, rfl, eF2, small1000 (by rw [List.length_map]; omega), ⟨xs.eraseIdx j, ys ++ [xs[j]], rfl, fun b o nb z => ?_, ⟨a3, l3, ⟨?_, ?_⟩, by omega, by rw [List.length_append, List.length_singleton]; omega, i3⟩, ?_, ?_, ?_⟩, ?_⟩
        · have n1 : b ≠ L := ne_of_none z nL
          have n2 : b ≠ Fd := ne_of_none (s1 _ _ z) nF
          rw [upd_ne n2, upd_ne n1]
          exact sb4 b o nb (S.sb b o nb z)
        · rw [upd_ne (Ne.symm nFp), upd_ne (Ne.symm nLp)]
          exact pn3.row
        · have ncL : c ≠ L := ne_of_none pen.cells nL
          have ncF : c ≠ Fd := ne_of_none (s1 _ _ pen.cells) nF
          rw [upd_ne ncF, upd_ne ncL]
          exact pn3.cells
        · rw [upd_ne nFL.symm, upd_same, map_erase]
        · rw [upd_same, List.map_append]
          rfl
        · have z : (xs[j] :: xs.eraseIdx j).Perm xs := erase_perm xs j lj
          have z2 : ((ys ++ [xs[j]]) ++ xs.eraseIdx j).Perm (ys ++ xs) := by
            rw [List.append_assoc]
            exact z.append_left ys
          exact z2.trans S.perm
        · show (match (upd (upd H3 L (.lst ((xs.map V.str).eraseIdx j))) Fd (.lst (ys.map V.str ++ [V.str xs[j]]))) L with
            | some (.lst zs) => zs.length
            | _ => 0) < (match H2 L with
            | some (.lst zs) => zs.length
            | _ => 0)
          rw [upd_ne nFL.symm, upd_same, S.left]
          show ((xs.map V.str).eraseIdx j).length < (xs.map V.str).length
          rw [List.length_eraseIdx_of_lt (by rw [List.length_map]; exact lj), List.length_map]
          omega
    · obtain ⟨e1, h1, h2, h3⟩ := hq
      refine ⟨e1, h1, h2, fun o no => ?_⟩
      obtain ⟨d1, d2, h4, h5, h6, h7, b, h8, h9⟩ := h3 o no
      exact ⟨d1, d2, h4, h5, h6, h7, b, h8, mono _ _ h9⟩
end
end KF
end L2
end
/-! ### PM -/
section
namespace L2
namespace KM
open PySem PySem.Spec PyProof.Rows
/-! ## drawn words: their letters -/
def low : List Nat := (List.range 26).map (97 + ·)
theorem low_str : (Str.ofString "abcdefghijklmnopqrstuvwxyz").cps.toList = low := by decide +kernel
theorem low_len : low.length = 26 := by decide
theorem low_nd : low.Nodup := by decide
/-- replace of two signs by two signs, with letters alone -/
theorem repl_ok (p q r : Nat) (hr : q ∈ low ∧ r ∈ low) (hp : p ∈ low) : ∀ (n : Nat) (l : List Nat), l.length ≤ n → (∀ c ∈ l, c ∈ low) → (StrLaws.replL [p, p] [q, r] l).length = l.length ∧ ∀ c ∈ StrLaws.replL [p, p] [q, r] l, c ∈ low := by
  intro n
  induction n with
  | zero =>
    intro l hl h
    have e : l = [] := List.length_eq_zero_iff.mp (Nat.le_zero.mp hl)
    rw [e, StrLaws.replL_nil]
    exact ⟨rfl, fun c hc => by cases hc⟩
  | succ n ih =>
    intro l hl h
    cases l with
    | nil =>
      rw [StrLaws.replL_nil]
      exact ⟨rfl, fun c hc => by cases hc⟩
    | cons c l =>
      by_cases e : (c :: l).take [p, p].length = [p, p]
      · rw [StrLaws.replL_hit (by simp) e]
        have l2 : ((c :: l).drop [p, p].length).length + 2 = (c :: l).length := by
          have z := congrArg List.length e
          rw [List.length_take] at z
          rw [List.length_drop]
          simp only [List.length_cons, List.length_nil] at z ⊢
          omega
        have d := ih ((c :: l).drop [p, p].length) (by simp only [List.length_cons] at hl l2 ⊢; omega) fun x hx => h x (List.mem_of_mem_drop hx)
        refine ⟨?_, fun x hx => ?_⟩
        · rw [List.length_append, d.1]
          simp only [List.length_cons, List.length_nil] at l2 ⊢
          omega
        · rcases List.mem_append.mp hx with hx | hx
          · rcases List.mem_cons.mp hx with rfl | hx
            · exact hr.1
            · rw [List.mem_singleton.mp hx]
              exact hr.2
          · exact d.2 x hx
      · rw [StrLaws.replL_miss e]
        have d := ih l (by simp only [List.length_cons] at hl; omega) fun x hx => h x (List.mem_cons_of_mem _ hx)
        refine ⟨by rw [List.length_cons, List.length_cons, d.1], fun x hx => ?_⟩
        rcases List.mem_cons.mp hx with rfl | hx
        · exact h x List.mem_cons_self
        · exact d.2 x hx
/-- the letter of the k-th word -/
def let_ (f m : Int) (k : Nat) : Nat := low.getD ((f + m * (k : Nat)) % 26).toNat 0
theorem let_mem {f m : Int} {k : Nat} : let_ f m k ∈ low := by
  have h1 := Int.emod_nonneg (f + m * (k : Nat)) (show (26 : Int) ≠ 0 by decide)
  have h2 := Int.emod_lt_of_pos (f + m * (k : Nat)) (show (0 : Int) < 26 by decide)
  unfold let_
  have h3 : ((f + m * (k : Nat)) % 26).toNat < low.length := by
    rw [low_len]
    omega
  rw [List.getD_eq_getElem?_getD, List.getElem?_eq_getElem h3]
  exact List.getElem_mem h3
theorem let_inj {f m : Int} (hm : m ∈ ([1, 3, 5, 7, 9, 11] : List Int)) {j k : Nat} (hj : j < 26) (hk : k < 26) (e : let_ f m j = let_ f m k) : j = k := by
  have a1 := Int.emod_nonneg (f + m * (j : Nat)) (show (26 : Int) ≠ 0 by decide)
  have a2 := Int.emod_lt_of_pos (f + m * (j : Nat)) (show (0 : Int) < 26 by decide)
  have b1 := Int.emod_nonneg (f + m * (k : Nat)) (show (26 : Int) ≠ 0 by decide)
  have b2 := Int.emod_lt_of_pos (f + m * (k : Nat)) (show (0 : Int) < 26 by decide)
  unfold let_ at e
  have l1 : ((f + m * (j : Nat)) % 26).toNat < low.length := by
    rw [low_len]
    omega
  have l2 : ((f + m * (k : Nat)) % 26).toNat < low.length := by
    rw [low_len]
    omega
  rw [List.getD_eq_getElem?_getD, List.getD_eq_getElem?_getD, List.getElem?_eq_getElem l1, List.getElem?_eq_getElem l2] at e
  have e2 := (List.getElem_inj (h₀ := l1) (h₁ := l2) low_nd).mp e
  have e3 : (f + m * (j : Nat)) % 26 = (f + m * (k : Nat)) % 26 := by omega
  simp only [List.mem_cons, List.not_mem_nil, or_false] at hm
  rcases hm with rfl | rfl | rfl | rfl | rfl | rfl <;> omega
/-- a word by the signs of its stem -/
def wordL (s : List Nat) (t : Nat) (c : Nat) : List Nat := s.take t ++ c :: s.drop t
theorem wordL_inj {s : List Nat} {t c d : Nat} (e : wordL s t c = wordL s t d) : c = d := by
  have z := List.append_cancel_left e
  exact (List.cons.inj z).1
theorem wordL_len (s : List Nat) (t c : Nat) : (wordL s t c).length = s.length + 1 := by
  unfold wordL
  rw [List.length_append, List.length_cons, List.length_take, List.length_drop]
  omega
theorem wordL_mem {s : List Nat} {t c : Nat} (h : ∀ x ∈ s, x ∈ low) (hc : c ∈ low) : ∀ x ∈ wordL s t c, x ∈ low := fun x hx => by
  rcases List.mem_append.mp hx with hx | hx
  · exact h x (List.mem_of_mem_take hx)
  rcases List.mem_cons.mp hx with rfl | hx
  · exact hc
  · exact h x (List.mem_of_mem_drop hx)
theorem let_at {f m : Int} {k : Nat} : atI low ((f + m * (k : Nat)) % 26) = some (let_ f m k) := by
  have h1 := Int.emod_nonneg (f + m * (k : Nat)) (show (26 : Int) ≠ 0 by decide)
  have h2 := Int.emod_lt_of_pos (f + m * (k : Nat)) (show (0 : Int) < 26 by decide)
  obtain ⟨j, hj⟩ := Int.eq_ofNat_of_zero_le h1
  have hj26 : j < low.length := by
    rw [low_len]
    omega
  rw [hj]
  refine atI_nat ?_
  unfold let_
  rw [hj, List.getD_eq_getElem?_getD, Int.toNat_natCast, List.getElem?_eq_getElem hj26]
  rfl
/-- 1 to 8 letters -/
def isWordL (l : List Nat) : Bool := decide (1 ≤ l.length) && decide (l.length ≤ 8) && l.all fun c => decide (c ∈ low)
/-- what is replaced does not stand at the beginning -/
theorem repl_head (l : List Nat) : (StrLaws.replL [113, 113] [113, 122] l).take 2 ≠ [113, 113] := by
  cases l with
  | nil =>
    rw [StrLaws.replL_nil]
    decide
  | cons c l =>
    by_cases e : (c :: l).take [113, 113].length = [113, 113]
    · rw [StrLaws.replL_hit (by simp) e]
      intro z
      have z : (113 : Nat) :: 122 :: [] = [113, 113] := z
      cases z
    · rw [StrLaws.replL_miss e]
      intro z
      cases l with
      | nil =>
        rw [StrLaws.replL_nil] at z
        cases z
      | cons d l =>
        have nd : c = 113 → d ≠ 113 := fun h1 h2 => e (by rw [h1, h2]; rfl)
        have e2 : (d :: l).take [113, 113].length ≠ [113, 113] ∨ c ≠ 113 := by
          by_cases h : c = 113
          · refine .inl fun y => nd h ?_
            have y : d :: l.take 1 = [113, 113] := y
            exact (List.cons.inj y).1
          · exact .inr h
        rcases e2 with e2 | e2
        · rw [StrLaws.replL_miss e2] at z
          have z : c :: d :: [] = [113, 113] := z
          have h1 := (List.cons.inj z).1
          have h2 := (List.cons.inj (List.cons.inj z).2).1
          exact nd h1 h2
        · have z : c :: (StrLaws.replL [113, 113] [113, 122] (d :: l)).take 1 = [113, 113] := z
          exact e2 (List.cons.inj z).1
/-- of things that differ at most one has what one alone has -/
theorem filter_one {α : Type} {p : α → Bool} : ∀ {l : List α}, l.Nodup → (∀ x ∈ l, ∀ y ∈ l, p x = true → p y = true → x = y) → (l.filter p).length ≤ 1
  | [], _, _ => Nat.zero_le _
  | x :: l, nd, h => by
    obtain ⟨n1, n2⟩ := List.nodup_cons.mp nd
    have ih := filter_one (p := p) n2 fun a ha b hb => h a (List.mem_cons_of_mem _ ha) b (List.mem_cons_of_mem _ hb)
    by_cases c : p x = true
    · have z : l.filter p = [] := List.filter_eq_nil_iff.mpr fun y hy q => n1 (h x List.mem_cons_self y (List.mem_cons_of_mem _ hy) c q ▸ hy)
      rw [List.filter_cons_of_pos c, z]
      exact Nat.le_refl _
    · rw [List.filter_cons_of_neg c]
      exact ih
theorem keep_count {α : Type} {k p1 p2 : α → Bool} (h : ∀ x, k x = false → p1 x = true ∨ p2 x = true) : ∀ l : List α, l.length ≤ (l.filter k).length + (l.filter p1).length + (l.filter p2).length
  | [] => Nat.zero_le _
  | x :: l => by
    have ih := keep_count h l
    have m1 : (l.filter k).length ≤ ((x :: l).filter k).length := by
      rw [List.filter_cons]
      split <;> simp
    have m2 : (l.filter p1).length ≤ ((x :: l).filter p1).length := by
      rw [List.filter_cons]
      split <;> simp
    have m3 : (l.filter p2).length ≤ ((x :: l).filter p2).length := by
      rw [List.filter_cons]
      split <;> simp
    rw [List.length_cons]
    cases e : k x with
    | true =>
      rw [List.filter_cons_of_pos e, List.length_cons]
      omega
    | false =>
      rcases h x e with c | c
      · rw [List.filter_cons_of_pos c, List.length_cons]
        omega
      · rw [List.filter_cons_of_pos (p := p2) c, List.length_cons]
        omega
/-- where a letter within the first two places is told -/
theorem wordL_two {s : List Nat} {t c d : Nat} (hs : s.take 2 ≠ [113, 113]) (h1 : (wordL s t c).take 2 = [113, 113]) (h2 : (wordL s t d).take 2 = [113, 113]) : c = d := by
  by_cases ht : 2 ≤ t ∧ 2 ≤ s.length
  · refine absurd ?_ hs
    unfold wordL at h1
    rw [List.take_append_of_le_length (by rw [List.length_take]; omega), List.take_take, Nat.min_eq_left ht.1] at h1
    exact h1
  · have key : ∀ e, (wordL s t e).take 2 = [113, 113] → e = 113 := fun e h => by
      unfold wordL at h
      have l1 : (s.take t).length ≤ 1 := by
        rw [List.length_take]
        omega
      generalize s.take t = u at h l1
      match u, l1 with
      | [], _ =>
        have h : e :: (s.drop t).take 1 = [113, 113] := h
        exact (List.cons.inj h).1
      | [x], _ =>
        have h : x :: e :: [] = [113, 113] := h
        exact (List.cons.inj (List.cons.inj h).2).1
    rw [key c h1, key d h2]
end KM
end L2
end
/-! ### PW -/
section
namespace L2
namespace KF
open PySem PySem.Spec PyProof.Rows PySem.KD KE KC PySem.KA KM TL
/-! ## _law_word_list -/
abbrev sWL : Stmt := topS 38
abbrev wlN : List Str := ["_law_pen", "_law_many", "_law_letters", "_law_stem", "_law_at", "_law_first", "_law_more", "_law_tails", "_law_words", "_law_k", "_law_tail", "_law_word"]
theorem scWL : FnScope wlN ["_law_pen", "_law_many"] (defScope sWL) := ⟨rfl, rfl, rfl, by decide +kernel, rfl, by decide +kernel, by decide +kernel⟩
/-- a name is stored, a token out -/
theorem pst_set {X : Cx} {i : Nat} {x : Str} {e : Expr} {te : TE} {pos pos' : Pos} (hN : X.N.Nodup) (hi : X.N[i]? = some x) (hx : Loc X.env.scope x) (he : PET X e te) (hs : swapsWith e (some (.Name x pos')) pos.line X.env = pure false := by rfl)
    (hf : X.fn x = true ∨ X.env.scope.names.lookup x = some .local := by first | exact .inl rfl | exact .inr rfl | assumption) : PST X (.Assign [.Name x pos'] e pos) (tAsg te (gName i)) := fun pins s σ H D h0 I h =>
  wpAny_Assign_Name (thn (he pins s σ H _ h0 I h) fun v s1 ⟨y, H1, I1, r1, q1⟩ => store_ok I1 hN hi hx r1 (fun s2 I2 => ⟨_, H1, I2, q1⟩) hf) hs
theorem join_signs : ∀ cs : List Nat, tl (Txt.join (Str.ofString "") (cs.map fun c => (⟨#[c]⟩ : Str))) = cs := fun cs => by
  rw [join_eq, tl_join]
  have e : tl (Str.ofString "") = [] := by decide +kernel
  rw [e, List.map_map]
  induction cs with
  | nil => rfl
  | cons c cs ih =>
    cases cs with
    | nil => rfl
    | cons d cs =>
      show [c] ++ ([] ++ joinL [] _) = _
      rw [List.nil_append]
      exact congrArg (c :: ·) ih
/-- words as they are drawn -/
structure WordsOk (ws : List Str) : Prop where
  nd : ws.Nodup
  ok : ∀ x ∈ ws, isWordL (tl x) = true ∧ (tl x).take 2 ≠ [113, 113]
section
variable {P : Program} {w : World} {K : PySem.W.Frag} {mg : Str → Option Value} {base : Heap}
structure BltW (mg : Str → Option Value) : Prop where
  int : mg "int" = none
  len : mg "len" = none
  range : mg "range" = none
theorem cutS_len (z : Str) (lo hi : Option Int) : (cutS z lo hi).length ≤ z.length := by
  unfold cutS
  show (List.toArray _).size ≤ _
  rw [List.size_toArray, List.length_take, List.length_drop]
  have : z.cps.toList.length = z.length := by simp [Str.length]
  omega
theorem cut_word (st : Str) {t c : Nat} (ht : t ≤ st.length) : tl (cutS st none (some ((t : Nat) : Int)) ++ ((⟨#[c]⟩ : Str) ++ cutS st (some ((t : Nat) : Int)) none)) = wordL (tl st) t c := by
  have l : st.cps.toList.length = st.length := by simp [Str.length]
  rw [tl_append, tl_append]
  unfold cutS wordL
  simp only [HT.sIx_none, HT.sIx_nat, Nat.min_eq_left ht]
  show List.take (t - 0) (List.drop 0 st.cps.toList) ++ ([c] ++ List.take (st.length - t) (List.drop t st.cps.toList)) = _
  rw [List.drop_zero, Nat.sub_zero, List.take_of_length_le (l := List.drop t st.cps.toList) (by rw [List.length_drop]; omega)]
  rfl
theorem cut_two {x : Str} (h : (tl x).take 2 = [113, 113]) : cutS x none (some 2) = Str.ofString "qq" := by
  have l : 2 ≤ x.length := by
    have z := congrArg List.length h
    rw [List.length_take] at z
    have e : (tl x).length = x.length := by simp [Str.length]
    simp only [List.length_cons, List.length_nil] at z
    omega
  unfold cutS
  rw [show (some (2 : Int)) = some ((2 : Nat) : Int) from rfl]
  simp only [HT.sIx_none, HT.sIx_nat, Nat.min_eq_left l, List.drop_zero, Nat.sub_zero]
  have h2 : List.take 2 x.cps.toList = [113, 113] := h
  rw [h2]
  decide +kernel
theorem take_min {α : Type} (n k : Nat) (l : List α) (e : k = l.length) : l.take (min n k) = l.take n := by
  subst e
  by_cases h : n ≤ l.length
  · rw [Nat.min_eq_left h]
  · rw [Nat.min_eq_right (by omega), List.take_length, List.take_of_length_le (by omega)]
/-- which words stay -/
def keepW (x : Str) : Bool := !decide (x = Str.ofString "main") && !decide (cutS x none (some 2) = Str.ofString "qq")
/-- the signs drawn so far -/
structure StemSt (H : Hp) (p c : Addr) (ns : List Int) (a : Int) (D : Addr) (i : Nat) (Hi : Hp) : Prop where
  sb : SameBut p H Hi
  ex : ∃ (cs : List Nat) (a' : Int), Pn Hi p c ns a' ∧ a' ≤ a + i ∧ Hi D = some (.lst (cs.map fun ch => V.str ⟨#[ch]⟩)) ∧ cs.length = i ∧ ∀ ch ∈ cs, ch ∈ low
def spWL : Sp := fun vs H Q _ => ∃ (p c : Addr) (ns : List Int) (a : Int) (m : Nat), vs = [.ref p, .int m] ∧ Pn H p c ns a ∧ a ≤ 900000 ∧ m ≤ 26 ∧
  ∀ H' q ws a', SameBut p H H' → Pn H' p c ns a' → a' ≤ a + 11 → H q = none → H' q = some (.lst (ws.map V.str)) → WordsOk ws → (ws.length ≤ m ∧ (m ≤ 24 → ws.length = m)) → Q (.ref q) H'
theorem ok_wl {f fD fP : Addr} {fd fdD fdP : FuncData} (F : Fun K "_law_word_list" "_law_word_list" sWL f fd) (FD : Fun K "_law_draw" "_law_draw" sDraw fD fdD) (gD : mg "_law_draw" = some (.ref fD)) (bD : Binds K fdD ["_law_pen", "_law_many"] [])
    (FP : Fun K "_law_pick" "_law_pick" sPick fP fdP) (gP : mg "_law_pick" = some (.ref fP)) (bP : Binds K fdP ["_law_pen", "_law_items"] []) (B : BltD mg) (W : BltW mg) : FnOk P w K mg base CX0 3 f fd ["_law_pen", "_law_many"] spWL := by
  have GD : FnOk P w K mg base CX0 1 fD fdD ["_law_pen", "_law_many"] spDraw := ok_draw FD B
  have GP : FnOk P w K mg base CX0 2 fP fdP ["_law_pen", "_law_items"] (spPick K) := ok_pick FP FD gD bD B
  refine F.ok scWL (fun vs H Q E h => ?_) (fun cdv A outer s H vs Q E hr h => ?_)
  · obtain ⟨p, c, ns, a, m, rfl, _⟩ := h
    rfl
  · obtain ⟨p, c, ns, a, m, rfl, pn, ha, hm, q⟩ := h
    have r1 := hr.mono (show 1 ≤ 2 by decide)
    refine ⟨_, pss_str (i := 2) scWL.nd rfl (.inr rfl) (psst_cons (PST.of (ps_set (i := 3) scWL.nd rfl (.inr rfl) (pe_join pe_str
        (pe_lc (own := [("_law_k", 9)]) (g := gName 9) (tt := tYes) rfl scWL.nd (pi_range1 (by rfl) W.range (pa_cons (pe_call GD r1 (by rfl) gD FD.kp bD .nil pass0 (pa_cons (pv 0) (pa_cons pe_int pa_nil))) pa_nil))
          (blkOk_by (N := wlN) (sc := defScope sWL) (by decide +kernel)) (fun _ _ _ _ _ => pg_name (i := 9) scWL.nd rfl (Or.inl rfl)) (fun _ _ _ _ _ => pts_nil) (fun _ _ _ _ _ => pe_call GP hr (by rfl) gP FP.kp bP .nil pass0 (pa_cons (pv 0) (pa_cons (pv 2) pa_nil)))))))
      (psst_cons (pst_set (i := 3) scWL.nd rfl (.inr rfl) (CwR.pet_replC (pv 3)))
      (PSsT.of (pss_cons (ps_asg (pe_tup (pa_cons (pe_call GD r1 (by rfl) gD FD.kp bD .nil pass0 (pa_cons (pv 0) (pa_cons (pe_op op_add (pe_callB call_len_str (by rfl) W.len PySem.boot_len (pa_cons (pv 3) pa_nil)) pe_int) pa_nil)))
            (pa_cons (pe_call GD r1 (by rfl) gD FD.kp bD .nil pass0 (pa_cons (pv 0) (pa_cons pe_int pa_nil)))
            (pa_cons (pe_call GP hr (by rfl) gP FP.kp bP .nil pass0 (pa_cons (pv 0) (pa_cons (pe_lst (pa_cons pe_int (pa_cons pe_int (pa_cons pe_int (pa_cons pe_int (pa_cons pe_int (pa_cons pe_int pa_nil))))))) pa_nil))) pa_nil))))
          (pg_tup rfl (pgs_cons (pg_name (i := 4) scWL.nd rfl (.inr rfl)) (pgs_cons (pg_name (i := 5) scWL.nd rfl (.inr rfl)) (pgs_cons (pg_name (i := 6) scWL.nd rfl (.inr rfl)) pgs_nil)))))
      (pss_cons (ps_setLc (i := 7) (own := [("_law_k", 9)]) (g := gName 9) (tt := tYes) rfl scWL.nd rfl rfl rfl (pi_range1 (by rfl) W.range (pa_cons pe_int pa_nil))
          (blkOk_by (N := wlN) (sc := defScope sWL) (by decide +kernel)) (fun _ _ _ _ _ => pg_name (i := 9) scWL.nd rfl (Or.inl rfl)) (fun _ _ _ _ _ => pts_nil)
          (fun _ _ _ _ _ => pe_op op_add_str (pe_ix ix_str (pv 2) (pe_op op_mod (pe_callTy call_int1 (by rfl) W.int boot_int (pa_cons (pe_op op_add (pv 5) (pe_op op_mul (pv 6) (pv 9))) pa_nil)) pe_int) (fun _ _ => rfl)) (pe_slice sl_str (pv 3) (po_some (pv 4)) po_none)))
      (pss_cons (ps_setLc (i := 8) (own := [("_law_tail", 10)]) (g := gName 10) (tt := tYes) rfl scWL.nd rfl rfl rfl (pi_list (pv 7))
          (blkOk_by (N := wlN) (sc := defScope sWL) (by decide +kernel)) (fun _ _ _ _ _ => pg_name (i := 10) scWL.nd rfl (Or.inl rfl)) (fun _ _ _ _ _ => pts_nil)
          (fun _ _ _ _ _ => pe_op op_add_str (pe_slice sl_str (pv 3) po_none (po_some (pv 4))) (pv 10)))
      (pss_one (ps_ret (pe_slice sl_list (pe_lc (own := [("_law_word", 11)]) (g := gName 11) rfl scWL.nd (pi_list (pv 8))
          (blkOk_by (N := wlN) (sc := defScope sWL) (by decide +kernel)) (fun _ _ _ _ _ => pg_name (i := 11) scWL.nd rfl (Or.inl rfl)) (fun _ _ _ _ _ => pts_one (PW.pt (pw_and (pt_cmpR op_ne (pv 11) pe_str (nomark _)) (pw_and1 (pt_cmpR op_ne (pe_slice sl_str (pv 11) po_none (po_some pe_int)) pe_str (nomark _))))))
          (fun _ _ _ _ _ => pv 11)) po_none (po_some (pv 1))))))))))), ?_⟩
    obtain ⟨l, pen, hl⟩ := pn.at_
    -- range(draw(pen, 8))
    refine ⟨⟨_, rfl⟩, .ref p, rfl, p, c, ns, a, l, 8, rfl, pen, pn.few, pn.lo, by omega, hl, by decide, by decide, fun H1 d a1 l1 sb1 pen1 g1 g2 g3 d0 d1 => ?_⟩
    have pn1 : Pn H1 p c ns a1 := ⟨⟨l1, pen1, g3⟩, pn.few, Int.le_trans pn.lo g1⟩
    obtain ⟨n, rfl⟩ := Int.eq_ofNat_of_zero_le d0
    refine ⟨n, rfl, by omega, by omega, fun D nD => ?_⟩
    refine lc_range (lo := 0) (n := (Int.ofNat n).toNat) (fun i Hi => StemSt H1 p c ns a1 D i Hi) ⟨Same.but (same_upd nD) p, [], a1, pn1.same (same_upd nD), by omega, upd_same, rfl, fun _ z => by cases z⟩ (fun i Hi hi S => ?_) (fun Hi S => ?_)
    · obtain ⟨sb, cs, a2, pn2, b2, eD, lc, cl⟩ := S
      have es : (0 : Int) + ((i : Nat) : Int) = ((i : Nat) : Int) := Int.zero_add _
      have hi8 : i < 8 := by
        have : i < n := hi
        omega
      refine ⟨rfl, .ref p, rfl, .str (Str.ofString "abcdefghijklmnopqrstuvwxyz"), rfl, p, c, ns, a2, _, rfl, pn2, by omega, .inr ⟨_, rfl, by decide +kernel, by decide +kernel, fun H3 ch a3 sb3 pn3 b3 hch => ?_⟩⟩
      rw [low_str] at hch
      have nDp : D ≠ p := pn2.ne eD
      refine ⟨_, sb3 D _ nDp eD, small1000 (by rw [List.length_map]; omega), fun b o nb z => ?_, cs ++ [ch], a3, pn3.off ?_ ?_, by omega, by rw [upd_same, List.map_append]; rfl, by rw [List.length_append, lc]; rfl, fun x hx => ?_⟩
      · rw [upd_ne (ne_of_none z nD)]
        exact sb3 b o nb (sb b o nb z)
      · rw [upd_ne (Ne.symm nDp)]
      · have ncD : c ≠ D := fun z => (pn1.some).2 (z ▸ nD)
        rw [upd_ne ncD]
      · rcases List.mem_append.mp hx with hx | hx
        · exact cl x hx
        · rw [List.mem_singleton.mp hx]
          exact hch
    · obtain ⟨sb, cs, a2, pn2, b2, eD, lc, cl⟩ := S
      have hn7 : cs.length ≤ 7 := by
        have e : cs.length = n := lc
        omega
      have eD2 : Hi D = some (.lst ((cs.map fun ch => (⟨#[ch]⟩ : Str)).map V.str)) := by
        rw [List.map_map]
        exact eD
      have ln : ((cs.map fun ch => (⟨#[ch]⟩ : Str)).map (·.length)).sum = cs.length := by
        rw [List.map_map]
        clear lc cl b2 eD eD2 hn7
        induction cs with
        | nil => rfl
        | cons x cs ih =>
          rw [List.map_cons, List.sum_cons, ih, List.length_cons]
          show 1 + _ = _
          omega
      refine ⟨Str.ofString "", D, cs.map (fun ch => (⟨#[ch]⟩ : Str)), rfl, rfl, .inl (.inl (.inl eD2)), ?_, ?_⟩
      · rw [ln, List.length_map]
        show _ + _ * 0 ≤ _
        omega
      have e0 := join_signs cs
      generalize Txt.join (Str.ofString "") (cs.map fun ch => (⟨#[ch]⟩ : Str)) = st0 at e0 ⊢
      have l0 : st0.length ≤ 7 := by
        have : (tl st0).length = st0.length := by simp [Str.length]
        rw [← this, e0]
        exact hn7
      -- replace
      refine ⟨_, rfl, st0, rfl, ?_, ?_⟩
      · have : (Str.ofString "qz").length = 2 := by decide +kernel
        rw [this]
        omega
      have e1 : tl (Txt.replace st0 (Str.ofString "qq") (Str.ofString "qz")) = StrLaws.replL [113, 113] [113, 122] cs := by
        rw [← e0]
        exact StrLaws.replace_list (x := st0) (y := Str.ofString "qq") (z := Str.ofString "qz") (by decide +kernel)
      have e2 := repl_ok 113 113 122 ⟨by decide, by decide⟩ (by decide) cs.length cs (Nat.le_refl _) cl
      rw [← e1] at e2
      generalize Txt.replace st0 (Str.ofString "qq") (Str.ofString "qz") = st at e1 e2 ⊢
      obtain ⟨ls, lows⟩ := e2
      have ls2 : st.length = (tl st).length := by simp [Str.length]
      have ls7 : st.length ≤ 7 := by omega
      have big : st.length ≤ sizeLine := Nat.le_trans ls7 (by decide)
      -- at, first, more
      obtain ⟨l2, pen2, hl2⟩ := pn2.at_
      have b2' : a2 ≤ a1 + 7 := by
        have e : cs.length = n := lc
        have b3 : a2 ≤ a1 + ((Int.ofNat n).toNat : Int) := b2
        have b4 : ((Int.ofNat n).toNat : Int) = n := rfl
        omega
      refine ⟨.ref p, rfl, .str st, rfl, st, rfl, big, _, 1, rfl, rfl, p, c, ns, a2, l2, _, rfl, pen2, pn.few, pn2.lo, by omega, hl2, by omega, by omega, fun H4 d4 a4 l4 sb4 pen4 j1 j2 j3 j4 j5 => ?_⟩
      obtain ⟨t, rfl⟩ := Int.eq_ofNat_of_zero_le j4
      refine ⟨.ref p, rfl, p, c, ns, a4, l4, 26, rfl, pen4, pn.few, by have := pn2.lo; omega, by omega, j3, by decide, by decide, fun H5 f a5 l5 sb5 pen5 k1 k2 k3 k4 k5 => ?_⟩
      have pn5 : Pn H5 p c ns a5 := ⟨⟨l5, pen5, k3⟩, pn.few, by have := pn2.lo; omega⟩
      refine ⟨.ref p, rfl, by show 6 ≤ sizeLine; decide, fun L nL => ?_⟩
      have sL := same_upd (o := HO.lst [.int 1, .int 3, .int 5, .int 7, .int 9, .int 11]) nL
      refine ⟨p, c, ns, a5, .ref L, rfl, pn5.same sL, by omega, .inl ⟨L, _, rfl, upd_same, by decide, by decide, fun H6 y a6 sb6 pn6 b6 hy => ?_⟩⟩
      obtain ⟨m0, hm0, rfl⟩ : ∃ m0 ∈ ([1, 3, 5, 7, 9, 11] : List Int), y = .int m0 := by
        have e : ([V.int 1, .int 3, .int 5, .int 7, .int 9, .int 11] : List V) = ([1, 3, 5, 7, 9, 11] : List Int).map V.int := rfl
        rw [e] at hy
        obtain ⟨m0, h1, h2⟩ := List.mem_map.mp hy
        exact ⟨m0, h1, h2.symm⟩
      refine ⟨by show 3 ≤ sizeLine; decide, fun T nT => ?_⟩
      have sT := same_upd (o := HO.tup [.int (t : Nat), .int f, .int m0]) nT
      refine ⟨T, _, rfl, .inl (.inl upd_same), rfl, _, _, rfl, _, _, rfl, _, _, rfl, rfl, ?_⟩
      have pn7 : Pn (upd H6 T (.tup [.int (t : Nat), .int f, .int m0])) p c ns a6 := pn6.same sT
      have sbA : SameBut p H (upd H6 T (.tup [.int (t : Nat), .int f, .int m0])) := fun b o bp e => sT b o (sb6 b o bp (sL b o (sb5 b o bp (sb4 b o bp (sb b o bp (sb1 b o bp e))))))
      generalize upd H6 T (.tup [.int (t : Nat), .int f, .int m0]) = H7 at pn7 sbA ⊢
      -- tails
      have t7 : t ≤ st.length := by omega
      have f26 : 0 ≤ f ∧ f < 26 := ⟨k4, k5⟩
      refine ⟨26, rfl, by decide, by decide, fun D2 nD2 => ?_⟩
      refine lc_range (lo := 0) (n := (26 : Int).toNat) (fun i Hi => SameBut D2 (upd H7 D2 (.lst [])) Hi ∧ Hi D2 = some (.lst ((List.range i).map fun k => V.str ((⟨#[let_ f m0 k]⟩ : Str) ++ cutS st (some (t : Nat)) none)))) ⟨fun _ _ _ z => z, upd_same⟩ (fun i Hi hi S => ?_) (fun Hi S => ?_)
      · obtain ⟨sb8, e8⟩ := S
        have es : (0 : Int) + ((i : Nat) : Int) = ((i : Nat) : Int) := Int.zero_add _
        rw [es]
        have hi26 : i < 26 := hi
        have hmul : CMul m0 ((i : Nat) : Int) := by
          simp only [List.mem_cons, List.not_mem_nil, or_false] at hm0
          exact .inl (by rcases hm0 with rfl | rfl | rfl | rfl | rfl | rfl <;> exact ⟨by decide, by decide⟩)
        refine ⟨rfl, .str (Str.ofString "abcdefghijklmnopqrstuvwxyz"), rfl, .int f, rfl, .int m0, rfl, .int (i : Nat), rfl, m0, _, rfl, rfl, hmul, f, _, rfl, rfl, .inl ⟨_, rfl, _, 26, rfl, rfl, Int.pos_of_lt_lit (by decide), ?_⟩⟩
        refine ⟨_, _, let_ f m0 i, rfl, rfl, by decide +kernel, by rw [low_str]; exact let_at, ?_⟩
        refine ⟨.str st, rfl, .int (t : Nat), rfl, _, rfl, st, rfl, big, _, _, rfl, rfl, ?_, ?_⟩
        · have z1 : ((⟨#[let_ f m0 i]⟩ : Str)).length = 1 := rfl
          have z2 := cutS_len st (some ((t : Nat) : Int)) none
          rw [z1]
          show 1 + _ ≤ 16777216
          omega
        · refine ⟨_, e8, small1000 (by rw [List.length_map, List.length_range]; omega), fun b o nb z => ?_, ?_⟩
          · rw [upd_ne nb]
            exact sb8 b o nb z
          · rw [upd_same, List.range_succ, List.map_append]
            rfl
      obtain ⟨sb8, e8⟩ := S
      have same8 : Same H7 Hi := fun b o z => sb8 b o (ne_of_none z nD2) (by rw [upd_ne (ne_of_none z nD2)]; exact z)
      have pn8 := pn7.same same8
      -- words
      refine ⟨.ref D2, rfl, D2, rfl, ⟨_, .inl (.inl e8)⟩, fun D3 nD3 => ?_⟩
      have n32 : D2 ≠ D3 := fun z => by
        rw [← z, e8] at nD3
        cases nD3
      refine lc_list (a := D2) (xs := (List.range (26 : Int).toNat).map fun k => V.str ((⟨#[let_ f m0 k]⟩ : Str) ++ cutS st (some (t : Nat)) none)) (fun i Hj => SameBut D3 (upd Hi D3 (.lst [])) Hj ∧ Hj D3 = some (.lst ((List.range i).map fun k => V.str (cutS st none (some (t : Nat)) ++ ((⟨#[let_ f m0 k]⟩ : Str) ++ cutS st (some (t : Nat)) none))))) ⟨fun _ _ _ z => z, upd_same⟩ (fun i Hj _ S => ?_) (fun i x Hj hx S => ?_) (fun Hj S => ?_)
      · exact .inl (.inl (S.1 D2 _ n32 (by rw [upd_ne n32]; exact e8)))
      · obtain ⟨sb9, e9⟩ := S
        have hi26 : i < 26 := by
          have := (List.getElem?_eq_some_iff.mp hx).1
          rw [List.length_map, List.length_range] at this
          exact this
        have ex : x = V.str ((⟨#[let_ f m0 i]⟩ : Str) ++ cutS st (some (t : Nat)) none) := by
          rw [List.getElem?_map, List.getElem?_range (by exact hi26)] at hx
          exact (Option.some.inj hx).symm
        subst ex
        refine ⟨rfl, .str st, rfl, .int (t : Nat), rfl, _, rfl, st, rfl, big, _, rfl, _, _, rfl, rfl, ?_, ?_⟩
        · have z2 := cutS_len st none (some ((t : Nat) : Int))
          have z3 := cutS_len st (some ((t : Nat) : Int)) none
          have z1 : ((⟨#[let_ f m0 i]⟩ : Str)).length = 1 := rfl
          rw [strLen_append, z1]
          show _ + _ ≤ 16777216
          omega
        · refine ⟨_, e9, small1000 (by rw [List.length_map, List.length_range]; omega), fun b o nb z => ?_, ?_⟩
          · rw [upd_ne nb]
            exact sb9 b o nb z
          · rw [upd_same, List.range_succ, List.map_append]
            rfl
      · obtain ⟨sb9, e9⟩ := S
        have len26 : ((List.range (26 : Int).toNat).map fun k => V.str ((⟨#[let_ f m0 k]⟩ : Str) ++ cutS st (some (t : Nat)) none)).length = 26 := by rw [List.length_map, List.length_range]; rfl
        rw [len26] at e9
        have same9 : Same Hi Hj := fun b o z => sb9 b o (ne_of_none z nD3) (by rw [upd_ne (ne_of_none z nD3)]; exact z)
        have pn9 := pn8.same same9
        have wl : ∀ k, tl (cutS st none (some ((t : Nat) : Int)) ++ ((⟨#[let_ f m0 k]⟩ : Str) ++ cutS st (some ((t : Nat) : Int)) none)) = wordL (tl st) t (let_ f m0 k) := fun k => cut_word st t7
        generalize hw : (fun k : Nat => cutS st none (some ((t : Nat) : Int)) ++ ((⟨#[let_ f m0 k]⟩ : Str) ++ cutS st (some ((t : Nat) : Int)) none)) = wd at wl
        have e9' : Hj D3 = some (.lst ((List.range 26).map fun k => V.str (wd k))) := by
          rw [← hw]
          exact e9
        have wl' : ∀ k, tl (wd k) = wordL (tl st) t (let_ f m0 k) := fun k => by
          rw [← hw]
          exact wl k
        refine ⟨.ref D3, rfl, D3, rfl, ⟨_, .inl (.inl e9')⟩, fun D4 nD4 => ?_⟩
        have n43 : D3 ≠ D4 := fun z => by
          rw [← z, e9'] at nD4
          cases nD4
        refine lc_list (a := D3) (xs := (List.range 26).map fun k => V.str (wd k)) (fun i Hk => SameBut D4 (upd Hj D4 (.lst [])) Hk ∧ Hk D4 = some (.lst (((List.range i).map wd |>.filter keepW).map V.str))) ⟨fun _ _ _ z => z, upd_same⟩ (fun i Hk _ S => ?_) (fun i x Hk hx S => ?_) (fun Hk S => ?_)
        · exact .inl (.inl (S.1 D3 _ n43 (by rw [upd_ne n43]; exact e9')))
        · obtain ⟨sb10, e10⟩ := S
          have hi26 : i < 26 := by
            have := (List.getElem?_eq_some_iff.mp hx).1
            rw [List.length_map, List.length_range] at this
            exact this
          have ex : x = V.str (wd i) := by
            rw [List.getElem?_map, List.getElem?_range (by exact hi26)] at hx
            exact (Option.some.inj hx).symm
          subst ex
          have stepF : keepW (wd i) = false → ((List.range (i + 1)).map wd |>.filter keepW) = ((List.range i).map wd |>.filter keepW) := fun e => by
            rw [List.range_succ, List.map_append, List.filter_append]
            simp [e]
          have stepT : keepW (wd i) = true → ((List.range (i + 1)).map wd |>.filter keepW) = ((List.range i).map wd |>.filter keepW) ++ [wd i] := fun e => by
            rw [List.range_succ, List.map_append, List.filter_append]
            simp [e]
          have lw : (wd i).length ≤ sizeLine := by
            have z : (tl (wd i)).length = (wd i).length := by simp [Str.length]
            rw [← z, wl', wordL_len]
            show _ ≤ 16777216
            omega
          refine ⟨rfl, .str (wd i), rfl, rfl, _, rfl, ?_⟩
          by_cases c1 : wd i = Str.ofString "main"
          · have k0 : keepW (wd i) = false := by simp [keepW, c1]
            rw [show (!decide (V.str (wd i) = V.str (Str.ofString "main"))) = false by rw [c1]; simp]
            refine iteF ⟨sb10, ?_⟩
            rw [stepF k0]
            exact e10
          · rw [show (!decide (V.str (wd i) = V.str (Str.ofString "main"))) = true by simp [c1]]
            refine iteT ⟨.str (wd i), rfl, _, rfl, _, rfl, lw, rfl, _, rfl, ?_⟩
            by_cases c2 : cutS (wd i) none (some 2) = Str.ofString "qq"
            · have k0 : keepW (wd i) = false := by simp [keepW, c2]
              rw [show (!decide (V.str (cutS (wd i) none (some 2)) = V.str (Str.ofString "qq"))) = false by rw [c2]; simp]
              refine iteF ⟨sb10, ?_⟩
              rw [stepF k0]
              exact e10
            · have k1 : keepW (wd i) = true := by simp [keepW, c1, c2]
              rw [show (!decide (V.str (cutS (wd i) none (some 2)) = V.str (Str.ofString "qq"))) = true by simp [c2]]
              refine iteT ⟨.str (wd i), rfl, _, e10, small1000 ?_, fun b o nb z => ?_, ?_⟩
              · rw [List.length_map]
                refine Nat.le_trans (List.length_filter_le _ _) ?_
                rw [List.length_map, List.length_range]
                omega
              · rw [upd_ne nb]
                exact sb10 b o nb z
              · rw [upd_same, stepT k1, List.map_append]
                rfl
        · obtain ⟨sb10, e10⟩ := S
          have l26 : ((List.range 26).map fun k => V.str (wd k)).length = 26 := by rw [List.length_map, List.length_range]
          rw [l26] at e10
          have same10 : Same Hj Hk := fun b o z => sb10 b o (ne_of_none z nD4) (by rw [upd_ne (ne_of_none z nD4)]; exact z)
          have pn10 := pn9.same same10
          have okW : ∀ x ∈ ((List.range 26).map wd |>.filter keepW), isWordL (tl x) = true ∧ (tl x).take 2 ≠ [113, 113] := fun x hx => by
            obtain ⟨hx1, hx2⟩ := List.mem_filter.mp hx
            obtain ⟨k, hk, rfl⟩ := List.mem_map.mp hx1
            refine ⟨?_, fun z => ?_⟩
            · have l8 := wordL_len (tl st) t (let_ f m0 k)
              unfold isWordL
              rw [wl', Bool.and_eq_true, Bool.and_eq_true, decide_eq_true_eq, decide_eq_true_eq, List.all_eq_true]
              exact ⟨⟨by omega, by omega⟩, fun c hc => decide_eq_true (wordL_mem lows let_mem c hc)⟩
            · unfold keepW at hx2
              rw [Bool.and_eq_true] at hx2
              have c2 := hx2.2
              have e : cutS (wd k) none (some 2) = Str.ofString "qq" := cut_two z
              rw [e] at c2
              simp at c2
          have nodup : ((List.range 26).map wd).Nodup := by
            refine List.pairwise_map.mpr ((List.nodup_range (n := 26)).imp_of_mem fun {j k} hj hk ne e => ne ?_)
            have z := congrArg tl e
            rw [wl', wl'] at z
            exact let_inj hm0 (List.mem_range.mp hj) (List.mem_range.mp hk) (wordL_inj z)
          have many : 24 ≤ ((List.range 26).map wd |>.filter keepW).length := by
            have z := keep_count (k := keepW) (p1 := fun x => decide (x = Str.ofString "main")) (p2 := fun x => decide ((tl x).take 2 = [113, 113])) (fun x e => by
              unfold keepW at e
              by_cases c1 : x = Str.ofString "main"
              · exact .inl (decide_eq_true c1)
              · by_cases c2 : cutS x none (some 2) = Str.ofString "qq"
                · refine .inr (decide_eq_true ?_)
                  have z := congrArg tl c2
                  have z2 : tl (Str.ofString "qq") = [113, 113] := by decide +kernel
                  rw [z2] at z
                  unfold cutS at z
                  rw [show (some (2 : Int)) = some ((2 : Nat) : Int) from rfl] at z
                  simp only [HT.sIx_none, HT.sIx_nat, List.drop_zero, Nat.sub_zero] at z
                  have z3 : (tl x).take (min 2 x.length) = [113, 113] := z
                  rw [take_min 2 x.length (tl x) (by simp [Str.length])] at z3
                  exact z3
                · rw [decide_eq_false c1, decide_eq_false c2] at e
                  cases e) ((List.range 26).map wd)
            have f1 := filter_one (p := fun x => decide (x = Str.ofString "main")) nodup fun x _ y _ hx hy => (of_decide_eq_true hx).trans (of_decide_eq_true hy).symm
            have f2 := filter_one (p := fun x => decide ((tl x).take 2 = [113, 113])) nodup fun x hx y hy h1 h2 => by
              obtain ⟨j, hj, rfl⟩ := List.mem_map.mp hx
              obtain ⟨k, hk, rfl⟩ := List.mem_map.mp hy
              have h1 := of_decide_eq_true h1
              have h2 := of_decide_eq_true h2
              rw [wl'] at h1 h2
              rw [let_inj hm0 (List.mem_range.mp hj) (List.mem_range.mp hk) (wordL_two (by rw [e1]; exact repl_head cs) h1 h2)]
            rw [List.length_map, List.length_range] at z
            omega
          refine ⟨.int m, rfl, _, rfl, D4, _, rfl, .inl (.inl e10), fun R nR => ?_⟩
          have sR := same_upd (o := HO.lst (cutV (((List.range 26).map wd |>.filter keepW).map V.str) none (some (m : Nat)))) nR
          have ec : cutV (((List.range 26).map wd |>.filter keepW).map V.str) none (some ((m : Nat) : Int)) = (((List.range 26).map wd |>.filter keepW).take m).map V.str := by
            unfold cutV
            rw [HT.sIx_none, HT.sIx_nat, List.length_map, List.drop_zero, Nat.sub_zero, List.map_take]
            exact take_min _ _ _ (by rw [List.length_map])
          have sbF : SameBut p H (upd Hk R (.lst (cutV (((List.range 26).map wd |>.filter keepW).map V.str) none (some (m : Nat))))) := fun b o bp z => sR b o (same10 b o (same9 b o (same8 b o (sbA b o bp z))))
          refine q _ R (((List.range 26).map wd |>.filter keepW).take m) a6 sbF (pn10.same sR) (by omega) ?_ (by rw [upd_same, ec]) ⟨(nodup.filter _).sublist (List.take_sublist _ _), fun x hx => okW x (List.mem_of_mem_take hx)⟩ ⟨by rw [List.length_take]; omega, fun hm4 => by rw [List.length_take]; omega⟩
          cases e : H R with
          | none => rfl
          | some o =>
            have rp : R ≠ p := fun z => by
              rw [z] at nR
              exact pn10.some.1 nR
            have := same10 _ _ (same9 _ _ (same8 _ _ (sbA R o rp e)))
            rw [this] at nR
            cases nR
end
end KF
end L2
end
/-! ### HM -/
section
namespace PySem
namespace KD
section
variable {prog : Program} {w : World} {A : Around} {E : Value → Shared → Prop} {s : Shared} {d : Addr} {xs : List Row} {k : NestedKey} {key : Value}
/-- dict.__contains__, keys of several sorts -/
theorem has_m {Q : Bool → Shared → Prop} (hu : A.units + 10 < cLine) (sy : (d == sysModules) = false) (hk : NestedIs s.heap k key) (h8 : k.depth ≤ 8) (D : DM w s.heap d xs) (ok : KeysOk s.heap xs)
    (z : ∀ tk, Q (lookM xs k).isSome { s with toks := tk }) : wpAny (model prog w) A (contains (.ref d) key) Q E s := by
  have ty := D.typeIs
  unfold contains
  try with_reducible refine wpAny_holding ?_
  refine wpAny_bind (wpAny_specialOf ty slot_dict_contains.lookup ?_)
  show wpAny _ _ (if (some (Value.builtin "dict.__contains__") == some Value.none) = true then _ else _) _ E s
  have never : ¬ (some (Value.builtin "dict.__contains__") == some Value.none) = true := by
    rw [beq_builtin_none]
    exact Bool.false_ne_true
  rw [if_neg never]
  refine wpAny_bind (wpAny_callSpecialUnlessNone?_slot (name := Str.ofString "__contains__") ty slot_dict_contains (wpAny_call_entry slot_dict_contains ty entry_dict_contains ?_ (args_dict_contains _ _)))
  show wpAny _ _ (dictGet d key >>= _) _ _ s
  refine wpAny_bind (get_m (by rw [Around.in1_units]; omega) hk h8 D ok fun tk => ?_)
  have zz := z tk
  cases hf : lookM xs k with
  | some p =>
    rw [hf] at zz
    exact wpAny_pure ⟨_, rfl, wpAny_truthy_bool zz⟩
  | none =>
    rw [hf] at zz
    exact wpAny_bind (wpAny_pendingKey_other sy (wpAny_pure ⟨_, rfl, wpAny_truthy_bool zz⟩))
end
end KD
end PySem
namespace L2
namespace KE
open PySem PySem.Spec PyProof.Rows PySem.KD
theorem look_rel {xs : List MRow} {rows : List KD.Row} {k : NestedKey} (r : Paired MRel xs rows) : (lookM rows k).isSome = (lookH xs k).isSome := by
  unfold lookM lookH
  induction r with
  | nil => rfl
  | cons hr t ih =>
    rw [List.find?_cons, List.find?_cons, ← hr.1]
    split
    · rfl
    · exact ih
/-- k in d, k not in d -/
def rInM (w : World) (neg : Bool) : R2 := fun x y H Q => ∃ a es k, y = .ref a ∧ Rd H a (mdo w a es) ∧ KAll H es ∧ kAt H k x ∧ Q (.bl (if neg = true then !(lookH es k).isSome else (lookH es k).isSome)) H
section
variable {X : Cx}
theorem op_inM (hu : X.A.units + 10 < cLine) : OpR X (compareOp .In) (rInM X.w false) := by
  intro pins s σ H x y v u Q I rx ry z
  obtain ⟨a, es, k, rfl, e, ka, hk, q⟩ := z
  cases ry
  obtain ⟨l, sy, rows, rr, D⟩ := mdo_rd I.hok e
  obtain ⟨nk, h8⟩ := hk.is I.hok rx
  show wpAny _ _ (do let b ← contains (Value.ref a) v; return Value.bool b) _ _ s
  refine wpAny_bind (has_m hu sy nk h8 D (keysOk ka I.hok rr) fun tk => wpAny_pure ⟨_, H, I.tok tk, ?_, q⟩)
  rw [look_rel rr]
  rfl
theorem op_ninM (hu : X.A.units + 10 < cLine) : OpR X (compareOp .NotIn) (rInM X.w true) := by
  intro pins s σ H x y v u Q I rx ry z
  obtain ⟨a, es, k, rfl, e, ka, hk, q⟩ := z
  cases ry
  obtain ⟨l, sy, rows, rr, D⟩ := mdo_rd I.hok e
  obtain ⟨nk, h8⟩ := hk.is I.hok rx
  show wpAny _ _ (do let b ← contains (Value.ref a) v; return Value.bool (!b)) _ _ s
  refine wpAny_bind (has_m hu sy nk h8 D (keysOk ka I.hok rr) fun tk => wpAny_pure ⟨_, H, I.tok tk, ?_, q⟩)
  rw [look_rel rr]
  rfl
end
end KE
end L2
end
/-! ### HN -/
section
namespace L2
namespace KE
open PySem PySem.Spec PyProof.Rows PySem.KD
/-! ## a dict with ints and texts as keys, seen as one with keys of several sorts -/
def nkOf : Key → NestedKey
  | .inl i => .num i
  | .inr x => .text x
def toM (kvs : List (Key × V)) : List MRow := kvs.map fun p => (nkOf p.1, kV p.1, p.2)
theorem nk_hash (w : World) (k : Key) : (nkOf k).hash w = keyH w k := by cases k <;> simp [nkOf, keyH, NestedKey.hash]
theorem nk_inj {a b : Key} (h : nkOf a = nkOf b) : a = b := by
  cases a <;> cases b <;> simp [nkOf] at h <;> simp [h]
theorem kAt_kV (H : Hp) (k : Key) : kAt H (nkOf k) (kV k) := by
  cases k with
  | inl i => exact kAt.num H i
  | inr x => exact kAt.text H x
theorem toM_all (H : Hp) (kvs : List (Key × V)) : KAll H (toM kvs) := fun p hp => by
  obtain ⟨q, _, rfl⟩ := List.mem_map.mp hp
  exact kAt_kV H q.1
section
variable {P : Program} {w : World} {h : Heap} {d : Addr}
theorem rows_of : ∀ {es : List DictEntry} {vs : List (Key × Value)} {kvs : List (Key × V)}, Pairs (mixKind P w) es vs → KV kvs vs → (∀ e ∈ es, ∃ k, (mixKind P w).is k e.key = true ∧ e.hash = (mixKind P w).hash k) →
    ∃ rows : List KD.Row, es = rows.map (rowE w) ∧ Paired MRel (toM kvs) rows ∧ rows.map (·.1) = kvs.map fun p => nkOf p.1
  | [], [], [], .nil, .nil, _ => ⟨[], rfl, .nil, rfl⟩
  | e :: es, (k, u) :: vs, (k', x) :: kvs, .cons hi hv hp, .cons hk hr, ho => by
    obtain ⟨rows, h1, h2, h3⟩ := rows_of hp hr fun y hy => ho y (List.mem_cons_of_mem _ hy)
    obtain ⟨ek, ex⟩ := hk
    have ek' : k' = k := ek
    subst ek'
    obtain ⟨k2, i2, hh⟩ := ho e List.mem_cons_self
    have same : k2 = k' := (mixKind P w).inj e.key k2 k' i2 hi
    subst same
    have hu : e.val = u := hv
    refine ⟨(nkOf k2, e.key, e.val) :: rows, ?_, .cons ⟨rfl, ?_, ?_⟩ h2, ?_⟩
    · rw [List.map_cons, ← h1]
      congr 1
      show e = ⟨(nkOf k2).hash w, e.key, e.val⟩
      rw [nk_hash, ← show e.hash = keyH w k2 from hh]
    · rcases keyIs_shape (show keyIs k2 e.key = true from hi) with ⟨i, t, rfl, z⟩ | ⟨y, t, rfl, z⟩
      · exact ⟨t, z⟩
      · exact ⟨t, z⟩
    · show RelV x e.val
      rw [hu]
      exact ex
    · rw [List.map_cons, List.map_cons, h3]
theorem kv_keys : ∀ {kvs : List (Key × V)} {vs : List (Key × Value)}, KV kvs vs → kvs.map (·.1) = vs.map (·.1)
  | [], [], .nil => rfl
  | _ :: _, _ :: _, .cons a t => by
    rw [List.map_cons, List.map_cons, a.1, kv_keys t]
theorem dk_mdo {H : Hp} {kvs : List (Key × V)} (o : ObjOk P w H h d (.dK kvs)) (l : kvs.length ≤ 1000) : ObjOk P w H h d (mdo w d (toM kvs)) := by
  obtain ⟨_, sy, vs, kv, ob, es, ep, ho, ex, hd, ko, pr, nd⟩ := o
  obtain ⟨rows, h1, h2, h3⟩ := rows_of pr kv fun e he => ko e (Array.mem_toList_iff.mp he)
  refine mdo_ok (by unfold toM; rw [List.length_map]; exact l) sy h2 ⟨⟨ob, es, ep, ho, ex, hd, h1⟩, ?_⟩
  have e1 : kvs.map (·.1) = vs.map (·.1) := kv_keys kv
  rw [h3]
  have e2 : (kvs.map fun p => nkOf p.1) = (kvs.map (·.1)).map nkOf := by rw [List.map_map]; rfl
  rw [e2, e1]
  exact List.Pairwise.map _ (fun a b ne e => ne (nk_inj e)) nd
end
/-- the dict at d seen as one with keys of several sorts -/
theorem inv_mdo {X : Cx} {pins : List (Addr × Obj)} {σ : St} {H : Hp} {s : Shared} {d : Addr} {kvs : List (Key × V)} (I : Inv X pins σ H s) (e : H d = some (.dK kvs)) (l : kvs.length ≤ 1000) : Inv X pins σ (upd H d (mdo X.w d (toM kvs))) s := by
  obtain ⟨hp, g, dr, tk, os⟩ := s
  have ok := (show ObjOk X.prog X.w H hp d (.dK kvs) from I.hok d _ e)
  have ok2 := dk_mdo (w := X.w) ok l
  obtain ⟨a1, a2, rows, rr, D⟩ := ok2.1
  obtain ⟨o, _, _, ho, _⟩ := D.at_
  exact I.write (t' := tk) (x := d) (e := d) (by rw [e]; exact trivial) (.inl rfl) (fun b u _ z => z) ⟨o, ho⟩ (mdo_ok a1 a2 rr D)
/-- what a statement does, the dict at d seen so -/
theorem ps_mdo {X : Cx} {st : Stmt} {t : TS} (h : PS X st t) : PS X st (fun D σ H => ∃ d kvs, H d = some (.dK kvs) ∧ kvs.length ≤ 1000 ∧ t D σ (upd H d (mdo X.w d (toM kvs)))) := by
  refine ⟨fun pins s σ H D I z => ?_⟩
  obtain ⟨d, kvs, e, l, q⟩ := z
  exact h.run pins s σ _ D (inv_mdo I e l) q
theorem pe_mdo {X : Cx} {e : Expr} {t : TE} (h : PE X e t) : PE X e (fun σ H Q => ∃ d kvs, H d = some (.dK kvs) ∧ kvs.length ≤ 1000 ∧ t σ (upd H d (mdo X.w d (toM kvs))) Q) := by
  refine ⟨fun pins s σ H Q I z => ?_⟩
  obtain ⟨d, kvs, ed, l, q⟩ := z
  exact h.run pins s σ _ Q (inv_mdo I ed l) q
/-- what an expression made, seen so: a dict display above all -/
theorem pe_mdoR {X : Cx} {e : Expr} {t : TE} (h : PE X e t) : PE X e (fun σ H Q => t σ H fun v H1 => ∃ d kvs, H1 d = some (.dK kvs) ∧ kvs.length ≤ 1000 ∧ Q v (upd H1 d (mdo X.w d (toM kvs)))) := by
  refine ⟨fun pins s σ H Q I z => thn (h.run pins s σ H _ I z) fun u s1 hh => ?_⟩
  obtain ⟨v, H1, I1, r, d, kvs, ed, l, q⟩ := hh
  exact ⟨v, _, inv_mdo I1 ed l, r, q⟩
end KE
end L2
end
/-! ### PD -/
section
namespace L2
namespace KE
open PySem PySem.Spec PyProof.Rows PySem.KD
/-! ## more of dicts with keys of several sorts: list(d.items()), d.clear(), d != {}, for v in d.values() -/
/-- tuples tracked at their addresses -/
def putP : Hp → List Addr → List MRow → Hp
  | H, a :: as, p :: ps => putP (upd H a (.tup [p.2.1, p.2.2])) as ps
  | H, _, _ => H
theorem putP_off {b : Addr} : ∀ (as : List Addr) (ps : List MRow) (H : Hp), b ∉ as → putP H as ps b = H b
  | [], _, _, _ => rfl
  | _ :: _, [], _, _ => rfl
  | a :: as, p :: ps, H, h => by
    show putP (upd H a (.tup [p.2.1, p.2.2])) as ps b = H b
    rw [putP_off as ps _ (fun z => h (List.mem_cons_of_mem _ z)), upd_ne (fun z => h (by rw [z]; exact List.mem_cons_self))]
theorem putP_at : ∀ (as : List Addr) (ps : List MRow) (H : Hp), as.length = ps.length → as.Nodup → Paired (fun (t : Addr) (p : MRow) => putP H as ps t = some (.tup [p.2.1, p.2.2])) as ps
  | [], [], _, _, _ => .nil
  | [], _ :: _, _, h, _ => by cases h
  | _ :: _, [], _, h, _ => by cases h
  | a :: as, p :: ps, H, h, hn => by
    have hn' := List.nodup_cons.mp hn
    have ih := putP_at as ps (upd H a (.tup [p.2.1, p.2.2])) (Nat.succ.inj h) hn'.2
    refine .cons ?_ ih
    show putP (upd H a (.tup [p.2.1, p.2.2])) as ps a = some (.tup [p.2.1, p.2.2])
    rw [putP_off as ps _ hn'.1, upd_same]
section
variable {X : Cx} {pins : List (Addr × Obj)} {σ : St} {H : Hp} {s : Shared} {d : Addr} {xs : List MRow}
theorem items_laidM {h' : Heap} {tk : Nat} {es : List MRow} {rows : List KD.Row} {ens : Array DictEntry} {acc : Array Value} {c : Nat} {as : List Addr} (I : Inv X pins σ H s) (hz : es.length ≤ 1000) (rr : Paired MRel es rows) (he : ens.toList = rows.map (rowE X.w))
    (hk : ∀ b o, s.heap.get? b = some o → h'.get? b = some o) (hS : h'.get? s.heap.objs.size = some { cls := .type "list", dict := none, data := .seq acc c, slots := #[] }) (hl : as.length = ens.size) (hG : PySem.W.DilG ens s.heap.objs.size h' as) (hacc : acc.toList = as.map Value.ref) :
    ∃ H' : Hp, (∀ b o, H b = some o → H' b = some o) ∧ H s.heap.objs.size = none ∧ (∀ t ∈ as, H t = none) ∧ s.heap.objs.size ∉ as ∧ H' s.heap.objs.size = some (.lst (as.map V.ref)) ∧ Paired (fun (t : Addr) (p : MRow) => H' t = some (.tup [p.2.1, p.2.2])) as es ∧ Inv X pins σ H' { s with heap := h', toks := tk } := by
  have hle : ens.size = es.length := by
    rw [row_size he]
    exact (Paired.length rr).symm
  have hSn : s.heap.objs.size ∉ as := fun z => Nat.lt_irrefl _ (hG.above _ z)
  have nd : as.Nodup := List.Pairwise.imp (fun {a b} (h : a < b) => Nat.ne_of_lt h) hG.rise
  have new : ∀ t ∈ as, H t = none := fun t ht => I.hok.fresh (Nat.le_of_lt (hG.above t ht))
  have newS : H s.heap.objs.size = none := I.hok.fresh (Nat.le_refl _)
  have atP := putP_at as es (upd H s.heap.objs.size (.lst (as.map V.ref))) (by omega) nd
  have off : ∀ b, b ∉ as → b ≠ s.heap.objs.size → putP (upd H s.heap.objs.size (.lst (as.map V.ref))) as es b = H b := fun b h1 h2 => by rw [putP_off as es _ h1, upd_ne h2]
  have low : ∀ b o, s.heap.get? b = some o → b ∉ as ∧ b ≠ s.heap.objs.size := fun b o e => ⟨fun z => absurd (Heap.lt_size e) (Nat.not_lt.mpr (Nat.le_of_lt (hG.above b z))), Nat.ne_of_lt (Heap.lt_size e)⟩
  have kp : ∀ b u, H b = some u → (putP (upd H s.heap.objs.size (.lst (as.map V.ref))) as es) b = some u := fun b u e => by
    rw [off b (fun z => by rw [new b z] at e; cases e) (fun z => by rw [z, newS] at e; cases e)]
    exact e
  have eS : putP (upd H s.heap.objs.size (.lst (as.map V.ref))) as es s.heap.objs.size = some (.lst (as.map V.ref)) := by rw [putP_off as es _ hSn, upd_same]
  refine ⟨putP (upd H s.heap.objs.size (.lst (as.map V.ref))) as es, kp, newS, new, hSn, eS, atP, ?_⟩
  refine I.call' (ch := []) rfl ⟨fun b o q _ _ _ => hk b o q, fun b o q _ _ _ => ⟨o.slots, hk b o q⟩, fun b o q n _ => ?_, fun b o q _ => ⟨o, hk b o q⟩, fun b xs q => kp b _ q, fun b o u q => kp b _ q, fun b ps q => ⟨#[], by rw [kp b _ q]; simp⟩⟩ (fun b u q => ?_) I.bare fun b z => by simp at z
  · obtain ⟨z1, z2⟩ := low b o q
    rw [off b z1 z2]
    exact n
  · by_cases hb : b ∈ as
    · obtain ⟨j, pk, e1, e2, e3⟩ := LiI.paired_ix atP hb
      rw [e3] at q
      cases q
      obtain ⟨hj, f3⟩ := hG.pairs j b e1
      obtain ⟨u, v, g1, g2, g3⟩ := rows_at rr he e2
      rw [Array.getElem?_eq_getElem hj] at g1
      have g1' := Option.some.inj g1
      rw [g1'] at f3
      exact ⟨by show 2 ≤ sizeLine; decide, [u, v], .cons g2 (.cons g3 .nil), ⟨_, f3, rfl, _, rfl⟩⟩
    · by_cases hb2 : b = s.heap.objs.size
      · rw [hb2] at q ⊢
        rw [eS] at q
        cases q
        refine ⟨by rw [List.length_map]; exact Nat.le_of_lt (small1000 (by omega)), acc.toList, c, by rw [hacc]; exact LiI.vals_refs as, ?_⟩
        rw [Array.toArray_toList]
        exact hS
      · rw [off b hb hb2] at q
        exact (I.hok b u q).stay (fun d v _ y => hk d v y) (fun d y => kp d _ y) fun d xs y => kp d _ y
/-- list(e.items()) -/
def tItemsM (w : World) (te : TE) : TE := fun σ H Q => te σ H fun x H1 => ∃ d es, x = .ref d ∧ Rd H1 d (mdo w d es) ∧
  ∀ (H' : Hp) (p : Addr) (ts : List Addr), (∀ b o, H1 b = some o → H' b = some o) → H1 p = none → (∀ t ∈ ts, H1 t = none) → p ∉ ts → H' p = some (.lst (ts.map V.ref)) → Paired (fun (t : Addr) (q : MRow) => H' t = some (.tup [q.2.1, q.2.2])) ts es → Q (.ref p) H'
theorem peItemsM {e : Expr} {te : TE} {p apos cpos pos : Pos} (hc : X.calm = true) (he : PE X e te) (hg : Gl X "list") (hm : X.mg "list" = none) (hv : bootBuiltins "list" = some (.type "list")) (hbase : attributeBase e "items" X.env (eval e X.env) = eval e X.env := by rfl) (hline : (apos.endLine == cpos.line) = true := by rfl)
    (hs : starEach [.Call (.Attribute e "items" apos) [] [] cpos] X.env = (false, eval (.Call (.Attribute e "items" apos) [] [] cpos) X.env) :: starEach [] X.env := by rfl) :
    PE X (.Call (.Name "list" p) [.Call (.Attribute e "items" apos) [] [] cpos] [] pos) (tItemsM X.w te) := by
  refine ⟨fun pins s σ H Q I hq => ?_⟩
  refine wpAny_Call_Name_kw (ld_blt I hg hm hv ?_)
  refine PyProof.Rows.callWith_type1 ?_ hs rfl
  rw [hs]
  show wpAny _ _ (spliced ((false, eval (.Call (.Attribute e "items" apos) [] [] cpos) X.env) :: backTo pos (starEach [] X.env))) _ _ s
  refine Calls.spliced_cons ?_
  refine wpAny_Call_method (T := "dict") (id := "dict.items") hbase rfl hline F.plainAttrs_dict F.slot_dict_items F.type_dict_items (thn (he.run pins s σ H _ I hq) fun u s1 ⟨x, H1, I1, rx, d, es, ex, hd, q⟩ => ?_)
  subst ex
  obtain rfl : u = Value.ref d := rx
  obtain ⟨l, sy, rows, rr, D⟩ := mdo_rd I1.hok hd
  obtain ⟨ens, ep, raw, heq⟩ := D.raw
  have hl : ens.size = es.length := by
    rw [row_size heq]
    exact (Paired.length rr).symm
  have I2 : Inv X pins σ H1 { s1 with heap := s1.heap.push { cls := .type "dict_items", data := .fields #[.ref d] } } := I1.kept (t' := s1.toks) fun b ob q => Heap.get?_push_of_some _ q
  refine ⟨raw.typeIs, fun b eb => ?_, ?_⟩
  · cases eb
    obtain ⟨o, ho, ex, _⟩ := raw
    exact ⟨o, ho, ex.2.1⟩
  show wpAny _ _ (callWith cpos (.builtin "dict.items") [.ref d] [] []) _ X.xe s1
  refine method_meetsIn F.slot_dict_items F.entry_dict_items rfl (PySem.evalArgs_none ⟨rfl, raw.typeIs, F.args_dict_items_1 _, _, PySem.meets_dict_items_raw d sy, ⟨ens, ep, raw⟩, ?_⟩)
  refine Calls.spliced_nil ?_
  refine PySem.W.dil_call (es := ens) (ep := ep) (d := d) (I1.ok.hd hc) ⟨_, Heap.get?_push_size _ rfl, rfl, rfl⟩ (raw.push _) (by
    rw [hl]
    exact Nat.le_of_lt (small1000 l)) fun h' tk acc c as hk hS hla hG hacc => ?_
  obtain ⟨H', k1, k2, k3, k4, k5, k6, J⟩ := items_laidM (tk := tk) I2 l rr heq hk hS hla hG hacc
  exact ⟨.ref _, H', J, rfl, q H' _ as k1 k2 k3 k4 k5 k6⟩
/-- d.clear() -/
def rClearM (w : World) : V → List V → Hp → VK → Prop := fun x vs H Q => ∃ (a : Addr) (es : List MRow), x = .ref a ∧ vs = [] ∧ H a = some (mdo w a es) ∧ Q .non (upd H a (mdo w a []))
theorem mt_clearM : MtR X "dict.clear" (rClearM X.w) := by
  intro pins s σ H x vs v us Q I rx rv h
  obtain ⟨a, es, ex, ev, e, q⟩ := h
  subst ex
  subst ev
  obtain rfl : v = Value.ref a := rx
  have hus := rv.zero
  subst hus
  obtain ⟨l, sy, rows, rr, D⟩ := mdo_rd I.hok (.inl e)
  obtain ⟨ens, ep, raw, he⟩ := D.raw
  have hl : ens.size = es.length := by
    rw [row_size he]
    exact (Paired.length rr).symm
  refine call_meetsIn F.slot_dict_clear raw.typeIs F.entry_dict_clear (F.args_dict_clear_1 _) (meets_dict_clear_raw a) ⟨ens, ep, raw, by
    rw [hl]
    exact Nat.le_of_lt (small1000 l), fun h' raw' hs => ?_⟩
  refine ⟨.non, _, wrM (tk := s.toks) (es := []) (rows := []) I e (Nat.zero_le _) sy .nil ?_ hs, rfl, q⟩
  obtain ⟨o, ho, ex, hd⟩ := raw'
  exact ⟨⟨o, #[], ep + 1, ho, ex, hd, rfl⟩, List.nodup_nil⟩
theorem pe_mclear {o : Expr} {to : TE} {apos cpos : Pos} (ho : PE X o to) (hbase : attributeBase o "clear" X.env (eval o X.env) = eval o X.env := by rfl) (hline : (apos.endLine == cpos.line) = true := by rfl) : PE X (.Call (.Attribute o "clear" apos) [] [] cpos) (tBM0 X.K "dict" (rClearM X.w) to) :=
  pe_bm0 F.plainAttrs_dict F.slot_dict_clear F.type_dict_clear mt_clearM ho hbase hline
end
end KE
end L2
end
/-! ### PD2 -/
section
namespace L2
namespace KE
open PySem PySem.Spec PyProof.Rows PySem.KD
/-- the keys are texts -/
def Txts (es : List MRow) : Prop := ∀ p ∈ es, ∃ x, p.1 = .text x ∧ p.2.1 = .str x
theorem dict_of_txts {P : Program} {w : World} {h : Heap} {d : Addr} {es : List MRow} {rows : List KD.Row} (t : Txts es) (rr : Paired MRel es rows) (D : DM w h d rows) : ∃ ka : List (Key × Value), h.DictOf (mixKind P w) d ka ∧ ka.length = es.length := by
  obtain ⟨⟨o, ens, ep, ho, hx, hd, he⟩, once⟩ := D
  have main : ∀ {es : List MRow} {rows : List KD.Row}, Txts es → Paired MRel es rows → ∃ xs : List Str, rows.map (·.1) = xs.map .text ∧ (∀ r ∈ rows, ∃ x tk, r.1 = .text x ∧ r.2.1 = .str x tk) ∧ Pairs (mixKind P w) (rows.map (rowE w)) (List.zipWith (fun x (r : KD.Row) => ((.inr x : Key), r.2.2)) xs rows) ∧ xs.length = rows.length := by
    intro es rows t rr
    induction rr with
    | nil => exact ⟨[], rfl, (fun _ z => nomatch z), .nil, rfl⟩
    | @cons p r ps rs hr _ ih =>
      obtain ⟨xs, h1, h2, h3, h4⟩ := ih fun q hq => t q (List.mem_cons_of_mem _ hq)
      obtain ⟨x, e1, e2⟩ := t p List.mem_cons_self
      have er : r.1 = .text x := hr.1.symm.trans e1
      have ev := hr.2.1
      rw [e2] at ev
      obtain ⟨tk, ev⟩ := ev
      refine ⟨x :: xs, by rw [List.map_cons, List.map_cons, h1, er], fun q hq => ?_, .cons ?_ rfl h3, by rw [List.length_cons, List.length_cons, h4]⟩
      · rcases List.mem_cons.mp hq with rfl | hq
        · exact ⟨x, tk, er, ev⟩
        · exact h2 q hq
      · show (mixKind P w).is (.inr x) r.2.1 = true
        rw [ev]
        exact mixKind_str P w x tk
  obtain ⟨xs, h1, h2, h3, h4⟩ := main t rr
  have l1 : (List.zipWith (fun x (r : KD.Row) => ((.inr x : Key), r.2.2)) xs rows).length = es.length := by
    rw [List.length_zipWith, h4, Nat.min_self]
    exact (Paired.length rr).symm
  have km : (List.zipWith (fun x (r : KD.Row) => ((.inr x : Key), r.2.2)) xs rows).map (·.1) = xs.map .inr := by
    rw [List.map_zipWith]
    clear h1 h2 h3 l1 t rr he once
    induction xs generalizing rows with
    | nil => rfl
    | cons x xs ih =>
      cases rows with
      | nil => cases h4
      | cons r rs =>
        rw [List.zipWith_cons_cons, List.map_cons, ih (Nat.succ.inj h4)]
  refine ⟨_, ⟨o, ens, ep, ho, hx, hd, fun e hm => ?_, ?_, ?_⟩, l1⟩
  · have hm2 : e ∈ rows.map (rowE w) := by
      rw [← he]
      exact Array.mem_toList_iff.mpr hm
    obtain ⟨r, hr, rfl⟩ := List.mem_map.mp hm2
    obtain ⟨x, tk, e1, e2⟩ := h2 r hr
    refine ⟨.inr x, ?_, ?_⟩
    · show (mixKind P w).is (.inr x) r.2.1 = true
      rw [e2]
      exact mixKind_str P w x tk
    · show r.1.hash w = keyH w (.inr x)
      rw [e1]
      exact nk_hash w (.inr x)
  · rw [he]
    exact h3
  · rw [km]
    rw [h1] at once
    exact List.Pairwise.map _ (fun a b ne e => ne (by rw [Sum.inr.inj e])) (List.pairwise_map.mp once)
section
variable {X : Cx} {pins : List (Addr × Obj)} {σ : St} {H : Hp} {s : Shared} {d : Addr} {xs : List MRow}
/-- d != {} -/
def rNeM (w : World) : R2 := fun x y H Q => ∃ a b es, x = .ref a ∧ y = .ref b ∧ H a = some (mdo w a es) ∧ Txts es ∧ H b = some (.dK []) ∧ Q (.bl (!es.isEmpty)) H
theorem op_neM (hu : X.A.units < cLine) : OpR X (compareOp .NotEq) (rNeM X.w) := by
  intro pins s σ H x y v u Q I rx ry h
  obtain ⟨a, b, es, rfl, rfl, ea, t, eb, q⟩ := h
  obtain rfl : v = Value.ref a := rx
  obtain rfl : u = Value.ref b := ry
  obtain ⟨l, sy, rows, rr, D⟩ := mdo_rd I.hok (.inl ea)
  obtain ⟨ka, da, hka⟩ := dict_of_txts (P := X.prog) t rr D
  obtain ⟨_, yb, vb, rb, db⟩ := (show ObjOk X.prog X.w H s.heap b (.dK []) from I.hok b _ eb)
  have e0 : vb = [] := by
    cases rb
    rfl
  subst e0
  refine PySem.W.keq_ne (knd := mixKind X.prog X.w) (r := true) sy yb da db hu (fun e => ?_) (fin_bl I q ?_)
  · have : ka = [] := List.length_eq_zero_iff.mp e
    subst this
    exact .nil
  · cases es with
    | nil =>
      have : ka = [] := List.length_eq_zero_iff.mp hka
      subst this
      rfl
    | cons p ps =>
      cases ka with
      | nil => cases hka
      | cons q qs => simp
/-- for v in d.values(), while d is locked -/
def ItvM (w : World) (d : Addr) (o : Obj) (es : List MRow) : It :=
  ⟨fun i H => H d = some (.frz o (mdo w d es)) ∧ i < es.length, fun i H x H' => H' = H ∧ ∃ p, es[i]? = some p ∧ x = p.2.2, fun i H => H d = some (.frz o (mdo w d es)) ∧ es.length ≤ i⟩
def iValsM (w : World) (td : TE) : TI := fun σ H R => td σ H fun x H1 => ∃ d o es, x = .ref d ∧ H1 d = some (.frz o (mdo w d es)) ∧ R (ItvM w d o es) H1
theorem turnVM {P : Program} {w : World} {K : PySem.W.Frag} {tg : Expr} {o : Obj} {es : List MRow} {ens : Array DictEntry} {ep : Nat} (it : Addr) (hod : o.data = .dict ens ep) : Turn P w K tg (ItvM w d o es) [it] it (fun i h => h.IsValIter it d i es.length ep) where
  mem := by simp
  obj := fun i h st b hb => by
    obtain rfl : b = it := by simpa using hb
    obtain ⟨oi, e, c, dd⟩ := st
    refine ⟨oi, e, fun v z => ?_⟩
    rw [dd] at z
    cases z
  keep := fun i h h' st k => st.at fun oi e => k it (by simp) oi e
  item := by
    intro X hP hw hK hc i pins s σ H E I hf st hg
    subst hP hw hK
    obtain ⟨hd, hi⟩ := hg
    obtain ⟨f0, f1, f2, f3, f4, f5⟩ := hf it (by simp)
    obtain ⟨sy, hgd, hx, ens', ep', hdt, hsz, ent⟩ := frzM I hd
    obtain ⟨rfl, rfl⟩ := dict_ep hod hdt
    obtain ⟨u, v, hen, r1, r2⟩ := ent i es[i] (List.getElem?_eq_getElem hi)
    have hi2 : i < ens'.size := by omega
    rw [← hsz] at st
    refine wpAny_pyNext_values_item_raw st ⟨o, hgd, hx, hdt⟩ hi2 fun h' st' sb => ?_
    have I1 : Inv X pins σ H { s with heap := h' } := I.turned (t' := s.toks) (fun b ob hb e => (sb.2 b hb).trans e) f0 f1 f3 f4 f5
    rw [hsz] at st'
    obtain ⟨oi, e, c, dd⟩ := id st'
    have ev : ens'[i].val = v := by
      rw [Array.getElem?_eq_getElem hi2] at hen
      rw [Option.some.inj hen]
    rw [ev]
    exact ⟨v, rfl, go_of (s := { s with heap := h' }) e c dd (by decide) ⟨_, H, I1, r2, ⟨rfl, es[i], List.getElem?_eq_getElem hi, rfl⟩, st', fun b hb => (hf b hb).1⟩⟩
  done := by
    intro X hP hw hK hc i pins s σ H E I hf st hg
    subst hP hw hK
    obtain ⟨hd, hi⟩ := hg
    obtain ⟨f0, f1, f2, f3, f4, f5⟩ := hf it (by simp)
    obtain ⟨sy, hgd, hx, ens', ep', hdt, hsz, ent⟩ := frzM I hd
    obtain ⟨rfl, rfl⟩ := dict_ep hod hdt
    rw [← hsz] at st hi
    exact wpAny_pyNext_values_end_raw (I.ok.hd hc) st ⟨o, hgd, hx, hdt⟩ hi fun h' eb => ⟨rfl, I.turned (t' := s.toks) (fun b ob hb e => eb b ob hb e) f0 f1 f3 f4 f5⟩
  self := fun A i s Q E st h => wpAny_pyIter_valiter st h
theorem piValsM {tg e : Expr} {td : TE} {apos cpos : Pos} (he : PE X e td) (hbase : attributeBase e "values" X.env (eval e X.env) = eval e X.env := by rfl) (hline : (apos.endLine == cpos.line) = true := by rfl) : PI X tg (.Call (.Attribute e "values" apos) [] [] cpos) (iValsM X.w td) := by
  refine ⟨fun pins s σ H R I h => ?_⟩
  refine wpAny_Call_method (T := "dict") (id := "dict.values") hbase rfl hline F.plainAttrs_dict F.slot_dict_values F.type_dict_values (thn (he.run pins s σ H _ I h) fun u s1 ⟨x, H1, I1, rx, d, o, es, ex, hd, q⟩ => ?_)
  subst ex
  obtain rfl : u = Value.ref d := rx
  obtain ⟨sy, hgd, hx, ens, ep, hdt, hsz, ent⟩ := frzM I1 hd
  have raw : s1.heap.DictRaw d ens ep := ⟨o, hgd, hx, hdt⟩
  refine ⟨raw.typeIs, fun b eb => ?_, ?_⟩
  · cases eb
    exact ⟨o, hgd, hx.2.1⟩
  have I2 : Inv X pins σ H1 { s1 with heap := s1.heap.push { cls := .type "dict_values", data := .fields #[.ref d] } } := I1.kept (t' := s1.toks) fun b ob q => Heap.get?_push_of_some _ q
  have fin : wpAny (model X.prog X.w) X.A (pyIter (.ref s1.heap.objs.size)) (PIE X pins σ tg R) X.xe { s1 with heap := s1.heap.push { cls := .type "dict_values", data := .fields #[.ref d] } } := by
    refine wpAny_pyIter_values_raw (d := d) ⟨_, Heap.get?_push_size _ rfl, rfl, rfl⟩ (raw.push _) (pi_one (tk := s1.toks) I2 _ (turnVM _ hdt) ⟨_, Heap.get?_push_size _ rfl, rfl, ?_⟩ q)
    rw [hsz]
    rfl
  show wpAny _ _ (callWith cpos (.builtin "dict.values") [.ref d] [] []) _ X.xe s1
  exact method_meetsIn F.slot_dict_values F.entry_dict_values rfl (PySem.evalArgs_none ⟨rfl, raw.typeIs, F.args_dict_values_1 _, _, meets_dict_values_raw d sy, ⟨ens, ep, raw⟩, fin⟩)
theorem walkVM {w : World} {o : Obj} {es : List MRow} : Walk (ItvM w d o es) es.length (fun H => H d = some (.frz o (mdo w d es))) (fun i H x H' => H' = H ∧ ∃ p, es[i]? = some p ∧ x = p.2.2) :=
  ⟨fun _ _ hi q => ⟨q, hi⟩, fun _ q => ⟨q, Nat.le_refl _⟩, fun _ _ _ _ _ _ y => y⟩
end
end KE
end L2
end
/-! ### PT -/
section
namespace L2
namespace KF
open PySem PySem.Spec PyProof.Rows PySem.KD KE KC PySem.KA
/-! ## heaps that grow: what stays of data in them -/
/-- tuples stay -/
def TupK (H H' : Hp) : Prop := ∀ a xs, H a = some (.tup xs) → H' a = some (.tup xs)
theorem TupK.keep0 {H H' : Hp} (t : TupK H H') : Keep [] H H' := ⟨fun a h => (nomatch h), t⟩
theorem repAll_snoc {w : World} {H : Hp} : ∀ {vs : List V} {ds : List PyData} {f : List Addr} {v : V} {d : PyData} {g : List Addr}, RepAll w H vs ds f → Rep w H v d g → RepAll w H (vs ++ [v]) (ds ++ [d]) (f ++ g)
  | _, _, _, v, d, g, .nil, r => by
    have z : RepAll w H [v] [d] (g ++ []) := .cons r .nil
    rw [List.append_nil] at z
    exact z
  | _, _, _, v, d, g, .cons (f1 := f1) (f2 := f2) h t, r => by
    rw [List.append_assoc]
    exact .cons h (repAll_snoc t r)
theorem nodup_app {l1 l2 : List Addr} (h : (l1 ++ l2).Nodup) : l1.Nodup ∧ l2.Nodup ∧ ∀ b ∈ l2, b ∉ l1 := by
  obtain ⟨h1, h2, h3⟩ := List.nodup_append.mp h
  exact ⟨h1, h2, fun b hb ha => h3 b ha b hb rfl⟩
/-- one of them exchanged -/
theorem repAll_set {w : World} {H : Hp} {v : V} {d : PyData} {g : List Addr} (r : Rep w H v d g) : ∀ {vs : List V} {ds : List PyData} {f : List Addr} (j : Nat), RepAll w H vs ds f → j < vs.length → f.Nodup → g.Nodup → (∀ a ∈ g, a ∉ f) →
    ∃ f', RepAll w H (vs.set j v) (ds.set j d) f' ∧ f'.Nodup ∧ ∀ a ∈ f', a ∈ f ∨ a ∈ g
  | _, _, _, j, .nil, h, _, _, _ => absurd h (Nat.not_lt_zero _)
  | _, _, _, 0, .cons (f1 := f1) (f2 := f2) h t, _, nf, ng, dj => by
    obtain ⟨n1, n2, n3⟩ := nodup_app nf
    refine ⟨g ++ f2, .cons r t, List.nodup_append.mpr ⟨ng, n2, fun a ha b hb e => ?_⟩, fun a ha => ?_⟩
    · subst e
      exact dj a ha (List.mem_append_right _ hb)
    · rcases List.mem_append.mp ha with h | h
      · exact .inr h
      · exact .inl (List.mem_append_right _ h)
  | _, _, _, j + 1, .cons (f1 := f1) (f2 := f2) h t, hj, nf, ng, dj => by
    obtain ⟨n1, n2, n3⟩ := nodup_app nf
    obtain ⟨f', r1, r2, r3⟩ := repAll_set r j t (Nat.lt_of_succ_lt_succ hj) n2 ng fun a ha z => dj a ha (List.mem_append_right _ z)
    refine ⟨f1 ++ f', .cons h r1, List.nodup_append.mpr ⟨n1, r2, fun a ha b hb e => ?_⟩, fun a ha => ?_⟩
    · subst e
      rcases r3 a hb with z | z
      · exact n3 a z ha
      · exact dj a z (List.mem_append_left _ ha)
    · rcases List.mem_append.mp ha with h | h
      · exact .inl (List.mem_append_left _ h)
      · rcases r3 a h with z | z
        · exact .inl (List.mem_append_right _ z)
        · exact .inr z
theorem put_set {k : NestedKey} {key v : V} : ∀ {xs : List MRow}, (xs.map (·.1)).Nodup → k ∈ xs.map (·.1) → ∃ j p, xs[j]? = some p ∧ p.1 = k ∧ putH xs k key v = xs.set j (p.1, p.2.1, v) := by
  intro xs nd hk
  have any : xs.any (fun r => NestedKey.beq r.1 k) = true := by
    obtain ⟨r, hr, e⟩ := List.mem_map.mp hk
    exact List.any_eq_true.mpr ⟨r, hr, (beq_iff _ _).mpr e⟩
  unfold putH
  rw [if_pos any]
  clear any
  induction xs with
  | nil => cases hk
  | cons x xs ih =>
    obtain ⟨n1, n2⟩ := List.nodup_cons.mp nd
    by_cases e : x.1 = k
    · refine ⟨0, x, rfl, e, ?_⟩
      rw [List.map_cons, if_pos ((beq_iff _ _).mpr e), List.set_cons_zero]
      congr 1
      have z : xs.map (fun r => if NestedKey.beq r.1 k = true then (r.1, r.2.1, v) else r) = xs.map id := by
        refine List.map_congr_left fun r hr => ?_
        rw [if_neg]
        · rfl
        · intro z
          exact n1 (List.mem_map.mpr ⟨r, hr, ((beq_iff _ _).mp z).trans e.symm⟩)
      rw [z, List.map_id]
    · have hk2 : k ∈ xs.map (·.1) := by
        rcases List.mem_cons.mp hk with z | z
        · exact absurd z.symm e
        · exact z
      obtain ⟨j, p, h1, h2, h3⟩ := ih n2 hk2
      refine ⟨j + 1, p, h1, h2, ?_⟩
      rw [List.map_cons, if_neg (fun z => e ((beq_iff _ _).mp z)), h3, List.set_cons_succ]
theorem map_set_same {α β : Type} {l : List α} {g : α → β} {y b : α} {j : Nat} (h : l[j]? = some y) (e : g b = g y) : (l.set j b).map g = l.map g := by
  refine List.ext_getElem? fun i => ?_
  rw [List.getElem?_map, List.getElem?_map]
  by_cases hi : i = j
  · subst hi
    rw [List.getElem?_set_self (List.getElem?_eq_some_iff.mp h).1, h]
    exact congrArg some e
  · rw [List.getElem?_set_ne (Ne.symm hi)]
theorem rep_but {w : World} {p : Addr} {H H' : Hp} {rows : List (Key × V)} {vs : List V} {ds : List PyData} {f : List Addr} (sb : SameBut p H H') (hp : H p = some (.dK rows)) (r : RepAll w H vs ds f) (nf : ∀ a ∈ f, a ≠ p) : RepAll w H' vs ds f := by
  refine r.keep ⟨fun a ha => ?_, fun a xs e => sb a _ (fun z => ?_) e⟩
  · cases e : H a with
    | none => exact absurd e (r.dom a ha)
    | some o => exact sb a o (nf a ha) e
  · rw [z, hp] at e
    cases e
theorem rep_updL {w : World} {D : Addr} {H : Hp} {xs : List V} {o : HO} {vs : List V} {ds : List PyData} {f : List Addr} (hD : H D = some (.lst xs)) (r : RepAll w H vs ds f) (nf : ∀ a ∈ f, a ≠ D) : RepAll w (upd H D o) vs ds f := by
  refine r.keep ⟨fun a ha => upd_ne (nf a ha), fun a ys e => ?_⟩
  have na : a ≠ D := fun z => by
    rw [z, hD] at e
    cases e
  rw [upd_ne na]
  exact e
theorem tup_but {p : Addr} {H H' : Hp} {rows : List (Key × V)} (sb : SameBut p H H') (hp : H p = some (.dK rows)) : TupK H H' := fun a xs e => sb a _ (fun z => by
  rw [z, hp] at e
  cases e) e
theorem tup_same {H H' : Hp} (s : Same H H') : TupK H H' := fun a xs e => s a _ e
theorem tup_updL {D : Addr} {H : Hp} {xs : List V} {o : HO} (hD : H D = some (.lst xs)) : TupK H (upd H D o) := fun a ys e => by
  have na : a ≠ D := fun z => by
    rw [z, hD] at e
    cases e
  rw [upd_ne na]
  exact e
theorem TupK.trans {H H1 H2 : Hp} (a : TupK H H1) (b : TupK H1 H2) : TupK H H2 := fun c xs e => b c xs (a c xs e)
theorem paired_mono {α β : Type} {R S : α → β → Prop} : ∀ {xs : List α} {ys : List β}, Paired R xs ys → (∀ x y, R x y → S x y) → Paired S xs ys
  | _, _, .nil, _ => .nil
  | _, _, .cons a t, h => .cons (h _ _ a) (paired_mono t h)
end KF
end L2
end
/-! ### PL -/
section
namespace L2
namespace KF
open PySem PySem.Spec PyProof.Rows PySem.KD KE KC PySem.KA KM TL
/-! ## _law_levels -/
abbrev sLv : Stmt := topS 39
abbrev lvN : List Str := ["_law_pen", "_law_words", "_law_levels_here", "_law_word"]
theorem scLv : FnScope lvN ["_law_pen", "_law_words", "_law_levels_here"] (defScope sLv) := ⟨rfl, rfl, rfl, by decide +kernel, rfl, by decide +kernel, by decide +kernel⟩
/-- rows of texts -/
def rowsT (ls : List (Str × Str)) : List MRow := ls.map fun q => (.text q.1, .str q.1, .str q.2)
theorem rowsT_keys (ls : List (Str × Str)) : (rowsT ls).map (·.1) = (ls.map (·.1)).map .text := by
  unfold rowsT
  rw [List.map_map, List.map_map]
  rfl
theorem nd_text {xs : List Str} (h : xs.Nodup) : (xs.map NestedKey.text).Nodup := List.Pairwise.map _ (fun a b ne e => ne (by injection e)) h
theorem rowsT_all (H : Hp) (ls : List (Str × Str)) : KAll H (rowsT ls) := fun p hp => by
  obtain ⟨q, _, rfl⟩ := List.mem_map.mp hp
  exact kAt.text H q.1
theorem rowsT_txts (ls : List (Str × Str)) : Txts (rowsT ls) := fun p hp => by
  obtain ⟨q, _, rfl⟩ := List.mem_map.mp hp
  exact ⟨q.1, rfl, rfl⟩
theorem rowsT_len (ls : List (Str × Str)) : (rowsT ls).length = ls.length := List.length_map ..
theorem merge_app : ∀ {ps xs : List MRow}, ((xs ++ ps).map (·.1)).Nodup → mergeH xs ps = xs ++ ps
  | [], xs, _ => (List.append_nil xs).symm
  | p :: ps, xs, nd => by
    have k : p.1 ∉ xs.map (·.1) := fun z => by
      rw [List.map_append, List.nodup_append] at nd
      exact nd.2.2 _ z p.1 (by simp) rfl
    show mergeH (putH xs p.1 p.2.1 p.2.2) ps = _
    rw [put_fresh k]
    have e : xs ++ p :: ps = (xs ++ [(p.1, p.2.1, p.2.2)]) ++ ps := by rw [List.append_assoc]; rfl
    rw [e] at nd ⊢
    exact merge_app nd
theorem merge_id {ps : List MRow} (nd : (ps.map (·.1)).Nodup) : mergeH [] ps = ps := merge_app (xs := []) nd
theorem paired_rowsT {H : Hp} : ∀ {ts : List Addr} {ls : List (Str × Str)}, Paired (fun (t : Addr) (q : Str × Str) => H t = some (.tup [.str q.1, .str q.2])) ts ls → Paired (fun (t : Addr) (p : MRow) => H t = some (.tup [p.2.1, p.2.2])) ts (rowsT ls)
  | _, _, .nil => .nil
  | _, _, .cons h t => .cons h (paired_rowsT t)
/-- the rows drawn so far -/
structure LvSt (H : Hp) (p c : Addr) (ns : List Int) (a : Int) (words lv : List Str) (D : Addr) (i : Nat) (Hi : Hp) : Prop where
  sb : SameBut p H Hi
  ex : ∃ ts ls a', Pn Hi p c ns a' ∧ a' ≤ a + i ∧ Hi D = some (.lst (ts.map V.ref)) ∧ Paired (fun (t : Addr) (q : Str × Str) => Hi t = some (.tup [.str q.1, .str q.2])) ts ls ∧ ls.map (·.1) = words.take i ∧ ∀ q ∈ ls, q.2 ∈ lv
structure BltL (mg : Str → Option Value) : Prop where
  dict : mg "dict" = none
  list : mg "list" = none
section
variable {P : Program} {w : World} {K : PySem.W.Frag} {mg : Str → Option Value} {base : Heap}
def spLv (K : PySem.W.Frag) (w : World) : Sp := fun vs H Q _ => ∃ (p c b l : Addr) (ns : List Int) (a : Int) (words lv : List Str), vs = [.ref p, .ref b, .ref l] ∧ Pn H p c ns a ∧ a ≤ 900000 ∧ SqL K H b (words.map V.str) ∧ b ≠ p ∧ words.Nodup ∧ words.length ≤ 60 ∧ SqL K H l (lv.map V.str) ∧ l ≠ p ∧ H l = some (.lst (lv.map V.str)) ∧ 1 ≤ lv.length ∧ lv.length ≤ 100 ∧ H b = some (.lst (words.map V.str)) ∧
  ∀ H' D ls a', SameBut p H H' → Pn H' p c ns a' → a' ≤ a + words.length → H D = none → H' D = some (mdo w D (rowsT ls)) → ls.map (·.1) = words → (∀ q ∈ ls, q.2 ∈ lv) → Q (.ref D) H'
theorem ok_lv {f fD fP : Addr} {fd fdD fdP : FuncData} (F : Fun K "_law_levels" "_law_levels" sLv f fd) (FD : Fun K "_law_draw" "_law_draw" sDraw fD fdD) (gD : mg "_law_draw" = some (.ref fD)) (bD : Binds K fdD ["_law_pen", "_law_many"] [])
    (FP : Fun K "_law_pick" "_law_pick" sPick fP fdP) (gP : mg "_law_pick" = some (.ref fP)) (bP : Binds K fdP ["_law_pen", "_law_items"] []) (B : BltD mg) (L : BltL mg) : FnOk P w K mg base CX0 3 f fd ["_law_pen", "_law_words", "_law_levels_here"] (spLv K w) := by
  have GP : FnOk P w K mg base CX0 2 fP fdP ["_law_pen", "_law_items"] (spPick K) := ok_pick FP FD gD bD B
  refine F.ok scLv (fun vs H Q E h => ?_) (fun cdv A outer s H vs Q E hr h => ?_)
  · obtain ⟨p, c, b, l, ns, a, words, lv, rfl, _⟩ := h
    rfl
  · obtain ⟨p, c, b, l, ns, a, words, lv, rfl, pn, ha, hb, nbp, wnd, w60, hl, nlp, el, l1, l100, eb, q⟩ := h
    have hc : (cxOf CX0 P w K mg base lvN "_law_levels" (defScope sLv) f cdv A outer s H E).nox.calm = true := rfl
    have hu20 : (cxOf CX0 P w K mg base lvN "_law_levels" (defScope sLv) f cdv A outer s H E).nox.A.units + 20 < cLine := by
      have := hr.un
      show (A.deeper _).units + 20 < cLine
      omega
    refine ⟨_, pss_one (ps_ret (pe_callTy (callDictM hu20 hc) (by rfl) L.dict boot_dict (pa_cons
        (pe_lc (own := [("_law_word", 3)]) (g := gName 3) (tt := tYes) rfl scLv.nd (pi_list (pv 1))
          (blkOk_by (N := lvN) (sc := defScope sLv) (by decide +kernel)) (fun _ _ _ _ _ => pg_name (i := 3) scLv.nd rfl (Or.inl rfl)) (fun _ _ _ _ _ => pts_nil)
          (fun _ _ _ _ _ => pe_tup (pa_cons (pv 3) (pa_cons (pe_call GP hr (by rfl) gP FP.kp bP .nil pass0 (pa_cons (pv 0) (pa_cons (pv 2) pa_nil))) pa_nil)))) pa_nil))), ?_⟩
    refine ⟨.ref b, rfl, b, rfl, ⟨_, hb⟩, fun D nD => ?_⟩
    have nbD : b ≠ D := ne_of_none eb nD
    have nlD : l ≠ D := ne_of_none el nD
    refine lc_list (a := b) (xs := words.map V.str) (fun i Hi => LvSt H p c ns a words lv D i Hi) ⟨Same.but (same_upd nD) p, [], [], a, pn.same (same_upd nD), by omega, upd_same, .nil, rfl, fun _ z => nomatch z⟩ (fun i Hi _ S => ?_) (fun i x Hi hx S => ?_) (fun Hi S => ?_)
    · exact .inl (.inl (S.sb b _ nbp eb))
    · obtain ⟨sb, ts, ls, a2, pn2, b2, eD, pr, lw, lvs⟩ := S
      have hi : i < words.length := by
        have := (List.getElem?_eq_some_iff.mp hx).1
        rw [List.length_map] at this
        exact this
      have ex : x = V.str words[i] := by
        rw [List.getElem?_map, List.getElem?_eq_getElem hi] at hx
        exact (Option.some.inj hx).symm
      subst ex
      refine ⟨rfl, _, rfl, .ref p, rfl, .ref l, rfl, p, c, ns, a2, _, rfl, pn2, by omega, .inl ⟨l, _, rfl, sb l _ nlp el, by rw [List.length_map]; exact l1, by rw [List.length_map]; exact l100, fun H3 y a3 sb3 pn3 b3 hy => ?_⟩⟩
      obtain ⟨v, hv, rfl⟩ := List.mem_map.mp hy
      refine ⟨by show 2 ≤ sizeLine; decide, fun T nT => ?_⟩
      have sT := same_upd (o := HO.tup [.str words[i], .str v]) nT
      have nDp : D ≠ p := pn2.ne eD
      have eD3 := sT _ _ (sb3 D _ nDp eD)
      have lts : ts.length = i := by
        have h1 := Paired.length pr
        have h2 := congrArg List.length lw
        rw [List.length_map, List.length_take] at h2
        omega
      have tk : TupK Hi (upd (upd H3 T (.tup [.str words[i], .str v])) D (.lst (ts.map V.ref ++ [.ref T]))) := fun d xs e => by
        have n1 : d ≠ p := fun z => by
          obtain ⟨l2, pen2, _⟩ := pn2.at_
          rw [z, pen2.row] at e
          cases e
        have n2 : d ≠ D := fun z => by
          rw [z, eD] at e
          cases e
        rw [upd_ne n2]
        exact sT _ _ (sb3 d _ n1 e)
      refine ⟨_, eD3, small1000 (by rw [List.length_map]; omega), fun d o nb z => ?_, ts ++ [T], ls ++ [(words[i], v)], a3, (pn3.same sT).off ?_ ?_, by omega, by rw [upd_same, List.map_append]; rfl, ?_, ?_, fun x hx => ?_⟩
      · rw [upd_ne (ne_of_none z nD)]
        exact sT _ _ (sb3 d o nb (sb d o nb z))
      · rw [upd_ne (Ne.symm nDp)]
      · have ncD : c ≠ D := fun z => pn.some.2 (z ▸ nD)
        rw [upd_ne ncD]
      · refine paired_append (paired_mono pr fun t q h => tk _ _ h) (.cons ?_ .nil)
        have nTD : T ≠ D := fun z => by
          rw [z] at nT
          rw [sb3 D _ nDp eD] at nT
          cases nT
        rw [upd_ne nTD, upd_same]
      · rw [List.map_append, lw, List.take_add_one, List.getElem?_eq_getElem hi]
        rfl
      · rcases List.mem_append.mp hx with z | z
        · exact lvs x z
        · rw [List.mem_singleton.mp z]
          exact hv
    · obtain ⟨sb, ts, ls, a2, pn2, b2, eD, pr, lw, lvs⟩ := S
      rw [List.length_map] at lw b2
      rw [List.take_length] at lw
      have ll : ls.length = words.length := by rw [← lw, List.length_map]
      have nd : ((rowsT ls).map (·.1)).Nodup := by
        rw [rowsT_keys, lw]
        exact nd_text wnd
      refine ⟨D, ts, rowsT ls, rfl, eD, paired_rowsT pr, rowsT_all _ _, by rw [rowsT_len]; omega, fun M nM => ?_⟩
      rw [merge_id nd]
      have sM := same_upd (o := mdo w M (rowsT ls)) nM
      refine q _ M ls a2 (fun d o nb z => sM _ _ (sb d o nb z)) (pn2.same sM) b2 ?_ upd_same lw lvs
      cases e : H M with
      | none => rfl
      | some o =>
        have np : M ≠ p := fun z => pn2.some.1 (z ▸ nM)
        rw [sb M o np e] at nM
        cases nM
end
end KF
end L2
end
/-! ### PO -/
section
namespace L2
namespace KF
open PySem PySem.Spec PyProof.Rows PySem.KD KE KC PySem.KA KM TL
/-! ## _law_drawn_profile -/
abbrev sDp : Stmt := topS 40
abbrev dpN : List Str := ["_law_pen", "_law_words", "_law_finals", "_law_outcome"]
theorem scDp : FnScope dpN ["_law_pen", "_law_words"] (defScope sDp) := ⟨rfl, rfl, rfl, by decide +kernel, rfl, by decide +kernel, by decide +kernel⟩
abbrev outL : List Str := ["done", "fail a", "fail b", "fail done"]
abbrev endL : List Str := ["set", "keep", "unset"]
abbrev readL : List Str := ["none", "entry", "always"]
/-- an outcome, where its row stands, the row -/
abbrev Fin := Str × Addr × List (Str × Str)
def rowsF (fs : List Fin) : List MRow := fs.map fun q => (.text q.1, .str q.1, .ref q.2.1)
theorem rowsF_keys (fs : List Fin) : (rowsF fs).map (·.1) = (fs.map (·.1)).map .text := by
  unfold rowsF
  rw [List.map_map, List.map_map]
  rfl
theorem rowsF_all (H : Hp) (fs : List Fin) : KAll H (rowsF fs) := fun p hp => by
  obtain ⟨q, _, rfl⟩ := List.mem_map.mp hp
  exact kAt.text H q.1
theorem rowsF_txts (fs : List Fin) : Txts (rowsF fs) := fun p hp => by
  obtain ⟨q, _, rfl⟩ := List.mem_map.mp hp
  exact ⟨q.1, rfl, rfl⟩
theorem rowsF_len (fs : List Fin) : (rowsF fs).length = fs.length := List.length_map ..
theorem rowsF_app (fs : List Fin) (q : Fin) : rowsF fs ++ [(.text q.1, .str q.1, .ref q.2.1)] = rowsF (fs ++ [q]) := by
  unfold rowsF
  rw [List.map_append]
  rfl
/-- the rows of finals stand where they should -/
structure FsAt (w : World) (H : Hp) (words : List Str) (fs : List Fin) : Prop where
  at_ : ∀ q ∈ fs, H q.2.1 = some (mdo w q.2.1 (rowsT q.2.2))
  keys : ∀ q ∈ fs, q.2.2.map (·.1) = words
  lev : ∀ q ∈ fs, ∀ z ∈ q.2.2, z.2 ∈ endL
theorem FsAt.off {w : World} {H H' : Hp} {words : List Str} {fs : List Fin} (F : FsAt w H words fs) (h : ∀ q ∈ fs, H' q.2.1 = H q.2.1) : FsAt w H' words fs := ⟨fun q hq => (h q hq).trans (F.at_ q hq), F.keys, F.lev⟩
/-- a drawn profile -/
structure ProfAt (w : World) (H : Hp) (D R : Addr) (words : List Str) (fs : List Fin) (rs : List (Str × Str)) : Prop where
  hD : H D = some (mdo w D (rowsF fs))
  hR : H R = some (mdo w R (rowsT rs))
  rows : FsAt w H words fs
  rk : rs.map (·.1) = words
  rl : ∀ q ∈ rs, q.2 ∈ readL
  nd : (D :: R :: fs.map (·.2.1)).Nodup
  fk : (fs.map (·.1)).Nodup
  fo : ∀ q ∈ fs, q.1 ∈ outL
  few : fs.length ≤ 3
/-- the finals drawn so far -/
structure DpSt (w : World) (H : Hp) (p c : Addr) (ns : List Int) (a : Int) (words : List Str) (D L : Addr) (os : List Str) (i : Nat) (Hi : Hp) : Prop where
  sb : SameBut p H Hi
  hL : Hi L = some (.lst (os.map V.str))
  ex : ∃ fs a', Pn Hi p c ns a' ∧ a' ≤ a + ((i * words.length : Nat) : Int) ∧ Hi D = some (mdo w D (rowsF fs)) ∧ FsAt w Hi words fs ∧ fs.map (·.1) = os.take i ∧ (D :: fs.map (·.2.1)).Nodup ∧ ∀ q ∈ fs, H q.2.1 = none ∧ q.2.1 ≠ L
theorem cut_take (xs : List V) (n : Nat) : cutV xs none (some ((n : Nat) : Int)) = xs.take n := by
  unfold cutV
  rw [HT.sIx_none, HT.sIx_nat, List.drop_zero, Nat.sub_zero]
  exact take_min n xs.length xs rfl
theorem nd_take {α : Type} {l : List α} (h : l.Nodup) (n : Nat) : (l.take n).Nodup := List.Sublist.nodup (List.take_sublist n l) h
theorem free_but {p : Addr} {H H' : Hp} (sb : SameBut p H H') (hp : H' p ≠ none) {x : Addr} (h : H' x = none) : H x = none := by
  cases e : H x with
  | none => rfl
  | some o =>
    by_cases z : x = p
    · subst z
      exact absurd h hp
    · rw [sb x o z e] at h
      cases h
theorem not_take {α : Type} {l : List α} (h : l.Nodup) {i : Nat} {x : α} (hx : l[i]? = some x) : x ∉ l.take i := fun z => by
  obtain ⟨j, hj⟩ := List.mem_iff_getElem?.mp z
  obtain ⟨hi, ei⟩ := List.getElem?_eq_some_iff.mp hx
  obtain ⟨hj1, ej⟩ := List.getElem?_eq_some_iff.mp hj
  rw [List.getElem_take] at ej
  rw [List.length_take] at hj1
  have : j = i := (List.getElem_inj h).mp (ej.trans ei.symm)
  omega
section
variable {P : Program} {w : World} {K : PySem.W.Frag} {mg : Str → Option Value} {base : Heap}
def spDP (K : PySem.W.Frag) (w : World) : Sp := fun vs H Q _ => ∃ (p c b : Addr) (ns : List Int) (a : Int) (words : List Str), vs = [.ref p, .ref b] ∧ Pn H p c ns a ∧ a ≤ 800000 ∧ H b = some (.lst (words.map V.str)) ∧ words.Nodup ∧ words.length ≤ 60 ∧
  ∀ H' T D R fs rs a', SameBut p H H' → Pn H' p c ns a' → a' ≤ a + 5 + 4 * words.length → H' T = some (.tup [.ref D, .ref R]) → H T = none → ProfAt w H' D R words fs rs → (∀ x ∈ D :: R :: fs.map (·.2.1), H x = none) → Q (.ref T) H'
theorem ok_dp {f fD fP fL fS : Addr} {fd fdD fdP fdL fdS : FuncData} (F : Fun K "_law_drawn_profile" "_law_drawn_profile" sDp f fd) (FD : Fun K "_law_draw" "_law_draw" sDraw fD fdD) (gD : mg "_law_draw" = some (.ref fD)) (bD : Binds K fdD ["_law_pen", "_law_many"] [])
    (FP : Fun K "_law_pick" "_law_pick" sPick fP fdP) (gP : mg "_law_pick" = some (.ref fP)) (bP : Binds K fdP ["_law_pen", "_law_items"] [])
    (FL : Fun K "_law_levels" "_law_levels" sLv fL fdL) (gL : mg "_law_levels" = some (.ref fL)) (bL : Binds K fdL ["_law_pen", "_law_words", "_law_levels_here"] [])
    (FS : Fun K "_law_shuffled" "_law_shuffled" sShuf fS fdS) (gS : mg "_law_shuffled" = some (.ref fS)) (bS : Binds K fdS ["_law_pen", "_law_items"] []) (B : BltD mg) (L : BltL mg) : FnOk P w K mg base CX0 4 f fd ["_law_pen", "_law_words"] (spDP K w) := by
  have GD : FnOk P w K mg base CX0 1 fD fdD ["_law_pen", "_law_many"] spDraw := ok_draw FD B
  have GS : FnOk P w K mg base CX0 2 fS fdS ["_law_pen", "_law_items"] (spShuf K) := ok_shuf FS FD gD bD B
  have GL : FnOk P w K mg base CX0 3 fL fdL ["_law_pen", "_law_words", "_law_levels_here"] (spLv K w) := ok_lv FL FD gD bD FP gP bP B L
  refine F.ok scDp (fun vs H Q E h => ?_) (fun cdv A outer s H vs Q E hr h => ?_)
  · obtain ⟨p, c, b, ns, a, words, rfl, _⟩ := h
    rfl
  · obtain ⟨p, c, b, ns, a, words, rfl, pn, ha, eb, wnd, w60, q⟩ := h
    have hr1 := hr.mono (show 1 ≤ 3 by decide)
    have hr2 := hr.mono (show 2 ≤ 3 by decide)
    have hu10 : (cxOf CX0 P w K mg base dpN "_law_drawn_profile" (defScope sDp) f cdv A outer s H E).nox.A.units + 10 < cLine := by
      have := hr.un
      show (A.deeper _).units + 10 < cLine
      omega
    refine ⟨_, pss_cons (ps_set (i := 2) scDp.nd rfl (.inl rfl) (pe_mdoR pe_dnewK))
      (pss_cons (ps_for PassesOwn.never rfl (pi_list (pe_slice sl_list (pe_call GS hr2 (by rfl) gS FS.kp bS .nil pass0 (pa_cons (pv 0) (pa_cons (pe_lst (pa_cons pe_str (pa_cons pe_str (pa_cons pe_str (pa_cons pe_str pa_nil))))) pa_nil)))
            po_none (po_some (pe_call GD hr1 (by rfl) gD FD.kp bD .nil pass0 (pa_cons (pv 0) (pa_cons pe_int pa_nil)))))) (pg_name (i := 3) scDp.nd rfl (.inl rfl))
          (pss_one (ps_asg (pe_call GL hr (by rfl) gL FL.kp bL .nil pass0 (pa_cons (pv 0) (pa_cons (pv 1) (pa_cons (pe_lst (pa_cons pe_str (pa_cons pe_str (pa_cons pe_str pa_nil)))) pa_nil)))) (pg_sub (pv 2) (pv 3) (setM hu10)))))
      (pss_one (ps_ret (pe_tup (pa_cons (pv 2) (pa_cons (pe_call GL hr (by rfl) gL FL.kp bL .nil pass0 (pa_cons (pv 0) (pa_cons (pv 1) (pa_cons (pe_lst (pa_cons pe_str (pa_cons pe_str (pa_cons pe_str pa_nil)))) pa_nil)))) pa_nil)))))), ?_⟩
    obtain ⟨l, pen, hl⟩ := pn.at_
    intro D nD
    refine ⟨D, [], upd_same, Nat.zero_le _, ?_⟩
    have sD : Same H (upd (upd H D (.dK [])) D (mdo w D (toM []))) := fun b o e => by
      have nb : b ≠ D := ne_of_none e nD
      rw [upd_ne nb, upd_ne nb]
      exact e
    have eD : (upd (upd H D (.dK [])) D (mdo w D (toM []))) D = some (mdo w D (rowsF [])) := upd_same
    refine ⟨.ref p, rfl, by show 4 ≤ sizeLine; decide, fun L0 nL0 => ?_⟩
    have s0 := same_upd (o := HO.lst (outL.map V.str)) nL0
    have hok : ∀ x ∈ outL, PyData.strOk x = true := by decide +kernel
    have s00 := sD.trans s0
    refine ⟨p, c, L0, ns, a, l, outL, rfl, pen.same s00, pn.few, pn.lo, by omega, hl, .inl (.inl upd_same), by decide, hok, fun H1 q1 ys a1 l1 sb1 nq1 pen1 g1 g2 g3 eq1 perm => ?_⟩
    refine ⟨.ref p, rfl, p, c, ns, a1, l1, 4, rfl, pen1, pn.few, by have := pn.lo; omega, by have : outL.length = 4 := rfl; omega, g3, by decide, by decide, fun H2 d a2 l2 sb2 pen2 i1 i2 i3 d0 d4 => ?_⟩
    obtain ⟨n, rfl⟩ := Int.eq_ofNat_of_zero_le d0
    have pn2 : Pn H2 p c ns a2 := ⟨⟨l2, pen2, i3⟩, pn.few, by have := pn.lo; omega⟩
    have nq1p : q1 ≠ p := fun z => by
      have y := pen1.row
      rw [← z, eq1] at y
      cases y
    have eq2 := sb2 q1 _ nq1p eq1
    refine ⟨_, rfl, q1, _, rfl, .inl (.inl eq2), fun L nL => ?_⟩
    have ec : cutV (List.map V.str ys) none (some ((n : Nat) : Int)) = (ys.take n).map V.str := by rw [cut_take, List.map_take]
    have n3 : n ≤ 3 := by omega
    have ynd : ys.Nodup := perm.nodup_iff.mpr (by decide +kernel)
    have osn : (ys.take n).Nodup := nd_take ynd n
    have osm : ∀ o ∈ ys.take n, o ∈ outL := fun o ho => perm.mem_iff.mp (List.mem_of_mem_take ho)
    have osl : (ys.take n).length ≤ 3 := by
      rw [List.length_take]
      omega
    rw [ec]
    generalize ys.take n = os at osn osm osl ⊢
    have sL := same_upd (o := HO.lst (os.map V.str)) nL
    have sbA : SameBut p H (upd H2 L (.lst (os.map V.str))) := (((Same.but s00 p).trans sb1).trans sb2).trans (Same.but sL p)
    have nDp : D ≠ p := fun z => pn.some.1 (z ▸ nD)
    have nbp : b ≠ p := pn.ne eb
    have eDA : (upd H2 L (.lst (os.map V.str))) D = some (mdo w D (rowsF [])) := sL _ _ (sb2 D _ nDp (sb1 D _ nDp (s0 _ _ eD)))
    have h01 : ((outL.length : Nat) : Int) = 4 := rfl
    refine ⟨L, rfl, ⟨_, .inl (.inl upd_same)⟩, ?_⟩
    refine for_list (xs := os.map V.str) (fun i σ Hi => ∃ y3, σ = [some (.ref p), some (.ref b), some (.ref D), y3] ∧ DpSt w H p c ns a2 words D L os i Hi) ⟨none, rfl, sbA, upd_same, [], a2, pn2.same sL, by omega, eDA, ⟨(fun _ z => nomatch z), (fun _ z => nomatch z), (fun _ z => nomatch z)⟩, rfl, by simp, (fun _ z => nomatch z)⟩ (fun i σ Hi _ S => ?_) (fun i x σ Hi hx S => ?_) (fun σ Hi S => ?_)
    · obtain ⟨_, _, S⟩ := S
      exact .inl (.inl S.hL)
    · obtain ⟨y3, rfl, sb, eL, fs, a3, pn3, b3, eD3, F, fk, nd, fr⟩ := S
      have hi : i < os.length := by
        have := (List.getElem?_eq_some_iff.mp hx).1
        rw [List.length_map] at this
        exact this
      have ex : x = V.str os[i] := by
        rw [List.getElem?_map, List.getElem?_eq_getElem hi] at hx
        exact (Option.some.inj hx).symm
      subst ex
      have hb3 : i * words.length + words.length ≤ 3 * words.length := by
        have : (i + 1) * words.length ≤ 3 * words.length := Nat.mul_le_mul_right _ (by omega)
        rw [Nat.succ_mul] at this
        exact this
      refine ⟨.ref p, rfl, .ref b, rfl, by show 3 ≤ sizeLine; decide, fun LL nLL => ?_⟩
      have sLL := same_upd (o := HO.lst (endL.map V.str)) nLL
      have eb3 := sLL _ _ (sb b _ nbp eb)
      have nLLp : LL ≠ p := fun z => pn3.some.1 (z ▸ nLL)
      refine ⟨p, c, b, LL, ns, a3, words, endL, rfl, pn3.same sLL, by omega, .inl (.inl eb3), nbp, wnd, w60, .inl (.inl upd_same), nLLp, upd_same, by decide, by decide, eb3, fun H4 E ls a4 sb4 pn4 b4 nE eE lk ll => ?_⟩
      have sb34 : SameBut p Hi H4 := (Same.but sLL p).trans sb4
      have nEi : Hi E = none := sLL.free nE
      have nEH : H E = none := free_but sb pn3.some.1 nEi
      have eD4 : H4 D = some (mdo w D (rowsF fs)) := sb34 D _ nDp eD3
      have fl : fs.length = i := by
        have := congrArg List.length fk
        rw [List.length_map, List.length_take] at this
        omega
      have nED : E ≠ D := fun z => by
        rw [z, eD3] at nEi
        cases nEi
      have nEL : E ≠ L := fun z => by
        rw [z, eL] at nEi
        cases nEi
      have nEf : ∀ q ∈ fs, q.2.1 ≠ E := fun q hq z => by
        have y := F.at_ q hq
        rw [z, nEi] at y
        cases y
      have ndf : ∀ q ∈ fs, q.2.1 ≠ D := fun q hq z => (List.nodup_cons.mp nd).1 (z ▸ List.mem_map_of_mem hq)
      have nfp : ∀ q ∈ fs, q.2.1 ≠ p := fun q hq z => pn.some.1 (z ▸ (fr q hq).1)
      refine ⟨.ref D, rfl, .str os[i], rfl, D, rowsF fs, .text os[i], rfl, eD4, by rw [rowsF_len]; omega, rowsF_all _ _, kAt.text _ _, ?_⟩
      have fresh : NestedKey.text os[i] ∉ (rowsF fs).map (·.1) := fun z => by
        rw [rowsF_keys, fk] at z
        obtain ⟨o, ho, e⟩ := List.mem_map.mp z
        injection e with e
        subst e
        exact not_take osn (List.getElem?_eq_getElem hi) ho
      rw [put_fresh fresh]
      refine ⟨_, rfl, fun d o nb z => ?_, ?_, fs ++ [(os[i], E, ls)], a4, pn4.off ?_ ?_, ?_, ?_, ⟨fun q hq => ?_, fun q hq => ?_, fun q hq => ?_⟩, ?_, ?_, fun q hq => ?_⟩
      · have n1 : d ≠ D := ne_of_none z nD
        rw [upd_ne n1]
        exact sb34 d o nb (sb d o nb z)
      · have n1 : L ≠ D := fun z => by
          rw [z, eD3] at eL
          cases eL
        have n2 : L ≠ p := pn3.ne eL
        rw [upd_ne n1]
        exact sb34 L _ n2 eL
      · rw [upd_ne (Ne.symm nDp)]
      · have n1 : c ≠ D := fun z => pn.some.2 (z ▸ nD)
        rw [upd_ne n1]
      · rw [Nat.succ_mul]
        omega
      · rw [upd_same]
        exact congrArg (fun r => some (mdo w D r)) (rowsF_app fs (os[i], E, ls))
      · rcases List.mem_append.mp hq with z | z
        · rw [upd_ne (ndf q z)]
          exact sb34 _ _ (nfp q z) (F.at_ q z)
        · rw [List.mem_singleton.mp z]
          rw [upd_ne nED]
          exact eE
      · rcases List.mem_append.mp hq with z | z
        · exact F.keys q z
        · rw [List.mem_singleton.mp z]
          exact lk
      · rcases List.mem_append.mp hq with z | z
        · exact F.lev q z
        · rw [List.mem_singleton.mp z]
          exact ll
      · rw [List.map_append, fk, List.take_add_one, List.getElem?_eq_getElem hi]
        rfl
      · rw [List.map_append, ← List.cons_append]
        refine List.nodup_append.mpr ⟨nd, by simp, fun x hx y hy e => ?_⟩
        subst e
        rw [List.mem_singleton.mp hy] at hx
        rcases List.mem_cons.mp hx with z | z
        · exact nED z
        · obtain ⟨q, hq, e⟩ := List.mem_map.mp z
          exact nEf q hq e
      · rcases List.mem_append.mp hq with z | z
        · exact fr q z
        · rw [List.mem_singleton.mp z]
          exact ⟨nEH, nEL⟩
    · obtain ⟨y3, rfl, sb, eL, fs, a3, pn3, b3, eD3, F, fk, nd, fr⟩ := S
      rw [List.length_map] at fk b3
      rw [List.take_length] at fk
      have fl : fs.length = os.length := by rw [← fk, List.length_map]
      have hb3 : os.length * words.length ≤ 3 * words.length := Nat.mul_le_mul_right _ osl
      refine ⟨.ref D, rfl, .ref p, rfl, .ref b, rfl, by show 3 ≤ sizeLine; decide, fun LL nLL => ?_⟩
      have sLL := same_upd (o := HO.lst (readL.map V.str)) nLL
      have eb3 := sLL _ _ (sb b _ nbp eb)
      have nLLp : LL ≠ p := fun z => pn3.some.1 (z ▸ nLL)
      refine ⟨p, c, b, LL, ns, a3, words, readL, rfl, pn3.same sLL, by omega, .inl (.inl eb3), nbp, wnd, w60, .inl (.inl upd_same), nLLp, upd_same, by decide, by decide, eb3, fun H4 R rs a4 sb4 pn4 b4 nR eR rk rl => ⟨by show 2 ≤ sizeLine; decide, fun T nT => ?_⟩⟩
      have sb34 : SameBut p Hi H4 := (Same.but sLL p).trans sb4
      have sT := same_upd (o := HO.tup [.ref D, .ref R]) nT
      have nRi : Hi R = none := sLL.free nR
      have sbH4 : SameBut p H H4 := sb.trans sb34
      have nRD : R ≠ D := fun z => by
        rw [z, eD3] at nRi
        cases nRi
      have nRf : ∀ q ∈ fs, q.2.1 ≠ R := fun q hq z => by
        have y := F.at_ q hq
        rw [z, nRi] at y
        cases y
      have nfp : ∀ q ∈ fs, q.2.1 ≠ p := fun q hq z => pn.some.1 (z ▸ (fr q hq).1)
      have nd' := List.nodup_cons.mp nd
      refine q _ T D R fs rs a4 (fun d o nb z => sT _ _ (sbH4 d o nb z)) (pn4.same sT) (by omega) upd_same (free_but sbH4 pn4.some.1 nT) ⟨sT _ _ (sb34 D _ nDp eD3), sT _ _ eR, ⟨fun q hq => sT _ _ (sb34 _ _ (nfp q hq) (F.at_ q hq)), F.keys, F.lev⟩, rk, rl, ?_, by rw [fk]; exact osn, fun q hq => osm _ (fk ▸ List.mem_map_of_mem hq), by omega⟩ fun x hx => ?_
      · refine List.nodup_cons.mpr ⟨fun z => ?_, List.nodup_cons.mpr ⟨fun z => ?_, nd'.2⟩⟩
        · rcases List.mem_cons.mp z with z | z
          · exact nRD z.symm
          · exact nd'.1 z
        · obtain ⟨q, hq, e⟩ := List.mem_map.mp z
          exact nRf q hq e
      · rcases List.mem_cons.mp hx with rfl | hx
        · exact nD
        rcases List.mem_cons.mp hx with rfl | hx
        · exact free_but sb pn3.some.1 nRi
        obtain ⟨q, hq, rfl⟩ := List.mem_map.mp hx
        exact (fr q hq).1
end
end KF
end L2
end
/-! ### PA0 -/
section
namespace L2
namespace KF
open PySem PySem.Spec PyProof.Rows PySem.KD KE KC PySem.KA KM TL
/-! ## data that nowhere holds itself -/
mutual
/-- as Rep, and no list or dict stands within itself -/
inductive RepA (w : World) (H : Hp) : V → PyData → List Addr → Prop
  | none : RepA w H .non .none []
  | bool (b : Bool) : RepA w H (.bl b) (.bool b) []
  | int (i : Int) : RepA w H (.int i) (.int i) []
  | str (x : Str) : RepA w H (.str x) (.str x) []
  | lst {a : Addr} {vs : List V} {ds : List PyData} {fp : List Addr} (e : H a = some (.lst vs)) (r : RepAA w H vs ds fp) (na : a ∉ fp) : RepA w H (.ref a) (.list ds) (a :: fp)
  | tup {a : Addr} {vs : List V} {ds : List PyData} {fp : List Addr} (e : H a = some (.tup vs)) (r : RepAA w H vs ds fp) : RepA w H (.ref a) (.tuple ds) fp
  | dct {a : Addr} {es : List MRow} {kvs : List (PyData × PyData)} {fv : List Addr} (e : H a = some (mdo w a es)) (ka : KAll H es) (nd : (es.map (·.1)).Nodup) (rk : RepAA w H (es.map fun r => r.2.1) (kvs.map (·.1)) []) (rv : RepAA w H (es.map fun r => r.2.2) (kvs.map (·.2)) fv) (na : a ∉ fv) : RepA w H (.ref a) (.dict kvs) (a :: fv)
inductive RepAA (w : World) (H : Hp) : List V → List PyData → List Addr → Prop
  | nil : RepAA w H [] [] []
  | cons {v : V} {d : PyData} {vs : List V} {ds : List PyData} {f1 f2 : List Addr} (h : RepA w H v d f1) (t : RepAA w H vs ds f2) : RepAA w H (v :: vs) (d :: ds) (f1 ++ f2)
end
mutual
theorem RepA.rep {w : World} {H : Hp} : ∀ {v : V} {d : PyData} {fp : List Addr}, RepA w H v d fp → Rep w H v d fp
  | _, _, _, .none => .none
  | _, _, _, .bool b => .bool b
  | _, _, _, .int i => .int i
  | _, _, _, .str x => .str x
  | _, _, _, .lst e r _ => .lst e r.rep
  | _, _, _, .tup e r => .tup e r.rep
  | _, _, _, .dct e ka nd rk rv _ => .dct e ka nd rfl rk.rep rv.rep
theorem RepAA.rep {w : World} {H : Hp} : ∀ {vs : List V} {ds : List PyData} {fp : List Addr}, RepAA w H vs ds fp → RepAll w H vs ds fp
  | _, _, _, .nil => .nil
  | _, _, _, .cons h t => .cons h.rep t.rep
end
theorem RepA.dom {w : World} {H : Hp} {v : V} {d : PyData} {fp : List Addr} (r : RepA w H v d fp) : ∀ a ∈ fp, H a ≠ Option.none := r.rep.dom
theorem RepAA.dom {w : World} {H : Hp} {vs : List V} {ds : List PyData} {fp : List Addr} (r : RepAA w H vs ds fp) : ∀ a ∈ fp, H a ≠ Option.none := r.rep.dom
theorem RepAA.length {w : World} {H : Hp} {vs : List V} {ds : List PyData} {fp : List Addr} (r : RepAA w H vs ds fp) : vs.length = ds.length := r.rep.length
mutual
theorem RepA.keep {w : World} {H H' : Hp} : ∀ {v : V} {d : PyData} {fp : List Addr}, RepA w H v d fp → Keep fp H H' → RepA w H' v d fp
  | _, _, _, .none, _ => .none
  | _, _, _, .bool b, _ => .bool b
  | _, _, _, .int i, _ => .int i
  | _, _, _, .str x, _ => .str x
  | _, _, _, .lst e r na, k => .lst ((k.at_ _ List.mem_cons_self).trans e) (r.keep (k.sub fun a h => List.mem_cons_of_mem _ h)) na
  | _, _, _, .tup e r, k => .tup (k.tup _ _ e) (r.keep k)
  | _, _, _, .dct e ka nd rk rv na, k => .dct ((k.at_ _ List.mem_cons_self).trans e) (KAll.keep ka k.tup) nd (rk.keep (k.sub fun a h => nomatch h)) (rv.keep (k.sub fun a h => List.mem_cons_of_mem _ h)) na
theorem RepAA.keep {w : World} {H H' : Hp} : ∀ {vs : List V} {ds : List PyData} {fp : List Addr}, RepAA w H vs ds fp → Keep fp H H' → RepAA w H' vs ds fp
  | _, _, _, .nil, _ => .nil
  | _, _, _, .cons r rs, k => .cons (r.keep (k.sub fun a h => List.mem_append_left _ h)) (rs.keep (k.sub fun a h => List.mem_append_right _ h))
end
theorem RepA.same {w : World} {H H' : Hp} {v : V} {d : PyData} {fp : List Addr} (r : RepA w H v d fp) (s : Same H H') : RepA w H' v d fp := r.keep (.same s r.dom)
theorem RepAA.same {w : World} {H H' : Hp} {vs : List V} {ds : List PyData} {fp : List Addr} (r : RepAA w H vs ds fp) (s : Same H H') : RepAA w H' vs ds fp := r.keep (.same s r.dom)
theorem repAA_snoc {w : World} {H : Hp} : ∀ {vs : List V} {ds : List PyData} {f : List Addr} {v : V} {d : PyData} {g : List Addr}, RepAA w H vs ds f → RepA w H v d g → RepAA w H (vs ++ [v]) (ds ++ [d]) (f ++ g)
  | _, _, _, v, d, g, .nil, r => by
    have z : RepAA w H [v] [d] (g ++ []) := .cons r .nil
    rw [List.append_nil] at z
    exact z
  | _, _, _, v, d, g, .cons (f1 := f1) (f2 := f2) h t, r => by
    rw [List.append_assoc]
    exact .cons h (repAA_snoc t r)
theorem repA_but {w : World} {p : Addr} {H H' : Hp} {rows : List (Key × V)} {vs : List V} {ds : List PyData} {f : List Addr} (sb : SameBut p H H') (hp : H p = some (.dK rows)) (r : RepAA w H vs ds f) (nf : ∀ a ∈ f, a ≠ p) : RepAA w H' vs ds f := by
  refine r.keep ⟨fun a ha => ?_, tup_but sb hp⟩
  cases e : H a with
  | none => exact absurd e (r.dom a ha)
  | some o => exact sb a o (nf a ha) e
theorem repA_updL {w : World} {D : Addr} {H : Hp} {xs : List V} {o : HO} {vs : List V} {ds : List PyData} {f : List Addr} (hD : H D = some (.lst xs)) (r : RepAA w H vs ds f) (nf : ∀ a ∈ f, a ≠ D) : RepAA w (upd H D o) vs ds f :=
  r.keep ⟨fun a ha => upd_ne (nf a ha), tup_updL hD⟩
end KF
end L2
end
/-! ### PN -/
section
namespace L2
namespace KF
open PySem PySem.Spec PyProof.Rows PySem.KD KE KC PySem.KA KM TL
/-! ## small data -/
/-- data that repr and copied take: D deep, N parts, W heavy -/
structure Nice (D N W : Nat) (d : PyData) : Prop where
  show_ : d.showable = true
  leaf : d.leavesShort 13 = true
  dep : d.depth ≤ D
  sz : sz d ≤ N
  wt : d.weight ≤ W
theorem Nice.mono {D N W D' N' W' : Nat} {d : PyData} (t : Nice D N W d) (h1 : D ≤ D') (h2 : N ≤ N') (h3 : W ≤ W') : Nice D' N' W' d := ⟨t.show_, t.leaf, Nat.le_trans t.dep h1, Nat.le_trans t.sz h2, Nat.le_trans t.wt h3⟩
theorem nice_all {D N W : Nat} : ∀ {ds : List PyData}, (∀ d ∈ ds, Nice D N W d) → PyData.showableAll ds = true ∧ PyData.leavesShortAll 13 ds = true ∧ PyData.depthAll ds ≤ D ∧ szAll ds ≤ ds.length * N ∧ PyData.weightAll ds ≤ ds.length * (W + 1)
  | [], _ => ⟨by simp only [PyData.showableAll], by simp only [PyData.leavesShortAll], by simp only [PyData.depthAll]; omega, by simp only [szAll]; omega, by simp only [PyData.weightAll]; omega⟩
  | d :: ds, h => by
    obtain ⟨h1, h2, h3, h4, h5⟩ := nice_all (ds := ds) fun x hx => h x (List.mem_cons_of_mem _ hx)
    have t := h d List.mem_cons_self
    have e : (ds.length + 1) * N = ds.length * N + N := Nat.succ_mul _ _
    have e2 : (ds.length + 1) * (W + 1) = ds.length * (W + 1) + (W + 1) := Nat.succ_mul _ _
    have t1 := t.sz
    have t2 := t.wt
    have t3 := t.dep
    refine ⟨by simp only [PyData.showableAll, t.show_, h1, Bool.and_self], by simp only [PyData.leavesShortAll, t.leaf, h2, Bool.and_self], by simp only [PyData.depthAll]; omega, by simp only [szAll, List.length_cons]; omega, by simp only [PyData.weightAll, List.length_cons]; omega⟩
theorem nice_kv {D N W : Nat} : ∀ {kvs : List (PyData × PyData)}, (∀ p ∈ kvs, Nice D N W p.1 ∧ Nice D N W p.2) → PyData.showableKv kvs = true ∧ PyData.leavesShortKv 13 kvs = true ∧ PyData.depthKv kvs ≤ D ∧ szKv kvs ≤ kvs.length * N ∧ PyData.weightKv kvs ≤ kvs.length * (2 * W + 2)
  | [], _ => ⟨by simp only [PyData.showableKv], by simp only [PyData.leavesShortKv], by simp only [PyData.depthKv]; omega, by simp only [szKv]; omega, by simp only [PyData.weightKv]; omega⟩
  | (k, v) :: r, h => by
    obtain ⟨h1, h2, h3, h4, h5⟩ := nice_kv (kvs := r) fun x hx => h x (List.mem_cons_of_mem _ hx)
    obtain ⟨kt, t⟩ := h (k, v) List.mem_cons_self
    have e : (r.length + 1) * N = r.length * N + N := Nat.succ_mul _ _
    have e2 : (r.length + 1) * (2 * W + 2) = r.length * (2 * W + 2) + (2 * W + 2) := Nat.succ_mul _ _
    have t1 : L2.KF.sz v ≤ N := t.sz
    have t2 : v.weight ≤ W := t.wt
    have t3 : v.depth ≤ D := t.dep
    have t4 : k.weight ≤ W := kt.wt
    have t5 : k.depth ≤ D := kt.dep
    have t6 : k.showable = true := kt.show_
    have t7 : v.showable = true := t.show_
    have t8 : k.leavesShort 13 = true := kt.leaf
    have t9 : v.leavesShort 13 = true := t.leaf
    refine ⟨by simp only [PyData.showableKv, t6, t7, h1, Bool.and_self], by simp only [PyData.leavesShortKv, t8, t9, h2, Bool.and_self], by simp only [PyData.depthKv]; omega, by simp only [szKv, List.length_cons]; omega, by simp only [PyData.weightKv, List.length_cons]; omega⟩
theorem Nice.list {D N W : Nat} {ds : List PyData} {k : Nat} (h : ∀ d ∈ ds, Nice D N W d) (l : ds.length ≤ k) : Nice (D + 1) (k * N + 1) (k * (W + 1)) (.list ds) := by
  obtain ⟨h1, h2, h3, h4, h5⟩ := nice_all h
  have m1 : ds.length * N ≤ k * N := Nat.mul_le_mul_right _ l
  have m2 : ds.length * (W + 1) ≤ k * (W + 1) := Nat.mul_le_mul_right _ l
  refine ⟨by simp only [PyData.showable, h1], by simp only [PyData.leavesShort, h2], by simp only [PyData.depth]; omega, ?_, ?_⟩
  · simp only [L2.KF.sz]
    omega
  · simp only [PyData.weight]
    omega
theorem Nice.tuple {D N W : Nat} {ds : List PyData} {k : Nat} (h : ∀ d ∈ ds, Nice D N W d) (l : ds.length ≤ k) : Nice (D + 1) (k * N + 1) (k * (W + 1)) (.tuple ds) := by
  obtain ⟨h1, h2, h3, h4, h5⟩ := nice_all h
  have m1 : ds.length * N ≤ k * N := Nat.mul_le_mul_right _ l
  have m2 : ds.length * (W + 1) ≤ k * (W + 1) := Nat.mul_le_mul_right _ l
  refine ⟨by simp only [PyData.showable, h1], by simp only [PyData.leavesShort, h2], by simp only [PyData.depth]; omega, ?_, ?_⟩
  · simp only [L2.KF.sz]
    omega
  · simp only [PyData.weight]
    omega
theorem Nice.dict {D N W : Nat} {kvs : List (PyData × PyData)} {k : Nat} (h : ∀ p ∈ kvs, Nice D N W p.1 ∧ Nice D N W p.2) (l : kvs.length ≤ k) : Nice (D + 1) (k * N + 1) (k * (2 * W + 2)) (.dict kvs) := by
  obtain ⟨h1, h2, h3, h4, h5⟩ := nice_kv h
  have m1 : kvs.length * N ≤ k * N := Nat.mul_le_mul_right _ l
  have m2 : kvs.length * (2 * W + 2) ≤ k * (2 * W + 2) := Nat.mul_le_mul_right _ l
  refine ⟨by simp only [PyData.showable, h1], by simp only [PyData.leavesShort, h2], by simp only [PyData.depth]; omega, ?_, ?_⟩
  · simp only [L2.KF.sz]
    omega
  · simp only [PyData.weight]
    omega
theorem nice_none : Nice 1 1 20 .none := ⟨by decide +kernel, by decide +kernel, by decide +kernel, by decide +kernel, by decide +kernel⟩
theorem nice_true : Nice 1 1 20 (.bool true) := ⟨by decide +kernel, by decide +kernel, by decide +kernel, by decide +kernel, by decide +kernel⟩
theorem nice_zero : Nice 1 1 20 (.int 0) := ⟨by decide +kernel, by decide +kernel, by decide +kernel, by decide +kernel, by decide +kernel⟩
theorem nice_one : Nice 1 1 20 (.int 1) := ⟨by decide +kernel, by decide +kernel, by decide +kernel, by decide +kernel, by decide +kernel⟩
theorem nice_str {x : Str} (h : (tl x).all (fun c => decide (c < 16 ^ 8)) = true) (l : (tl x).length ≤ 20) : Nice 1 1 20 (.str x) := by
  refine ⟨by simp only [PyData.showable], ?_, by simp only [PyData.depth]; omega, by simp only [L2.KF.sz]; omega, ?_⟩
  · simp only [PyData.leavesShort]
    exact h
  · simp only [PyData.weight]
    have : (tl x).length = x.cps.size := by simp
    omega
theorem nice_word {x : Str} (h : isWordL (tl x) = true) : Nice 1 1 20 (.str x) := by
  unfold isWordL at h
  rw [Bool.and_eq_true, Bool.and_eq_true] at h
  obtain ⟨⟨_, h2⟩, h3⟩ := h
  refine nice_str (List.all_eq_true.mpr fun c hc => ?_) (by have := of_decide_eq_true h2; omega)
  have := of_decide_eq_true (List.all_eq_true.mp h3 c hc)
  have lo : ∀ c ∈ low, c < 16 ^ 8 := by decide
  exact decide_eq_true (lo c this)
theorem strOk_word {x : Str} (h : isWordL (tl x) = true) : PyData.strOk x = true := by
  unfold isWordL at h
  rw [Bool.and_eq_true, Bool.and_eq_true] at h
  obtain ⟨_, h3⟩ := h
  have lo : ∀ c ∈ low, c < 0x110000 := by decide
  unfold PyData.strOk
  rw [Array.all_eq_true']
  intro c hc
  exact decide_eq_true (lo c (of_decide_eq_true (List.all_eq_true.mp h3 c (Array.mem_toList_iff.mpr hc))))
theorem Nice.len {D N W : Nat} {d : PyData} (t : Nice D N W d) (h : W ≤ 1000000) : d.shown.length ≤ sizeLine := PyData.shown_fits (by decide) (by decide) t.leaf (Nat.le_trans t.wt (Nat.le_trans h (by decide)))
/-! ## what is right -/
def wordD : PyData → Bool
  | .str x => isWordL (tl x)
  | _ => false
def levD (lv : List Str) : PyData → Bool
  | .str x => decide (x ∈ lv)
  | _ => false
def outD : PyData → Bool
  | .str x => decide (x = Str.ofString "done") || (decide ((tl x).take 5 = tl (Str.ofString "fail ")) && isWordL ((tl x).drop 5))
  | _ => false
/-- a row of words to levels -/
def rowD (lv : List Str) : PyData → Bool
  | .dict kvs => kvs.all fun p => wordD p.1 && levD lv p.2
  | _ => false
def eqT : PyData → PyData → Bool
  | .str x, .str y => decide (x = y)
  | _, _ => false
def kvOf : PyData → List (PyData × PyData)
  | .dict kvs => kvs
  | _ => []
/-- a key of a dict -/
def inK (k d : PyData) : Bool := (kvOf d).any fun p => eqT k p.1
def sameW (a b : PyData) : Bool := (kvOf a).all (fun p => inK p.1 b) && (kvOf b).all fun p => inK p.1 a
/-- outcomes to rows of ends, with the same words in all rows -/
def finD : PyData → Bool
  | .dict kvs => kvs.all (fun p => outD p.1 && rowD endL p.2) && kvs.all fun p => kvs.all fun q => sameW p.2 q.2
  | _ => false
def kvT (ls : List (Str × Str)) : List (PyData × PyData) := ls.map fun q => (.str q.1, .str q.2)
def kvF (fs : List Fin) : List (PyData × PyData) := fs.map fun q => (.str q.1, .dict (kvT q.2.2))
/-! ## rows as data -/
/-- what a dict holds, as data -/
structure DictAt (w : World) (H : Hp) (a : Addr) (es : List MRow) (kvs : List (PyData × PyData)) (fv : List Addr) : Prop where
  at_ : H a = some (mdo w a es)
  ka : KAll H es
  nd : (es.map (·.1)).Nodup
  rk : RepAA w H (es.map fun r => r.2.1) (kvs.map (·.1)) []
  rv : RepAA w H (es.map fun r => r.2.2) (kvs.map (·.2)) fv
  na : a ∉ fv
theorem DictAt.rep {w : World} {H : Hp} {a : Addr} {es : List MRow} {kvs : List (PyData × PyData)} {fv : List Addr} (d : DictAt w H a es kvs fv) : RepA w H (.ref a) (.dict kvs) (a :: fv) := .dct d.at_ d.ka d.nd d.rk d.rv d.na
theorem strs_rep {w : World} {H : Hp} : ∀ xs : List Str, RepAA w H (xs.map V.str) (xs.map .str) []
  | [] => .nil
  | x :: xs => .cons (.str x) (strs_rep xs)
theorem rowsT_at {w : World} {H : Hp} {a : Addr} {ls : List (Str × Str)} (e : H a = some (mdo w a (rowsT ls))) (nd : (ls.map (·.1)).Nodup) : DictAt w H a (rowsT ls) (kvT ls) [] := by
  refine ⟨e, rowsT_all _ _, by rw [rowsT_keys]; exact nd_text nd, ?_, ?_, fun z => nomatch z⟩
  · have e1 : (rowsT ls).map (fun r => r.2.1) = (ls.map (·.1)).map V.str := by
      unfold rowsT
      rw [List.map_map, List.map_map]
      rfl
    have e2 : (kvT ls).map (·.1) = (ls.map (·.1)).map .str := by
      unfold kvT
      rw [List.map_map, List.map_map]
      rfl
    rw [e1, e2]
    exact strs_rep _
  · have e1 : (rowsT ls).map (fun r => r.2.2) = (ls.map (·.2)).map V.str := by
      unfold rowsT
      rw [List.map_map, List.map_map]
      rfl
    have e2 : (kvT ls).map (·.2) = (ls.map (·.2)).map .str := by
      unfold kvT
      rw [List.map_map, List.map_map]
      rfl
    rw [e1, e2]
    exact strs_rep _
theorem rowsF_at {w : World} {H : Hp} {a : Addr} {words : List Str} {fs : List Fin} (e : H a = some (mdo w a (rowsF fs))) (F : FsAt w H words fs) (wnd : words.Nodup) (nd : (fs.map (·.1)).Nodup) (na : a ∉ fs.map (·.2.1)) : DictAt w H a (rowsF fs) (kvF fs) (fs.map (·.2.1)) := by
  refine ⟨e, rowsF_all _ _, by rw [rowsF_keys]; exact nd_text nd, ?_, ?_, na⟩
  · have e1 : (rowsF fs).map (fun r => r.2.1) = (fs.map (·.1)).map V.str := by
      unfold rowsF
      rw [List.map_map, List.map_map]
      rfl
    have e2 : (kvF fs).map (·.1) = (fs.map (·.1)).map .str := by
      unfold kvF
      rw [List.map_map, List.map_map]
      rfl
    rw [e1, e2]
    exact strs_rep _
  · obtain ⟨h1, h2, h3⟩ := F
    clear e nd h3 na
    induction fs with
    | nil => exact .nil
    | cons q fs ih =>
      have r : RepA w H (.ref q.2.1) (.dict (kvT q.2.2)) [q.2.1] := (rowsT_at (h1 q List.mem_cons_self) (by rw [h2 q List.mem_cons_self]; exact wnd)).rep
      exact .cons (f1 := [q.2.1]) r (ih (fun x hx => h1 x (List.mem_cons_of_mem _ hx)) fun x hx => h2 x (List.mem_cons_of_mem _ hx))
theorem kvT_nice {ls : List (Str × Str)} {lv : List Str} (hk : ∀ q ∈ ls, isWordL (tl q.1) = true) (hl : ∀ q ∈ ls, q.2 ∈ lv) (hv : lv = endL ∨ lv = readL) : ∀ p ∈ kvT ls, Nice 1 1 20 p.1 ∧ Nice 1 1 20 p.2 := fun p hp => by
  obtain ⟨q, hq, rfl⟩ := List.mem_map.mp hp
  refine ⟨nice_word (hk q hq), ?_⟩
  have h := hl q hq
  have all : ∀ x ∈ endL ++ readL, Nice 1 1 20 (.str x) := by
    intro x hx
    simp only [List.mem_append, List.mem_cons, List.not_mem_nil, or_false] at hx
    rcases hx with (rfl | rfl | rfl) | (rfl | rfl | rfl) <;> exact nice_str (by decide +kernel) (by decide +kernel)
  refine all q.2 (List.mem_append.mpr ?_)
  rcases hv with rfl | rfl
  · exact .inl h
  · exact .inr h
/-! ## more in a dict -/
theorem repAll_set0 {w : World} {H : Hp} {v : V} {d : PyData} {g : List Addr} (r : RepA w H v d g) : ∀ {vs : List V} {ds : List PyData} {f : List Addr} (j : Nat), RepAA w H vs ds f → j < vs.length → ∃ f', RepAA w H (vs.set j v) (ds.set j d) f' ∧ ∀ a ∈ f', a ∈ f ∨ a ∈ g
  | _, _, _, j, .nil, h => absurd h (Nat.not_lt_zero _)
  | _, _, _, 0, .cons (f1 := f1) (f2 := f2) h t, _ => ⟨g ++ f2, .cons r t, fun a ha => (List.mem_append.mp ha).elim .inr fun z => .inl (List.mem_append_right _ z)⟩
  | _, _, _, j + 1, .cons (f1 := f1) (f2 := f2) h t, hj => by
    obtain ⟨f', r1, r3⟩ := repAll_set0 r j t (Nat.lt_of_succ_lt_succ hj)
    refine ⟨f1 ++ f', .cons h r1, fun a ha => ?_⟩
    rcases List.mem_append.mp ha with h | h
    · exact .inl (List.mem_append_left _ h)
    · rcases r3 a h with z | z
      · exact .inl (List.mem_append_right _ z)
      · exact .inr z
/-- a new key behind -/
theorem DictAt.more {w : World} {H H' : Hp} {a M : Addr} {es : List MRow} {kvs : List (PyData × PyData)} {fv : List Addr} {k : NestedKey} {key v : V} {kd d : PyData} {f : List Addr} (D : DictAt w H a es kvs fv) (hk : kAt H k key) (rk : RepA w H key kd []) (r : RepA w H v d f)
    (fresh : k ∉ es.map (·.1)) (s : Same H H') (nM : H M = none) (e : H' M = some (mdo w M (mergeH [] (es ++ [(k, key, v)])))) : DictAt w H' M (es ++ [(k, key, v)]) (kvs ++ [(kd, d)]) (fv ++ f) := by
  have nd : ((es ++ [(k, key, v)]).map (·.1)).Nodup := by
    rw [List.map_append]
    refine List.nodup_append.mpr ⟨D.nd, by simp, fun x hx y hy e => ?_⟩
    subst e
    rw [List.map_cons, List.map_nil, List.mem_singleton] at hy
    have hy2 : x = k := hy
    exact fresh (hy2 ▸ hx)
  rw [merge_id nd] at e
  refine ⟨e, fun p hp => ?_, nd, ?_, ?_, fun z => ((List.mem_append.mp z).elim (fun y => D.rv.dom M y nM) fun y => r.dom M y nM)⟩
  · rcases List.mem_append.mp hp with z | z
    · exact (D.ka p z).mono (tup_same s)
    · rw [List.mem_singleton.mp z]
      exact hk.mono (tup_same s)
  · rw [List.map_append, List.map_append]
    exact (repAA_snoc D.rk rk).same s
  · rw [List.map_append, List.map_append]
    exact (repAA_snoc D.rv r).same s
/-- a key there, its value exchanged -/
theorem DictAt.other {w : World} {H H' : Hp} {a M : Addr} {ls : List (Str × Str)} {x : Str} {v : V} {d : PyData} {f : List Addr} (e0 : H a = some (mdo w a (rowsT ls))) (nd : (ls.map (·.1)).Nodup) (hx : x ∈ ls.map (·.1)) (r : RepA w H v d f)
    (s : Same H H') (nM : H M = none) (e : H' M = some (mdo w M (mergeH [] (rowsT ls ++ [(.text x, .str x, v)])))) : ∃ es j f', j < ls.length ∧ DictAt w H' M es ((kvT ls).set j (.str x, d)) f' ∧ ∀ a ∈ f', a ∈ f := by
  have D := rowsT_at e0 nd
  have e1 : mergeH [] (rowsT ls ++ [(.text x, .str x, v)]) = putH (rowsT ls) (.text x) (.str x) v := by
    have z : mergeH [] (rowsT ls ++ [(.text x, .str x, v)]) = putH (mergeH [] (rowsT ls)) (.text x) (.str x) v := by
      unfold mergeH
      rw [List.foldl_append]
      rfl
    rw [z, merge_id D.nd]
  rw [e1] at e
  obtain ⟨j, p, h1, h2, h3⟩ := put_set (k := .text x) (key := .str x) (v := v) D.nd (by rw [rowsT_keys]; exact List.mem_map_of_mem hx)
  rw [h3] at e
  obtain ⟨hj, hp⟩ := List.getElem?_eq_some_iff.mp h1
  have hjl : j < ls.length := by rw [rowsT_len] at hj; exact hj
  have pk : p = (.text x, .str x, p.2.2) := by
    obtain ⟨q, _, rfl⟩ := List.mem_map.mp (List.mem_of_getElem? h1)
    injection h2 with h2
    rw [h2]
  have kj : ((kvT ls).map (·.1))[j]? = some (.str x) := by
    have z : (rowsT ls)[j]? = some (.text ls[j].1, .str ls[j].1, .str ls[j].2) := by
      unfold rowsT
      rw [List.getElem?_map, List.getElem?_eq_getElem hjl]
      rfl
    rw [h1, pk] at z
    have y := Option.some.inj z
    injection y with y1 y2
    injection y1 with y1
    unfold kvT
    rw [List.map_map, List.getElem?_map, List.getElem?_eq_getElem hjl, y1]
    rfl
  obtain ⟨f', r1, r3⟩ := repAll_set0 r (vs := (rowsT ls).map fun r => r.2.2) (ds := (kvT ls).map (·.2)) (f := []) j D.rv (by rw [List.length_map]; exact hj)
  refine ⟨_, j, f', hjl, ⟨e, fun q hq => ?_, ?_, ?_, ?_, fun z => (r3 M z).elim (fun y => nomatch y) fun y => r.dom M y nM⟩, fun b hb => (r3 b hb).elim (fun z => nomatch z) id⟩
  · rcases List.mem_or_eq_of_mem_set hq with z | rfl
    · exact (D.ka q z).mono (tup_same s)
    · rw [pk]
      exact kAt.text _ _
  · rw [map_set_same h1 (by rfl)]
    exact D.nd
  · have m1 : ((rowsT ls).set j (p.1, p.2.1, v)).map (fun r => r.2.1) = (rowsT ls).map fun r => r.2.1 := map_set_same h1 (by rfl)
    have m2 : ((kvT ls).set j (.str x, d)).map (·.1) = (kvT ls).map (·.1) := by
      rw [List.map_set]
      refine List.ext_getElem? fun i => ?_
      by_cases hi : i = j
      · subst hi
        rw [List.getElem?_set_self (by unfold kvT; rw [List.length_map, List.length_map]; exact hjl)]
        exact kj.symm
      · rw [List.getElem?_set_ne (Ne.symm hi)]
    rw [m1, m2]
    exact D.rk.same s
  · rw [List.map_set, List.map_set]
    exact r1.same s
/-! ### a drawn profile where the heap goes on -/
theorem ProfAt.keep {w : World} {H H' : Hp} {D R : Addr} {words : List Str} {fs : List Fin} {rs : List (Str × Str)} (P : ProfAt w H D R words fs rs) (h : ∀ x o, (∃ es, o = mdo w x es) → H x = some o → H' x = some o) : ProfAt w H' D R words fs rs :=
  ⟨h _ _ ⟨_, rfl⟩ P.hD, h _ _ ⟨_, rfl⟩ P.hR, ⟨fun q hq => h _ _ ⟨_, rfl⟩ (P.rows.at_ q hq), P.rows.keys, P.rows.lev⟩, P.rk, P.rl, P.nd, P.fk, P.fo, P.few⟩
theorem ProfAt.same {w : World} {H H' : Hp} {D R : Addr} {words : List Str} {fs : List Fin} {rs : List (Str × Str)} (P : ProfAt w H D R words fs rs) (s : Same H H') : ProfAt w H' D R words fs rs := P.keep fun x o _ e => s x o e
theorem ProfAt.but {w : World} {H H' : Hp} {D R p : Addr} {words : List Str} {fs : List Fin} {rs : List (Str × Str)} {kv : List (Key × V)} (P : ProfAt w H D R words fs rs) (s : SameBut p H H') (hp : H p = some (.dK kv)) : ProfAt w H' D R words fs rs := P.keep fun x o ⟨es, eo⟩ e => s x o (fun z => by
  subst z
  rw [hp, eo] at e
  cases e) e
end KF
end L2
end
/-! ### PG -/
section
namespace L2
namespace KF
open PySem PySem.Spec PyProof.Rows PySem.KD KE KC PySem.KA KM TL
/-! ## expressions that make data out of nothing that changes -/
/-- free, or one of these -/
def Lo (S : Addr → Prop) (H : Hp) (a : Addr) : Prop := H a = none ∨ S a
theorem Lo.back {S : Addr → Prop} {H H' : Hp} {a : Addr} (s : Same H H') (l : Lo S H' a) : Lo S H a := l.imp (fun l => s.free l) id
theorem Lo.ne {S : Addr → Prop} {H : Hp} {a L : Addr} (l : Lo S H a) (e : H L ≠ none) (n : ¬ S L) : a ≠ L := fun z => by
  subst z
  exact l.elim e n
/-- t can be evaluated wherever H has grown to; only new things are made, and R holds of what comes out -/
def GivesR (t : TE) (σ : St) (H : Hp) (R : Hp → V → Hp → Prop) : Prop := ∀ H', Same H H' → ∀ Q : VK, (∀ v H'', Same H' H'' → R H' v H'' → Q v H'') → t σ H' Q
/-- just this value, nothing made -/
def Pure (v0 : V) : Hp → V → Hp → Prop := fun H' v H'' => v = v0 ∧ H'' = H'
/-- data with G, its parts new or dicts -/
def Dat (w : World) (S : Addr → Prop) (G : PyData → Prop) : Hp → V → Hp → Prop := fun H' v H'' => ∃ d f, RepA w H'' v d f ∧ G d ∧ ∀ a ∈ f, Lo S H' a
theorem same_refl (H : Hp) : Same H H := fun _ _ z => z
theorem GivesR.on {t : TE} {σ : St} {H H1 : Hp} {R : Hp → V → Hp → Prop} (g : GivesR t σ H R) (s : Same H H1) : GivesR t σ H1 R := fun H' s' Q q => g H' (s.trans s') Q q
theorem GivesR.weak {t : TE} {σ : St} {H : Hp} {R R' : Hp → V → Hp → Prop} (g : GivesR t σ H R) (h : ∀ H' v H'', R H' v H'' → R' H' v H'') : GivesR t σ H R' := fun H' s Q q => g H' s Q fun v H'' s2 r => q v H'' s2 (h _ _ _ r)
theorem pure_c {v : V} {σ : St} {H : Hp} : GivesR (tC v) σ H (Pure v) := fun H' s Q q => q v H' (same_refl _) ⟨rfl, rfl⟩
theorem dat_of {w : World} {S : Addr → Prop} {t : TE} {σ : St} {H : Hp} {v : V} {d : PyData} {f : List Addr} {G : PyData → Prop} (g : GivesR t σ H (Pure v)) (r : RepA w H v d f) (gd : G d) (lo : ∀ a ∈ f, S a) : GivesR t σ H (Dat w S G) := fun H' s Q q => g H' s Q fun u H'' s2 z => by
  obtain ⟨rfl, rfl⟩ := z
  exact q u _ (same_refl _) ⟨d, f, r.same s, gd, fun a ha => .inr (lo a ha)⟩
theorem dat_c {w : World} {S : Addr → Prop} {v : V} {d : PyData} {σ : St} {H : Hp} {G : PyData → Prop} (r : RepA w H v d []) (g : G d) : GivesR (tC v) σ H (Dat w S G) := dat_of pure_c r g fun _ z => nomatch z
/-- lists of such -/
def GivesA (w : World) (S : Addr → Prop) (t : TA) (σ : St) (H : Hp) (n : Nat) (G : PyData → Prop) : Prop := ∀ H', Same H H' → ∀ Q : List V → Hp → Prop, (∀ vs ds f H'', Same H' H'' → vs.length = n → RepAA w H'' vs ds f → (∀ d ∈ ds, G d) → (∀ a ∈ f, Lo S H' a) → Q vs H'') → t σ H' Q
theorem ga_nil {w : World} {S : Addr → Prop} {σ : St} {H : Hp} {G : PyData → Prop} : GivesA w S tNil σ H 0 G := fun H' s Q q => q [] [] [] H' (same_refl _) rfl .nil (fun _ z => nomatch z) fun _ z => nomatch z
theorem ga_cons {w : World} {S : Addr → Prop} {ta : TE} {tr : TA} {σ : St} {H : Hp} {n : Nat} {G : PyData → Prop} (h : GivesR ta σ H (Dat w S G)) (hr : GivesA w S tr σ H n G) : GivesA w S (tCons ta tr) σ H (n + 1) G := fun H' s Q q => h H' s _ fun v H1 s1 ⟨d, f, r, g, lo⟩ =>
  hr H1 (s.trans s1) _ fun vs ds f2 H2 s2 hl rs gs lo2 => q (v :: vs) (d :: ds) (f ++ f2) H2 (s1.trans s2) (congrArg Nat.succ hl) (.cons (r.same s2) rs) (fun x hx => by
    rcases List.mem_cons.mp hx with rfl | hx
    · exact g
    · exact gs x hx) fun a ha => by
    rcases List.mem_append.mp ha with z | z
    · exact lo a z
    · exact (lo2 a z).back s1
theorem dat_lst {w : World} {S : Addr → Prop} {t : TA} {σ : St} {H : Hp} {n : Nat} {G G' : PyData → Prop} (h : GivesA w S t σ H n G) (hn : n ≤ 1000) (gg : ∀ ds : List PyData, ds.length = n → (∀ d ∈ ds, G d) → G' (.list ds)) : GivesR (tLst t) σ H (Dat w S G') := fun H' s Q q =>
  h H' s _ fun vs ds f H1 s1 hl r g lo => ⟨by rw [hl]; exact Nat.le_of_lt (small1000 hn), fun L nL => q _ _ (s1.trans (same_upd nL)) ⟨.list ds, L :: f, .lst upd_same (r.same (same_upd nL)) (fun z => r.dom L z nL), gg ds (r.length.symm.trans hl) g, fun a ha => by
    rcases List.mem_cons.mp ha with rfl | z
    · exact .inl (s1.free nL)
    · exact lo a z⟩⟩
theorem dat_tup {w : World} {S : Addr → Prop} {t : TA} {σ : St} {H : Hp} {n : Nat} {G G' : PyData → Prop} (h : GivesA w S t σ H n G) (hn : n ≤ 1000) (gg : ∀ ds : List PyData, ds.length = n → (∀ d ∈ ds, G d) → G' (.tuple ds)) : GivesR (tTup t) σ H (Dat w S G') := fun H' s Q q =>
  h H' s _ fun vs ds f H1 s1 hl r g lo => ⟨by rw [hl]; exact Nat.le_of_lt (small1000 hn), fun L nL => q _ _ (s1.trans (same_upd nL)) ⟨.tuple ds, f, .tup upd_same (r.same (same_upd nL)), gg ds (r.length.symm.trans hl) g, lo⟩⟩
theorem DictAt.same {w : World} {H H' : Hp} {a : Addr} {es : List MRow} {kvs : List (PyData × PyData)} {fv : List Addr} (D : DictAt w H a es kvs fv) (s : Same H H') : DictAt w H' a es kvs fv := ⟨s _ _ D.at_, fun p hp => (D.ka p hp).mono (tup_same s), D.nd, D.rk.same s, D.rv.same s, D.na⟩
/-- list(r.items()) -/
theorem dat_items {w : World} {S : Addr → Prop} {tr : TE} {σ : St} {H : Hp} {r : Addr} {es : List MRow} {kvs : List (PyData × PyData)} {fv : List Addr} {G : PyData → Prop} (hr : GivesR tr σ H (Pure (.ref r))) (D : DictAt w H r es kvs fv) (lo : ∀ a ∈ fv, S a) (g : G (.list (kvs.map fun p => .tuple [p.1, p.2]))) :
    GivesR (tItemsM w tr) σ H (Dat w S G) := fun H' s Q q => hr H' s _ fun x H1 s1 z => by
  obtain ⟨rfl, rfl⟩ := z
  refine ⟨r, es, rfl, .inl (s _ _ D.at_), fun H2 p ts k1 n1 n2 n3 e1 pr => ?_⟩
  have s2 : Same H1 H2 := k1
  have D2 := D.same (s.trans s2)
  have all : ∀ {ts : List Addr} {es : List MRow} {kvs : List (PyData × PyData)} {fv : List Addr}, Paired (fun (t : Addr) (q : MRow) => H2 t = some (.tup [q.2.1, q.2.2])) ts es → RepAA w H2 (es.map fun r => r.2.1) (kvs.map (·.1)) [] → RepAA w H2 (es.map fun r => r.2.2) (kvs.map (·.2)) fv → RepAA w H2 (ts.map V.ref) (kvs.map fun p => .tuple [p.1, p.2]) fv := by
    intro ts es kvs fv pr
    induction pr generalizing kvs fv with
    | nil =>
      intro h1 h2
      cases kvs with
      | nil =>
        cases h2
        exact .nil
      | cons _ _ => cases h1
    | @cons t e ts es ht _ ih =>
      intro h1 h2
      cases kvs with
      | nil => cases h1
      | cons k ks =>
        have split : ∀ {v : V} {vs : List V} {d : PyData} {ds : List PyData} {f : List Addr}, RepAA w H2 (v :: vs) (d :: ds) f → ∃ f1 f2, f = f1 ++ f2 ∧ RepA w H2 v d f1 ∧ RepAA w H2 vs ds f2 := fun h => by
          cases h with
          | cons a b => exact ⟨_, _, rfl, a, b⟩
        obtain ⟨a1, a2, ea, ra, rsa⟩ := split h1
        obtain ⟨b1, b2, eb, rb, rsb⟩ := split h2
        obtain ⟨rfl, rfl⟩ := List.append_eq_nil_iff.mp ea.symm
        subst eb
        have two : RepAA w H2 [e.2.1, e.2.2] [k.1, k.2] b1 := by
          have z : RepAA w H2 [e.2.1, e.2.2] [k.1, k.2] ([] ++ (b1 ++ [])) := .cons ra (.cons rb .nil)
          rw [List.append_nil] at z
          exact z
        exact .cons (.tup ht two) (ih rsa rsb)
  refine q _ H2 s2 ⟨.list (kvs.map fun p => .tuple [p.1, p.2]), p :: fv, .lst e1 (all pr D2.rk D2.rv) (fun z => (D.same s).rv.dom p z n1), g, fun a ha => ?_⟩
  rcases List.mem_cons.mp ha with rfl | z
  · exact .inl n1
  · exact .inr (lo a z)
/-- dict(list(r.items()) + [(k, v)]) -/
abbrev tPlus (w : World) (tr tk tv : TE) : TE := tCB (fun ys H Q => ∃ (a : Addr) (ts : List Addr) (ps : List MRow), ys = [.ref a] ∧ H a = some (.lst (ts.map .ref)) ∧ Paired (fun (t : Addr) (p : MRow) => H t = some (.tup [p.2.1, p.2.2])) ts ps ∧ KAll H ps ∧ ps.length ≤ 900 ∧ ∀ d, H d = none → Q (.ref d) (upd H d (mdo w d (mergeH [] ps))))
  (tCons (tOp rCat (tItemsM w tr) (tLst (tCons (tTup (tCons tk (tCons tv tNil))) tNil))) tNil)
theorem plus_raw {w : World} {tr tk tv : TE} {σ : St} {H : Hp} {r : Addr} {es : List MRow} {k : NestedKey} {key : V} {R : Hp → V → Hp → Prop} (hr : GivesR tr σ H (Pure (.ref r))) (at_ : H r = some (mdo w r es)) (ka : KAll H es) (le : es.length ≤ 100)
    (hk : GivesR tk σ H (Pure key)) (kk : kAt H k key) (hv : GivesR tv σ H R) : GivesR (tPlus w tr tk tv) σ H (fun H' u H'' => ∃ H1 H2 v M, Same H' H1 ∧ Same H1 H2 ∧ R H1 v H2 ∧ Same H2 H'' ∧ u = .ref M ∧ H2 M = none ∧ H'' M = some (mdo w M (mergeH [] (es ++ [(k, key, v)])))) := fun H' s Q q => hr H' s _ fun x Hx s1 z => by
  obtain ⟨rfl, rfl⟩ := z
  refine ⟨r, es, rfl, .inl (s _ _ at_), fun H1 p ts k1 n1 n2 n3 e1 pr => ?_⟩
  have sb : Same Hx H1 := k1
  refine hk H1 (s.trans sb) _ fun y Hy s3 z => ?_
  obtain ⟨rfl, rfl⟩ := z
  refine hv Hy (s.trans sb) _ fun v H2 s4 rv => ⟨by show 2 ≤ sizeLine; decide, fun T nT => ⟨by show 1 ≤ sizeLine; decide, fun L nL => ?_⟩⟩
  have sT := same_upd (o := HO.tup [y, v]) nT
  have sL := same_upd (o := HO.lst [.ref T]) nL
  refine ⟨p, L, _, _, rfl, rfl, sL _ _ (sT _ _ (s4 _ _ e1)), upd_same, ?_, fun C nC => ?_⟩
  · have h1 := Paired.length pr
    rw [List.length_map]
    show _ + 1 ≤ sizeLine
    have := small1000 (n := ts.length + 1) (by omega)
    omega
  have sC := same_upd (o := HO.lst (ts.map V.ref ++ [.ref T])) nC
  have sAll := ((s4.trans sT).trans sL).trans sC
  refine ⟨C, ts ++ [T], es ++ [(k, y, v)], rfl, by rw [upd_same, List.map_append]; rfl, ?_, fun e he => ?_, by rw [List.length_append]; show _ + 1 ≤ 900; omega, fun M nM => ?_⟩
  · refine paired_append (paired_mono pr fun t q h => sAll _ _ h) (.cons (sC _ _ (sL _ _ upd_same)) .nil)
  · rcases List.mem_append.mp he with z | z
    · exact (ka e z).mono (tup_same ((s.trans sb).trans sAll))
    · rw [List.mem_singleton.mp z]
      exact kk.mono (tup_same ((s.trans sb).trans sAll))
  have sM := same_upd (o := mdo w M (mergeH [] (es ++ [(k, y, v)]))) nM
  refine q _ _ ((sb.trans sAll).trans sM) ⟨Hy, H2, v, M, sb, s4, rv, ((sT.trans sL).trans sC).trans sM, rfl, ?_, upd_same⟩
  exact ((sT.trans sL).trans sC).free nM
/-- with a new key -/
theorem plus_new {w : World} {S : Addr → Prop} {tr tk tv : TE} {σ : St} {H : Hp} {r : Addr} {es : List MRow} {kvs : List (PyData × PyData)} {fv : List Addr} {k : NestedKey} {key : V} {kd : PyData} {G G' : PyData → Prop} (hr : GivesR tr σ H (Pure (.ref r))) (D : DictAt w H r es kvs fv) (lo : ∀ a ∈ fv, S a) (le : es.length ≤ 100)
    (hk : GivesR tk σ H (Pure key)) (kk : kAt H k key) (rk : RepA w H key kd []) (fresh : k ∉ es.map (·.1)) (hv : GivesR tv σ H (Dat w S G)) (gg : ∀ d, G d → G' (.dict (kvs ++ [(kd, d)]))) : GivesR (tPlus w tr tk tv) σ H (Dat w S G') := fun H' s Q q =>
  plus_raw hr D.at_ D.ka le hk kk hv H' s Q fun u H'' s2 ⟨H1, H2, v, M, t1, t12, ⟨d, f, rv, gd, lf⟩, t2, e1, nM, eM⟩ => by
    subst e1
    have sH2 := s.trans (t1.trans t12)
    refine q _ _ s2 ⟨_, M :: (fv ++ f), ((D.same sH2).more (kk.mono (tup_same sH2)) (rk.same sH2) rv fresh t2 nM eM).rep, gg d gd, fun a ha => ?_⟩
    rcases List.mem_cons.mp ha with rfl | z
    · exact .inl ((t1.trans t12).free nM)
    rcases List.mem_append.mp z with z | z
    · exact .inr (lo a z)
    · exact (lf a z).back t1
/-- with a value for a key that is there -/
theorem plus_other {w : World} {S : Addr → Prop} {tr tk tv : TE} {σ : St} {H : Hp} {r : Addr} {ls : List (Str × Str)} {x : Str} {v : V} {d : PyData} {f : List Addr} {G' : PyData → Prop} (hr : GivesR tr σ H (Pure (.ref r))) (e0 : H r = some (mdo w r (rowsT ls))) (nd : (ls.map (·.1)).Nodup) (le : ls.length ≤ 100)
    (hk : GivesR tk σ H (Pure (.str x))) (hx : x ∈ ls.map (·.1)) (hv : GivesR tv σ H (Pure v)) (rv : RepA w H v d f) (lf : ∀ a ∈ f, S a) (gg : ∀ j, j < ls.length → G' (.dict ((kvT ls).set j (.str x, d)))) : GivesR (tPlus w tr tk tv) σ H (Dat w S G') := fun H' s Q q =>
  plus_raw hr e0 (rowsT_all _ _) (by rw [rowsT_len]; exact le) hk (kAt.text H x) hv H' s Q fun u H'' s2 ⟨H1, H2, v', M, t1, t12, ⟨ev, eH⟩, t2, e1, nM, eM⟩ => by
    subst e1 ev eH
    have sH2 := s.trans t1
    obtain ⟨es, j, f', hj, D, sub⟩ := DictAt.other (sH2 _ _ e0) nd hx (rv.same sH2) t2 nM eM
    refine q _ _ s2 ⟨_, M :: f', D.rep, gg j hj, fun a ha => ?_⟩
    rcases List.mem_cons.mp ha with rfl | z
    · exact .inl (t1.free nM)
    · exact .inr (lf a (sub a z))
/-- an item of a list that stands -/
theorem pure_ix {K : PySem.W.Frag} {i : Nat} {n : Int} {j : Nat} {σ : St} {H : Hp} {l : Addr} {xs : List V} {v : V} (hi : GivesR (tVar i) σ H (Pure (.ref l))) (e : H l = some (.lst xs)) (hn : n = ((j : Nat) : Int)) (hv : xs[j]? = some v) : GivesR (tOp (rIxL K) (tVar i) (tC (.int n))) σ H (Pure v) := fun H' s Q q =>
  hi H' s _ fun x Hx s1 z => by
    obtain ⟨rfl, rfl⟩ := z
    subst hn
    exact ⟨l, xs, _, v, rfl, rfl, .inl (.inl (s _ _ e)), atN hv, q v _ (same_refl _) ⟨rfl, rfl⟩⟩
theorem pure_var {i : Nat} {σ : St} {H : Hp} {v : V} (e : σ[i]? = some (some v)) : GivesR (tVar i) σ H (Pure v) := fun H' s Q q => ⟨v, e, q v H' (same_refl _) ⟨rfl, rfl⟩⟩
/-- a bag of drawn things -/
structure Bag (w : World) (S : Addr → Prop) (H : Hp) (L : Addr) (G : PyData → Prop) (vs : List V) : Prop where
  at_ : H L = some (.lst vs)
  ex : ∃ ds f, RepAA w H vs ds f ∧ (∀ d ∈ ds, G d) ∧ ∀ a ∈ f, S a ∧ a ≠ L
theorem repAll_mem {w : World} {H : Hp} : ∀ {vs : List V} {ds : List PyData} {f : List Addr} {v : V}, RepAA w H vs ds f → v ∈ vs → ∃ d g, RepA w H v d g ∧ d ∈ ds ∧ ∀ a ∈ g, a ∈ f
  | _, _, _, _, .nil, h => nomatch h
  | _, _, _, _, .cons (f1 := f1) (f2 := f2) r rs, h => by
    rcases List.mem_cons.mp h with rfl | h
    · exact ⟨_, f1, r, List.mem_cons_self, fun a ha => List.mem_append_left _ ha⟩
    · obtain ⟨d, g, r2, hd, sub⟩ := repAll_mem rs h
      exact ⟨d, g, r2, List.mem_cons_of_mem _ hd, fun a ha => List.mem_append_right _ (sub a ha)⟩
/-- one of it -/
theorem Bag.one {w : World} {S : Addr → Prop} {H : Hp} {L : Addr} {G : PyData → Prop} {vs : List V} {v : V} (b : Bag w S H L G vs) (h : v ∈ vs) : ∃ d f, RepA w H v d f ∧ G d ∧ ∀ a ∈ f, S a := by
  obtain ⟨ds, f, rs, gs, lo⟩ := b.ex
  obtain ⟨d, g, r, hd, sub⟩ := repAll_mem rs h
  exact ⟨d, g, r, gs d hd, fun a ha => (lo a (sub a ha)).1⟩
/-- one more -/
theorem Bag.snoc {w : World} {S : Addr → Prop} {H : Hp} {L : Addr} {G : PyData → Prop} {vs : List V} {v : V} {d : PyData} {f : List Addr} (b : Bag w S H L G vs) (r : RepA w H v d f) (g : G d) (lo : ∀ a ∈ f, S a ∧ a ≠ L) : Bag w S (upd H L (.lst (vs ++ [v]))) L G (vs ++ [v]) := by
  obtain ⟨at_, ds, f0, rs, gs, lo0⟩ := b
  have all : ∀ a ∈ f0 ++ f, S a ∧ a ≠ L := fun a ha => (List.mem_append.mp ha).elim (lo0 a) (lo a)
  refine ⟨upd_same, ds ++ [d], f0 ++ f, repA_updL at_ (repAA_snoc rs r) fun a ha => (all a ha).2, fun x hx => ?_, all⟩
  rcases List.mem_append.mp hx with z | z
  · exact gs x z
  · rw [List.mem_singleton.mp z]
    exact g
theorem Bag.same {w : World} {S : Addr → Prop} {H H' : Hp} {L : Addr} {G : PyData → Prop} {vs : List V} (b : Bag w S H L G vs) (s : Same H H') : Bag w S H' L G vs := by
  obtain ⟨at_, ds, f0, rs, gs, lo0⟩ := b
  exact ⟨s _ _ at_, ds, f0, rs.same s, gs, lo0⟩
theorem Bag.but {w : World} {S : Addr → Prop} {H H' : Hp} {L p : Addr} {G : PyData → Prop} {vs : List V} {rows : List (Key × V)} (b : Bag w S H L G vs) (s : SameBut p H H') (hp : H p = some (.dK rows)) (np : ¬ S p) : Bag w S H' L G vs := by
  obtain ⟨at_, ds, f0, rs, gs, lo0⟩ := b
  refine ⟨s L _ (fun z => ?_) at_, ds, f0, repA_but s hp rs (fun a ha z => ?_), gs, lo0⟩
  · subst z
    rw [hp] at at_
    cases at_
  · subst z
    exact np (lo0 a ha).1
theorem repAll_app {w : World} {H : Hp} : ∀ {vs : List V} {ds : List PyData} {f : List Addr} {us : List V} {es : List PyData} {g : List Addr}, RepAA w H vs ds f → RepAA w H us es g → RepAA w H (vs ++ us) (ds ++ es) (f ++ g)
  | _, _, _, _, _, _, .nil, r => r
  | _, _, _, _, _, _, .cons (f1 := f1) (f2 := f2) h t, r => by
    rw [List.append_assoc]
    exact .cons h (repAll_app t r)
theorem Bag.of {w : World} {S : Addr → Prop} {H : Hp} {L : Addr} {G : PyData → Prop} {vs : List V} {ds : List PyData} {f : List Addr} (r : RepAA w H vs ds f) (g : ∀ d ∈ ds, G d) (lo : ∀ a ∈ f, S a) (n : H L = none) : Bag w S (upd H L (.lst vs)) L G vs :=
  ⟨upd_same, ds, f, r.same (same_upd n), g, fun a ha => ⟨lo a ha, fun z => r.dom a ha (z ▸ n)⟩⟩
theorem Bag.cat {w : World} {S : Addr → Prop} {H H1 : Hp} {L L2 : Addr} {G : PyData → Prop} {vs us : List V} {es : List PyData} {g : List Addr} (b : Bag w S H L G vs) (s : Same H H1) (r : RepAA w H1 us es g) (ge : ∀ d ∈ es, G d) (lo : ∀ a ∈ g, S a) (n : H1 L2 = none) : Bag w S (upd H1 L2 (.lst (vs ++ us))) L2 G (vs ++ us) := by
  obtain ⟨at_, ds, f, rs, gs, lf⟩ := b
  refine Bag.of (repAll_app (rs.same s) r) (fun d hd => ?_) (fun a ha => ?_) n
  · rcases List.mem_append.mp hd with z | z
    · exact gs d z
    · exact ge d z
  · rcases List.mem_append.mp ha with z | z
    · exact (lf a z).1
    · exact lo a z
/-- all but a list that is not among them stays -/
theorem repL_but {w : World} {L : Addr} {H H' : Hp} {xs : List V} {vs : List V} {ds : List PyData} {f : List Addr} (sb : SameBut L H H') (hL : H L = some (.lst xs)) (r : RepAA w H vs ds f) (nf : ∀ a ∈ f, a ≠ L) : RepAA w H' vs ds f := by
  refine r.keep ⟨fun a ha => ?_, fun a xs e => sb a _ (fun z => ?_) e⟩
  · cases e : H a with
    | none => exact absurd e (r.dom a ha)
    | some o => exact sb a o (nf a ha) e
  · rw [z, hL] at e
    cases e
end KF
end L2
end
/-! ### CL -/
section
namespace L2
namespace KF
open PySem PySem.Spec PyProof.Rows
/-! ## readings opened step by step -/
theorem c_next {D : Ends} {σ : St} {H : Hp} (h : D.nx σ H) : tNext D σ H := h
theorem c_seq {t u : TS} {D : Ends} {σ : St} {H : Hp} (h : t { D with nx := u D } σ H) : tSeq t u D σ H := h
theorem c_ret {t : TE} {D : Ends} {σ : St} {H : Hp} (h : t σ H D.rt) : tRet t D σ H := h
theorem c_lst {t : TA} {σ : St} {H : Hp} {Q : VK} (h : t σ H fun xs H1 => xs.length ≤ sizeLine ∧ ∀ p, H1 p = none → Q (.ref p) (upd H1 p (.lst xs))) : tLst t σ H Q := h
theorem c_cons {t : TE} {u : TA} {σ : St} {H : Hp} {Q : List V → Hp → Prop} (h : t σ H fun x H1 => u σ H1 fun xs H2 => Q (x :: xs) H2) : tCons t u σ H Q := h
theorem c_asg {t : TE} {g : TG} {D : Ends} {σ : St} {H : Hp} (h : t σ H fun x H1 => g x σ H1 D.nx) : tAsg t g D σ H := h
theorem c_name {i : Nat} {x : V} {σ : St} {H : Hp} {Q : St → Hp → Prop} (h : Q (σ.set i (some x)) H) : gName i x σ H Q := h
theorem c_nx {nx bk ct : St → Hp → Prop} {rt : VK} {σ : St} {H : Hp} (h : nx σ H) : (Ends.mk nx rt bk ct).nx σ H := h
theorem c_for {K : PySem.W.Frag} {te : TE} {g : TG} {tb : TS} {D : Ends} {σ : St} {H : Hp} (h : te σ H fun x H1 => ∃ a, x = .ref a ∧ (∃ xs, SqL K H1 a xs) ∧ ∃ W : Nat → Nat → St → Hp → Prop, (∃ m, W 0 m σ H1) ∧ ∀ i m σ H, W i m σ H →
    ((Itl K a).stop i H ∧ D.nx σ H) ∨ ((Itl K a).go i H ∧ ∃ N : St → Hp → Prop, (∀ σ' H', N σ' H' → ∃ m', m' < m ∧ W (i + 1) m' σ' H') ∧ ∀ x H', (Itl K a).yld i H x H' → g x σ H' fun σ2 H2 => tb { D with nx := N, ct := N, bk := D.nx } σ2 H2)) : tFor (iList K te) g tb D σ H := h
theorem c_op {r : R2} {ta tb : TE} {σ : St} {H : Hp} {Q : VK} (h : ta σ H fun x H1 => tb σ H1 fun y H2 => r x y H2 Q) : tOp r ta tb σ H Q := h
theorem c_cut {t u : TS} {D : Ends} {σ : St} {H : Hp} (P : St → Hp → Prop) (tail : ∀ σ H, P σ H → u D σ H) (h : (∀ σ H, P σ H → u D σ H) → t { D with nx := u D } σ H) : tSeq t u D σ H := h tail
theorem c_const {v : V} {σ : St} {H : Hp} {Q : VK} (h : Q v H) : tC v σ H Q := h
theorem c_lc {wi : TI} {g : TG} {tt : TT} {te : TE} {vs : List Nat} {σ : St} {H : Hp} {Q : VK} (h : wi σ H fun J H1 => ∀ D, H1 D = none → ∃ W : Nat → Nat → Hp → Prop, (∃ m, W 0 m (upd H1 D (.lst []))) ∧ ∀ i m H, W i m H →
    (J.stop i H ∧ Q (.ref D) H) ∨ (J.go i H ∧ ∃ Nx : Hp → Prop, (∀ H', Nx H' → ∃ m', m' < m ∧ W (i + 1) m' H') ∧ ∀ x H', J.yld i H x H' → g x (wipe σ vs) H' fun σ2 H2 => wipe σ2 vs = wipe σ vs ∧ tt σ2 H2 fun b H3 =>
      if b = true then te σ2 H3 fun y H4 => ∃ acc, H4 D = some (.lst acc) ∧ acc.length < sizeLine ∧ Nx (upd H4 D (.lst (acc ++ [y]))) else Nx H3)) : tLc wi g tt te vs σ H Q := h
end KF
end L2
end
/-! ### PB -/
section
namespace L2
namespace KF
open PySem PySem.Spec PyProof.Rows PySem.KD KE KC PySem.KA KM TL
/-! ## _law_bent_row -/
/-! ### rows of levels -/
structure RowOk (lv : List Str) (ls : List (Str × Str)) : Prop where
  nd : (ls.map (·.1)).Nodup
  few : ls.length ≤ 3
  word : ∀ q ∈ ls, isWordL (tl q.1) = true ∧ (tl q.1).take 2 ≠ [113, 113]
  lev : ∀ q ∈ ls, q.2 ∈ lv
  lv_ : lv = endL ∨ lv = readL
/-- a bent row -/
def BentR (lv : List Str) (d : PyData) : Prop := Nice 3 10 200 d ∧ rowD lv d = false
theorem rowD_key {lv : List Str} {kvs : List (PyData × PyData)} {k d : PyData} (h : wordD k = false) : rowD lv (.dict (kvs ++ [(k, d)])) = false := by
  simp only [rowD, List.all_append, List.all_cons, List.all_nil, h, Bool.false_and, Bool.and_false]
theorem rowD_val {lv : List Str} {kvs : List (PyData × PyData)} {k d : PyData} (h : levD lv d = false) : rowD lv (.dict (kvs ++ [(k, d)])) = false := by
  simp only [rowD, List.all_append, List.all_cons, List.all_nil, h, Bool.false_and, Bool.and_false]
theorem rowD_set {lv : List Str} {kvs : List (PyData × PyData)} {k d : PyData} {j : Nat} (hj : j < kvs.length) (h : levD lv d = false) : rowD lv (.dict (kvs.set j (k, d))) = false := by
  simp only [rowD]
  refine List.all_eq_false.mpr ⟨(k, d), List.mem_set hj _, ?_⟩
  simp only [h, Bool.and_false, Bool.false_eq_true, not_false_eq_true]
theorem RowOk.fresh {lv : List Str} {ls : List (Str × Str)} (R : RowOk lv ls) {x : Str} (h : isWordL (tl x) = false ∨ (tl x).take 2 = [113, 113]) : NestedKey.text x ∉ (rowsT ls).map (·.1) := fun z => by
  rw [rowsT_keys] at z
  obtain ⟨y, hy, e⟩ := List.mem_map.mp z
  injection e with e
  subst e
  obtain ⟨q, hq, e⟩ := List.mem_map.mp hy
  subst e
  obtain ⟨h1, h2⟩ := R.word q hq
  rcases h with h | h
  · rw [h1] at h
    cases h
  · exact h2 h
theorem fresh_num (ls : List (Str × Str)) (i : Int) : NestedKey.num i ∉ (rowsT ls).map (·.1) := fun z => by
  rw [rowsT_keys] at z
  obtain ⟨y, _, e⟩ := List.mem_map.mp z
  cases e
theorem kvT_len (ls : List (Str × Str)) : (kvT ls).length = ls.length := List.length_map ..
theorem RowOk.nice {lv : List Str} {ls : List (Str × Str)} (R : RowOk lv ls) : ∀ p ∈ kvT ls, Nice 1 1 20 p.1 ∧ Nice 1 1 20 p.2 := kvT_nice (fun q hq => (R.word q hq).1) R.lev R.lv_
theorem RowOk.more {lv : List Str} {ls : List (Str × Str)} (R : RowOk lv ls) {k d : PyData} (hk : Nice 1 1 20 k) (hd : Nice 2 2 21 d) : Nice 3 10 200 (.dict (kvT ls ++ [(k, d)])) := by
  have few := R.few
  refine (Nice.dict (D := 2) (N := 2) (W := 21) (k := 4) (fun p hp => ?_) (by rw [List.length_append, kvT_len]; show _ + 1 ≤ 4; omega)).mono (by decide) (by decide) (by decide)
  rcases List.mem_append.mp hp with z | z
  · have := R.nice p z
    exact ⟨this.1.mono (by decide) (by decide) (by decide), this.2.mono (by decide) (by decide) (by decide)⟩
  · rw [List.mem_singleton.mp z]
    exact ⟨hk.mono (by decide) (by decide) (by decide), hd⟩
theorem RowOk.set {lv : List Str} {ls : List (Str × Str)} (R : RowOk lv ls) {k d : PyData} {j : Nat} (hk : Nice 1 1 20 k) (hd : Nice 2 2 21 d) : Nice 3 10 200 (.dict ((kvT ls).set j (k, d))) := by
  have few := R.few
  refine (Nice.dict (D := 2) (N := 2) (W := 21) (k := 4) (fun p hp => ?_) (by rw [List.length_set, kvT_len]; omega)).mono (by decide) (by decide) (by decide)
  rcases List.mem_or_eq_of_mem_set hp with z | z
  · have := R.nice p z
    exact ⟨this.1.mono (by decide) (by decide) (by decide), this.2.mono (by decide) (by decide) (by decide)⟩
  · rw [z]
    exact ⟨hk.mono (by decide) (by decide) (by decide), hd⟩
theorem RowOk.items {lv : List Str} {ls : List (Str × Str)} (R : RowOk lv ls) : Nice 3 10 200 (.list ((kvT ls).map fun p => .tuple [p.1, p.2])) := by
  have few := R.few
  refine (Nice.list (D := 2) (N := 3) (W := 42) (k := 3) (fun d hd => ?_) (by rw [List.length_map, kvT_len]; exact few)).mono (by decide) (by decide) (by decide)
  obtain ⟨p, hp, rfl⟩ := List.mem_map.mp hd
  obtain ⟨h1, h2⟩ := R.nice p hp
  refine (Nice.tuple (D := 1) (N := 1) (W := 20) (k := 2) (fun x hx => ?_) (Nat.le_refl _)).mono (by decide) (by decide) (by decide)
  rcases List.mem_cons.mp hx with rfl | hx
  · exact h1
  · rw [List.mem_singleton.mp hx]
    exact h2
section
variable {P : Program} {w : World} {K : PySem.W.Frag} {mg : Str → Option Value} {base : Heap}
def spBR (K : PySem.W.Frag) (w : World) : Sp := fun vs H Q _ => ∃ (p c r l : Addr) (ns : List Int) (a : Int) (ls : List (Str × Str)) (lv : List Str), vs = [.ref p, .ref r, .ref l] ∧ Pn H p c ns a ∧ a ≤ 900000 ∧ H r = some (mdo w r (rowsT ls)) ∧ H l = some (.lst (lv.map V.str)) ∧ RowOk lv ls ∧
  ∀ H' v d f a', SameBut p H H' → Pn H' p c ns a' → a' ≤ a + 2 → RepA w H' v d f → BentR lv d → (∀ x ∈ f, Lo (fun a => ∃ es, H a = some (mdo w a es)) H x) → Q v H'
end
end KF
end L2
end
/-! ### PF -/
section
namespace L2
namespace KF
open PySem PySem.Spec PyProof.Rows PySem.KD KE KC PySem.KA KM TL
/-! ## bent finals -/
/-- drawn finals as they are handed on -/
structure FinOk (words : List Str) (fs : List Fin) : Prop where
  wnd : words.Nodup
  few : words.length ≤ 3
  word : ∀ x ∈ words, isWordL (tl x) = true ∧ (tl x).take 2 ≠ [113, 113]
  fk : (fs.map (·.1)).Nodup
  fo : ∀ q ∈ fs, q.1 ∈ outL
  n3 : fs.length ≤ 3
def BentO (d : PyData) : Prop := Nice 5 70 3000 d ∧ finD d = false
theorem FinOk.row {w : World} {H : Hp} {words : List Str} {fs : List Fin} (FO : FinOk words fs) (FA : FsAt w H words fs) {q : Fin} (hq : q ∈ fs) : RowOk endL q.2.2 := by
  have k := FA.keys q hq
  refine ⟨by rw [k]; exact FO.wnd, ?_, fun z hz => FO.word z.1 (by rw [← k]; exact List.mem_map_of_mem hz), FA.lev q hq, .inl rfl⟩
  have := FO.few
  rw [← k, List.length_map] at this
  exact this
theorem row_empty : RowOk endL [] := ⟨List.nodup_nil, by decide, (fun _ z => nomatch z), (fun _ z => nomatch z), .inl rfl⟩
theorem RowOk.self {lv : List Str} {ls : List (Str × Str)} (R : RowOk lv ls) : Nice 3 10 200 (.dict (kvT ls)) :=
  (Nice.dict (D := 1) (N := 1) (W := 20) (k := 3) R.nice (by rw [kvT_len]; exact R.few)).mono (by decide) (by decide) (by decide)
theorem out_nice : ∀ x ∈ outL, Nice 1 1 20 (.str x) := by
  intro x hx
  simp only [List.mem_cons, List.not_mem_nil, or_false] at hx
  rcases hx with rfl | rfl | rfl | rfl <;> exact nice_str (by decide +kernel) (by decide +kernel)
theorem kvF_nice {w : World} {H : Hp} {words : List Str} {fs : List Fin} (FO : FinOk words fs) (FA : FsAt w H words fs) : ∀ p ∈ kvF fs, Nice 3 10 200 p.1 ∧ Nice 3 10 200 p.2 := fun p hp => by
  obtain ⟨q, hq, rfl⟩ := List.mem_map.mp hp
  exact ⟨(out_nice _ (FO.fo q hq)).mono (by decide) (by decide) (by decide), (FO.row FA hq).self⟩
theorem kvF_len (fs : List Fin) : (kvF fs).length = fs.length := List.length_map ..
theorem fin_nice {kvs : List (PyData × PyData)} (h : ∀ p ∈ kvs, Nice 3 10 200 p.1 ∧ Nice 3 10 200 p.2) (l : kvs.length ≤ 4) : Nice 5 70 3000 (.dict kvs) := (Nice.dict (k := 4) h l).mono (by decide) (by decide) (by decide)
theorem fin_more {w : World} {H : Hp} {words : List Str} {fs : List Fin} (FO : FinOk words fs) (FA : FsAt w H words fs) {k d : PyData} (hk : Nice 3 10 200 k) (hd : Nice 3 10 200 d) : Nice 5 70 3000 (.dict (kvF fs ++ [(k, d)])) := by
  have := FO.n3
  refine fin_nice (fun p hp => ?_) (by rw [List.length_append, kvF_len]; show _ + 1 ≤ 4; omega)
  rcases List.mem_append.mp hp with z | z
  · exact kvF_nice FO FA p z
  · rw [List.mem_singleton.mp z]
    exact ⟨hk, hd⟩
theorem fin_items {w : World} {H : Hp} {words : List Str} {fs : List Fin} (FO : FinOk words fs) (FA : FsAt w H words fs) : BentO (.list ((kvF fs).map fun p => .tuple [p.1, p.2])) := by
  refine ⟨(Nice.list (D := 4) (N := 21) (W := 402) (k := 3) (fun d hd => ?_) (by rw [List.length_map, kvF_len]; exact FO.n3)).mono (by decide) (by decide) (by decide), rfl⟩
  obtain ⟨p, hp, rfl⟩ := List.mem_map.mp hd
  obtain ⟨h1, h2⟩ := kvF_nice FO FA p hp
  refine (Nice.tuple (D := 3) (N := 10) (W := 200) (k := 2) (fun x hx => ?_) (Nat.le_refl _)).mono (by decide) (by decide) (by decide)
  rcases List.mem_cons.mp hx with rfl | hx
  · exact h1
  · rw [List.mem_singleton.mp hx]
    exact h2
theorem finD_key {kvs : List (PyData × PyData)} {k d : PyData} (h : outD k = false) : finD (.dict (kvs ++ [(k, d)])) = false := by
  show ((kvs ++ [(k, d)]).all (fun p => outD p.1 && rowD endL p.2) && (kvs ++ [(k, d)]).all fun p => (kvs ++ [(k, d)]).all fun q => sameW p.2 q.2) = false
  rw [List.all_append, List.all_cons, h, Bool.false_and, Bool.false_and, Bool.and_false, Bool.false_and]
theorem finD_row {kvs : List (PyData × PyData)} {k d : PyData} (hm : (k, d) ∈ kvs) (h : rowD endL d = false) : finD (.dict kvs) = false := by
  show (kvs.all (fun p => outD p.1 && rowD endL p.2) && kvs.all fun p => kvs.all fun q => sameW p.2 q.2) = false
  have : kvs.all (fun p => outD p.1 && rowD endL p.2) = false := List.all_eq_false.mpr ⟨(k, d), hm, by simp only [h, Bool.and_false, Bool.false_eq_true, not_false_eq_true]⟩
  rw [this, Bool.false_and]
theorem finD_words {kvs : List (PyData × PyData)} {p : PyData × PyData} {k d : PyData} (hp : p ∈ kvs) (h : sameW p.2 d = false) : finD (.dict (kvs ++ [(k, d)])) = false := by
  show ((kvs ++ [(k, d)]).all (fun p => outD p.1 && rowD endL p.2) && (kvs ++ [(k, d)]).all fun p => (kvs ++ [(k, d)]).all fun q => sameW p.2 q.2) = false
  have : (kvs ++ [(k, d)]).all (fun p => (kvs ++ [(k, d)]).all fun q => sameW p.2 q.2) = false := by
    refine List.all_eq_false.mpr ⟨p, List.mem_append_left _ hp, ?_⟩
    have : (kvs ++ [(k, d)]).all (fun q => sameW p.2 q.2) = false := List.all_eq_false.mpr ⟨(k, d), by simp, by simp only [h, Bool.false_eq_true, not_false_eq_true]⟩
    rw [this]
    exact Bool.false_ne_true
  rw [this, Bool.and_false]
/-- a row with a word that the other one has not -/
theorem same_not {a b : PyData} {p : PyData × PyData} (hp : p ∈ kvOf b) (h : inK p.1 a = false) : sameW a b = false := by
  unfold sameW
  have : (kvOf b).all (fun p => inK p.1 a) = false := List.all_eq_false.mpr ⟨p, hp, by simp only [h, Bool.false_eq_true, not_false_eq_true]⟩
  rw [this, Bool.and_false]
theorem not_inK {lv : List Str} {ls : List (Str × Str)} (R : RowOk lv ls) {x : Str} (h : isWordL (tl x) = false ∨ (tl x).take 2 = [113, 113]) : inK (.str x) (.dict (kvT ls)) = false := by
  unfold inK
  refine List.any_eq_false.mpr fun p hp => ?_
  obtain ⟨q, hq, rfl⟩ := List.mem_map.mp hp
  obtain ⟨h1, h2⟩ := R.word q hq
  show ¬ decide (x = q.1) = true
  intro z
  have e := of_decide_eq_true z
  rw [← e] at h1 h2
  rcases h with h | h
  · rw [h1] at h
    cases h
  · exact h2 h
/-- what stands there of finals and a row -/
structure FinB (w : World) (H : Hp) (D r : Addr) (words : List Str) (fs : List Fin) (ls : List (Str × Str)) : Prop where
  hD : H D = some (mdo w D (rowsF fs))
  FA : FsAt w H words fs
  hr : H r = some (mdo w r (rowsT ls))
  na : D ∉ fs.map (·.2.1)
theorem FinB.keep {w : World} {H H' : Hp} {D r : Addr} {words : List Str} {fs : List Fin} {ls : List (Str × Str)} (b : FinB w H D r words fs ls) (h : ∀ x o, (∃ es, o = mdo w x es) → H x = some o → H' x = some o) : FinB w H' D r words fs ls :=
  ⟨h _ _ ⟨_, rfl⟩ b.hD, ⟨fun q hq => h _ _ ⟨_, rfl⟩ (b.FA.at_ q hq), b.FA.keys, b.FA.lev⟩, h _ _ ⟨_, rfl⟩ b.hr, b.na⟩
theorem FinB.same {w : World} {H H' : Hp} {D r : Addr} {words : List Str} {fs : List Fin} {ls : List (Str × Str)} (b : FinB w H D r words fs ls) (s : Same H H') : FinB w H' D r words fs ls := b.keep fun x o _ e => s x o e
theorem FinB.but {w : World} {H H' : Hp} {D r p : Addr} {words : List Str} {fs : List Fin} {ls : List (Str × Str)} (b : FinB w H D r words fs ls) (s : SameBut p H H') (hp : ∀ es, H p ≠ some (mdo w p es)) : FinB w H' D r words fs ls := b.keep fun x o ⟨es, eo⟩ e => s x o (fun z => by
  subst z eo
  exact hp es e) e
theorem FinB.dict {w : World} {H : Hp} {D r : Addr} {words : List Str} {fs : List Fin} {ls : List (Str × Str)} (b : FinB w H D r words fs ls) (FO : FinOk words fs) : DictAt w H D (rowsF fs) (kvF fs) (fs.map (·.2.1)) := rowsF_at b.hD b.FA FO.wnd FO.fk b.na
theorem fin_fresh {words : List Str} {fs : List Fin} (FO : FinOk words fs) {k : NestedKey} (h : ∀ x ∈ outL, k ≠ .text x) : k ∉ (rowsF fs).map (·.1) := fun z => by
  rw [rowsF_keys] at z
  obtain ⟨y, hy, e⟩ := List.mem_map.mp z
  obtain ⟨q, hq, e2⟩ := List.mem_map.mp hy
  exact h y (e2 ▸ FO.fo q hq) e.symm
/-- one key more -/
theorem plus_fin {w : World} {H : Hp} {D r : Addr} {words : List Str} {fs : List Fin} {ls : List (Str × Str)} {tr tk tv : TE} {σ : St} {S : Addr → Prop} {k : NestedKey} {key : V} {kd : PyData} {G G' : PyData → Prop} (b : FinB w H D r words fs ls) (FO : FinOk words fs) (hS : ∀ q ∈ fs, S q.2.1)
    (hr : GivesR tr σ H (Pure (.ref D))) (hk : GivesR tk σ H (Pure key)) (kk : kAt H k key) (rk : RepA w H key kd []) (fresh : ∀ x ∈ outL, k ≠ .text x) (hv : GivesR tv σ H (Dat w S G)) (gg : ∀ d, G d → G' (.dict (kvF fs ++ [(kd, d)]))) : GivesR (tPlus w tr tk tv) σ H (Dat w S G') :=
  plus_new hr (b.dict FO) (fun a ha => by
    obtain ⟨q, hq, rfl⟩ := List.mem_map.mp ha
    exact hS q hq) (by rw [rowsF_len]; have := FO.n3; omega) hk kk rk (fin_fresh FO fresh) hv gg
/-! ## a row put in between -/
theorem repAll_ins {w : World} {H : Hp} {v : V} {d : PyData} {g : List Addr} (r : RepA w H v d g) : ∀ {vs : List V} {ds : List PyData} {f : List Addr} (n : Nat), RepAA w H vs ds f → ∃ f', RepAA w H (vs.take n ++ [v] ++ vs.drop n) (ds.take n ++ [d] ++ ds.drop n) f' ∧ ∀ a ∈ f', a ∈ f ∨ a ∈ g
  | vs, ds, f, 0, h => ⟨g ++ f, .cons r h, fun a ha => (List.mem_append.mp ha).elim .inr .inl⟩
  | _, _, _, n + 1, .nil => ⟨g ++ [], .cons r .nil, fun a ha => (List.mem_append.mp ha).elim .inr fun z => nomatch z⟩
  | _, _, _, n + 1, .cons (f1 := f1) (f2 := f2) h t => by
    obtain ⟨f', r1, r2⟩ := repAll_ins r n t
    refine ⟨f1 ++ f', .cons h r1, fun a ha => ?_⟩
    rcases List.mem_append.mp ha with z | z
    · exact .inl (List.mem_append_left _ z)
    · rcases r2 a z with y | y
      · exact .inl (List.mem_append_right _ y)
      · exact .inr y
theorem paired_ins {α β : Type} {R : α → β → Prop} {x : α} {y : β} (r : R x y) : ∀ {xs : List α} {ys : List β} (n : Nat), Paired R xs ys → Paired R (xs.take n ++ [x] ++ xs.drop n) (ys.take n ++ [y] ++ ys.drop n)
  | xs, ys, 0, h => .cons r h
  | _, _, n + 1, .nil => .cons r .nil
  | _, _, n + 1, .cons h t => .cons h (paired_ins r n t)
theorem mem_ins {α : Type} {l : List α} {n : Nat} {x y : α} (h : y ∈ l.take n ++ [x] ++ l.drop n) : y = x ∨ y ∈ l := by
  rcases List.mem_append.mp h with z | z
  · rcases List.mem_append.mp z with z | z
    · exact .inr (List.mem_of_mem_take z)
    · exact .inl (List.mem_singleton.mp z)
  · exact .inr (List.mem_of_mem_drop z)
theorem nodup_ins {α : Type} {l : List α} {n : Nat} {x : α} (h : l.Nodup) (hx : x ∉ l) : (l.take n ++ [x] ++ l.drop n).Nodup := by
  have p : (l.take n ++ [x] ++ l.drop n).Perm (x :: l) := by
    rw [List.append_assoc]
    have z : (l.take n ++ ([x] ++ l.drop n)).Perm (x :: (l.take n ++ l.drop n)) := List.perm_middle
    rw [List.take_append_drop] at z
    exact z
  exact p.nodup_iff.mpr (List.nodup_cons.mpr ⟨hx, h⟩)
theorem map_ins {α β : Type} (f : α → β) (l : List α) (n : Nat) (x : α) : (l.take n ++ [x] ++ l.drop n).map f = (l.map f).take n ++ [f x] ++ (l.map f).drop n := by
  rw [List.map_append, List.map_append, List.map_take, List.map_drop]
  rfl
theorem len_ins {α : Type} (l : List α) (n : Nat) (x : α) : (l.take n ++ [x] ++ l.drop n).length = l.length + 1 := by
  rw [List.length_append, List.length_append, List.length_take, List.length_drop]
  show _ + 1 + _ = _
  omega
theorem DictAt.ins {w : World} {H : Hp} {D M : Addr} {es : List MRow} {kvs : List (PyData × PyData)} {fv : List Addr} {x : Str} {v : V} {d : PyData} {g : List Addr} (n : Nat) (B : DictAt w H D es kvs fv) (r : RepA w H v d g) (fresh : NestedKey.text x ∉ es.map (·.1)) (n1 : M ∉ fv) (n2 : M ∉ g)
    (e : H M = some (mdo w M (mergeH [] (es.take n ++ [(.text x, .str x, v)] ++ es.drop n)))) : ∃ f', DictAt w H M (es.take n ++ [(.text x, .str x, v)] ++ es.drop n) (kvs.take n ++ [(.str x, d)] ++ kvs.drop n) f' ∧ ∀ a ∈ f', a ∈ fv ∨ a ∈ g := by
  have nd : ((es.take n ++ [(NestedKey.text x, V.str x, v)] ++ es.drop n).map (·.1)).Nodup := by
    rw [map_ins]
    exact nodup_ins B.nd fresh
  rw [merge_id nd] at e
  obtain ⟨f1, k1, k2⟩ := repAll_ins (w := w) (H := H) (.str x) n B.rk
  obtain ⟨f2, v1, v2⟩ := repAll_ins r n B.rv
  have f10 : f1 = [] := List.eq_nil_iff_forall_not_mem.mpr fun a ha => (k2 a ha).elim (fun z => nomatch z) fun z => nomatch z
  subst f10
  refine ⟨f2, ⟨e, fun p hp => ?_, nd, ?_, ?_, fun z => (v2 M z).elim n1 n2⟩, v2⟩
  · rcases mem_ins hp with z | z
    · rw [z]
      exact kAt.text _ _
    · exact B.ka p z
  · rw [map_ins, map_ins]
    exact k1
  · rw [map_ins, map_ins]
    exact v1
theorem finD_ins {kvs : List (PyData × PyData)} {k d : PyData} {n : Nat} (h : rowD endL d = false) : finD (.dict (kvs.take n ++ [(k, d)] ++ kvs.drop n)) = false := finD_row (k := k) (d := d) (by simp) h
theorem nice_ins {w : World} {H : Hp} {words : List Str} {fs : List Fin} (FO : FinOk words fs) (FA : FsAt w H words fs) {k d : PyData} {n : Nat} (hk : Nice 3 10 200 k) (hd : Nice 3 10 200 d) : Nice 5 70 3000 (.dict ((kvF fs).take n ++ [(k, d)] ++ (kvF fs).drop n)) := by
  have := FO.n3
  refine fin_nice (fun p hp => ?_) (by rw [len_ins, kvF_len]; omega)
  rcases mem_ins hp with z | z
  · rw [z]
    exact ⟨hk, hd⟩
  · exact kvF_nice FO FA p z
/-! ## dict(list(r.items())[1:] + [(k, v)]) -/
abbrev tPlusC (w : World) (K : PySem.W.Frag) (tr tk tv : TE) : TE := tCB (fun ys H Q => ∃ (a : Addr) (ts : List Addr) (ps : List MRow), ys = [.ref a] ∧ H a = some (.lst (ts.map .ref)) ∧ Paired (fun (t : Addr) (p : MRow) => H t = some (.tup [p.2.1, p.2.2])) ts ps ∧ KAll H ps ∧ ps.length ≤ 900 ∧ ∀ d, H d = none → Q (.ref d) (upd H d (mdo w d (mergeH [] ps))))
  (tCons (tOp rCat (tSl (rSlL K) (tItemsM w tr) (tPart (tC (.int 1))) tNoPart) (tLst (tCons (tTup (tCons tk (tCons tv tNil))) tNil))) tNil)
theorem cut_tail (xs : List V) : cutV xs (some 1) none = xs.drop 1 := by
  unfold cutV
  rw [HT.sIx_none, show (1 : Int) = ((1 : Nat) : Int) from rfl, HT.sIx_nat]
  cases xs with
  | nil => rfl
  | cons x xs =>
    have e : min 1 (x :: xs).length = 1 := by
      rw [List.length_cons]
      omega
    rw [e]
    exact List.take_of_length_le (Nat.le_of_eq List.length_drop)
theorem paired_drop {α β : Type} {R : α → β → Prop} : ∀ {xs : List α} {ys : List β}, Paired R xs ys → Paired R (xs.drop 1) (ys.drop 1)
  | _, _, .nil => .nil
  | _, _, .cons _ t => t
theorem plus_cut {w : World} {K : PySem.W.Frag} {S : Addr → Prop} {tr tk tv : TE} {σ : St} {H : Hp} {r : Addr} {ls : List (Str × Str)} {x y : Str} {G' : PyData → Prop} (hr : GivesR tr σ H (Pure (.ref r))) (e0 : H r = some (mdo w r (rowsT ls))) (nd : (ls.map (·.1)).Nodup) (le : ls.length ≤ 100)
    (hk : GivesR tk σ H (Pure (.str x))) (fresh : NestedKey.text x ∉ (rowsT ls).map (·.1)) (hv : GivesR tv σ H (Pure (.str y))) (gg : G' (.dict (kvT (ls.drop 1 ++ [(x, y)])))) : GivesR (tPlusC w K tr tk tv) σ H (Dat w S G') := fun H' s Q q => hr H' s _ fun z Hx s1 z2 => by
  obtain ⟨rfl, rfl⟩ := z2
  refine ⟨r, rowsT ls, rfl, .inl (s _ _ e0), fun H1 p ts k1 n1 n2 n3 e1 pr => ?_⟩
  have sb : Same Hx H1 := k1
  refine ⟨1, rfl, p, _, rfl, .inl (.inl e1), fun p2 np2 => ?_⟩
  rw [cut_tail]
  have s2 := same_upd (o := HO.lst ((ts.map V.ref).drop 1)) np2
  refine hk _ ((s.trans sb).trans s2) _ fun u Hy s3 z => ?_
  obtain ⟨rfl, rfl⟩ := z
  refine hv _ ((s.trans sb).trans s2) _ fun v H2 s4 z => ?_
  obtain ⟨rfl, rfl⟩ := z
  refine ⟨by show 2 ≤ sizeLine; decide, fun T nT => ⟨by show 1 ≤ sizeLine; decide, fun L nL => ?_⟩⟩
  have sT := same_upd (o := HO.tup [.str x, .str y]) nT
  have sL := same_upd (o := HO.lst [.ref T]) nL
  have lts := Paired.length pr
  rw [rowsT_len] at lts
  refine ⟨p2, L, _, _, rfl, rfl, sL _ _ (sT _ _ upd_same), upd_same, ?_, fun C nC => ?_⟩
  · rw [List.length_drop, List.length_map]
    show _ + 1 ≤ sizeLine
    have := small1000 (n := ts.length + 1) (by omega)
    omega
  have sC := same_upd (o := HO.lst ((ts.map V.ref).drop 1 ++ [.ref T])) nC
  have sAll := ((s2.trans sT).trans sL).trans sC
  have ep : (rowsT ls).drop 1 ++ [(.text x, .str x, .str y)] = rowsT (ls.drop 1 ++ [(x, y)]) := by
    unfold rowsT
    rw [List.map_append, List.map_drop]
    rfl
  have nd2 : ((ls.drop 1 ++ [(x, y)]).map (·.1)).Nodup := by
    rw [List.map_append, List.map_drop]
    refine List.nodup_append.mpr ⟨List.Sublist.nodup (List.drop_sublist 1 _) nd, by simp, fun a ha b hb e => ?_⟩
    rw [List.map_cons, List.map_nil, List.mem_singleton] at hb
    have e2 : a = x := e.trans hb
    subst e2
    refine fresh ?_
    rw [rowsT_keys]
    exact List.mem_map_of_mem (List.mem_of_mem_drop ha)
  have ndm : ((rowsT (ls.drop 1 ++ [(x, y)])).map (·.1)).Nodup := by
    rw [rowsT_keys]
    exact nd_text nd2
  refine ⟨C, ts.drop 1 ++ [T], (rowsT ls).drop 1 ++ [(.text x, .str x, .str y)], rfl, by rw [upd_same, List.map_append, List.map_drop]; rfl, ?_, ?_, ?_, fun M nM => ?_⟩
  · refine paired_append (paired_mono (paired_drop pr) fun t q h => sAll _ _ h) (.cons (sC _ _ (sL _ _ upd_same)) .nil)
  · rw [ep]
    exact rowsT_all _ _
  · rw [List.length_append, List.length_drop, rowsT_len]
    show _ + 1 ≤ 900
    omega
  rw [ep, merge_id ndm]
  have sM := same_upd (o := mdo w M (rowsT (ls.drop 1 ++ [(x, y)]))) nM
  refine q _ _ ((sb.trans sAll).trans sM) ⟨_, [M], (rowsT_at upd_same nd2).rep, gg, fun a ha => ?_⟩
  rw [List.mem_singleton.mp ha]
  exact .inl ((sb.trans sAll).free nM)
end KF
end L2
end
/-! ### PC -/
section
namespace L2
namespace KF
open PySem PySem.Spec PyProof.Rows PySem.KD KE KC PySem.KA KM TL
/-! ## _law_bent_outcomes -/
/-- a wrong key -/
def KeyG (w : World) (d : PyData) : Prop := outD d = false ∧ Nice 3 10 200 d ∧ ∃ k : NestedKey, (∀ x ∈ outL, k ≠ .text x) ∧ ∀ (H : Hp) (v : V) (f : List Addr), RepA w H v d f → kAt H k v ∧ f = []
theorem keyG_str {w : World} {x : Str} (h : outD (.str x) = false) (n : Nice 3 10 200 (.str x)) (ne : x ∉ outL) : KeyG w (.str x) := ⟨h, n, .text x, fun y hy e => by
  injection e with e
  exact ne (e ▸ hy), fun H v f r => by
  cases r
  exact ⟨kAt.text _ _, rfl⟩⟩
theorem keyG_zero {w : World} : KeyG w (.int 0) := ⟨rfl, nice_zero.mono (by decide) (by decide) (by decide), .num 0, (fun _ _ e => nomatch e), fun H v f r => by
  cases r
  exact ⟨kAt.num _ _, rfl⟩⟩
theorem keyG_none {w : World} : KeyG w .none := ⟨rfl, nice_none.mono (by decide) (by decide) (by decide), .none, (fun _ _ e => nomatch e), fun H v f r => by
  cases r
  exact ⟨kAt.none _, rfl⟩⟩
theorem keyG_true {w : World} : KeyG w (.bool true) := ⟨rfl, nice_true.mono (by decide) (by decide) (by decide), .num 1, (fun _ _ e => nomatch e), fun H v f r => by
  cases r
  exact ⟨kAt.bool _ true, rfl⟩⟩
theorem keyG_tup {w : World} {ds : List PyData} (hl : ds.length = 1) (gs : ∀ d ∈ ds, d = .str "done") : KeyG w (.tuple ds) := by
  match ds, hl with
  | [d], _ =>
    obtain rfl := gs d List.mem_cons_self
    refine ⟨rfl, (Nice.tuple (D := 1) (N := 1) (W := 20) (k := 1) (fun x hx => ?_) (Nat.le_refl _)).mono (by decide) (by decide) (by decide), .tup [.text "done"], (fun _ _ e => nomatch e), fun H v f r => ?_⟩
    · rw [List.mem_singleton.mp hx]
      exact nice_str (by decide +kernel) (by decide +kernel)
    · cases r with
      | tup e rs =>
        cases rs with
        | cons h t =>
          cases h
          cases t
          exact ⟨⟨.tup e (.cons (.text _) .nil), by decide⟩, rfl⟩
section
variable {P : Program} {w : World} {K : PySem.W.Frag} {mg : Str → Option Value} {base : Heap}
def spBO (K : PySem.W.Frag) (w : World) : Sp := fun vs H Q _ => ∃ (p c D : Addr) (ns : List Int) (a : Int) (words : List Str) (fs : List Fin), vs = [.ref p, .ref D] ∧ Pn H p c ns a ∧ a ≤ 800000 ∧ H D = some (mdo w D (rowsF fs)) ∧ D ∉ fs.map (·.2.1) ∧ FsAt w H words fs ∧ FinOk words fs ∧
  ∀ H' v d f a', SameBut p H H' → Pn H' p c ns a' → a' ≤ a + 30 → RepA w H' v d f → BentO d → (∀ x ∈ f, Lo (fun a => ∃ es, H a = some (mdo w a es)) H x) → Q v H'
end
end KF
end L2
end
/-! ### PH -/
section
namespace L2
namespace KF
open PySem PySem.Spec PyProof.Rows PySem.KD KE KC PySem.KA
/-! ## defs that call repr: their promise holds from callers that show nothing -/
structure FnOkG (P : Program) (w : World) (K : PySem.W.Frag) (mg : Str → Option Value) (base : Heap) (CX : CXT) (k : Nat) (f : Addr) (fd : FuncData) (ps : List Str) (sp : Sp) : Prop where
  len : ∀ vs H Q E, sp vs H Q E → vs.length = ps.length
  run : ∀ (A : Around) (outer : List Env) (s : Shared) (H : Hp) (args : Args) (us : List Value) (vs : List V) (Q : VK) (E : XK), A.guards = some [] → Room k A → Env0 P w K mg base A outer s H → BindsTo s fd args (ps.zip us) → Vals vs us → sp vs H Q E →
    codeAny (model P w) A (.call (.ref f) args) (CR CX outer P w H s Q E) s
/-- a def of no default keeps its promise, if its body does so below a caller that shows nothing -/
theorem _root_.L2.Fun.okG {P : Program} {w : World} {K : PySem.W.Frag} {mg : Str → Option Value} {base : Heap} {x qual : Str} {st : Stmt} {f : Addr} {fd : FuncData} {N ps : List Str} {k : Nat} {sp : Sp} (F : Fun K x qual st f fd) (scope : FnScope N ps (defScope st)) (count : ∀ vs H Q E, sp vs H Q E → vs.length = ps.length)
    (keeps : ∀ (cdv : Value) (A : Around) (outer : List Env) (s : Shared) (H : Hp) (vs : List V) (Q : VK) (E : XK), A.guards = some [] → Room k (A.deeper (envOfC qual (defScope st) s.heap.objs.size f cdv)) → sp vs H Q E →
      ∃ t, PSs (cxOf CX0 P w K mg base N qual (defScope st) f cdv A outer s H E).nox (defBody st) t ∧ t { nx := fun _ H' => Q .non H', rt := Q } (start N vs) H) : FnOkG P w K mg base CX0 (k + 1) f fd ps sp := by
  obtain ⟨_, _, _, _, _, _, cdv, _, _, rfl, lk, code⟩ := F.ex
  constructor
  · exact count
  intro A outer s H args us vs Q E quiet room here bound rel asks
  have stay : ∀ b o, base.get? b = some o → s.heap.get? b = some o := fun b o e => (here.bs b o e).1
  have live : K.In s.heap := here.mod.kin.keeps stay
  have free : s.heap.NoLimit := here.mod.nolimit.keeps stay
  have kinds : ∀ y ∈ ps.zip us, (defScope st).names.lookup y.1 = some .local ∨ ((defScope st).names.lookup y.1 = some .cell ∧ ((cellsFrom (s.heap.objs.size + 1) (defScope st).names []).lookup y.1).isSome = true) := by
    rintro ⟨n, v⟩ hy
    cases scope.par n (List.of_mem_zip hy).1 with
    | inl z => exact .inl z
    | inr z => exact .inr ⟨z, PySem.W.cellsFrom_some _ _ _ (.inl z)⟩
  refine codeAny_call_function room.depth (live _ _ lk) rfl scope.co scope.gen rfl (PySem.W.codeRec_of live code) (bound _ _ _ _ ?_)
  refine wpAny_newFunctionEnv_cells scope.kind kinds fun env env_eq s1 x => ?_
  subst env_eq
  refine ⟨free.keeps x.toInCall.keep, codeAny_func ?_⟩
  obtain ⟨t, body, meets⟩ := keeps cdv A outer s H vs Q E quiet (room.deeper _) asks
  have begin_ : Inv (cxOf CX0 P w K mg base N qual (defScope st) f cdv A outer s H E) [] (start N vs) H s1 := inv_start scope room.hd here (count _ _ _ _ asks) rel x
  refine wpAny_mono (body.nox.run [] s1 (start N vs) H _ begin_ meets) (fun fl s' told => ?_) fun _ _ e => e
  cases fl with
  | ret u => exact let ⟨v, _, H', J, rv, q⟩ := told; ⟨v, H', J.os, J.bare, J.base, J.hok, rv, q⟩
  | next => exact let ⟨_, H', J, q⟩ := told; ⟨V.non, H', J.os, J.bare, J.base, J.hok, rfl, q⟩
  | brk => exact (told.elim fun _ z => z.elim fun _ y => y.2).elim
  | cont => exact (told.elim fun _ z => z.elim fun _ y => y.2).elim
/-- such a def, called by its name with arguments by position -/
theorem pe_callG {X : Cx} {CX : CXT} {k : Nat} {f : Addr} {fd : FuncData} {ps : List Str} {sp : Sp} {dvs : List V} {ds : List Value} {E : XK} {x : Str} {p pos : Pos} {e : Expr} {es : List Expr} {t : TA}
    (F : FnOkG X.prog X.w X.K X.mg X.base CX k f fd ps sp) (quiet : X.A.guards = some []) (room : Room k X.A) (glob : Gl X x) (at_ : X.mg x = some (.ref f)) (keep : PySem.W.keepIn X.K (.ref f) = true) (bound : Binds X.K fd ps ds) (dv : Vals dvs ds) (out : Passes CX X E) (given : PA X (e :: es) t)
    (n1 : (x == ("__debug__" : Str)) = false := by decide) (n2 : starEach (e :: es) X.env = (false, eval e X.env) :: starEach es X.env := by rfl) (n3 : (backTo pos (starEach es X.env)).any (·.1) = false := by rfl) : PE X (.Call (.Name x p) (e :: es) [] pos) (tCall sp dvs E t) := by
  constructor
  intro pins s σ H Q I asks
  refine wpAny_Call_Name_kw (ld_glob I glob at_ (PySem.W.callWith_K (h₀ := X.base) I.ok.mod.kin keep (thn (given.run pos pins s σ H _ I asks) ?_) n2 n3) n1)
  rintro us s1 ⟨vs, H1, J, rel, meets⟩
  refine ⟨J.kIn, ?_⟩
  have both : Vals (vs ++ dvs) (us ++ ds) := rel.append dv
  have many : (us ++ ds).length = ps.length := both.length.symm.trans (F.len _ _ _ _ meets)
  refine wpAny_call (codeAny_mono (F.run X.A X.stack s1 H1 ⟨us, []⟩ _ _ Q E quiet room J.env0 (bound s1 us J.kIn many) both meets) ?_)
  rintro (er | fl) s' told
  · exact out pins σ H1 s1 er s' J told
  · cases fl with
    | ret u => exact J.after told
    | _ => exact told.elim
/-! ## the law's call -/
section
variable {P : Program} {w : World} {K : PySem.W.Frag} {mg mb : Str → Option Value} {base : Heap}
def spLawG (K : PySem.W.Frag) : Sp := fun vs H Q _ => ∃ a ns, vs = [.ref a] ∧ SqL K H a (List.map V.int ns) ∧ ns.length ≤ 63 ∧ ∀ H', Q (.bl true) H'
/-- the law's call from the caller itself -/
theorem told_of {k : Nat} {f a : Addr} {fd : FuncData} {s₁ : Shared} {vs : List Value} {ns : List Int} (hk : k ≤ 12) (F : ∀ base : Heap, K.In base → base.Ns mainGlobals mg → FnOkG P w K mg base CX0 k f fd ["_law_script"] (spLawG K)) (binds : ∀ (s : Shared) (u : Value), BindsTo s fd ⟨[u], []⟩ [("_law_script", u)])
    (live : K.In s₁.heap) (glob : s₁.heap.Ns mainGlobals mg) (blt : s₁.heap.Ns builtinsNs mb) (boot : ∀ x : Str, x ≠ "__name__" → mb x = bootBuiltins x)
    (free : s₁.heap.NoLimit) (nogen : s₁.gens = #[]) (script : s₁.heap.get? a = some { cls := .type "list", data := .seq vs.toArray }) (intsA : IntsAre vs ns) (short : ns.length ≤ 63) :
    codeAny (model P w) callerA (.call (.ref f) ⟨[.ref a], []⟩) (fun r s' => r = .ok (.ret (.bool true)) ∧ OldK s₁.heap s'.heap ∧ s'.os = s₁.os ∧ AllBare s'.gens) s₁ := by
  have rv := vals_ints intsA
  have lenV := intsA.length
  have fits : ns.length ≤ sizeLine := Nat.le_trans short (by decide)
  have room : Room k callerA := Room.mono (k := 12) ⟨rfl, by decide, by decide⟩ hk
  have go : ∀ H : Hp, SqL K H a (ns.map V.int) → HOk P w H s₁.heap → (∀ b, H b ≠ none → b = a ∧ K.lookup a = none) → (∀ b o, H b = some o → ∃ ob xs, o = .frz ob (.lst xs)) →
      codeAny (model P w) callerA (.call (.ref f) ⟨[.ref a], []⟩) (fun r s' => r = .ok (.ret (.bool true)) ∧ OldK s₁.heap s'.heap ∧ s'.os = s₁.os ∧ AllBare s'.gens) s₁ := by
    intro H seq ok only frz
    have hidden : ∀ {b : Addr} {m : Str → Option Value}, s₁.heap.Ns b m → (hidT s₁.heap H).Ns b m := by
      rintro b m ⟨o, es, ep, e, d, more⟩
      refine ⟨o, es, ep, hidT_get e ?_, d, more⟩
      cases q : H b with
      | none => rfl
      | some u =>
        obtain ⟨rfl, _⟩ := only b (by rw [q]; exact fun z => nomatch z)
        rw [script] at e
        cases e
        cases d
    have kept : K.In (hidT s₁.heap H) := fun b o e => hidT_get (live b o e) (by
      cases q : H b with
      | none => rfl
      | some u =>
        obtain ⟨rfl, z⟩ := only b (by rw [q]; exact fun z => nomatch z)
        rw [z] at e
        cases e)
    have mod : Mod K mg (hidT s₁.heap H) := ⟨kept, hidden glob, ⟨mb, hidden blt, boot⟩, by
      obtain ⟨mc, h1, h2⟩ := free
      exact ⟨mc, hidden h1, h2⟩⟩
    have env0 : Env0 P w K mg (hidT s₁.heap H) callerA [] s₁ H :=
      { frames := rfl, mod := mod, bs := fun b o e => of_hidT e, bsz := Nat.le_of_eq (hidT_size _ _), funs := trivial, frf := (fun b hb => nomatch hb), hok := ok, bare := .of_eq nogen }
    refine codeAny_mono ((F _ kept (hidden glob)).run callerA [] s₁ H ⟨[.ref a], []⟩ [.ref a] [.ref a] (fun v _ => v = .bl true) E0 rfl room env0 (binds s₁ (.ref a)) (show Vals [V.ref a] [Value.ref a] from .cons rfl .nil) ⟨a, ns, rfl, seq, short, fun _ => rfl⟩) fun r s' told => ?_
    cases r with
    | error e => exact False.elim told
    | ok fl =>
      cases fl with
      | next => exact False.elim told
      | brk => exact False.elim told
      | cont => exact False.elim told
      | ret u =>
        obtain ⟨v, H', os, bare, un, ok', rel, rfl⟩ := told
        obtain rfl : u = Value.bool true := rel
        refine ⟨rfl, OldK.of_keep fun b o e => ?_, os, bare⟩
        cases q : H b with
        | none => exact un.keep b o e q (fun z => nomatch z) (by simp)
        | some u =>
          obtain ⟨ob, xs, rfl⟩ := frz b u q
          have later := un.frzs b ob _ q
          have e1 := (ok b _ q).1
          have e2 := (ok' b _ later).1
          rw [e] at e1
          cases e1
          exact e2
  cases inK : K.lookup a with
  | some o =>
    have e := live a o inK
    rw [script] at e
    cases e
    exact go (fun _ => none) (.inr ⟨_, vs.toArray, _, inK, rfl, rfl, rfl, by rw [List.size_toArray, lenV]; exact fits, by simpa using rv⟩) (fun b u z => nomatch z) (fun b z => absurd rfl z) fun b o z => nomatch z
  | none =>
    refine go (fun b => if b = a then some (.frz { cls := .type "list", data := .seq vs.toArray } (.lst (ns.map V.int))) else none) (.inl (.inr ⟨_, if_pos rfl⟩)) (fun b u z => ?_) (fun b z => ?_) fun b o z => ?_
    · dsimp only at z
      split at z
      · rename_i hb
        cases z
        subst hb
        exact ⟨script, by rw [List.length_map]; exact fits, vs, _, rv, script⟩
      · cases z
    · refine ⟨?_, inK⟩
      split at z
      · assumption
      · exact absurd rfl z
    · split at z
      · cases z
        exact ⟨_, _, rfl⟩
      · cases z
end
end KF
end L2
end
/-! ### PK2 -/
section
namespace L2
namespace KE
open PySem PySem.Spec PyProof.Rows PySem.KD
section
variable {X : Cx} {pins : List (Addr × Obj)} {σ : St} {H : Hp} {s : Shared} {d : Addr} {xs : List MRow}
/-- d.clear() of a dict with keys of several sorts -/
def tClearM (w : World) (td : TE) : TE := fun σ H Q => td σ H fun x H1 => ∃ a es, x = .ref a ∧ H1 a = some (mdo w a es) ∧ Q .non (upd H1 a (mdo w a []))
theorem pe_clearM {o : Expr} {to : TE} {apos cpos : Pos} (ho : PE X o to) (hbase : attributeBase o "clear" X.env (eval o X.env) = eval o X.env := by rfl) (hline : (apos.endLine == cpos.line) = true := by rfl) : PE X (.Call (.Attribute o "clear" apos) [] [] cpos) (tClearM X.w to) := by
  refine ⟨fun pins s σ H Q I h => ?_⟩
  refine wpAny_Call_method (T := "dict") (id := "dict.clear") hbase rfl hline F.plainAttrs_dict F.slot_dict_clear F.type_dict_clear (thn (ho.run pins s σ H _ I h) fun u s1 ⟨x, H1, I1, rx, d, es, ex, hd, q⟩ => ?_)
  subst ex
  obtain rfl : u = Value.ref d := rx
  obtain ⟨l, sy, rows, rr, D⟩ := mdo_rd I1.hok (.inl hd)
  obtain ⟨ens, ep, raw, he⟩ := D.raw
  have hl : ens.size = es.length := by
    rw [row_size he]
    exact (Paired.length rr).symm
  refine ⟨raw.typeIs, fun b eb => ?_, ?_⟩
  · cases eb
    obtain ⟨o, ho, ex, _⟩ := raw
    exact ⟨o, ho, ex.2.1⟩
  show wpAny _ _ (callWith cpos (.builtin "dict.clear") [.ref d] [] []) _ X.xe s1
  refine method_meetsIn F.slot_dict_clear F.entry_dict_clear rfl (PySem.evalArgs_none ⟨rfl, raw.typeIs, F.args_dict_clear_1 _, _, meets_dict_clear_raw d, ⟨ens, ep, raw, by
    rw [hl]
    exact Nat.le_of_lt (small1000 l), fun h' raw' hs => ?_⟩⟩)
  refine ⟨.non, _, wrM (tk := s1.toks) (es := []) (rows := []) I1 hd (Nat.zero_le _) sy .nil ?_ hs, rfl, q⟩
  obtain ⟨o, ho, ex, hd⟩ := raw'
  exact ⟨⟨o, #[], ep + 1, ho, ex, hd, rfl⟩, List.nodup_nil⟩
end
end KE
end L2
end
/-! ### PL2 -/
section
namespace L2
namespace KF
open PySem PySem.Spec PyProof.Rows PySem.KD KE KC PySem.KA KM TL
/-! ## right profiles -/
/-- the words of all rows are the reads' -/
def allW (df dr : PyData) : Bool := (kvOf df).all fun p => sameW p.2 dr
/-- what is due of Profile(df, dr): None, or the text of the wrong one -/
def dueV (df dr : PyData) : V := if finD df = true then (if rowD readL dr = true ∧ allW df dr = true then .non else .str dr.shown) else .str df.shown
theorem scal_due (df dr : PyData) : scal (dueV df dr) (dueV df dr) = true := by
  unfold dueV
  split
  · split <;> rfl
  · rfl
theorem row_right {lv : List Str} {ls : List (Str × Str)} (R : RowOk lv ls) : rowD lv (.dict (kvT ls)) = true := by
  show (kvT ls).all (fun p => wordD p.1 && levD lv p.2) = true
  refine List.all_eq_true.mpr fun p hp => ?_
  obtain ⟨q, hq, rfl⟩ := List.mem_map.mp hp
  show (isWordL (tl q.1) && decide (q.2 ∈ lv)) = true
  rw [(R.word q hq).1, decide_eq_true (R.lev q hq)]
  rfl
theorem inK_kvT {x : Str} {ls : List (Str × Str)} : inK (.str x) (.dict (kvT ls)) = true ↔ x ∈ ls.map (·.1) := by
  show ((kvT ls).any fun p => eqT (.str x) p.1) = true ↔ _
  rw [List.any_eq_true]
  constructor
  · rintro ⟨p, hp, e⟩
    obtain ⟨q, hq, rfl⟩ := List.mem_map.mp hp
    have e2 : x = q.1 := of_decide_eq_true e
    rw [e2]
    exact List.mem_map_of_mem hq
  · intro h
    obtain ⟨q, hq, e⟩ := List.mem_map.mp h
    exact ⟨(.str q.1, .str q.2), List.mem_map_of_mem (f := fun (q : Str × Str) => ((.str q.1, .str q.2) : PyData × PyData)) hq, decide_eq_true e.symm⟩
theorem same_words {a b : List (Str × Str)} (h : ∀ x, x ∈ a.map (·.1) ↔ x ∈ b.map (·.1)) : sameW (.dict (kvT a)) (.dict (kvT b)) = true := by
  show ((kvT a).all (fun p => inK p.1 (.dict (kvT b))) && (kvT b).all fun p => inK p.1 (.dict (kvT a))) = true
  rw [Bool.and_eq_true, List.all_eq_true, List.all_eq_true]
  constructor
  · intro p hp
    obtain ⟨q, hq, rfl⟩ := List.mem_map.mp hp
    exact inK_kvT.mpr ((h q.1).mp (List.mem_map_of_mem hq))
  · intro p hp
    obtain ⟨q, hq, rfl⟩ := List.mem_map.mp hp
    exact inK_kvT.mpr ((h q.1).mpr (List.mem_map_of_mem hq))
theorem outD_right : ∀ x ∈ outL, outD (.str x) = true := by
  intro x hx
  simp only [List.mem_cons, List.not_mem_nil, or_false] at hx
  rcases hx with rfl | rfl | rfl | rfl <;> decide +kernel
theorem fin_right {w : World} {H : Hp} {words : List Str} {fs : List Fin} (FO : FinOk words fs) (FA : FsAt w H words fs) : finD (.dict (kvF fs)) = true := by
  show ((kvF fs).all (fun p => outD p.1 && rowD endL p.2) && (kvF fs).all fun p => (kvF fs).all fun q => sameW p.2 q.2) = true
  rw [Bool.and_eq_true, List.all_eq_true, List.all_eq_true]
  constructor
  · intro p hp
    obtain ⟨q, hq, rfl⟩ := List.mem_map.mp hp
    rw [outD_right q.1 (FO.fo q hq), row_right (FO.row FA hq)]
    rfl
  · intro p hp
    rw [List.all_eq_true]
    intro p2 hp2
    obtain ⟨q, hq, rfl⟩ := List.mem_map.mp hp
    obtain ⟨q2, hq2, rfl⟩ := List.mem_map.mp hp2
    exact same_words fun x => by rw [FA.keys q hq, FA.keys q2 hq2]
theorem allW_right {w : World} {H : Hp} {words : List Str} {fs : List Fin} {ls : List (Str × Str)} (FA : FsAt w H words fs) (h : ∀ x, x ∈ ls.map (·.1) ↔ x ∈ words) : allW (.dict (kvF fs)) (.dict (kvT ls)) = true := by
  show ((kvF fs).all fun p => sameW p.2 (.dict (kvT ls))) = true
  rw [List.all_eq_true]
  intro p hp
  obtain ⟨q, hq, rfl⟩ := List.mem_map.mp hp
  exact same_words fun x => by rw [FA.keys q hq, h x]
theorem allW_wrong {w : World} {H : Hp} {words : List Str} {fs : List Fin} {ls : List (Str × Str)} {x : Str} (FO : FinOk words fs) (FA : FsAt w H words fs) (ne : fs ≠ []) (hx : x ∈ ls.map (·.1)) (bad : (tl x).take 2 = [113, 113]) : allW (.dict (kvF fs)) (.dict (kvT ls)) = false := by
  show ((kvF fs).all fun p => sameW p.2 (.dict (kvT ls))) = false
  cases fs with
  | nil => exact absurd rfl ne
  | cons q0 fs =>
    refine List.all_eq_false.mpr ⟨(.str q0.1, .dict (kvT q0.2.2)), List.mem_cons_self, ?_⟩
    obtain ⟨z, hz, e⟩ := List.mem_map.mp hx
    rw [same_not (a := .dict (kvT q0.2.2)) (b := .dict (kvT ls)) (p := (.str z.1, .str z.2)) (List.mem_map_of_mem (f := fun (q : Str × Str) => ((.str q.1, .str q.2) : PyData × PyData)) hz) (by
      rw [e]
      exact not_inK (FO.row FA List.mem_cons_self) (.inr bad))]
    exact Bool.false_ne_true
theorem due_none {df dr : PyData} (h1 : finD df = true) (h2 : rowD readL dr = true) (h3 : allW df dr = true) : dueV df dr = .non := by
  unfold dueV
  rw [if_pos h1, if_pos ⟨h2, h3⟩]
theorem due_reads {df dr : PyData} (h1 : finD df = true) (h2 : rowD readL dr = false ∨ allW df dr = false) : dueV df dr = .str dr.shown := by
  unfold dueV
  rw [if_pos h1, if_neg]
  rintro ⟨a, b⟩
  rcases h2 with h | h
  · rw [h] at a
    cases a
  · rw [h] at b
    cases b
theorem due_fin {df dr : PyData} (h1 : finD df = false) : dueV df dr = .str df.shown := by
  unfold dueV
  rw [h1, if_neg Bool.false_ne_true]
theorem cut_drop (xs : List V) (n : Nat) : cutV xs (some ((n : Nat) : Int)) none = xs.drop n := by
  unfold cutV
  rw [HT.sIx_none, HT.sIx_nat]
  by_cases h : n ≤ xs.length
  · rw [Nat.min_eq_left h]
    exact List.take_of_length_le (Nat.le_of_eq List.length_drop)
  · rw [Nat.min_eq_right (by omega), Nat.sub_self, List.take_zero, List.drop_of_length_le (by omega)]
theorem ProfAt.finOk {w : World} {H : Hp} {D R : Addr} {words : List Str} {fs : List Fin} {rs : List (Str × Str)} (P : ProfAt w H D R words fs rs) (W : WordsOk words) (l : words.length ≤ 3) : FinOk words fs := ⟨W.nd, l, W.ok, P.fk, P.fo, P.few⟩
theorem ProfAt.rowR {w : World} {H : Hp} {D R : Addr} {words : List Str} {fs : List Fin} {rs : List (Str × Str)} (P : ProfAt w H D R words fs rs) (W : WordsOk words) (l : words.length ≤ 3) : RowOk readL rs := by
  refine ⟨by rw [P.rk]; exact W.nd, ?_, fun z hz => W.ok z.1 (by rw [← P.rk]; exact List.mem_map_of_mem hz), P.rl, .inr rfl⟩
  have := P.rk
  rw [← this, List.length_map] at l
  exact l
theorem repr_but {w : World} {p : Addr} {H H' : Hp} {kv : List (Key × V)} {v : V} {d : PyData} {f : List Addr} (r : RepA w H v d f) (sb : SameBut p H H') (hp : H p = some (.dK kv)) (nf : ∀ a ∈ f, a ≠ p) : RepA w H' v d f := by
  have z : RepAA w H [v] [d] (f ++ []) := .cons r .nil
  rw [List.append_nil] at z
  have y := repA_but sb hp z nf
  obtain ⟨d2, g, r2, hd, sub⟩ := repAll_mem y List.mem_cons_self
  refine r.keep ⟨fun a ha => ?_, tup_but sb hp⟩
  cases e : H a with
  | none => exact absurd e (r.dom a ha)
  | some o => exact sb a o (nf a ha) e
theorem profF {w : World} {H : Hp} {D R : Addr} {words : List Str} {fs : List Fin} {rs : List (Str × Str)} (P : ProfAt w H D R words fs rs) (W : WordsOk words) (l : words.length ≤ 3) : RepA w H (.ref D) (.dict (kvF fs)) (D :: fs.map (·.2.1)) := (rowsF_at P.hD P.rows W.nd P.fk (fun z => (List.nodup_cons.mp P.nd).1 (List.mem_cons_of_mem _ z))).rep
theorem profR {w : World} {H : Hp} {D R : Addr} {words : List Str} {fs : List Fin} {rs : List (Str × Str)} (P : ProfAt w H D R words fs rs) (W : WordsOk words) : RepA w H (.ref R) (.dict (kvT rs)) [R] := (rowsT_at P.hR (by rw [P.rk]; exact W.nd)).rep
theorem look_in {ls : List (Str × Str)} {x : Str} : (lookH (rowsT ls) (.text x)).isSome = true ↔ x ∈ ls.map (·.1) := by
  unfold lookH
  rw [List.find?_isSome]
  constructor
  · rintro ⟨p, hp, e⟩
    obtain ⟨q, hq, rfl⟩ := List.mem_map.mp hp
    have e2 := (beq_iff _ _).mp e
    injection e2 with e2
    rw [← e2]
    exact List.mem_map_of_mem hq
  · intro h
    obtain ⟨q, hq, e⟩ := List.mem_map.mp h
    exact ⟨(.text q.1, .str q.1, .str q.2), List.mem_map_of_mem (f := fun (q : Str × Str) => ((.text q.1, .str q.1, .str q.2) : MRow)) hq, (beq_iff _ _).mpr (by rw [← e])⟩
end KF
end L2
end
/-! ### PJ -/
section
namespace L2
namespace KF
open PySem PySem.Spec PyProof.Rows PySem.KD KE KC PySem.KA KM TL
/-! ## the law -/
structure BltJ (mg : Str → Option Value) : Prop where
  int : mg "int" = none
  len : mg "len" = none
  list : mg "list" = none
  dict : mg "dict" = none
  range : mg "range" = none
  repr : mg "repr" = none
  min : mg "min" = none
section
variable {P : Program} {w : World} {K : PySem.W.Frag} {mg : Str → Option Value} {base : Heap}
def spWrong (w : World) : Sp := fun vs H Q _ => ∃ vf vr df dr ff fr, vs = [vf, vr] ∧ RepA w H vf df ff ∧ RepA w H vr dr fr ∧ Nice 5 70 3000 df ∧ Nice 5 70 3000 dr ∧ ∀ H', Same H H' → Q (dueV df dr) H'
/-- what the law wants of the class -/
structure ProfI (w : World) (C CV : Addr) (spI spO spR spN : Sp) (EO ER EN : XK) where
  PX : Hp → Addr → PyData → PyData → PyData → (Addr → Prop) → Prop
  ins : ∀ {H x o r n S}, PX H x o r n S → ∃ dx fs, H x = some (.ins C dx fs)
  keep : ∀ {H H' x o r n S}, PX H x o r n S → (∀ a u, S a → H a = some u → H' a = some u) → TupK H H' → PX H' x o r n S
  init : ∀ {H x dx vf vr df dr ff fr Q E}, H x = some (.ins C dx []) → H dx = some (.own x) → x ≠ dx → RepA w H vf df ff → RepA w H vr dr fr → Nice 5 70 3000 df → Nice 5 70 3000 dr → finD df = true → rowD readL dr = true → allW df dr = true →
    (∀ H' S o r n, (∀ b u, b ≠ x → b ≠ dx → H b = some u → H' b = some u) → PX H' x o r n S → (∀ a, S a → a = x ∨ a = dx ∨ H a = none) → Nice 5 70 3000 o → Nice 5 70 3000 r → Nice 5 70 3000 n → Q .non H') → spI [.ref x, vf, vr] H Q E
  bad : ∀ {H x dx vf vr df dr ff fr Q} {E : XK}, H x = some (.ins C dx []) → H dx = some (.own x) → x ≠ dx → RepA w H vf df ff → RepA w H vr dr fr → Nice 5 70 3000 df → Nice 5 70 3000 dr → (finD df = false ∨ rowD readL dr = false ∨ allW df dr = false) →
    (∀ H' d fs v f, (∀ b u, b ≠ x → b ≠ dx → H b = some u → H' b = some u) → H' d = some (.xd fs) → fs.lookup (Str.ofString "value") = some v → Rep w H' v (if finD df = true then dr else df) f → E (.ref CV) (some d) H') → spI [.ref x, vf, vr] H Q E
  out : ∀ {H x o r n S Q}, PX H x o r n S → (∀ H' v f, Same H H' → Rep w H' v o f → Q v H') → spO [.ref x] H Q EO
  rds : ∀ {H x o r n S Q}, PX H x o r n S → (∀ H' v f, Same H H' → Rep w H' v r f → Q v H') → spR [.ref x] H Q ER
  nms : ∀ {H x o r n S Q}, PX H x o r n S → (∀ H' v f, Same H H' → Rep w H' v n f → Q v H') → spN [.ref x] H Q EN
end
end KF
end L2
end
/-! ### PX -/
section
namespace L2
namespace KF
open PySem PySem.Spec PyProof.Rows PySem.KD KE KC PySem.KA KM TL
/-! ## C(..) that may raise, within a try -/
section
variable {X : Cx} {CX : CXT} {k : Nat} {f C : Addr} {fd : FuncData} {ps : List Str} {sp : Sp} {E : St → XK} {x : Str} {p pos : Pos} {e : Expr} {es : List Expr} {t : TA}
def tMakeS (C : Addr) (sp : Sp) (E : St → XK) (t : TA) : TE := fun σ H Q => t σ H fun vs H1 => ∀ x dx, H1 x = none → H1 dx = none → dx ≠ x → sp (.ref x :: vs) (upd (upd H1 dx (.own x)) x (.ins C dx [])) (fun v H2 => v = .non ∧ Q (.ref x) H2) (E σ)
theorem pe_makeS (M : Mk X.K C f) (F : FnOk X.prog X.w X.K X.mg X.base CX k f fd ps sp) (room : Room (k + 1) X.A) (glob : Gl X x) (at_ : X.mg x = some (.ref C)) (bound : Binds X.K fd ps []) (out : ∀ σ, PassesAt CX X σ (E σ)) (given : PA X (e :: es) t)
    (n1 : (x == ("__debug__" : Str)) = false := by decide) (n2 : starEach (e :: es) X.env = (false, eval e X.env) :: starEach es X.env := by rfl) (n3 : (backTo pos (starEach es X.env)).any (·.1) = false := by rfl) : PE X (.Call (.Name x p) (e :: es) [] pos) (tMakeS C sp E t) := by
  constructor
  intro pins s σ H Q I asks
  refine wpAny_Call_Name_kw (ld_glob I glob at_ (PySem.W.callWith_K (h₀ := X.base) I.ok.mod.kin M.kp (thn (given.run pos pins s σ H _ I asks) ?_) n2 n3) n1)
  rintro us s1 ⟨vs, H1, J, rel, meets⟩
  refine ⟨J.kIn, ?_⟩
  show wpAny _ _ (call (.ref C) us) _ _ _
  -- the new object stands behind its dict
  generalize hn : s1.heap.objs.size = n
  have told := meets (n + 1) n (J.hok.fresh (by omega)) (J.hok.fresh (by omega)) (Nat.ne_of_lt (Nat.lt_succ_self n))
  have both : Vals (V.ref (n + 1) :: vs) (Value.ref (n + 1) :: us) := .cons rfl rel
  have many : ((Value.ref (n + 1) :: us) ++ []).length = ps.length := by
    rw [List.append_nil, ← both.length]
    exact F.len _ _ _ _ told
  subst hn
  have made := Inv.made (C := C) J
  have bnd := bound _ (Value.ref (s1.heap.objs.size + 1) :: us) made.kIn many
  rw [List.append_nil] at bnd
  refine wpAny_call (make_map (f := f) J.kIn M.makes M.init (beq_iff_eq.mp M.fn) (codeAny_mono (F.run _ X.stack _ _ ⟨_, []⟩ _ _ _ (E σ) (room.make C us []) (made.env0.make C us []) bnd both told) ?_))
  rintro (er | fl) s' ends
  · exact out σ pins _ _ er s' made ends
  · cases fl with
    | ret u =>
      obtain ⟨v, H', L, rv, ev, q⟩ := made.after ends
      subst ev
      exact ⟨rv, .ref (s1.heap.objs.size + 1), H', L, rfl, q⟩
    | _ => exact ends.elim
end
/-! ## isinstance of a caught error with fields -/
def rIsED (K : PySem.W.Frag) (D a : Addr) (cls : Value) (d : Option Addr) : List V → Hp → VK → Prop := fun xs H Q => cls = .ref D ∧ ∃ (dd : Addr) (fs : List (Str × V)) (c : V) (cv : Value) (b : Bool), d = some dd ∧ H dd = some (.xd fs) ∧ xs = [.ref a, c] ∧ (∀ u, RelV c u → u = cv) ∧ PySem.W.kitOne K (.ref D) cv = some b ∧ Q (.bl b) H
theorem call_isED {X : Cx} {a D : Addr} {oe : Obj} {cls : Value} {d : Option Addr} {pn : List (Addr × Obj)} (C : L2.ExcC X.K D) (hz : Zc cls d oe) (hf : ∃ vs, oe.data = .fields vs) : CallR (X.suite a ((a, oe) :: pn)) (.builtin "isinstance") (rIsED X.K D a cls d) := by
  intro pins s σ H xs us Q I r h
  obtain ⟨rfl, dd, fs, c, cv, b, rfl, ea, rfl, hcv, e, q⟩ := h
  cases r with
  | cons rx rr =>
    cases rr with
    | cons rt rr =>
      cases rr
      cases rx
      have ec := hcv _ rt
      subst ec
      obtain ⟨hget, _⟩ := I.pin (a, oe) (List.mem_append.mpr (.inl List.mem_cons_self))
      obtain ⟨vs, hv⟩ := hf
      have hx : ObjOk X.prog X.w H s.heap dd (.xd fs) := I.hok dd _ ea
      obtain ⟨mA, hns, hr⟩ := hx
      obtain ⟨od, ho, hl⟩ := lookIn_ns hns
      have J : PySem.W.InstAt s.heap a oe D (some od) := ⟨hget, hz.1, by unfold PySem.W.notCls; rw [hv] <;> rfl, by rw [hz.2]; exact ho⟩
      exact PySem.W.kia_one (kitE C) I.kIn J e (fun z => nomatch z) fun tk => ⟨.bl b, H, I.kept (t' := tk) fun _ _ z => z, rfl, q⟩
end KF
end L2
end
/-! ### PY -/
section
namespace L2
namespace KF
open PySem PySem.Spec PyProof.Rows PySem.KD KE KC PySem.KA KM TL
/-! ## _law_wrong -/
structure BltR (mg : Str → Option Value) : Prop where
  repr : mg "repr" = none
  isi : mg "isinstance" = none
  v : mg "ValueError" = none
section
variable {P : Program} {w : World} {K : PySem.W.Frag} {mg : Str → Option Value} {base : Heap}
end
end KF
end L2
end
/-! ### PE0 -/
section
namespace L2
namespace KF
open PySem PySem.Spec PyProof.Rows
def clsB (s : Stmt) : List Stmt := match s with
  | .ClassDef _ _ _ b _ _ _ _ _ _ _ => b
  | _ => []
/-- a method's def -/
abbrev methOf (i j : Nat) : Stmt := (clsB (topS i)).getD j (.Pass ⟨0, 0, 0, 0⟩)
end KF
end L2
end
/-! ### HH -/
section
namespace L2
namespace KH
open PySem PySem.Spec PyProof.Rows
/-! ## a head by facts: tests of what the top has written, and the defs -/
abbrev FB : Type := PySem.W.Frag → Bool
/-- what these names of the module reach in n steps -/
def seeds (g : Addr → Option Obj) (xs : List Str) : List Addr := xs.map fun x => He.ga (He.frG g [mainGlobals]) x
def itG (g : Addr → Option Obj) : Nat → List Addr → List Addr
  | 0, as => as
  | n + 1, as => He.growD g (itG g n as)
def frX (g : Addr → Option Obj) (n : Nat) (xs : List Str) : PySem.W.Frag := He.frG g (mainGlobals :: itG g n (seeds g xs))
/-- a def of the text: where it stands, its names, its statement -/
structure DefX where
  adr : PySem.W.Frag → Addr
  name : Str
  qual : Str
  st : Stmt
abbrev FnX : Type := Option (Str × Str × Arguments × FuncBody × Scope × Addr × List (Str × Addr) × Addr)
def fnX (K : PySem.W.Frag) (a : Addr) : FnX := match K.lookup a with
  | some ⟨_, _, .func fd, _⟩ => some (fd.name, fd.qualname, fd.params, fd.body, fd.scope, fd.globals, fd.closure, fd.builtins)
  | _ => none
def DefX.val (d : DefX) : FnX := some (d.name, d.qual, defArgs d.st, .stmts (defBody d.st), defScope d.st, mainGlobals, [], builtinsNs)
def isNone : Value → Bool
  | .none => true
  | _ => false
def DefX.ok (K : PySem.W.Frag) (d : DefX) : Bool := PySem.W.keepIn K (.ref (d.adr K)) && (match K.lookup (d.adr K) with
  | some ⟨_, _, .func fd, _⟩ => PySem.W.codeIn K fd.code d.qual && isNone fd.defaults
  | _ => false)
theorem DefX.fun_ {K : PySem.W.Frag} {d : DefX} (e : fnX K (d.adr K) = d.val) (c : d.ok K = true) : ∃ fd, Fun K d.name d.qual d.st (d.adr K) fd := by
  obtain ⟨kp, c2⟩ := He.ba c
  unfold fnX at e
  cases q : K.lookup (d.adr K) with
  | none =>
    rw [q] at c2
    cases c2
  | some o =>
    obtain ⟨oc, od, dt, osl⟩ := o
    rw [q] at c2 e
    cases dt with
    | func fd =>
      obtain ⟨n1, n2, n3, n4, n5, n6, n7, n8, n9, n10, n11, n12, n13, n14, n15⟩ := fd
      have e2 : (some (n1, n2, n3, n4, n5, n6, n7, n15) : FnX) = some (d.name, d.qual, defArgs d.st, .stmts (defBody d.st), defScope d.st, mainGlobals, [], builtinsNs) := e
      simp only [Option.some.injEq, Prod.mk.injEq] at e2
      obtain ⟨h1, h2, h3, h4, h5, h6, h7, h8⟩ := e2
      subst h1 h2 h3 h4 h5 h6 h7 h8
      have c3 : (PySem.W.codeIn K n13 d.qual && isNone n8) = true := c2
      obtain ⟨k1, k2⟩ := He.ba c3
      have k3 : n8 = .none := by
        cases n8 <;> first
          | rfl
          | cases k2
      subst k3
      exact ⟨_, ⟨oc, od, n9, n10, n11, n12, n13, n14, osl, rfl, q, k1⟩, kp⟩
    | _ => cases c2
abbrev AlX : Type := Bool × List FnX
def obsX (fb : List FB) (fn : List DefX) (K : PySem.W.Frag) : AlX := ((fb.all fun f => f K) && fn.all fun d => d.ok K, fn.map fun d => fnX K (d.adr K))
def valX (fn : List DefX) : AlX := (true, fn.map DefX.val)
def SaysX (fb : List FB) (fn : List DefX) (K : PySem.W.Frag) : Prop := obsX fb fn K = valX fn
def obsXG (n : Nat) (xs : List Str) (fb : List FB) (fn : List DefX) (g : Addr → Option Obj) : AlX := obsX fb fn (frX g n xs)
def hookX (n : Nat) (xs : List Str) (fb : List FB) (fn : List DefX) : PySem.W.Hook where
  α := AlX
  obs := fun s => obsXG n xs fb fn s.heap.get?
  val := fun _ => valX fn
  says := fun _ h => ∃ K : PySem.W.Frag, K.In h ∧ SaysX fb fn K
  of := fun _ _ e => ⟨_, He.frG_in, e⟩
  keeps := fun _ _ _ ⟨K, hK, c⟩ k => ⟨K, PySem.W.Frag.In.keeps hK k, c⟩
theorem obsXG_eq {n : Nat} {xs : List Str} {fb : List FB} {fn : List DefX} {g : Addr → Option Obj} {s : Shared} (h : ∀ a, g a = s.heap.get? a) : obsXG n xs fb fn g = (hookX n xs fb fn).obs s := by
  have e : g = s.heap.get? := funext h
  rw [e] <;> rfl
section
variable {fb : List FB} {fn : List DefX} {K : PySem.W.Frag}
theorem SaysX.fact (c : SaysX fb fn K) {f : FB} (h : f ∈ fb) : f K = true := by
  have c1 := (He.ba (show ((fb.all fun f => f K) && fn.all fun d => d.ok K) = true from congrArg (fun z : AlX => z.1) c)).1
  exact List.all_eq_true.mp c1 f h
theorem SaysX.at_ (c : SaysX fb fn K) (i : Nat) {f : FB} (h : fb[i]? = some f := by rfl) : f K = true := c.fact (List.mem_of_getElem? h)
theorem SaysX.def_ (c : SaysX fb fn K) (i : Nat) {d : DefX} (h : fn[i]? = some d := by rfl) : ∃ fd, Fun K d.name d.qual d.st (d.adr K) fd := by
  have c2 := (He.ba (show ((fb.all fun f => f K) && fn.all fun d => d.ok K) = true from congrArg (fun z : AlX => z.1) c)).2
  have e : fn.map (fun d => fnX K (d.adr K)) = fn.map DefX.val := congrArg (fun z : AlX => z.2) c
  have e2 : (fn.map fun d => fnX K (d.adr K))[i]? = (fn.map DefX.val)[i]? := by rw [e]
  rw [List.getElem?_map, List.getElem?_map, h] at e2
  exact DefX.fun_ (Option.some.inj e2) (List.all_eq_true.mp c2 d (List.mem_of_getElem? h))
end
/-- a def of the top -/
def dOf (x : Str) (st : Stmt) : DefX := ⟨fun K => He.ga K x, x, x, st⟩
/-- a method -/
def mOf (C m qual : Str) (st : Stmt) : DefX := ⟨fun K => He.ma K (He.ga K C) m, m, qual, st⟩
/-- a property's getter -/
def prA (K : PySem.W.Frag) (C f : Str) : Addr := match PySem.W.findIn K (.ref (He.ga K C)) f with
  | some (some (.ref p)) => p
  | _ => 0
def prG (K : PySem.W.Frag) (C f : Str) : Addr := match PySem.W.recIn K (prA K C f) "property" with
  | some (.ref g :: _) => g
  | _ => 0
def pOf (C f qual : Str) (st : Stmt) : DefX := ⟨fun K => prG K C f, f, qual, st⟩
/-! ### errors over ValueError -/
def vTl : List Value := [.type "ValueError", .type "Exception", .type "BaseException", .type "object"]
def errB (nm f : Str) : FB := fun K =>
  let C := He.ga K nm
  let fI := He.ma K C "__init__"
  He.eqO (PySem.W.nsIn K mainGlobals nm) (some (some (.ref C))) && (PySem.W.excInitIn K C vTl "ValueError.__new__" && (PySem.W.excOver K C vTl && (He.eqO (PySem.W.findIn K (.ref C) "__setattr__") (some (some (.builtin "object.__setattr__"))) &&
  (He.eqO (PySem.W.findIn K (.ref C) "__getattribute__") (some (some (.builtin "BaseException.__getattribute__"))) && (He.eqO (PySem.W.findIn K (.ref C) "__getattr__") (some none) && (He.eqO (PySem.W.findIn K (.ref C) "__class__") (some (some (.builtin "object.__class__"))) &&
  (He.eqO (PySem.W.findIn K (.ref C) f) (some none) && (He.eqO (PySem.W.findIn K (.ref C) "__init__") (some (some (.ref fI))) && (decide (PySem.W.typeIn K (.ref fI) = some (.type "function")) && (PySem.W.keepIn K (.ref C) &&
  (decide (PySem.W.typeIn K (.ref C) = some (.type "type")) && (decide (PySem.W.subIn K (.ref C) (.type "BaseException") = some true) && (PySem.W.hasDictIn K C && (decide (PySem.W.mroIn K C (.type "BaseException") = some true) &&
  (decide (PySem.W.mroIn K C (.type "object") = some true) && (decide (PySem.W.kitOne K (.ref C) (.type "ValueError") = some true) && (He.eqO (PySem.W.specialIn K (.builtin "object.__class__") "__get__") (some (some (.builtin "getset_descriptor.__get__"))) &&
  decide (PySem.W.takesIn K (.builtin "object.__class__") = some true))))))))))))))))))
/-- of two errors: one clause is (not) the other's class -/
def exmB (x y : Str) (b : Bool) : FB := fun K => decide (PySem.W.exmOne K (.ref (He.ga K x)) (.ref (He.ga K y)) = some b)
def freeB (x : Str) : FB := fun K => (He.Fa.free x).ok K
def gloB (x : Str) : FB := fun K => (He.Fa.glo x).ok K
def intB (x : Str) (i : Int) : FB := fun K => (He.Fa.int x i).ok K
def strB (x z : Str) : FB := fun K => (He.Fa.str x z).ok K
def clsB' (x : Str) : FB := fun K => (He.Fa.cls x).ok K
def noatB (x f : Str) : FB := fun K => (He.Fa.noat x f).ok K
def mkrB (x : Str) : FB := fun K => (He.Fa.mkr x).ok K
def baseB (B I : String) : FB := fun K => match PySem.W.findCls K (.type B) (.type "type") "__init__" with
  | some (.val (.builtin x)) => decide (x = I)
  | _ => false
def propB (C f : Str) : FB := fun K =>
  He.eqO (PySem.W.findIn K (.ref (He.ga K C)) f) (some (some (.ref (prA K C f)))) && (He.eqO (PySem.W.specialIn K (.ref (prA K C f)) "__get__") (some (some (.builtin "property.__get__"))) && (decide (PySem.W.takesIn K (.ref (prA K C f)) = some true) &&
  (match PySem.W.recIn K (prA K C f) "property" with
    | some (.ref g :: _) => decide (g = prG K C f)
    | _ => false)))
end KH
end L2
end
/-! ### PE -/
section
namespace L2
namespace KF
open PySem PySem.Spec PyProof.Rows PySem.KD KE KC PySem.KA KM TL KH
/-! ## InvalidProfile -/
/-- the class object, as pmk_oex wants it -/
def oexB (x : Str) : FB := fun K => match K.lookup (He.ga K x) with
  | some ⟨.type "type", _, .cls cd, sl⟩ => (match cd.mro, sl.toList with
    | .ref C' :: bm, [_, _, _, _, some (.builtin n), _] => C' == He.ga K x && n == "ValueError.__new__" && !cd.hasDel && cd.hasDict && PySem.HandSPX.refsVE bm
    | _, _ => false)
  | _ => false
theorem oex_cls {K : PySem.W.Frag} {x : Str} (q : oexB x K = true) : ∃ nm qn N bs bm sn sub ab col dd k0 k1 k2 k3 k5, K.lookup (He.ga K x) = some (excClassObj nm qn (He.ga K x) N bs bm true sn sub ab col dd k0 k1 k2 k3 k5 "ValueError.__new__") ∧ PySem.HandSPX.refsVE bm = true := by
  unfold oexB at q
  cases at_ : K.lookup (He.ga K x) with
  | none =>
    rw [at_] at q
    cases q
  | some o =>
    rw [at_] at q
    split at q
    case h_1 _ d cd slots same =>
      injection same with same
      subst same
      split at q
      case h_1 _ _ first rest a b c e n g below six =>
        rw [Bool.and_eq_true, Bool.and_eq_true, Bool.and_eq_true, Bool.and_eq_true, beq_iff_eq, beq_iff_eq, Bool.not_eq_true'] at q
        obtain ⟨⟨⟨⟨q1, q2⟩, q3⟩, q4⟩, q5⟩ := q
        rcases cd with ⟨nm, bs, mro, N, qn, hd, sn, sub, ab, col, del⟩
        have m : mro = .ref (He.ga K x) :: rest := by rw [← q1]; exact below
        have l : slots = #[a, b, c, e, some (.builtin "ValueError.__new__"), g] := Array.toList_inj.mp (by rw [six, q2])
        have h1 : hd = true := q4
        have h2 : del = false := q3
        subst m l h1 h2
        exact ⟨nm, qn, N, bs, rest, sn, sub, ab, col, d, a, b, c, e, g, rfl, q5⟩
      case h_2 => cases q
    case h_2 => cases q
/-- an error over ValueError, all that is asked -/
structure ErrV (K : PySem.W.Frag) (mg : Str → Option Value) (nm f : Str) (C fI : Addr) : Prop where
  gC : mg nm = some (.ref C)
  ox : OXS K C "ValueError.__new__" "ValueError.__init__" vTail f
  iC : PySem.W.findIn K (.ref C) "__init__" = some (some (.ref fI))
  tI : PySem.W.typeIn K (.ref fI) = some (.type "function")
  oex : OexC K C
  xf : XfC K C
  no : PySem.W.findIn K (.ref C) f = some none
  kit : PySem.W.kitOne K (.ref C) (.type "ValueError") = some true
theorem err_v {K : PySem.W.Frag} {h : Heap} {mg : Str → Option Value} {nm f : Str} (X : K.In h) (G : h.Ns mainGlobals mg) (e : errB nm f K = true) (o : oexB nm K = true) : ErrV K mg nm f (He.ga K nm) (He.ma K (He.ga K nm) "__init__") := by
  unfold errB at e
  obtain ⟨e1, e⟩ := He.ba e
  obtain ⟨e2, e⟩ := He.ba e
  obtain ⟨e3, e⟩ := He.ba e
  obtain ⟨e4, e⟩ := He.ba e
  obtain ⟨e5, e⟩ := He.ba e
  obtain ⟨e6, e⟩ := He.ba e
  obtain ⟨e7, e⟩ := He.ba e
  obtain ⟨e8, e⟩ := He.ba e
  obtain ⟨e9, e⟩ := He.ba e
  obtain ⟨e10, e⟩ := He.ba e
  obtain ⟨e11, e⟩ := He.ba e
  obtain ⟨e12, e⟩ := He.ba e
  obtain ⟨e13, e⟩ := He.ba e
  obtain ⟨e14, e⟩ := He.ba e
  obtain ⟨e15, e⟩ := He.ba e
  obtain ⟨e16, e⟩ := He.ba e
  obtain ⟨e17, e⟩ := He.ba e
  obtain ⟨e18, e19⟩ := He.ba e
  have xc : L2.ExcC K (He.ga K nm) := ⟨He.eqO_ok e5, He.eqO_ok e6, of_decide_eq_true e13, e14, He.eqO_ok e7, He.eqO_ok e18, of_decide_eq_true e19, of_decide_eq_true e16⟩
  exact { gC := PySem.W.mg_of X G (He.eqO_ok e1), ox := { toOX := { eb := ⟨_, _, ebV⟩, ins := e2, ov := e3, sa := He.eqO_ok e4, xc := xc, kp := e11 }, st := ⟨_, stV⟩, no := He.eqO_ok e8 }, iC := He.eqO_ok e9, tI := of_decide_eq_true e10, oex := ⟨oex_cls o, He.eqO_ok e4, of_decide_eq_true e13, of_decide_eq_true e12, e11⟩, xf := ⟨He.eqO_ok e5, He.eqO_ok e6, of_decide_eq_true e13, e14⟩, no := He.eqO_ok e8, kit := of_decide_eq_true e17 }
/-! ## its __init__ -/
def spErr (w : World) (C : Addr) (f : Str) : Sp := fun vs H Q _ => ∃ (x : Addr) (v : V) (d : PyData) (fp : List Addr), vs = [.ref x, v] ∧ H x = some (exo x C none) ∧ Rep w H v d fp ∧ sz d ≤ 1000 ∧
  ∀ H' dx v' f3, SameBut x H H' → H' x = some (exo x C (some dx)) → H dx = none → H' dx = some (exd dx [(f, v')]) → Rep w H' v' d f3 → (∀ a ∈ f3, H a = none ∧ a ≠ dx) → Q .non H'
section
variable {P : Program} {w : World} {K : PySem.W.Frag} {mg : Str → Option Value} {base : Heap}
theorem err_end {C x : Addr} {f : Str} {d : PyData} {H H2 : Hp} {Q : VK} {v' : V} {f3 : List Addr} (hx : H x = some (exo x C none))
    (q : ∀ H' dx v' f3, SameBut x H H' → H' x = some (exo x C (some dx)) → H dx = none → H' dx = some (exd dx [(f, v')]) → Rep w H' v' d f3 → (∀ a ∈ f3, H a = none ∧ a ≠ dx) → Q .non H')
    (s2 : Same H H2) (r2 : Rep w H2 v' d f3) (n2 : ∀ a ∈ f3, H a = none) : H2 x = some (exo x C none) ∧ ∀ dx, H2 dx = none → dx ≠ x → Q .non (upd (upd H2 dx (exd dx [(f, v')])) x (exo x C (some dx))) := by
  refine ⟨s2 _ _ hx, fun dx nd ne => ?_⟩
  have ndx : ∀ a ∈ f3, a ≠ dx := fun a ha z => by
    have z2 := r2.dom a ha
    rw [z] at z2
    exact z2 nd
  have nx : ∀ a ∈ f3, a ≠ x := fun a ha z => by
    have z2 := n2 a ha
    rw [z, hx] at z2
    cases z2
  refine q _ dx v' f3 (fun b o nb z => ?_) upd_same (s2.free nd) ?_ (r2.keep ⟨fun a ha => ?_, fun a xs z => ?_⟩) fun a ha => ⟨n2 a ha, ndx a ha⟩
  · rw [upd_ne nb, upd_ne (ne_of_none (s2 _ _ z) nd)]
    exact s2 _ _ z
  · rw [upd_ne ne, upd_same]
  · rw [upd_ne (nx a ha), upd_ne (ndx a ha)]
  · have na : a ≠ x := fun y => by
      rw [y, s2 _ _ hx] at z
      cases z
    rw [upd_ne na, upd_ne (ne_of_none z nd)]
    exact z
abbrev sIP : Stmt := methOf 10 0
theorem ok_ip {f1 C fI : Addr} {fd fdI : FuncData} (GC : FnOk P w K mg base CX0 2 f1 fd ["value"] (spCopied w)) (kC : PySem.W.keepIn K (.ref f1) = true) (bC : Binds K fd ["value"] []) (gC : mg "copied" = some (.ref f1))
    (mB : mg "ValueError" = none) (fi : PySem.W.findCls K (.type "ValueError") (.type "type") "__init__" = some (.val (.builtin "ValueError.__init__"))) (Er : ErrV K mg "InvalidProfile" "value" C fI) (F : Fun K "__init__" "InvalidProfile.__init__" sIP fI fdI) : FnOk P w K mg base CX0 3 fI fdI ["self", "value"] (spErr w C "value") := by
  have sc : FnScope ["self", "value"] ["self", "value"] (defScope sIP) := ⟨rfl, rfl, rfl, by decide +kernel, rfl, by decide +kernel, by decide +kernel⟩
  refine F.ok sc (fun vs H Q E h => ?_) (fun cdv A outer s H vs Q E hr h => ?_)
  · obtain ⟨x, v, d, fp, rfl, _⟩ := h
    rfl
  · obtain ⟨x, v, d, fp, rfl, hx, rp, hN, q⟩ := h
    refine ⟨_, pss_cons (ps_expr (peInitX Er.ox.toOX (by rfl) mB (by decide +kernel) (by rfl) (by decide +kernel) fi (by decide +kernel) (pa_cons (pv 0) (pa_cons pe_str pa_nil))))
      (pss_one (psSetX Er.ox (pv 0) (pe_call GC hr (by rfl) gC kC bC .nil pass0 (pa_cons (pv 1) pa_nil)))), ?_⟩
    refine ⟨.ref x, rfl, x, _, rfl, by show 1 ≤ 1000; decide, hx, v, rfl, v, d, fp, rfl, rp, hN, fun H2 v' f3 s2 r2 n2 => ?_⟩
    have z := err_end (C := C) hx q s2 r2 n2
    exact ⟨.ref x, rfl, x, rfl, z.1, z.2⟩
/-- raise C(e): what is asked -/
theorem raised {C : Addr} {f : Str} {te : TE} {σ : St} {H : Hp} {v : V} {d : PyData} {fp : List Addr} {Q : XK} (hv : GivesR te σ H (Pure v)) (r : Rep w H v d fp) (hs : sz d ≤ 1000)
    (q : ∀ H' dd fs v' f3, Same H H' → H' dd = some (.xd fs) → fs.lookup f = some v' → Rep w H' v' d f3 → Q (.ref C) (some dd) H') : tMkO C (spErr w C f) [] (tCons te tNil) σ H Q := by
  refine hv H (same_refl _) _ fun u H1 s1 z => ?_
  obtain ⟨rfl, rfl⟩ := z
  refine ⟨by show 1 ≤ 1000; decide, fun a na => ?_⟩
  have sa := same_upd (o := exo a C none) na
  refine ⟨a, u, d, fp, rfl, upd_same, r.same sa, hs, fun H' dx v' f3 sb ex ndx edx r' n3 => ⟨rfl, dx, [(f, v')], ex, edx, sa.free ndx, ?_⟩⟩
  have nda : dx ≠ a := fun z => by
    rw [z, upd_same] at ndx
    cases ndx
  have n3a : ∀ b ∈ f3, b ≠ a := fun b hb z => by
    have y := (n3 b hb).1
    rw [z, upd_same] at y
    cases y
  have n3d : ∀ b ∈ f3, b ≠ dx := fun b hb => (n3 b hb).2
  refine q _ dx [(f, v')] v' f3 (fun b o e => ?_) upd_same ?_ (r'.keep ⟨fun b hb => ?_, fun b xs e => ?_⟩)
  · have n1 : b ≠ a := ne_of_none e na
    have n2 : b ≠ dx := fun z => by
      have y := sa b o e
      rw [z, ndx] at y
      cases y
    rw [upd_ne n2, del_ne n1]
    exact sb b o n1 (sa b o e)
  · rw [List.lookup_cons, beq_self_eq_true]
  · rw [upd_ne (n3d b hb), del_ne (n3a b hb)]
  · have n1 : b ≠ a := fun z => by
      rw [z, ex] at e
      cases e
    have n2 : b ≠ dx := fun z => by
      rw [z, edx] at e
      cases e
    rw [upd_ne n2, del_ne n1]
    exact e
end
end KF
end L2
end
/-! ### PK -/
section
namespace L2
namespace KF
open PySem PySem.Spec PyProof.Rows PySem.KD KE KC PySem.KA
/-! ## surelyset.kinds, the tests of one value (k02's places) -/
abbrev sIsWord : Stmt := topS 3
theorem scIsWord : FnScope ["value", "letter"] ["value"] (defScope sIsWord) := ⟨rfl, rfl, rfl, by decide +kernel, rfl, by decide +kernel, by decide +kernel⟩
theorem small3000 {n : Nat} (h : n ≤ 3000) : n < sizeLine := Nat.lt_of_le_of_lt h (by decide)
def isIntD : PyData → Bool
  | .int _ => true
  | _ => false
def isIntTy : PyData → Bool
  | .int _ => true
  | .bool _ => true
  | _ => false
def isBoolD : PyData → Bool
  | .bool _ => true
  | _ => false
def isStrD : PyData → Bool
  | .str _ => true
  | _ => false
theorem kitInt (d : PyData) : kitB (tyD d) "int" = some (isIntTy d) := by cases d <;> (show kitB _ _ = some _; simp only [tyD, isIntTy]; decide +kernel)
theorem kitBool (d : PyData) : kitB (tyD d) "bool" = some (isBoolD d) := by cases d <;> (show kitB _ _ = some _; simp only [tyD, isBoolD]; decide +kernel)
theorem kitStr (d : PyData) : kitB (tyD d) "str" = some (isStrD d) := by cases d <;> (show kitB _ _ = some _; simp only [tyD, isStrD]; decide +kernel)
def letters : Str := "abcdefghijklmnopqrstuvwxyz"
/-- a word: 1 to 8 letters from a to z -/
def isWordS (x : Str) : Bool := decide (1 ≤ x.length) && decide (x.length ≤ 8) && x.cps.toList.all fun c => decide (c ∈ letters.cps.toList)
def isWordD : PyData → Bool
  | .str x => isWordS x
  | _ => false
structure BltI (mg : Str → Option Value) : Prop where
  isi : mg "isinstance" = none
  int : mg "int" = none
  bool : mg "bool" = none
  str : mg "str" = none
  list : mg "list" = none
  tuple : mg "tuple" = none
  len : mg "len" = none
  all : mg "all" = none
  letters : ∃ t, mg "LETTERS" = some (.str letters t)
  most : ∃ t, mg "MAX_LETTERS" = some (.int 8 t)
section
variable {P : Program} {w : World} {K : PySem.W.Frag} {mg : Str → Option Value} {base : Heap}
def spIsWord (w : World) : Sp := fun vs H Q _ => ∃ v d fp, vs = [v] ∧ Rep w H v d fp ∧ (∀ x, d = .str x → x.length ≤ 3000) ∧ ∀ H', Same H H' → Q (.bl (isWordD d)) H'
theorem ok_isWord {f : Addr} {fd : FuncData} {k : Nat} (F : Fun K "has_word_form" "has_word_form" sIsWord f fd) (B : BltI mg) : FnOk P w K mg base CX0 (k + 1) f fd ["value"] (spIsWord w) := by
  obtain ⟨tl, gl⟩ := B.letters
  obtain ⟨tm, gm⟩ := B.most
  refine F.ok scIsWord (fun vs H Q E h => ?_) (fun cdv A outer s H vs Q E hr h => ?_)
  · obtain ⟨v, d, fp, rfl, _⟩ := h
    rfl
  · obtain ⟨v, d, fp, rfl, rp, hx, q⟩ := h
    have hc : (cxOf CX0 P w K mg base ["value", "letter"] "has_word_form" (defScope sIsWord) f cdv A outer s H E).nox.calm = true := rfl
    refine ⟨_, pss_cons (ps_if (PW.pt (pw_or (pt_not (pt_val (pe_callB callIsD (by rfl) B.isi boot_isinstance (pa_cons (pv 0) (pa_cons (pe_bltn (v := .ty "str") (by rfl) B.str boot_str rfl) pa_nil)))))
        (pw_or1 (pt_not (pt_chain op_le op_le pe_int (pe_callB call_len_str (by rfl) B.len PySem.boot_len (pa_cons (pv 0) pa_nil)) (pe_glob (v := .int 8) (by rfl) gm ⟨_, rfl⟩)))))) (pss_one (ps_ret pe_bl)) pss_nil)
      (pss_one (ps_ret (pe_callB (cr_all hc) (by rfl) B.all (by decide +kernel) (pa_cons (pe_lc (own := [("letter", 1)]) (g := gName 1) (tt := tYes) rfl scIsWord.nd (pi_str (pv 0))
        (blkOk_by (N := ["value", "letter"]) (sc := defScope sIsWord) (by decide +kernel)) (fun _ _ _ _ _ => pg_name (i := 1) scIsWord.nd rfl (Or.inl rfl)) (fun _ _ _ _ _ => pts_nil) (fun _ _ _ _ _ => pe_cmpR op_in_sign (pv 1) (pe_glob (v := .str letters) (by rfl) gl ⟨_, rfl⟩) (by rfl))) pa_nil)))), ?_⟩
    refine ⟨v, rfl, v, d, fp, "str", isStrD d, rfl, rp, kitStr d, isStrD d, rfl, ?_⟩
    cases rp with
    | str x =>
      have hx1 := hx x rfl
      refine iteF ?_
      have hbig : x.length ≤ sizeLine := Nat.le_of_lt (small3000 hx1)
      refine ⟨.str x, rfl, x, rfl, hbig, 1, _, rfl, rfl, _, rfl, ?_⟩
      have word : isWordD (.str x) = (decide (1 ≤ x.length) && decide (x.length ≤ 8) && x.cps.toList.all fun c => decide (c ∈ letters.cps.toList)) := rfl
      by_cases h1 : 1 ≤ x.length
      · rw [show decide ((1 : Int) ≤ ((x.length : Nat) : Int)) = true from decide_eq_true (by omega)]
        refine iteT ⟨(x.length : Nat), 8, rfl, rfl, _, rfl, ?_⟩
        by_cases h8 : x.length ≤ 8
        · rw [show decide (((x.length : Nat) : Int) ≤ 8) = true from decide_eq_true (by omega)]
          refine iteF ⟨.str x, rfl, x, rfl, fun D nD => ?_⟩
          have next : ∀ i c, x.cps[i]? = some c → (x.cps.toList.take (i + 1)).map (fun c => V.bl (decide (c ∈ letters.cps.toList))) = (x.cps.toList.take i).map (fun c => V.bl (decide (c ∈ letters.cps.toList))) ++ [V.bl (decide (c ∈ letters.cps.toList))] := by
            intro i c e
            rw [List.take_add_one, Array.getElem?_toList, e, List.map_append]
            rfl
          refine lc_it (walk_str (z := x)) (fun i Hi => SameBut D (upd H D (.lst [])) Hi ∧ Hi D = some (.lst ((x.cps.toList.take i).map fun c => V.bl (decide (c ∈ letters.cps.toList))))) ⟨fun _ _ _ z => z, upd_same⟩ (fun _ _ _ _ => trivial) (fun i y Hi Hj hi hp hy => ?_) (fun Hi hp => ?_)
          · obtain ⟨rfl, c, gc, rfl⟩ := hy
            obtain ⟨sb, eD⟩ := hp
            refine ⟨rfl, .str ⟨#[c]⟩, rfl, c, letters, rfl, rfl, _, eD, ?_, fun b o nb z => ?_, ?_⟩
            · rw [List.length_map, List.length_take]
              exact Nat.lt_of_le_of_lt (Nat.min_le_right _ _) (small3000 hx1)
            · rw [upd_ne nb]
              exact sb b o nb z
            · rw [upd_same, next i c gc]
          · obtain ⟨sb, eD⟩ := hp
            have all : (x.cps.toList.take x.cps.size).map (fun c => V.bl (decide (c ∈ letters.cps.toList))) = (x.cps.toList.map fun c => decide (c ∈ letters.cps.toList)).map V.bl := by
              rw [List.take_of_length_le (by simp), List.map_map]
              rfl
            rw [all] at eD
            refine ⟨D, _, rfl, .inl (.inl eD), ?_⟩
            have sH : Same H Hi := fun b o z => sb b o (ne_of_none z nD) (by rw [upd_ne (ne_of_none z nD)]; exact z)
            have fin := q Hi sH
            rw [word, decide_eq_true h1, decide_eq_true h8, Bool.true_and, Bool.true_and] at fin
            rw [List.all_map]
            exact fin
        · rw [show decide (((x.length : Nat) : Int) ≤ 8) = false from decide_eq_false (by omega)]
          refine iteT ?_
          have fin := q H (Same.refl H)
          rw [word, decide_eq_false h8, Bool.and_false, Bool.false_and] at fin
          exact fin
      · rw [show decide ((1 : Int) ≤ ((x.length : Nat) : Int)) = false from decide_eq_false (by omega)]
        refine iteF ⟨false, rfl, iteT ?_⟩
        have fin := q H (Same.refl H)
        rw [word, decide_eq_false h1, Bool.false_and, Bool.false_and] at fin
        exact fin
    | none => exact iteT (iteT (q H (Same.refl H)))
    | bool b => exact iteT (iteT (q H (Same.refl H)))
    | int i => exact iteT (iteT (q H (Same.refl H)))
    | lst e r => exact iteT (iteT (q H (Same.refl H)))
    | tup e r => exact iteT (iteT (q H (Same.refl H)))
    | dct e ka nd hf rk rv => exact iteT (iteT (q H (Same.refl H)))
end
end KF
end L2
end
/-! ### RA -/
section
namespace L2
namespace KF
open PySem PySem.Spec PyProof.Rows PySem.KD KE KC PySem.KA KM TL
/-! ## is_outcome -/
abbrev sIO : Stmt := topS 4
theorem scIO : FnScope ["value"] ["value"] (defScope sIO) := ⟨rfl, rfl, rfl, by decide +kernel, rfl, by decide +kernel, by decide +kernel⟩
theorem letters_low : letters.cps.toList = low := low_str
theorem word_same (d : PyData) : isWordD d = wordD d := by
  cases d with
  | str x =>
    show isWordS x = isWordL (tl x)
    unfold isWordS isWordL
    rw [letters_low]
    have e : (tl x).length = x.length := by simp [Str.length]
    rw [e]
  | _ => rfl
theorem str_ext {a b : Str} (h : tl a = tl b) : a = b := by
  obtain ⟨⟨a⟩⟩ := a
  obtain ⟨⟨b⟩⟩ := b
  have z : a = b := h
  rw [z]
theorem tl_to (x : Str) (n : Nat) : tl (cutS x none (some ((n : Nat) : Int))) = (tl x).take n := by
  have e : x.cps.toList.length = x.length := by simp [Str.length]
  unfold cutS
  simp only [HT.sIx_none, HT.sIx_nat, List.drop_zero, Nat.sub_zero]
  exact take_min n x.length _ e.symm
theorem tl_from (x : Str) (n : Nat) : tl (cutS x (some ((n : Nat) : Int)) none) = (tl x).drop n := by
  have e : x.cps.toList.length = x.length := by simp [Str.length]
  unfold cutS
  simp only [HT.sIx_none, HT.sIx_nat]
  show List.take _ (List.drop _ x.cps.toList) = List.drop n x.cps.toList
  by_cases h : n ≤ x.length
  · rw [Nat.min_eq_left h]
    exact List.take_of_length_le (by rw [List.length_drop, e]; exact Nat.le_refl _)
  · rw [Nat.min_eq_right (by omega), Nat.sub_self, List.take_zero, List.drop_of_length_le (by omega)]
theorem starts_fail (x : Str) : Txt.startswith x (Str.ofString "fail ") = decide ((tl x).take 5 = tl (Str.ofString "fail ")) := by
  have ne : tl (Str.ofString "fail ") ≠ [] := by decide +kernel
  have a0 := at_iff (x := x) ne 0
  rw [List.drop_zero] at a0
  have l5 : (tl (Str.ofString "fail ")).length = 5 := by decide +kernel
  have e : Txt.startswith x (Str.ofString "fail ") = true ↔ (tl x).take 5 = tl (Str.ofString "fail ") := by
    have e1 : Txt.startswith x (Str.ofString "fail ") = true ↔ PySem.StrLaws.At x (Str.ofString "fail ") x.length 0 := by
      unfold Txt.startswith
      rw [Bool.and_eq_true, decide_eq_true_eq]
      exact Iff.rfl
    rw [e1]
    refine a0.trans ?_
    unfold pre
    rw [l5, beq_iff_eq]
  by_cases y : (tl x).take 5 = tl (Str.ofString "fail ")
  · rw [decide_eq_true y, e.mpr y]
  · rw [decide_eq_false y]
    exact Bool.eq_false_iff.mpr fun z => y (e.mp z)
section
variable {P : Program} {w : World} {K : PySem.W.Frag} {mg : Str → Option Value} {base : Heap}
def spTest (w : World) (g : PyData → Bool) : Sp := fun vs H Q _ => ∃ v d fp, vs = [v] ∧ Rep w H v d fp ∧ (∀ x, d = .str x → x.length ≤ 3000) ∧ ∀ H', Same H H' → Q (.bl (g d)) H'
theorem ok_io {f fW : Addr} {fd fdW : FuncData} (F : Fun K "is_outcome" "is_outcome" sIO f fd) (FW : Fun K "has_word_form" "has_word_form" sIsWord fW fdW) (gW : mg "has_word_form" = some (.ref fW)) (bW : Binds K fdW ["value"] []) (B : BltI mg) : FnOk P w K mg base CX0 2 f fd ["value"] (spTest w outD) := by
  have GW : FnOk P w K mg base CX0 1 fW fdW ["value"] (spIsWord w) := ok_isWord FW B
  refine F.ok scIO (fun vs H Q E h => ?_) (fun cdv A outer s H vs Q E hr h => ?_)
  · obtain ⟨v, d, fp, rfl, _⟩ := h
    rfl
  · obtain ⟨v, d, fp, rfl, rp, hx, q⟩ := h
    refine ⟨_, pss_cons (ps_if (pt_not (pt_val (pe_callB callIsD (by rfl) B.isi boot_isinstance (pa_cons (pv 0) (pa_cons (pe_bltn (v := .ty "str") (by rfl) B.str boot_str rfl) pa_nil))))) (pss_one (ps_ret pe_bl)) pss_nil)
      (pss_one (ps_ret (pe_or (pe_cmpR op_eq (pv 0) pe_str (nomark _)) (pe_one (pe_and (pe_m1 PySem.F.slot_str_startswith PySem.F.type_str_startswith mt_startswith (pv 0) pe_str)
        (pe_one (pe_call GW hr (by rfl) gW FW.kp bW .nil pass0 (pa_cons (pe_slice sl_str (pv 0) (po_some (pe_callB call_len_str (by rfl) B.len PySem.boot_len (pa_cons pe_str pa_nil))) po_none) pa_nil)))))))), ?_⟩
    refine ⟨v, rfl, v, d, fp, "str", isStrD d, rfl, rp, kitStr d, isStrD d, rfl, ?_⟩
    cases rp with
    | str x =>
      have hx1 := hx x rfl
      have big : x.length ≤ sizeLine := Nat.le_of_lt (small3000 hx1)
      refine iteF ⟨.str x, rfl, rfl, decide (V.str x = V.str "done"), rfl, ?_⟩
      have e1 : decide (V.str x = V.str "done") = decide (x = Str.ofString "done") := by
        by_cases z : x = Str.ofString "done"
        · rw [decide_eq_true z, decide_eq_true (by rw [z])]
        · rw [decide_eq_false z, decide_eq_false fun y => z (by injection y)]
      rw [e1]
      by_cases z : x = Str.ofString "done"
      · rw [decide_eq_true z]
        refine iteT ?_
        have fin := q H (Same.refl H)
        have e : outD (.str x) = true := by
          show (decide (x = Str.ofString "done") || _) = true
          rw [decide_eq_true z, Bool.true_or]
        rw [e] at fin
        exact fin
      · rw [decide_eq_false z]
        have eo : outD (.str x) = (decide ((tl x).take 5 = tl (Str.ofString "fail ")) && isWordL ((tl x).drop 5)) := by
          show (decide (x = Str.ofString "done") || _) = _
          rw [decide_eq_false z, Bool.false_or]
        rw [eo] at q
        have e2 : Txt.startswith x (Str.ofString "fail ") = decide ((tl x).take 5 = tl (Str.ofString "fail ")) := starts_fail x
        refine iteF ⟨.str x, rfl, ⟨x, rfl⟩, x, "fail ", rfl, rfl, Txt.startswith x "fail ", rfl, ?_⟩
        rw [show Txt.startswith x "fail " = _ from e2]
        by_cases y : (tl x).take 5 = tl (Str.ofString "fail ")
        · rw [decide_eq_true y] at q ⊢
          have f5 := tl_from x 5
          refine iteT ⟨.str x, rfl, Str.ofString "fail ", rfl, by decide +kernel, 5, rfl, x, rfl, big, .str (cutS x (some 5) none), .str (cutS x (some 5) none), [], rfl, .str _, fun u eu => ?_, fun H' s' => ?_⟩
          · injection eu with eu
            rw [← eu]
            exact Nat.le_trans (cutS_len x _ _) hx1
          · have fin := q H' s'
            rw [Bool.true_and] at fin
            rw [word_same]
            show Q (.bl (isWordL (tl (cutS x (some ((5 : Nat) : Int)) none)))) H'
            rw [f5]
            exact fin
        · rw [decide_eq_false y] at q ⊢
          exact iteF (q H (Same.refl H))
    | none => exact iteT (q H (Same.refl H))
    | bool b => exact iteT (q H (Same.refl H))
    | int i => exact iteT (q H (Same.refl H))
    | lst e r => exact iteT (q H (Same.refl H))
    | tup e r => exact iteT (q H (Same.refl H))
    | dct e _ _ _ _ _ => exact iteT (q H (Same.refl H))
end
end KF
end L2
end
/-! ### P2 -/
section
namespace L2
namespace KF
open PySem PySem.Spec PyProof.Rows PySem.KD KE KC PySem.KA KM TL
/-! ## [g(x) for x in d], d a dict; the same over its values -/
theorem wipe_one (σ : St) (j : Nat) (x : V) : wipe ((wipe σ [j]).set j (some x)) [j] = wipe σ [j] := by
  show ((σ.set j none).set j (some x)).set j none = σ.set j none
  rw [List.set_set, List.set_set]
theorem repAA_at {w : World} {H : Hp} : ∀ {vs : List V} {ds : List PyData} {f : List Addr} {i : Nat} {v : V}, RepAA w H vs ds f → vs[i]? = some v → ∃ d g, ds[i]? = some d ∧ RepA w H v d g ∧ ∀ a ∈ g, a ∈ f
  | _, _, _, 0, _, .cons (f1 := f1) (f2 := f2) h t, e => by
    obtain rfl := Option.some.inj e
    exact ⟨_, _, rfl, h, fun a ha => List.mem_append_left _ ha⟩
  | _, _, _, i + 1, _, .cons (f1 := f1) (f2 := f2) h t, e => by
    obtain ⟨d, g, h1, h2, h3⟩ := repAA_at t e
    exact ⟨d, g, h1, h2, fun a ha => List.mem_append_right _ (h3 a ha)⟩
/-- while d is locked, the rest as it was -/
theorem lock_tup {w : World} {d : Addr} {H : Hp} {es : List MRow} {u : HO} (e : H d = some (mdo w d es)) : TupK H (upd H d u) := fun a xs z => by
  have n : a ≠ d := fun y => by
    rw [y, e] at z
    cases z
  rw [upd_ne n]
  exact z
section
variable {w : World} {te : TE} {i j : Nat} {σ : St} {H : Hp} {Q : VK} {d : Addr} {es : List MRow} {kvs : List (PyData × PyData)} {fv : List Addr}
/-- the state of such a comprehension -/
structure LcD (w : World) (H : Hp) (d L : Addr) (od : Obj) (es : List MRow) (bs : List V) (Hi : Hp) : Prop where
  frz : Hi d = some (.frz od (mdo w d es))
  acc : Hi L = some (.lst bs)
  st : ∀ b u, b ≠ d → H b = some u → Hi b = some u
theorem LcD.next {od : Obj} {L : Addr} {bs : List V} {Hi H' : Hp} {y : V} (nL : (upd H d (.frz od (mdo w d es))) L = none) (S : LcD w H d L od es bs Hi) (s : Same Hi H') : LcD w H d L od es (bs ++ [y]) (upd H' L (.lst (bs ++ [y]))) := by
  have nd : d ≠ L := fun z => by
    rw [← z, upd_same] at nL
    cases nL
  refine ⟨by rw [upd_ne nd]; exact s _ _ S.frz, upd_same, fun b u nb e => ?_⟩
  have nb2 : b ≠ L := fun z => by
    rw [z] at nb e
    rw [upd_ne nb, e] at nL
    cases nL
  rw [upd_ne nb2]
  exact s _ _ (S.st b u nb e)
theorem lcD_end {od : Obj} {L : Addr} {bs : List V} {Hi : Hp} (e : H d = some (mdo w d es)) (nL : (upd H d (.frz od (mdo w d es))) L = none) (S : LcD w H d L od es bs Hi) : Same H (upd Hi d (mdo w d es)) ∧ (upd Hi d (mdo w d es)) L = some (.lst bs) ∧ H L = none := by
  have nd : L ≠ d := fun z => by
    rw [z, upd_same] at nL
    cases nL
  refine ⟨fun b u z => ?_, by rw [upd_ne nd]; exact S.acc, by rw [upd_ne nd] at nL; exact nL⟩
  by_cases nb : b = d
  · rw [nb, e] at z
    rw [nb, upd_same, ← z]
  · rw [upd_ne nb]
    exact S.st b u nb z
theorem keysB (D : DictAt w H d es kvs fv) (le : es.length ≤ 900) (g : PyData → Bool) (hi : σ[i]? = some (some (.ref d)))
    (step : ∀ (H' : Hp) (v : V) (kd : PyData), kd ∈ kvs.map (·.1) → Rep w H' v kd [] → ∀ Q' : VK, (∀ H'', Same H' H'' → Q' (.bl (g kd)) H'') → te ((wipe σ [j]).set j (some v)) H' Q')
    (q : ∀ H' L, Same H H' → H L = none → H' L = some (.lst (kvs.map fun p => V.bl (g p.1))) → Q (.ref L) H') : tLockE (tLc (iKeysMM w (tVar i)) (gName j) tYes te [j]) σ H Q := by
  refine ⟨d, mdo w d es, D.at_, trivial, fun od => c_lc ⟨.ref d, hi, d, od, es, rfl, upd_same, fun L nL => ?_⟩⟩
  have lx : es.length = kvs.length := by
    have z := D.rk.length
    rw [List.length_map, List.length_map] at z
    exact z
  have ndL : d ≠ L := fun z => by
    rw [← z, upd_same] at nL
    cases nL
  refine lc_it walkM (fun n Hi => LcD w H d L od es ((kvs.take n).map fun p => V.bl (g p.1)) Hi) ⟨by rw [upd_ne ndL, upd_same], upd_same, fun b u nb e => ?_⟩ (fun n Hi _ S => S.frz) (fun n x Hi Hj hn S hy => ?_) (fun Hi S => ?_)
  · have nb2 : b ≠ L := fun z => by
      rw [z] at nb e
      rw [upd_ne nb, e] at nL
      cases nL
    rw [upd_ne nb2, upd_ne nb]
    exact e
  · obtain ⟨rfl, p, hp, rfl⟩ := hy
    have hv : (es.map fun r => r.2.1)[n]? = some p.2.1 := by
      rw [List.getElem?_map, hp]
      rfl
    obtain ⟨kd, f, hk, r, sub⟩ := repAA_at D.rk hv
    have f0 : f = [] := List.eq_nil_iff_forall_not_mem.mpr fun a ha => nomatch sub a ha
    subst f0
    have tk : TupK H Hj := fun a xs z => S.st a _ (fun y => by
      rw [y, D.at_] at z
      cases z) z
    have r2 : Rep w Hj p.2.1 kd [] := r.rep.keep tk.keep0
    have hkv : ∃ z, kvs[n]? = some z ∧ z.1 = kd := by
      rw [List.getElem?_map] at hk
      cases e : kvs[n]? with
      | none =>
        rw [e] at hk
        cases hk
      | some z =>
        rw [e] at hk
        exact ⟨z, rfl, Option.some.inj hk⟩
    obtain ⟨z, ez, e1⟩ := hkv
    subst e1
    refine c_name ⟨wipe_one σ j _, step Hj _ z.1 (List.mem_map_of_mem (List.mem_of_getElem? ez)) r2 _ fun H' s => ⟨_, s _ _ S.acc, ?_, ?_⟩⟩
    · rw [List.length_map, List.length_take]
      exact small1000 (by omega)
    · have e2 : (kvs.take (n + 1)).map (fun p => V.bl (g p.1)) = (kvs.take n).map (fun p => V.bl (g p.1)) ++ [V.bl (g z.1)] := by
        rw [List.take_add_one, ez, List.map_append]
        rfl
      rw [e2]
      exact S.next nL s
  · rw [lx, List.take_length] at S
    obtain ⟨h1, h2, h3⟩ := lcD_end D.at_ nL S
    exact ⟨S.frz, q _ L h1 h3 h2⟩
theorem valsB (D : DictAt w H d es kvs fv) (le : es.length ≤ 900) (g : PyData → Bool) (hi : σ[i]? = some (some (.ref d)))
    (step : ∀ (H' : Hp) (v : V) (vd : PyData) (f : List Addr), vd ∈ kvs.map (·.2) → RepA w H' v vd f → ∀ Q' : VK, (∀ H'', Same H' H'' → Q' (.bl (g vd)) H'') → te ((wipe σ [j]).set j (some v)) H' Q')
    (q : ∀ H' L, Same H H' → H L = none → H' L = some (.lst (kvs.map fun p => V.bl (g p.2))) → Q (.ref L) H') : tLockE (tLc (iValsM w (tVar i)) (gName j) tYes te [j]) σ H Q := by
  refine ⟨d, mdo w d es, D.at_, trivial, fun od => c_lc ⟨.ref d, hi, d, od, es, rfl, upd_same, fun L nL => ?_⟩⟩
  have lx : es.length = kvs.length := by
    have z := D.rk.length
    rw [List.length_map, List.length_map] at z
    exact z
  have ndL : d ≠ L := fun z => by
    rw [← z, upd_same] at nL
    cases nL
  refine lc_it walkVM (fun n Hi => LcD w H d L od es ((kvs.take n).map fun p => V.bl (g p.2)) Hi) ⟨by rw [upd_ne ndL, upd_same], upd_same, fun b u nb e => ?_⟩ (fun n Hi _ S => S.frz) (fun n x Hi Hj hn S hy => ?_) (fun Hi S => ?_)
  · have nb2 : b ≠ L := fun z => by
      rw [z] at nb e
      rw [upd_ne nb, e] at nL
      cases nL
    rw [upd_ne nb2, upd_ne nb]
    exact e
  · obtain ⟨rfl, p, hp, rfl⟩ := hy
    have hv : (es.map fun r => r.2.2)[n]? = some p.2.2 := by
      rw [List.getElem?_map, hp]
      rfl
    obtain ⟨vd, f, hk, r, sub⟩ := repAA_at D.rv hv
    have tk : TupK H Hj := fun a xs z => S.st a _ (fun y => by
      rw [y, D.at_] at z
      cases z) z
    have r2 : RepA w Hj p.2.2 vd f := r.keep ⟨fun a ha => by
      cases e : H a with
      | none => exact absurd e (r.dom a ha)
      | some u => exact S.st a u (fun y => D.na (y ▸ sub a ha)) e, tk⟩
    have hkv : ∃ z, kvs[n]? = some z ∧ z.2 = vd := by
      rw [List.getElem?_map] at hk
      cases e : kvs[n]? with
      | none =>
        rw [e] at hk
        cases hk
      | some z =>
        rw [e] at hk
        exact ⟨z, rfl, Option.some.inj hk⟩
    obtain ⟨z, ez, e1⟩ := hkv
    subst e1
    refine c_name ⟨wipe_one σ j _, step Hj _ z.2 f (List.mem_map_of_mem (List.mem_of_getElem? ez)) r2 _ fun H' s => ⟨_, s _ _ S.acc, ?_, ?_⟩⟩
    · rw [List.length_map, List.length_take]
      exact small1000 (by omega)
    · have e2 : (kvs.take (n + 1)).map (fun p => V.bl (g p.2)) = (kvs.take n).map (fun p => V.bl (g p.2)) ++ [V.bl (g z.2)] := by
        rw [List.take_add_one, ez, List.map_append]
        rfl
      rw [e2]
      exact S.next nL s
  · rw [lx, List.take_length] at S
    obtain ⟨h1, h2, h3⟩ := lcD_end D.at_ nL S
    exact ⟨S.frz, q _ L h1 h3 h2⟩
end
end KF
end L2
end
/-! ### HS -/
section
namespace L2
namespace KS
open PySem PySem.Spec PyProof.Rows PySem.KD
/-! ## sets of texts: made of a dict with texts as keys, or of a list of texts; sorted -/
def txt (e : Int × Value) : Str := match e.2 with
  | .str x _ => x
  | _ => Str.empty
def TxtE (P : Program) (w : World) (e : Int × Value) : Prop := ∃ x tk, e.2 = .str x tk ∧ e.1 = (strKind P w).hash x
/-- at a the set of the texts ks -/
def SetS (P : Program) (w : World) (h : Heap) (a : Addr) (ks : List Str) : Prop :=
  ∃ o es ep t, h.get? a = some o ∧ o.ExactSet ∧ o.data = .set es ep t ∧ (∀ e ∈ es.toList, TxtE P w e) ∧ (es.toList.map txt).Perm ks ∧ ks.Nodup ∧ es.size < scanBound ∧ t.fits es.size = true ∧ Ris t.place.toList ∧
    (w.params.followText "set-order" = true ∨ t.led = true)
section
variable {P : Program} {w : World} {h h' : Heap} {a : Addr} {ks : List Str}
theorem SetS.keep (R : SetS P w h a ks) (k : ∀ o, h.get? a = some o → h'.get? a = some o) : SetS P w h' a ks := by
  obtain ⟨o, es, ep, t, e, r⟩ := R
  exact ⟨o, es, ep, t, k o e, r⟩
theorem txt_elems {l : List (Int × Value)} (g : ∀ e ∈ l, TxtE P w e) : ElemsOf (strKind P w) l := fun e he => by
  obtain ⟨x, tk, e1, e2⟩ := g e he
  refine ⟨⟨x, ?_, e2⟩, ?_⟩
  · rw [e1]
    exact strKind_is P w x tk
  · rw [e1]
    rfl
theorem txt_is {e : Int × Value} (g : TxtE P w e) (x : Str) : (strKind P w).is x e.2 = true ↔ txt e = x := by
  obtain ⟨y, tk, e1, _⟩ := g
  unfold txt
  rw [e1]
  constructor
  · intro z
    exact (strKind P w).inj (.str y tk) y x (strKind_is P w y tk) z
  · intro z
    have z' : y = x := z
    rw [z']
    exact strKind_is P w x tk
theorem txt_mem {l : List (Int × Value)} (g : ∀ e ∈ l, TxtE P w e) (x : Str) : x ∈ l.map txt ↔ ∃ e ∈ l, (strKind P w).is x e.2 = true := by
  constructor
  · intro z
    obtain ⟨e, he, q⟩ := List.mem_map.mp z
    exact ⟨e, he, (txt_is (g e he) x).mpr q⟩
  · rintro ⟨e, he, q⟩
    exact List.mem_map.mpr ⟨e, he, (txt_is (g e he) x).mp q⟩
end
section
variable {P : Program} {w : World} {A : Around} {E : Value → Shared → Prop} {s : Shared} {a : Addr} {ks : List Str}
/-- the last part of an addition: the element is laid, then perhaps the whole table anew -/
theorem lay_tail {g : Bool → Sem Unit} (hg : ∀ (b : Bool) (s1 : Shared) (Q1 : Unit → Shared → Prop), Q1 () s1 → wpAny (model P w) A (g b) Q1 E s1)
    {o : Obj} {es0 es1 : Array (Int × Value)} {ep : Nat} {t0 t1 : SetTable} {wd : Bool} {ks' : List Str} {R : Option Bool → Shared → Prop} (ho : s.heap.get? a = some o) (hx : o.ExactSet) (hd : o.data = .set es0 ep t0)
    (g1 : ∀ e ∈ es1.toList, TxtE P w e) (p1 : (es1.toList.map txt).Perm ks') (n1 : ks'.Nodup) (b1 : es1.size < scanBound) (f1 : t1.fits es1.size = true) (r1 : Ris t1.place.toList) (l1 : w.params.followText "set-order" = true ∨ t1.led = true)
    (z : ∀ h', Heap.SameBut a s.heap h' → SetS P w h' a ks' → R (some true) { s with heap := h' }) :
    wpAny (model P w) A (do
      storeSet a es1 t1
      if (!wd && t1.tooFull) = true then do
        g (relayAll t1 es1 (SetTable.grown es1.size)).2.2
        storeSet a (relayAll t1 es1 (SetTable.grown es1.size)).1 (relayAll t1 es1 (SetTable.grown es1.size)).2.1
        pure (some true)
      else pure (some true)) R E s := by
  have sb1 := Heap.SameBut.update s.heap a (Obj.putSet es1 t1)
  have ho1 := store_at (es' := es1) (t' := t1) ho hd
  refine wpAny_bind (wpAny_storeSet_of ho hd ?_ (fits_of_scanBound b1))
  split
  · have q1 := relayAll_perm t1 es1 (SetTable.grown es1.size)
    have q2 := relayAll_fits t1 es1 (SetTable.grown es1.size)
    have q3 := relayAll_ris t1 es1 (SetTable.grown es1.size)
    have q4 := relayAll_led t1 es1 (SetTable.grown es1.size)
    generalize relayAll t1 es1 (SetTable.grown es1.size) = Z at q1 q2 q3 q4 ⊢
    obtain ⟨es2, t2, gv⟩ := Z
    have sz : es2.size = es1.size := by
      rw [← Array.length_toList, ← Array.length_toList]
      exact q1.length_eq
    have b2 : es2.size < scanBound := sz ▸ b1
    refine wpAny_bind (hg gv _ _ (wpAny_bind (wpAny_storeSet_of ho1 rfl (wpAny_pure (z _ (sb1.trans (Heap.SameBut.update _ a _)) ?_)) (fits_of_scanBound b2))))
    exact ⟨_, es2, _, t2, store_at (es' := es2) (t' := t2) ho1 rfl, hx, rfl, fun e he => g1 e (q1.mem_iff.mp he), (q1.map txt).trans p1, n1, b2, q2, q3, l1.imp id fun y => q4.trans y⟩
  · exact wpAny_pure (z _ sb1 ⟨_, es1, _, t1, ho1, hx, rfl, g1, p1, n1, b1, f1, r1, l1⟩)
theorem adds {x : Str} {tk : Tok} {Q : Bool → Shared → Prop} (R : SetS P w s.heap a ks) (room : ks.length + 1 < scanBound)
    (z0 : x ∈ ks → Q false s) (z1 : x ∉ ks → ∀ h', Heap.SameBut a s.heap h' → SetS P w h' a (x :: ks) → Q true { s with heap := h' }) :
    wpAny (model P w) A (setAddHashed a (.str x tk) ((strKind P w).hash x)) Q E s := by
  obtain ⟨o, es, ep, t, ho, hx, hd, g, pm, nd, hb, hf, hr, hl⟩ := R
  have ik : (strKind P w).is x (.str x tk) = true := strKind_is P w x tk
  have sc : (Value.str x tk).scannable = true := rfl
  have el : ElemsOf (strKind P w) es.toList := txt_elems g
  have len : es.size = ks.length := by
    have q := pm.length_eq
    rw [List.length_map, Array.length_toList] at q
    exact q
  unfold setAddHashed setAddHashedIn
  refine wpAny_holding (wpAny_bind (wpAny_setState_of ho hd hf ?_))
  dsimp only
  rw [byScan_of sc hb el, if_pos rfl]
  unfold setAddByScan
  refine wpAny_bind (wpAny_bind (wpAny_rule (wpAny_bind (wpAny_setScan_of ik ho hd hf el ?_))))
  cases hi : List.findIdx? (fun e => (strKind P w).is x e.2) es.toList with
  | some j =>
    obtain ⟨lj, pj, _⟩ := List.findIdx?_eq_some_iff_getElem.mp hi
    have inn : x ∈ ks := pm.mem_iff.mp ((txt_mem g x).mpr ⟨_, List.getElem_mem lj, pj⟩)
    exact wpAny_pure (wpAny_pure (z0 inn))
  | none =>
    have out : x ∉ es.toList.map txt := fun y => by
      obtain ⟨e, he, q⟩ := (txt_mem g x).mp y
      have c := List.findIdx?_eq_none_iff.mp hi e he
      rw [q] at c
      cases c
    have out2 : x ∉ ks := fun y => out (pm.mem_iff.mpr y)
    dsimp only
    have quiet : ∀ (b : Bool) {s1 : Shared} {Q1 : Unit → Shared → Prop}, Q1 () s1 → wpAny (model P w) A (match b with | true => rule "set.scan.the-table-gave-way" | false => pure ()) Q1 E s1 := fun b s1 Q1 q => by
      cases b
      · exact wpAny_pure q
      · exact wpAny_rule q
    have q1 := layNew_perm t es ((strKind P w).hash x) (.str x tk)
    have q2 := layNew_fits t es ((strKind P w).hash x) (.str x tk)
    have q3 := layNew_ris t es ((strKind P w).hash x) (.str x tk) hr
    have q4 := layNew_led t es ((strKind P w).hash x) (.str x tk)
    generalize layNew t es ((strKind P w).hash x) (.str x tk) = Z at q1 q2 q3 q4 ⊢
    obtain ⟨es1, t1, wd, gv⟩ := Z
    dsimp only at q1 q2 q3 q4 ⊢
    rw [Array.toList_push] at q1
    have pc : es1.toList.Perm (((strKind P w).hash x, Value.str x tk) :: es.toList) := q1.trans (List.perm_append_singleton _ _)
    have pk : (es1.toList.map txt).Perm (x :: ks) := (pc.map txt).trans (pm.cons x)
    have g1 : ∀ e ∈ es1.toList, TxtE P w e := fun e he => by
      rcases List.mem_cons.mp (pc.mem_iff.mp he) with y | y
      · rw [y]
        exact ⟨x, tk, rfl, rfl⟩
      · exact g e y
    have n1 : (x :: ks).Nodup := List.nodup_cons.mpr ⟨out2, nd⟩
    have sz : es1.size = ks.length + 1 := by
      have q := pk.length_eq
      rw [List.length_map, Array.length_toList] at q
      exact q
    have b1 : es1.size < scanBound := by
      rw [sz]
      exact room
    have ld : w.params.followText "set-order" = true ∨ t1.led = true := hl.imp id fun y => q4.trans y
    refine wpAny_bind (quiet gv ?_)
    split
    · rw [hashByValue_scannable 8 sc]
      refine wpAny_bind (wpAny_pure ?_)
      refine lay_tail (ks' := x :: ks) ?_ ho hx hd g1 pk n1 b1 ?_ ?_ ?_ fun h' sb r => ?_
      · exact fun b s1 Q1 q => quiet b q
      · first
          | (split <;> first
              | exact q2
              | exact SetTable.fits_plain_off q2)
          | exact q2
      · first
          | (split <;> exact q3)
          | exact q3
      · first
          | (split <;> exact ld)
          | exact ld
      · exact wpAny_pure (z1 out2 h' sb r)
    · refine wpAny_bind (wpAny_pure ?_)
      rw [if_pos rfl]
      refine lay_tail (ks' := x :: ks) (fun b s1 Q1 q => quiet b q) ho hx hd g1 pk n1 b1 q2 q3 ld fun h' sb r => ?_
      exact wpAny_pure (z1 out2 h' sb r)
end
/-! ### set(d) -/
theorem none_at (n j : Nat) : (Array.replicate n (none : Option Nat)).getD j none = none := by
  unfold Array.getD
  split
  · simp
  · rfl
/-- a table without elements, laid anew -/
theorem relaid_nil (t : SetTable) (wanted : Nat) : ∃ t', t.relaid #[] wanted = some (t', #[]) ∧ t'.place = #[] ∧ t'.dummies = #[] ∧ t'.led = t.led ∧ t'.mask = SetTable.sizeAbove wanted - 1 := by
  refine ⟨{ mask := SetTable.sizeAbove wanted - 1, place := #[], dummies := #[], finger := t.finger, led := t.led, moves := t.movedTo (SetTable.sizeAbove wanted - 1), plain := t.plain }, ?_, rfl, rfl, rfl, rfl⟩
  have lay : SetTable.layClean (SetTable.sizeAbove wanted - 1) #[] = some (Array.replicate (SetTable.sizeAbove wanted - 1 + 1) none) := by
    generalize SetTable.sizeAbove wanted - 1 = M
    rfl
  unfold SetTable.relaid SetTable.laid
  rw [lay]
  have live : (List.range (SetTable.sizeAbove wanted - 1 + 1)).filterMap (fun j => ((Array.replicate (SetTable.sizeAbove wanted - 1 + 1) (none : Option Nat)).getD j none).map (j, ·)) = [] := by
    refine List.filterMap_eq_nil_iff.mpr fun j _ => ?_
    rw [none_at]
    rfl
  simp only [Option.bind_eq_bind, Option.bind_some, live]
  rfl
section
variable {P : Program} {w : World} {A : Around} {E : Value → Shared → Prop} {s : Shared} {a d : Addr}
theorem dict_not_set : isSubtype (.type "dict") (.type "set") = pure false := by
  rw [isSubtype_type]
  kernel_rfl
theorem dict_not_frozen : isSubtype (.type "dict") (.type "frozenset") = pure false := by
  rw [isSubtype_type]
  kernel_rfl
/-- an empty set gets room -/
theorem room_for {n : Nat} {o : Obj} {ep : Nat} {t : SetTable} {Q : Unit → Shared → Prop} (ho : s.heap.get? a = some o) (hx : o.ExactSet) (hd : o.data = .set #[] ep t) (hf : t.fits 0 = true) (hr : Ris t.place.toList) (hl : w.params.followText "set-order" = true ∨ t.led = true)
    (sz : SetTable.sizeAbove ((t.place.size + n) * 2) ≤ sizeLine) (z : ∀ h', Heap.SameBut a s.heap h' → SetS P w h' a [] → Q () { s with heap := h' }) : wpAny (model P w) A (setRoomFor a n) Q E s := by
  have here : SetS P w s.heap a [] := ⟨o, #[], ep, t, ho, hx, hd, (fun e he => by simp at he), List.Perm.refl _, List.nodup_nil, by decide, hf, hr, hl⟩
  unfold setRoomFor
  refine wpAny_bind (wpAny_setState_of ho hd hf ?_)
  dsimp only
  unfold SetTable.roomFor
  by_cases c : (t.fill + n) * 5 ≥ t.mask * 3
  · rw [if_pos c]
    obtain ⟨t', e1, e2, e3, e4, e5⟩ := relaid_nil t ((t.place.size + n) * 2)
    show wpAny _ _ (setRelay a ((t.place.size + n) * 2)) _ _ _
    rw [setRelay_eq]
    refine wpAny_bind (wpAny_setState_of ho hd hf ?_)
    dsimp only
    refine wp_if_neg (Nat.not_lt.mpr sz) ?_
    have e1' : t.relaid (Array.map (fun x : Int × Value => x.1) #[]) ((t.place.size + n) * 2) = some (t', #[]) := by
      rw [show Array.map (fun x : Int × Value => x.1) #[] = #[] from by simp]
      exact e1
    rw [e1']
    dsimp only
    refine wpAny_bind (wp_if_neg (by simp) (wpAny_pure (wpAny_storeSet_of ho hd (z _ (Heap.SameBut.update ..) ?_) (by simp [sizeLine_eq]))))
    refine ⟨_, _, _, t', store_at ho hd, hx, rfl, (fun e he => by simp at he), by simp, List.nodup_nil, by simp [scanBound], ?_, ?_, ?_⟩
    · unfold SetTable.fits SetTable.fill
      rw [e2, e3]
      simp
    · rw [e2]
      exact List.Pairwise.nil
    · rw [e4]
      exact hl
  · rw [if_neg c]
    exact wpAny_pure (z s.heap (Heap.SameBut.refl a s.heap) here)
/-- the loop over a dict's entries -/
theorem dict_adds {o : Obj} {es : Array DictEntry} {ep : Nat} {ks : List Str} {Q : Unit → Shared → Prop} (ho : s.heap.get? d = some o) (hd : o.data = .dict es ep) (ne : d ≠ a)
    (he : ∀ (i : Nat) (e : DictEntry), es[i]? = some e → ∃ x tk, ks[i]? = some x ∧ e.key = Value.str x tk ∧ e.hash = (strKind P w).hash x) (len : es.size = ks.length) (nd : ks.Nodup) (few : ks.length < 4000) (R : SetS P w s.heap a [])
    (z : ∀ h' tk, Heap.SameBut a s.heap h' → SetS P w h' a ks.reverse → Q () { s with heap := h', toks := tk }) :
    wpAny (model P w) A (do
      for i in [0:es.size] do
        let some e := (← dictEntries d)[i]? | unsupported "internal:set-from-dict"
        let _ ← holding [e.key] (setAddHashed a e.key e.hash)
        if (← dictEpoch d) != ep then unsupported s!"{"set.__init__"}:changed-during-callback") Q E s := by
  refine wpAny_bind ?_
  refine SeqAt.wpAny_forIn_span 0 es.size _ (fun i _ s' => ∃ h' tk, s' = { s with heap := h', toks := tk } ∧ Heap.SameBut a s.heap h' ∧ SetS P w h' a (ks.take i).reverse) _ (fun i c s' _ hi hI => ?_) (fun c s' hI => ?_) _
    ⟨s.heap, s.toks, rfl, Heap.SameBut.refl a s.heap, by simpa using R⟩
  · obtain ⟨h', tk, rfl, sb, R'⟩ := hI
    have gi : es[i]? = some es[i] := Array.getElem?_eq_getElem hi
    obtain ⟨x, tx, gx, ekey, ehash⟩ := he i _ gi
    have ho' : h'.get? d = some o := (sb.2 d ne).trans ho
    refine wpAny_bind (wpAny_dictEntries (s := { s with heap := h', toks := tk }) ho' hd ?_)
    rw [gi]
    dsimp only
    rw [ekey, ehash]
    have nin : x ∉ (ks.take i).reverse := fun y => by
      obtain ⟨j, hj, e⟩ := List.getElem_of_mem (List.mem_reverse.mp y)
      rw [List.length_take] at hj
      rw [List.getElem_take] at e
      obtain ⟨hi2, e2⟩ := List.getElem?_eq_some_iff.mp gx
      have := (List.getElem_inj (xs := ks) (i := j) (j := i) (h₀ := by omega) (h₁ := hi2) nd).mp (e.trans e2.symm)
      omega
    have short : (ks.take i).reverse.length + 1 < scanBound := by
      rw [List.length_reverse, List.length_take]
      unfold scanBound
      omega
    refine wpAny_bind (wpAny_holding (adds (s := { s with heap := h', toks := tk }) R' short (fun y => absurd y nin) fun _ h2 sb2 R2 => ?_))
    have ho2 : h2.get? d = some o := (sb2.2 d ne).trans ho'
    refine wpAny_bind (wpAny_dictEpoch (s := { s with heap := h2, toks := tk }) ho2 hd ?_)
    rw [if_neg (by simp)]
    refine wpAny_pure ⟨h2, tk, rfl, sb.trans sb2, ?_⟩
    rw [List.take_add_one, gx]
    simpa using R2
  · obtain ⟨h', tk, rfl, sb, R'⟩ := hI
    rw [Nat.zero_max, len, List.take_length] at R'
    exact wpAny_pure (z h' tk sb R')
/-- set(d), d a dict whose keys are texts -/
theorem set_dict {o : Obj} {es : Array DictEntry} {ep : Nat} {ks : List Str} {Q : Value → Shared → Prop} (ho : s.heap.get? d = some o) (hx : o.ExactDict) (hd : o.data = .dict es ep) (sy : (d == sysModules) = false)
    (he : ∀ (i : Nat) (e : DictEntry), es[i]? = some e → ∃ x tk, ks[i]? = some x ∧ e.key = Value.str x tk ∧ e.hash = (strKind P w).hash x) (len : es.size = ks.length) (nd : ks.Nodup) (few : ks.length < 4000)
    (z : ∀ h' tk, (∀ b u, s.heap.get? b = some u → h'.get? b = some u) → SetS P w h' s.heap.objs.size ks.reverse → Q (.ref s.heap.objs.size) { s with heap := h', toks := tk }) : wpAny (model P w) A (call (.type "set") [.ref d]) Q E s := by
  obtain ⟨c0, t0, hmro⟩ := F.called_set.mro
  have m0 := F.called_set.made
  have m1 := F.called_set.sub
  have m2 := F.called_set.notType
  have m3 := F.called_set.canCreate
  have m4 := F.typeCall_set_1 (.ref d)
  refine wpAny_call (codeAny_of_tree (show wpAny _ _ (callAny (.type "set") _) _ _ _ from wpAny_pure ⟨Code.quiet_builtin _ (by decide +kernel), codeAny_builtin F.entry_type_call ?_⟩))
  rw [Around.under_plain (weight_type_call_type "set" [.ref d] []) rfl]
  repeat (any_goals (first
    | assumption
    | wp_step))
  refine codeAny_mono (code_set_led1 (.ref d) (E := E) (Q₁ := fun v s1 => v = .ref s.heap.objs.size ∧ s1 = { s with heap := s.heap.push { cls := .type "set", dict := none, data := .set #[] 0 (.fresh 0 0 (!w.params.followText "set-order")) } }) ⟨rfl, rfl⟩) fun r s1 hr => ?_
  match r, hr with
  | .error e, hr => exact hr
  | .ok .next, hr => exact hr.elim
  | .ok .brk, hr => exact hr.elim
  | .ok .cont, hr => exact hr.elim
  | .ok (.ret v), hr =>
    obtain ⟨rfl, rfl⟩ := hr
    have hS : (s.heap.push { cls := .type "set", dict := none, data := .set #[] 0 (.fresh 0 0 (!w.params.followText "set-order")) }).get? s.heap.objs.size = some { cls := .type "set", dict := none, data := .set #[] 0 (.fresh 0 0 (!w.params.followText "set-order")) } := Heap.get?_push_size _ rfl
    have tS : Shared.TypeIs { s with heap := s.heap.push { cls := .type "set", dict := none, data := .set #[] 0 (.fresh 0 0 (!w.params.followText "set-order")) } } (.ref s.heap.objs.size) "set" := ⟨_, hS, rfl⟩
    have i0 := F.called_set.init.lookup
    have i1 := F.called_set.init.bind (.ref s.heap.objs.size)
    repeat (any_goals (first
      | assumption
      | wp_step))
    refine codeAny_mono (codeAny_call_builtin (R := wants (fun r s2 => r = .none ∧ ∃ h' tk, s2 = { s with heap := h', toks := tk } ∧ SetS P w h' s.heap.objs.size ks.reverse ∧ ∀ b u, s.heap.get? b = some u → h'.get? b = some u) E) F.called_set.init.plain F.entry_set_init (check_set_init_1 tS ?_)) fun r2 s2 hr2 => ?_
    · have hD : (s.heap.push { cls := .type "set", dict := none, data := .set #[] 0 (.fresh 0 0 (!w.params.followText "set-order")) }).get? d = some o := Heap.get?_push_of_some _ ho
      have tD : Shared.TypeIs { s with heap := s.heap.push { cls := .type "set", dict := none, data := .set #[] 0 (.fresh 0 0 (!w.params.followText "set-order")) } } (.ref d) "dict" := ⟨_, hD, hx.1⟩
      have nd1 := dict_not_set
      have nd2 := dict_not_frozen
      have ne : d ≠ s.heap.objs.size := Nat.ne_of_lt (Heap.lt_size ho)
      unfold Builtin.«set.__init__» noKeywords Builtin.Frozenset.updateFrom
      wp_walk
      rw [hd]
      refine wpAny_pure (wpAny_bind (wpAny_dictEntries hD hd ?_))
      have big : ∀ n, n < 4000 → SetTable.sizeAbove ((0 + n) * 2) ≤ sizeLine := fun n hn => by
        have z1 : ∀ f b, b ≤ 16384 → (0 + n) * 2 < 8192 → SetTable.sizeAbove.go ((0 + n) * 2) f b ≤ 16384 := by
          intro f
          induction f with
          | zero => exact fun b hb _ => hb
          | succ f ih =>
            intro b hb hn2
            unfold SetTable.sizeAbove.go
            split
            · exact ih _ (by omega) hn2
            · exact hb
        refine Nat.le_trans (z1 64 8 (by decide) (by omega)) (by decide)
      refine wpAny_bind (room_for (n := es.size) hS ⟨rfl, rfl, rfl⟩ rfl rfl List.Pairwise.nil ?_ (big _ (by omega)) fun h1 sb1 R1 => ?_)
      · show _ ∨ (!w.params.followText "set-order") = true
        cases w.params.followText "set-order"
        · exact .inr rfl
        · exact .inl rfl
      have hD1 : h1.get? d = some o := (sb1.2 d ne).trans hD
      refine wpAny_bind (wpAny_dictEntries (s := { s with heap := h1 }) hD1 hd ?_)
      refine dict_adds (s := { s with heap := h1 }) hD1 hd ne he len nd few R1 fun h2 tk sb2 R2 => ?_
      refine wpAny_pure ⟨rfl, h2, tk, rfl, R2, fun b u e => ?_⟩
      have nb : b ≠ s.heap.objs.size := Nat.ne_of_lt (Heap.lt_size e)
      exact (sb2.2 b nb).trans ((sb1.2 b nb).trans (Heap.get?_push_of_some _ e))
    · match r2, hr2 with
      | .error e, hr2 => exact hr2
      | .ok .next, hr2 => exact hr2.elim
      | .ok .brk, hr2 => exact hr2.elim
      | .ok .cont, hr2 => exact hr2.elim
      | .ok (.ret v), hr2 =>
        obtain ⟨rfl, h', tk, rfl, hS', hk'⟩ := hr2
        repeat (any_goals (first
          | assumption
          | wp_step))
        exact z _ _ hk' hS'
end
end KS
end L2
end
/-! ### HS2 -/
section
namespace L2
namespace KS
open PySem PySem.Spec PyProof.Rows PySem.KD KE
/-! ## sorted(set of texts) -/
def leS (a b : Str) : Bool := decide (a.cps.toList ≤ b.cps.toList)
def srt (ks : List Str) : List Str := ks.mergeSort leS
theorem leS_eq : PySem.W.dataLe false (fun x : Str => PyData.str x) = leS := PySem.W.dataLe_str (β := Str) (fun x => x)
theorem srt_perm (ks : List Str) : (srt ks).Perm ks := List.mergeSort_perm _ _
theorem leS_anti {a b : Str} (h1 : leS a b = true) (h2 : leS b a = true) : a = b := by
  have e : a.cps.toList = b.cps.toList := List.le_antisymm (of_decide_eq_true h1) (of_decide_eq_true h2)
  obtain ⟨x⟩ := a
  obtain ⟨y⟩ := b
  have e2 : x = y := Array.toList_inj.mp e
  rw [e2]
theorem leS_total (a b : Str) : (leS a b || leS b a) = true := by
  rcases List.le_total a.cps.toList b.cps.toList with h | h
  · rw [show leS a b = true from decide_eq_true h]
    rfl
  · rw [show leS b a = true from decide_eq_true h, Bool.or_true]
theorem leS_trans (a b c : Str) (h1 : leS a b = true) (h2 : leS b c = true) : leS a c = true := decide_eq_true (List.le_trans (of_decide_eq_true h1) (of_decide_eq_true h2))
theorem srt_sorted (ks : List Str) : (srt ks).Pairwise fun a b => leS a b = true := List.pairwise_mergeSort leS_trans leS_total ks
/-- a list in order is its own sorted list, however it is shuffled -/
theorem sorted_one : ∀ {xs ys : List Str}, xs.Perm ys → xs.Pairwise (fun a b => leS a b = true) → ys.Pairwise (fun a b => leS a b = true) → xs = ys
  | [], ys, p, _, _ => (List.nil_perm.mp p).symm
  | x :: xs, [], p, _, _ => absurd p.length_eq (by simp)
  | x :: xs, y :: ys, p, hx, hy => by
    obtain ⟨x1, x2⟩ := List.pairwise_cons.mp hx
    obtain ⟨y1, y2⟩ := List.pairwise_cons.mp hy
    have e : x = y := by
      rcases List.mem_cons.mp (p.mem_iff.mp List.mem_cons_self) with z | z
      · exact z
      rcases List.mem_cons.mp (p.mem_iff.mpr (List.mem_cons_self (a := y) (l := ys))) with z2 | z2
      · exact z2.symm
      · exact leS_anti (x1 y z2) (y1 x z)
    subst e
    rw [sorted_one (List.Perm.cons_inv p) x2 y2]
theorem srt_of_perm {xs ys : List Str} (p : xs.Perm ys) : srt xs = srt ys := sorted_one ((srt_perm xs).trans (p.trans (srt_perm ys).symm)) (srt_sorted xs) (srt_sorted ys)
theorem srt_mem {ks : List Str} {x : Str} : x ∈ srt ks ↔ x ∈ ks := (srt_perm ks).mem_iff
theorem each_strs : ∀ {vs : List Value}, (∀ v ∈ vs, ∃ x tk, v = Value.str x tk) → ∃ xs : List Str, PySem.W.EachIs (fun v x => ∃ tk, v = Value.str x tk) vs xs
  | [], _ => ⟨[], .nil⟩
  | v :: vs, h => by
    obtain ⟨x, tk, e⟩ := h v List.mem_cons_self
    obtain ⟨xs, r⟩ := each_strs fun u hu => h u (List.mem_cons_of_mem _ hu)
    exact ⟨x :: xs, .cons ⟨tk, e⟩ r⟩
theorem each_txt : ∀ {es : List (Int × Value)} {xs : List Str}, PySem.W.EachIs (fun v x => ∃ tk, v = Value.str x tk) (es.map (·.2)) xs → xs = es.map txt
  | [], _, .nil => rfl
  | e :: es, x :: xs, .cons h t => by
    obtain ⟨tk, z⟩ := h
    have z' : e.2 = Value.str x tk := z
    rw [List.map_cons, ← each_txt t]
    unfold txt
    rw [z']
theorem each_perm {R : Value → Str → Prop} : ∀ {vs us : List Value}, vs.Perm us → ∀ {xs : List Str}, PySem.W.EachIs R vs xs → ∃ ys, PySem.W.EachIs R us ys ∧ xs.Perm ys := by
  intro vs us p
  induction p with
  | nil =>
    intro xs r
    exact ⟨xs, r, List.Perm.refl _⟩
  | cons v _ ih =>
    intro xs r
    cases r with
    | cons h t =>
      obtain ⟨ys, r2, q⟩ := ih t
      exact ⟨_ :: ys, .cons h r2, q.cons _⟩
  | swap v u l =>
    intro xs r
    cases r with
    | cons h t =>
      cases t with
      | cons h2 t2 => exact ⟨_, .cons h2 (.cons h t2), List.Perm.swap _ _ _⟩
  | trans _ _ ih1 ih2 =>
    intro xs r
    obtain ⟨ys, r1, q1⟩ := ih1 r
    obtain ⟨zs, r2, q2⟩ := ih2 r1
    exact ⟨zs, r2, q1.trans q2⟩
section
variable {P : Program} {w : World} {A : Around} {E : Value → Shared → Prop} {s : Shared} {a : Addr} {ks : List Str}
theorem strs_alike (xs : List Str) : PySem.W.AllAlike (xs.map PyData.str) := fun d hd d' hd' => by
  obtain ⟨x, _, rfl⟩ := List.mem_map.mp hd
  obtain ⟨y, _, rfl⟩ := List.mem_map.mp hd'
  rfl
theorem strs_sortable (xs : List Str) : PySem.W.Sortable (xs.map PyData.str) := .inr fun d hd => by
  obtain ⟨x, _, rfl⟩ := List.mem_map.mp hd
  exact ⟨(fun z => nomatch z), fun _ z => nomatch z⟩
theorem vals_strs : ∀ {vs : List Value} {xs : List Str}, PySem.W.EachIs (fun v x => ∃ tk, v = Value.str x tk) vs xs → Vals (xs.map V.str) vs
  | _, _, .nil => .nil
  | _, _, .cons h t => .cons h (vals_strs t)
theorem sorted_texts {Q : Value → Shared → Prop} (R : SetS P w s.heap a ks) (hh : A.handled = none) (hu : A.units + 40 < cLine)
    (z : ∀ s' p (out : List Value) (c : Nat), (∀ b o, s.heap.get? b = some o → s'.heap.get? b = some o) → s'.gens = s.gens → s'.os = s.os → s.heap.objs.size ≤ p → s'.heap.get? p = some (seqObj "list" out.toArray c) → Vals ((srt ks).map V.str) out → Q (.ref p) s') :
    wpAny (model P w) A (call (.builtin "sorted") [.ref a]) Q E s := by
  obtain ⟨o, es, ep, t, ho, hx, hd, g, pm, nd, hb, hf, hr, hl⟩ := R
  have few : ks.length < 4096 := by
    have q := pm.length_eq
    rw [List.length_map, Array.length_toList] at q
    rw [← q]
    exact hb
  refine Calls.call_function_entry kind_sorted plain_sorted entry_sorted (args_sorted1 _) (wpAny_bind (m := checkCount "sorted" 1 1 _) (wpAny_pure (wpAny_bind (collect_set (A := A.in1) hh ⟨o, ho, hx.1, hd⟩ hf hb hr hl fun s1 vs k1 z1 g1 o1 pv => ?_))))
  have all : ∀ v ∈ es.toList.map (·.2), ∃ x tk, v = Value.str x tk := fun v hv => by
    obtain ⟨e, he, rfl⟩ := List.mem_map.mp hv
    obtain ⟨x, tk, e1, _⟩ := g e he
    exact ⟨x, tk, e1⟩
  obtain ⟨xs0, r0⟩ := each_strs all
  have e0 := each_txt r0
  obtain ⟨xs, r1, p1⟩ := each_perm pv.symm r0
  have pk : xs.Perm ks := p1.symm.trans (e0 ▸ pm)
  have lv : vs.length = ks.length := r1.length.trans pk.length_eq
  refine wpAny_bind (wpAny_newList ?_ (by rw [lv, sizeLine_eq]; omega))
  have hoL : (s1.heap.push (seqObj "list" vs.toArray 0)).get? s1.heap.objs.size = some (seqObj "list" vs.toArray 0) := Heap.get?_push_size _ rfl
  refine wpAny_bind (wpAny_holding (PySem.W.list_sort_data (s := { s1 with heap := s1.heap.push (seqObj "list" vs.toArray 0) }) (enc := PyData.str) hoL r1 (r1.mono fun v x h => ?_) (strs_alike xs) (strs_sortable xs) (by rw [pk.length_eq, sizeLine_eq]; omega) (fun x _ => ?_) fun out ol or_ => ?_))
  · obtain ⟨tk, rfl⟩ := h
    exact ⟨[], .str x tk, by simp⟩
  · show A.units + 1 + 1 + (PyData.str x).depth < cLine
    simp only [PyData.depth]
    omega
  · obtain ⟨c, hc⟩ := sortedHeap_at (vs := vs) (out := out.toArray) hoL
    have e1 : xs.mergeSort (PySem.W.dataLe false PyData.str) = srt ks := by
      rw [show PySem.W.dataLe false PyData.str = leS from leS_eq]
      exact srt_of_perm pk
    rw [e1] at or_
    refine wpAny_pure ⟨_, rfl, z _ s1.heap.objs.size out c (fun b u e => ?_) g1 o1 z1 hc (vals_strs or_)⟩
    have q := k1 b u e
    have lt := Heap.lt_size q
    show (sortedHeap (s1.heap.push (seqObj "list" vs.toArray 0)) s1.heap.objs.size vs out.toArray).get? b = some u
    rw [sortedHeap_old (Nat.ne_of_lt lt) (by rw [size_push']; exact Nat.lt_succ_of_lt lt)]
    exact Heap.get?_push_of_some _ q
end
/-! ### in the hand layer -/
/-- at a the set of the texts ks -/
def SetO' (P : Program) (w : World) (a : Addr) (ks : List Str) : HO := .ext fun h => SetS P w h a ks
theorem setO'_ok {P : Program} {w : World} {H : Hp} {h : Heap} {a : Addr} {ks : List Str} (R : SetS P w h a ks) : ObjOk P w H h a (SetO' P w a ks) := by
  have ⟨o, _, _, _, e, _⟩ := R
  exact ⟨R, ⟨o, e⟩, fun _ _ p k => p.keep fun u e => k u e⟩
theorem paired_at {α β : Type} {R : α → β → Prop} : ∀ {xs : List α} {ys : List β} {i : Nat} {y : β}, Paired R xs ys → ys[i]? = some y → ∃ x, xs[i]? = some x ∧ R x y
  | _, _, 0, _, .cons a _, h => ⟨_, rfl, by rw [← Option.some.inj h]; exact a⟩
  | _, _, i + 1, _, .cons _ t, h => paired_at (i := i) t h
  | _, _, _, _, .nil, h => by simp at h
theorem kAt_text {H : Hp} {x : Str} {v : V} (h : kAt H (.text x) v) : v = .str x := by
  cases h.1
  rfl
section
variable {X : Cx}
/-- set(d), d's keys texts -/
def rSetD (P : Program) (w : World) : List V → Hp → VK → Prop := fun vs H Q => ∃ (d : Addr) (es : List MRow) (ks : List Str), vs = [V.ref d] ∧ Rd H d (mdo w d es) ∧ es.map (·.1) = ks.map NestedKey.text ∧ KAll H es ∧ ks.Nodup ∧ ∀ a, H a = none → Q (.ref a) (upd H a (SetO' P w a ks.reverse))
theorem cr_setD : CallR X (.type "set") (rSetD X.prog X.w) := by
  intro pins s σ H vs us Q I r h
  obtain ⟨d, es, ks, rfl, ed, ek, ka, nd, q⟩ := h
  rw [Vals.ref1 r]
  obtain ⟨l, sy, rows, rr, D⟩ := mdo_rd I.hok ed
  obtain ⟨o, ens, ep, ho, hc, hd, he⟩ := D.at_
  have sz : ens.size = es.length := by
    rw [← Array.length_toList, he, List.length_map]
    exact (Paired.length rr).symm
  have lk : ks.length = es.length := by
    have := congrArg List.length ek
    rw [List.length_map, List.length_map] at this
    exact this.symm
  have hn : H s.heap.objs.size = none := I.hok.fresh (Nat.le_refl _)
  refine set_dict ho hc hd sy (fun i e hi => ?_) (sz.trans lk.symm) nd (by omega) fun h' tk k R => ?_
  · have hi' : (rows.map (rowE X.w))[i]? = some e := by
      rw [← he, Array.getElem?_toList]
      exact hi
    rw [List.getElem?_map] at hi'
    obtain ⟨row, hrow, rfl⟩ := Option.map_eq_some_iff.mp hi'
    obtain ⟨m, hm, rel⟩ := paired_at rr hrow
    obtain ⟨k1, r1, r2⟩ := rel
    have km : (es.map (·.1))[i]? = some m.1 := by rw [List.getElem?_map, hm]; rfl
    rw [ek, List.getElem?_map] at km
    obtain ⟨x, hx, ex⟩ := Option.map_eq_some_iff.mp km
    have kk := ka m (List.mem_of_getElem? hm)
    rw [← ex] at kk
    have e3 : m.2.1 = V.str x := kAt_text kk
    rw [e3] at r1
    obtain ⟨t, r1⟩ := r1
    refine ⟨x, t, hx, r1, ?_⟩
    show row.1.hash X.w = _
    rw [← k1, ← ex]
    simp only [NestedKey.hash]
    rfl
  · exact ⟨.ref _, _, I.laid (t' := tk) k (Nat.le_refl _) (setO'_ok R), rfl, q _ hn⟩
/-- sorted(a set of texts) -/
def rSortS (P : Program) (w : World) : List V → Hp → VK → Prop := fun vs H Q => ∃ (a : Addr) (ks : List Str), vs = [V.ref a] ∧ H a = some (SetO' P w a ks) ∧ ks.length ≤ 1000 ∧ ∀ p, H p = none → Q (.ref p) (upd H p (.lst ((srt ks).map V.str)))
theorem cr_sortS (hc : X.calm = true) (hu : X.A.units + 40 < cLine) : CallR X (.builtin "sorted") (rSortS X.prog X.w) := by
  intro pins s σ H vs us Q I r h
  obtain ⟨a, ks, rfl, ea, lk, q⟩ := h
  rw [Vals.ref1 r]
  have R : SetS X.prog X.w s.heap a ks := (I.hok a _ ea).1
  refine sorted_texts R (I.ok.hd hc) hu fun s' p out c k g o hp hg rv => ?_
  have ll : ((srt ks).map V.str).length ≤ sizeLine := by
    rw [List.length_map, (srt_perm ks).length_eq, sizeLine_eq]
    omega
  have hn : H p = none := I.hok.fresh hp
  have J : Inv X pins σ (upd H p (.lst ((srt ks).map V.str))) { s with heap := s'.heap, gens := s'.gens, drawn := s'.drawn, toks := s'.toks } :=
    I.call (ch := []) (Un.laid k hp hn) (I.hok.laid k hp ⟨ll, out, c, rv, hg⟩) (by rw [g]; exact I.bare) (fun _ z => nomatch z)
  obtain ⟨h1, h2, h3, h4, h5⟩ := s'
  have e5 : h5 = s.os := o
  subst e5
  exact ⟨.ref p, _, J, rfl, q p hn⟩
end
end KS
end L2
end
/-! ### SQ -/
section
namespace L2
namespace KS
open PySem PySem.Spec PyProof.Rows PySem.KD
/-! ## set == set, texts in both -/
theorem entry_set_eq : entryFor table "set.__eq__" = some Builtin.«frozenset.__eq__» :=
  entryFor_alias (id' := "frozenset.__eq__") (by kernel_rfl) rfl (by decide +kernel) (by kernel_rfl)
section
variable {P : Program} {w : World} {A : Around} {E : Value → Shared → Prop} {s : Shared} {a b : Addr} {ks ls : List Str}
theorem SetS.typeIs {h : Heap} (R : SetS P w h a ks) {s : Shared} (e : s.heap = h) : s.TypeIs (.ref a) "set" := by
  obtain ⟨o, es, ep, t, ho, hx, _⟩ := R
  exact ⟨o, by rw [e]; exact ho, hx.1⟩
theorem anySet_set {Q : Bool → Shared → Prop} (h : s.TypeIs (.ref b) "set") (q : Q true s) : wpAny (model P w) A (Builtin.Frozenset.isAnySet (.ref b)) Q E s := by
  unfold Builtin.Frozenset.isAnySet orM
  exact wpAny_bind (wpAny_isInstance h PySem.F.sub_set_set (wpAny_pure q))
theorem quiet_txt {x : Str} {tk : Tok} {Q : Bool → Shared → Prop} (q : Q true s) : wpAny (model P w) A (Builtin.Frozenset.quietEq (.str x tk)) Q E s := by
  unfold Builtin.Frozenset.quietEq
  exact wpAny_pure q
/-- the elements, all texts, in the order in which they lie -/
theorem unseen_txt {oa ob : Obj} {ea eb : Array (Int × Value)} {pa pb : Nat} {ta tb : SetTable} {Q : List (Int × Value) → Shared → Prop} (ha : s.heap.get? a = some oa) (da : oa.data = .set ea pa ta) (fa : ta.fits ea.size = true)
    (hb : s.heap.get? b = some ob) (db : ob.data = .set eb pb tb) (fb : tb.fits eb.size = true) (ga : ∀ e ∈ ea.toList, TxtE P w e) (gb : ∀ e ∈ eb.toList, TxtE P w e) (q : Q ea.toList s) :
    wpAny (model P w) A (Builtin.Frozenset.walkUnseen a b) Q E s := by
  unfold Builtin.Frozenset.walkUnseen
  refine wpAny_bind (wpAny_setEntries_of ha da fa (wpAny_bind (wpAny_setEntries_of hb db fb (wpAny_bind ?_))))
  have all : ∀ e ∈ ea.toList ++ eb.toList, TxtE P w e := fun e he => (List.mem_append.mp he).elim (ga e) (gb e)
  revert all
  generalize ea.toList ++ eb.toList = L
  intro all
  refine wpAny_forIn_list _ (fun (l : List (Int × Value)) (acc : Option (List (Int × Value)) × Unit) s' => s' = s ∧ acc.1 = none ∧ ∀ e ∈ l, TxtE P w e) _ (fun e l acc s' h => ?_) (fun acc s' h => ?_) L (none, ()) (And.intro rfl (And.intro rfl all))
  · obtain ⟨rfl, h0, hl⟩ := h
    obtain ⟨x, tk, e1, _⟩ := hl e List.mem_cons_self
    obtain ⟨h1, h2⟩ := e
    simp only at e1
    subst e1
    refine wpAny_bind (quiet_txt ?_)
    exact wpAny_pure (And.intro rfl (And.intro rfl fun e he => hl e (List.mem_cons_of_mem _ he)))
  · obtain ⟨rfl, h0, _⟩ := h
    obtain ⟨a0, u0⟩ := acc
    simp only at h0
    subst h0
    exact wpAny_pure q
/-- each text of the one set, one after the other, is looked for in the other one -/
theorem subset_txt {id : String} {Q : Bool → Shared → Prop} (Ra : SetS P w s.heap a ks) (Rb : SetS P w s.heap b ls) (q : Q (decide (ks.length ≤ ls.length) && ks.all fun x => decide (x ∈ ls)) s) : wpAny (model P w) A (Builtin.Frozenset.subsetOf id a b) Q E s := by
  obtain ⟨oa, ea, pa, ta, ha, xa, da, ga, ma, na, ba, fa, _⟩ := Ra
  obtain ⟨ob, eb, pb, tb, hb, xb, db, gb, mb, nb, bb, fb, _⟩ := Rb
  have la : ea.size = ks.length := by
    have z := ma.length_eq
    rw [List.length_map, Array.length_toList] at z
    exact z
  have lb : eb.size = ls.length := by
    have z := mb.length_eq
    rw [List.length_map, Array.length_toList] at z
    exact z
  unfold Builtin.Frozenset.subsetOf Builtin.Frozenset.sizeOf
  refine wpAny_bind (wpAny_bind (wpAny_setEntries_of ha da fa (wpAny_pure (wpAny_bind (wpAny_bind (wpAny_setEntries_of hb db fb (wpAny_pure ?_)))))))
  by_cases c : ea.size > eb.size
  · rw [if_pos c]
    have z : decide (ks.length ≤ ls.length) = false := decide_eq_false (by omega)
    rw [z, Bool.false_and] at q
    exact wpAny_pure q
  · rw [if_neg c]
    have z : decide (ks.length ≤ ls.length) = true := decide_eq_true (by omega)
    rw [z, Bool.true_and] at q
    refine wpAny_bind (wpAny_setEpoch_of ha da fa (wpAny_bind (unseen_txt ha da fa hb db fb ga gb (wpAny_bind ?_))))
    have e0 : (ks.all fun x => decide (x ∈ ls)) = ea.toList.all fun e => decide (txt e ∈ ls) := by
      rw [Bool.eq_iff_iff, List.all_eq_true, List.all_eq_true]
      refine ⟨fun h e he => h _ (ma.mem_iff.mp (List.mem_map_of_mem he)), fun h x hx => ?_⟩
      obtain ⟨e, he, rfl⟩ := List.mem_map.mp (ma.mem_iff.mpr hx)
      exact h e he
    rw [e0] at q
    revert ga
    revert q
    generalize ea.toList = L
    intro q ga
    have hel : ElemsOf (strKind P w) eb.toList := txt_elems gb
    have hmem : ∀ k : Str, (decide (k ∈ ls)) = true ↔ ∃ e ∈ eb.toList, (strKind P w).is k e.2 = true := fun k => by
      rw [decide_eq_true_eq, ← txt_mem gb]
      exact mb.mem_iff.symm
    refine wpAny_forIn_list _ (fun (l : List (Int × Value)) (acc : Option Bool × Unit) s' => s' = s ∧ acc.1 = none ∧ (∀ e ∈ l, TxtE P w e) ∧ (L.all fun e => decide (txt e ∈ ls)) = l.all fun e => decide (txt e ∈ ls)) _ (fun e l acc s' h => ?_) (fun acc s' h => ?_) L (none, ()) (And.intro rfl (And.intro rfl (And.intro ga rfl)))
    · obtain ⟨rfl, h0, hl, he⟩ := h
      obtain ⟨x, tk, e1, e2⟩ := hl e List.mem_cons_self
      obtain ⟨h1, h2⟩ := e
      simp only at e1 e2
      subst e1
      subst e2
      have et : txt ((strKind P w).hash x, Value.str x tk) = x := rfl
      rw [List.all_cons, et] at he
      refine wpAny_bind (wpAny_holding (PySem.W.setFind_any (knd := strKind P w) (k := x) (S := fun k => decide (k ∈ ls)) (strKind_is P w x tk) rfl hb db hel hmem bb fb fun r hr => ?_))
      cases r with
      | none =>
        have hr' : decide (x ∈ ls) = false := hr.symm
        rw [hr', Bool.false_and] at he
        rw [he] at q
        exact wpAny_pure (wpAny_pure q)
      | some n =>
        have hr' : decide (x ∈ ls) = true := hr.symm
        rw [hr', Bool.true_and] at he
        unfold Builtin.Frozenset.unchanged
        refine wpAny_bind (wpAny_bind (wpAny_setEpoch_of ha da fa ?_))
        rw [if_neg (by simp)]
        exact wpAny_pure (wpAny_pure (And.intro rfl (And.intro rfl (And.intro (fun e he => hl e (List.mem_cons_of_mem _ he)) he))))
    · obtain ⟨rfl, h0, _, he⟩ := h
      obtain ⟨a0, u0⟩ := acc
      simp only at h0
      subst h0
      rw [he] at q
      exact wpAny_pure q
/-- whether two sets of texts are equal -/
def sameS (ks ls : List Str) : Bool := decide (ks.length = ls.length) && ks.all fun x => decide (x ∈ ls)
theorem sets_eq {Q : Value → Shared → Prop} (hu : A.units < cLine) (Ra : SetS P w s.heap a ks) (Rb : SetS P w s.heap b ls) (q : Q (.bool (sameS ks ls)) s) : wpAny (model P w) A (compareOp .Eq (.ref a) (.ref b)) Q E s := by
  have tA := Ra.typeIs (s := s) rfl
  have tB := Rb.typeIs (s := s) rfl
  refine wpAny_richCompare_same_room (op := .Eq) tA tB PySem.F.slot_set_eq (wpAny_call_entry PySem.F.slot_set_eq tA entry_set_eq ?_ (PySem.F.args_set_eq_2 _ _)) hu
  obtain ⟨oa, ea, pa, ta, ha, xa, da, ga, ma, na, ba, fa, ra⟩ := id Ra
  obtain ⟨ob, eb, pb, tb, hb, xb, db, gb, mb, nb, bb, fb, rb⟩ := id Rb
  have la : ea.size = ks.length := by
    have z := ma.length_eq
    rw [List.length_map, Array.length_toList] at z
    exact z
  have lb : eb.size = ls.length := by
    have z := mb.length_eq
    rw [List.length_map, Array.length_toList] at z
    exact z
  unfold Builtin.«frozenset.__eq__»
  show wpAny _ _ (Builtin.Frozenset.slot1 "__eq__" ⟨[.ref a, .ref b], []⟩ >>= _) _ _ s
  refine wpAny_bind ?_
  unfold Builtin.Frozenset.slot1 slotArgs
  refine wpAny_bind (wpAny_bind (wpAny_pure (wpAny_pure ?_)))
  refine wpAny_pure ?_
  refine wpAny_bind (anySet_set tB ?_)
  simp only [Bool.not_true, Bool.false_eq_true, ↓reduceIte]
  refine wpAny_bind (wpAny_pure (wpAny_bind (wpAny_pure ?_)))
  unfold Builtin.Frozenset.sizeOf
  refine wpAny_bind (wpAny_bind (wpAny_setEntries_of ha da fa (wpAny_pure (wpAny_bind (wpAny_bind (wpAny_setEntries_of hb db fb (wpAny_pure ?_)))))))
  refine wpAny_bind ?_
  have fin : ∀ x : Bool, x = sameS ks ls → wpAny (model P w) A.in1 (ret (Value.bool x)) (fun fin s' => ∃ v, fin = Fin.done (Flow.ret v) ∧ v ≠ Value.notImplemented ∧ Q v s') E s := fun x e => by
    rw [e]
    exact wpAny_pure (Exists.intro _ (And.intro rfl (And.intro (fun z => nomatch z) q)))
  by_cases c : ea.size = eb.size
  · rw [if_neg (by simp [c])]
    refine wpAny_bind ?_
    unfold andM
    refine wpAny_bind (wpAny_isInstance tA PySem.F.sub_set_frozenset ?_)
    refine wpAny_pure ?_
    rw [if_neg Bool.false_ne_true]
    refine subset_txt Ra Rb (fin _ ?_)
    unfold sameS
    rw [decide_eq_true (show ks.length ≤ ls.length by omega), decide_eq_true (show ks.length = ls.length by omega)]
  · rw [if_pos (by simp [c])]
    refine wpAny_pure (fin _ ?_)
    unfold sameS
    rw [decide_eq_false (show ¬ ks.length = ls.length by omega), Bool.false_and]
end
section
variable {X : Cx}
/-- == of two sets of texts -/
def rEqSS (P : Program) (w : World) : V → V → Hp → VK → Prop := fun x y H Q => ∃ (a b : Addr) (ks ls : List Str), x = .ref a ∧ y = .ref b ∧ H a = some (SetO' P w a ks) ∧ H b = some (SetO' P w b ls) ∧ Q (.bl (sameS ks ls)) H
theorem op_eqSS (hu : X.A.units < cLine) : OpR X (compareOp .Eq) (rEqSS X.prog X.w) := by
  intro pins s σ H x y v u Q I rx ry h
  obtain ⟨a, b, ks, ls, rfl, rfl, ea, eb, q⟩ := h
  obtain rfl : v = Value.ref a := rx
  obtain rfl : u = Value.ref b := ry
  exact sets_eq hu (I.hok a _ ea).1 (I.hok b _ eb).1 ⟨.bl _, H, I, rfl, q⟩
end
end KS
end L2
end
/-! ### RB -/
section
namespace L2
namespace KF
open PySem PySem.Spec PyProof.Rows PySem.KD KE KC PySem.KA KM TL
/-! ## right data as rows -/
theorem key_text {H : Hp} {k : NestedKey} {x : Str} (h : kAt H k (.str x)) : k = .text x := by
  cases h.1
  rfl
theorem wordD_str {d : PyData} (h : wordD d = true) : ∃ x, d = .str x ∧ isWordL (tl x) = true := by
  cases d with
  | str x => exact ⟨x, rfl, h⟩
  | _ => cases h
theorem levD_str {lv : List Str} {d : PyData} (h : levD lv d = true) : ∃ x, d = .str x ∧ x ∈ lv := by
  cases d with
  | str x => exact ⟨x, rfl, of_decide_eq_true h⟩
  | _ => cases h
theorem outD_str {d : PyData} (h : outD d = true) : ∃ x, d = .str x := by
  cases d with
  | str x => exact ⟨x, rfl⟩
  | _ => cases h
theorem repA_str {w : World} {H : Hp} {v : V} {x : Str} {f : List Addr} (r : RepA w H v (.str x) f) : v = .str x := by
  cases r
  rfl
/-- a row of words to levels, in the heap -/
structure RowAt (w : World) (H : Hp) (lv : List Str) (a : Addr) (ls : List (Str × Str)) : Prop where
  at_ : H a = some (mdo w a (rowsT ls))
  nd : (ls.map (·.1)).Nodup
  word : ∀ q ∈ ls, isWordL (tl q.1) = true
  lev : ∀ q ∈ ls, q.2 ∈ lv
theorem RowAt.keep {w : World} {H H' : Hp} {lv : List Str} {a : Addr} {ls : List (Str × Str)} (R : RowAt w H lv a ls) (e : H' a = some (mdo w a (rowsT ls))) : RowAt w H' lv a ls := ⟨e, R.nd, R.word, R.lev⟩
theorem rows_text {w : World} {H : Hp} {lv : List Str} : ∀ {es : List MRow} {kvs : List (PyData × PyData)} {fk fv : List Addr}, KAll H es → RepAA w H (es.map fun r => r.2.1) (kvs.map (·.1)) fk → RepAA w H (es.map fun r => r.2.2) (kvs.map (·.2)) fv →
    (kvs.all fun p => wordD p.1 && levD lv p.2) = true → ∃ ls : List (Str × Str), es = rowsT ls ∧ kvs = kvT ls ∧ (∀ q ∈ ls, isWordL (tl q.1) = true) ∧ ∀ q ∈ ls, q.2 ∈ lv
  | [], kvs, fk, fv, _, rk, _, _ => by
    have l := rk.length
    rw [List.length_map, List.length_map] at l
    have e : kvs = [] := List.length_eq_zero_iff.mp l.symm
    exact ⟨[], rfl, e, (fun _ z => nomatch z), fun _ z => nomatch z⟩
  | e :: es, [], fk, fv, _, rk, _, _ => by
    have l := rk.length
    rw [List.length_map, List.length_map] at l
    cases l
  | e :: es, p :: kvs, fk, fv, ka, rk, rv, h => by
    rw [List.map_cons, List.map_cons] at rk rv
    rw [List.all_cons, Bool.and_eq_true, Bool.and_eq_true] at h
    obtain ⟨⟨h1, h2⟩, h3⟩ := h
    obtain ⟨x, ex, hx⟩ := wordD_str h1
    obtain ⟨y, ey, hy⟩ := levD_str h2
    cases rk with
    | cons r1 rk =>
      cases rv with
      | cons r2 rv =>
        obtain ⟨ls, g1, g2, g3, g4⟩ := rows_text (fun q hq => ka q (List.mem_cons_of_mem _ hq)) rk rv h3
        rw [ex] at r1
        rw [ey] at r2
        have v1 := repA_str r1
        have v2 := repA_str r2
        have k1 := ka e List.mem_cons_self
        rw [v1] at k1
        have k2 := key_text k1
        obtain ⟨e1, e2, e3⟩ := e
        obtain ⟨p1, p2⟩ := p
        simp only at v1 v2 k2 ex ey
        subst v1 v2 k2 ex ey g1 g2
        refine ⟨(x, y) :: ls, rfl, rfl, fun q hq => ?_, fun q hq => ?_⟩
        · rcases List.mem_cons.mp hq with rfl | hq
          · exact hx
          · exact g3 q hq
        · rcases List.mem_cons.mp hq with rfl | hq
          · exact hy
          · exact g4 q hq
theorem nodup_of_text {xs : List Str} (h : (xs.map NestedKey.text).Nodup) : xs.Nodup := List.Pairwise.imp (fun ne e => ne (by rw [e])) (List.pairwise_map.mp h)
theorem row_at {w : World} {H : Hp} {v : V} {d : PyData} {f : List Addr} {lv : List Str} (r : RepA w H v d f) (h : rowD lv d = true) : ∃ a ls, v = .ref a ∧ d = .dict (kvT ls) ∧ a ∈ f ∧ RowAt w H lv a ls := by
  cases r with
  | @dct a es kvs fv e ka nd rk rv na =>
    obtain ⟨ls, rfl, rfl, h3, h4⟩ := rows_text ka rk rv h
    refine ⟨a, ls, rfl, rfl, List.mem_cons_self, e, ?_, h3, h4⟩
    rw [rowsT_keys] at nd
    exact nodup_of_text nd
  | _ => cases h
/-- right finals, in the heap -/
structure FinAt (w : World) (H : Hp) (d : Addr) (fs : List Fin) : Prop where
  at_ : H d = some (mdo w d (rowsF fs))
  nd : (fs.map (·.1)).Nodup
  out : ∀ q ∈ fs, outD (.str q.1) = true
  row : ∀ q ∈ fs, RowAt w H endL q.2.1 q.2.2
  ne : ∀ q ∈ fs, q.2.1 ≠ d
theorem rows_fin {w : World} {H : Hp} : ∀ {es : List MRow} {kvs : List (PyData × PyData)} {fk fv : List Addr}, KAll H es → RepAA w H (es.map fun r => r.2.1) (kvs.map (·.1)) fk → RepAA w H (es.map fun r => r.2.2) (kvs.map (·.2)) fv →
    (kvs.all fun p => outD p.1 && rowD endL p.2) = true → ∃ fs : List Fin, es = rowsF fs ∧ kvs = kvF fs ∧ (∀ q ∈ fs, outD (.str q.1) = true) ∧ ∀ q ∈ fs, RowAt w H endL q.2.1 q.2.2 ∧ q.2.1 ∈ fv
  | [], kvs, fk, fv, _, rk, _, _ => by
    have l := rk.length
    rw [List.length_map, List.length_map] at l
    have e : kvs = [] := List.length_eq_zero_iff.mp l.symm
    exact ⟨[], rfl, e, (fun _ z => nomatch z), fun _ z => nomatch z⟩
  | e :: es, [], fk, fv, _, rk, _, _ => by
    have l := rk.length
    rw [List.length_map, List.length_map] at l
    cases l
  | e :: es, p :: kvs, fk, fv, ka, rk, rv, h => by
    rw [List.map_cons, List.map_cons] at rk rv
    rw [List.all_cons, Bool.and_eq_true, Bool.and_eq_true] at h
    obtain ⟨⟨h1, h2⟩, h3⟩ := h
    obtain ⟨x, ex⟩ := outD_str h1
    cases rk with
    | cons r1 rk =>
      cases rv with
      | @cons _ _ _ _ f1 f2 r2 rv =>
        obtain ⟨fs, g1, g2, g3, g4⟩ := rows_fin (fun q hq => ka q (List.mem_cons_of_mem _ hq)) rk rv h3
        obtain ⟨a, ls, v2, ey, ha, ra⟩ := row_at r2 h2
        rw [ex] at r1
        have v1 := repA_str r1
        have k1 := ka e List.mem_cons_self
        rw [v1] at k1
        have k2 := key_text k1
        obtain ⟨e1, e2, e3⟩ := e
        obtain ⟨p1, p2⟩ := p
        simp only at v1 v2 k2 ex ey h1
        subst v1 v2 k2 ex ey g1 g2
        refine ⟨(x, a, ls) :: fs, rfl, rfl, fun q hq => ?_, fun q hq => ?_⟩
        · rcases List.mem_cons.mp hq with rfl | hq
          · exact h1
          · exact g3 q hq
        · rcases List.mem_cons.mp hq with rfl | hq
          · exact ⟨ra, List.mem_append_left _ ha⟩
          · exact ⟨(g4 q hq).1, List.mem_append_right _ (g4 q hq).2⟩
/-- keys and rows of finals are right, whatever words the rows have -/
def finR : PyData → Bool
  | .dict kvs => kvs.all fun p => outD p.1 && rowD endL p.2
  | _ => false
theorem finR_of {d : PyData} (h : finD d = true) : finR d = true := by
  cases d with
  | dict kvs =>
    have h' : (kvs.all (fun p => outD p.1 && rowD endL p.2) && kvs.all fun p => kvs.all fun q => sameW p.2 q.2) = true := h
    rw [Bool.and_eq_true] at h'
    exact h'.1
  | _ => cases h
theorem fin_at {w : World} {H : Hp} {v : V} {d : PyData} {f : List Addr} (r : RepA w H v d f) (h : finR d = true) : ∃ a fs, v = .ref a ∧ d = .dict (kvF fs) ∧ FinAt w H a fs := by
  cases r with
  | @dct a es kvs fv e ka nd rk rv na =>
    obtain ⟨fs, rfl, rfl, h3, h4⟩ := rows_fin ka rk rv h
    refine ⟨a, fs, rfl, rfl, e, ?_, h3, fun q hq => (h4 q hq).1, fun q hq z => na (z ▸ (h4 q hq).2)⟩
    rw [rowsF_keys] at nd
    exact nodup_of_text nd
  | _ => cases h
/-! ### how many -/
theorem sz_pos (d : PyData) : 1 ≤ L2.KF.sz d := by
  cases d <;> simp only [L2.KF.sz] <;> omega
theorem len_kv : ∀ kvs : List (PyData × PyData), kvs.length ≤ szKv kvs
  | [] => Nat.zero_le _
  | (k, v) :: r => by
    have := len_kv r
    have := sz_pos v
    simp only [szKv, List.length_cons]
    omega
theorem Nice.few {D N W : Nat} {kvs : List (PyData × PyData)} (n : Nice D N W (.dict kvs)) : kvs.length ≤ N := by
  have h := n.sz
  simp only [L2.KF.sz] at h
  have := len_kv kvs
  omega
theorem kv_parts {D N W : Nat} : ∀ {kvs : List (PyData × PyData)}, PyData.showableKv kvs = true → PyData.leavesShortKv 13 kvs = true → PyData.depthKv kvs ≤ D → szKv kvs ≤ N → PyData.weightKv kvs ≤ W → ∀ p ∈ kvs, Nice D N W p.2 ∧ p.1.weight ≤ W
  | [], _, _, _, _, _, _, z => nomatch z
  | (k, v) :: r, h1, h2, h3, h4, h5, p, hp => by
    simp only [PyData.showableKv, PyData.leavesShortKv, PyData.depthKv, szKv, PyData.weightKv, Bool.and_eq_true] at h1 h2 h3 h4 h5
    rcases List.mem_cons.mp hp with rfl | hp
    · exact ⟨⟨h1.1.2, h2.1.2, by show v.depth ≤ D; omega, by show L2.KF.sz v ≤ N; omega, by show v.weight ≤ W; omega⟩, by show k.weight ≤ W; omega⟩
    · exact kv_parts h1.2 h2.2 (by omega) (by omega) (by omega) p hp
theorem Nice.part {D N W : Nat} {kvs : List (PyData × PyData)} (n : Nice D N W (.dict kvs)) {p : PyData × PyData} (hp : p ∈ kvs) : Nice D N W p.2 ∧ p.1.weight ≤ W := by
  have h1 := n.show_
  have h2 := n.leaf
  have h3 := n.dep
  have h4 := n.sz
  have h5 := n.wt
  simp only [PyData.showable, PyData.leavesShort, PyData.depth, L2.KF.sz, PyData.weight] at h1 h2 h3 h4 h5
  exact kv_parts h1 h2 (by omega) (by omega) h5 p hp
end KF
end L2
end
/-! ### RC -/
section
namespace L2
namespace KF
open PySem PySem.Spec PyProof.Rows PySem.KD KE KC PySem.KA KM TL
/-! ## [g(row) for key in d], d a dict -/
theorem look_mem : ∀ {es : List MRow} {r : MRow}, (es.map (·.1)).Nodup → r ∈ es → lookH es r.1 = some r
  | e :: es, r, nd, h => by
    rw [List.map_cons, List.nodup_cons] at nd
    unfold lookH
    rcases List.mem_cons.mp h with rfl | h
    · rw [List.find?_cons_of_pos (by exact NestedKey.beq_self _)]
    · rw [List.find?_cons_of_neg (by
        intro z
        have z2 := NestedKey.eq_of_beq _ _ z
        exact nd.1 (z2 ▸ List.mem_map_of_mem h))]
      exact look_mem nd.2 h
section
variable {w : World} {te : TE} {i j : Nat} {σ : St} {H : Hp} {Q : VK} {d : Addr} {es : List MRow} {kvs : List (PyData × PyData)} {fv : List Addr}
/-- where such a walk stands at a row -/
structure AtRow (w : World) (H : Hp) (d : Addr) (es : List MRow) (kvs : List (PyData × PyData)) (fv : List Addr) (Hi : Hp) (r : MRow) (p : PyData × PyData) : Prop where
  re : r ∈ es
  pe : p ∈ kvs
  look : lookH es r.1 = some r
  key : kAt Hi r.1 r.2.1
  all : KAll Hi es
  rk : Rep w Hi r.2.1 p.1 []
  rd : Rd Hi d (mdo w d es)
  fz : ∃ od, Hi d = some (.frz od (mdo w d es))
  rv : ∃ f, (∀ a ∈ f, a ∈ fv) ∧ RepA w Hi r.2.2 p.2 f
  st : ∀ b u, b ≠ d → H b = some u → Hi b = some u
theorem keysP (D : DictAt w H d es kvs fv) (le : es.length ≤ 900) (g : PyData × PyData → Bool) (hi : σ[i]? = some (some (.ref d)))
    (step : ∀ (Hi : Hp) (r : MRow) (p : PyData × PyData), AtRow w H d es kvs fv Hi r p → ∀ Q' : VK, (∀ H'', Same Hi H'' → Q' (.bl (g p)) H'') → te ((wipe σ [j]).set j (some r.2.1)) Hi Q')
    (q : ∀ H' L, Same H H' → H L = none → H' L = some (.lst (kvs.map fun p => V.bl (g p))) → Q (.ref L) H') : tLockE (tLc (iKeysMM w (tVar i)) (gName j) tYes te [j]) σ H Q := by
  refine ⟨d, mdo w d es, D.at_, trivial, fun od => c_lc ⟨.ref d, hi, d, od, es, rfl, upd_same, fun L nL => ?_⟩⟩
  have lx : es.length = kvs.length := by
    have z := D.rk.length
    rw [List.length_map, List.length_map] at z
    exact z
  have ndL : d ≠ L := fun z => by
    rw [← z, upd_same] at nL
    cases nL
  refine lc_it walkM (fun n Hi => LcD w H d L od es ((kvs.take n).map fun p => V.bl (g p)) Hi) ⟨by rw [upd_ne ndL, upd_same], upd_same, fun b u nb e => ?_⟩ (fun n Hi _ S => S.frz) (fun n x Hi Hj hn S hy => ?_) (fun Hi S => ?_)
  · have nb2 : b ≠ L := fun z => by
      rw [z] at nb e
      rw [upd_ne nb, e] at nL
      cases nL
    rw [upd_ne nb2, upd_ne nb]
    exact e
  · obtain ⟨rfl, r, hp, rfl⟩ := hy
    have hv : (es.map fun r => r.2.1)[n]? = some r.2.1 := by
      rw [List.getElem?_map, hp]
      rfl
    have hw : (es.map fun r => r.2.2)[n]? = some r.2.2 := by
      rw [List.getElem?_map, hp]
      rfl
    obtain ⟨kd, f, hk, r1, sub⟩ := repAA_at D.rk hv
    obtain ⟨vd, f2, hk2, r2, sub2⟩ := repAA_at D.rv hw
    have f0 : f = [] := List.eq_nil_iff_forall_not_mem.mpr fun a ha => nomatch sub a ha
    subst f0
    have tk : TupK H Hj := fun a xs z => S.st a _ (fun y => by
      rw [y, D.at_] at z
      cases z) z
    have hz : n < kvs.length := by rw [← lx]; exact hn
    obtain ⟨z, ez⟩ : ∃ z, kvs[n]? = some z := ⟨_, List.getElem?_eq_getElem hz⟩
    rw [List.getElem?_map, ez] at hk hk2
    have k1 : z.1 = kd := Option.some.inj hk
    have k2 : z.2 = vd := Option.some.inj hk2
    subst k1
    subst k2
    have rm := List.mem_of_getElem? hp
    have A : AtRow w H d es kvs fv Hj r z := ⟨rm, List.mem_of_getElem? ez, look_mem D.nd rm, (D.ka r rm).mono tk, KAll.keep D.ka tk, r1.rep.keep tk.keep0, .inr ⟨od, S.frz⟩, ⟨od, S.frz⟩, ⟨f2, sub2, r2.keep ⟨fun a ha => by
      cases e : H a with
      | none => exact absurd e (r2.dom a ha)
      | some u => exact S.st a u (fun y => D.na (y ▸ sub2 a ha)) e, tk⟩⟩, S.st⟩
    refine c_name ⟨wipe_one σ j _, step Hj r z A _ fun H' s => ⟨_, s _ _ S.acc, ?_, ?_⟩⟩
    · rw [List.length_map, List.length_take]
      exact small1000 (by omega)
    · have e2 : (kvs.take (n + 1)).map (fun p => V.bl (g p)) = (kvs.take n).map (fun p => V.bl (g p)) ++ [V.bl (g z)] := by
        rw [List.take_add_one, ez, List.map_append]
        rfl
      rw [e2]
      exact S.next nL s
  · rw [lx, List.take_length] at S
    obtain ⟨h1, h2, h3⟩ := lcD_end D.at_ nL S
    exact ⟨S.frz, q _ L h1 h3 h2⟩
end
theorem map_bl {α : Type} (g : α → Bool) (l : List α) : (l.map fun p => V.bl (g p)) = (l.map g).map V.bl := by
  rw [List.map_map]
  rfl
theorem repA_dict {w : World} {H : Hp} {v : V} {kvs : List (PyData × PyData)} {f : List Addr} (r : RepA w H v (.dict kvs) f) : ∃ a es fv, v = .ref a ∧ DictAt w H a es kvs fv ∧ (∀ b ∈ fv, b ∈ f) ∧ a ∈ f := by
  cases r with
  | @dct a es kvs fv e ka nd rk rv na => exact ⟨a, es, fv, rfl, ⟨e, ka, nd, rk, rv, na⟩, fun b hb => List.mem_cons_of_mem _ hb, List.mem_cons_self⟩
theorem DictAt.len {w : World} {H : Hp} {a : Addr} {es : List MRow} {kvs : List (PyData × PyData)} {fv : List Addr} (D : DictAt w H a es kvs fv) : es.length = kvs.length := by
  have z := D.rk.length
  rw [List.length_map, List.length_map] at z
  exact z
theorem inV_strs (x : Str) (lv : List Str) : inV (.str x) (lv.map V.str) = decide (x ∈ lv) := by
  unfold inV
  induction lv with
  | nil => rfl
  | cons y lv ih =>
    rw [List.map_cons, List.any_cons, ih]
    have e : eqV (.str y) (.str x) = decide (y = x) := by
      show decide (y = x) = _
      rfl
    rw [e]
    by_cases c : y = x
    · subst c
      rw [decide_eq_true rfl, Bool.true_or, decide_eq_true List.mem_cons_self]
    · rw [decide_eq_false c, Bool.false_or]
      by_cases m : x ∈ lv
      · rw [decide_eq_true m, decide_eq_true (List.mem_cons_of_mem _ m)]
      · rw [decide_eq_false m, decide_eq_false fun z => (List.mem_cons.mp z).elim (fun z => c z.symm) m]
theorem sqT_same {K : PySem.W.Frag} {H H' : Hp} {t : Addr} {xs : List V} (s : Same H H') (h : SqT K H t xs) : SqT K H' t xs := by
  rcases h with (h | ⟨o, h⟩) | h
  · exact .inl (.inl (s _ _ h))
  · exact .inl (.inr ⟨o, s _ _ h⟩)
  · exact .inr h
theorem sqT_lock {K : PySem.W.Frag} {w : World} {H H' : Hp} {d t : Addr} {es : List MRow} {xs : List V} (e : H d = some (mdo w d es)) (st : ∀ b u, b ≠ d → H b = some u → H' b = some u) (h : SqT K H t xs) : SqT K H' t xs := by
  rcases h with (h | ⟨o, h⟩) | h
  · exact .inl (.inl (st _ _ (fun z => by
      rw [z, e] at h
      cases h) h))
  · exact .inl (.inr ⟨o, st _ _ (fun z => by
      rw [z, e] at h
      cases h) h⟩)
  · exact .inr h
/-! ## is_table -/
abbrev sTab : Stmt := topS 26
abbrev tabN : List Str := ["value", "levels", "word"]
theorem scTab : FnScope tabN ["value", "levels"] (defScope sTab) := ⟨rfl, rfl, rfl, by decide +kernel, rfl, by decide +kernel, by decide +kernel⟩
structure BltC (mg : Str → Option Value) : Prop where
  i : BltI mg
  dict : mg "dict" = none
section
variable {P : Program} {w : World} {K : PySem.W.Frag} {mg : Str → Option Value} {base : Heap}
def spTab (K : PySem.W.Frag) (w : World) : Sp := fun vs H Q _ => ∃ v t d fp lv, vs = [v, .ref t] ∧ RepA w H v d fp ∧ SqT K H t (lv.map V.str) ∧ Nice 5 70 3000 d ∧ ∀ H', Same H H' → Q (.bl (rowD lv d)) H'
theorem ok_tab {f fW : Addr} {fd fdW : FuncData} (F : Fun K "is_table" "is_table" sTab f fd) (FW : Fun K "has_word_form" "has_word_form" sIsWord fW fdW) (gW : mg "has_word_form" = some (.ref fW)) (bW : Binds K fdW ["value"] []) (B : BltC mg) : FnOk P w K mg base CX0 2 f fd ["value", "levels"] (spTab K w) := by
  have GW : FnOk P w K mg base CX0 1 fW fdW ["value"] (spIsWord w) := ok_isWord FW B.i
  refine F.ok scTab (fun vs H Q E h => ?_) (fun cdv A outer s H vs Q E hr h => ?_)
  · obtain ⟨v, t, d, fp, lv, rfl, _⟩ := h
    rfl
  · obtain ⟨v, t, d, fp, lv, rfl, rp, sq, nc, q⟩ := h
    have hc : (cxOf CX0 P w K mg base tabN "is_table" (defScope sTab) f cdv A outer s H E).nox.calm = true := rfl
    have hu10 : (cxOf CX0 P w K mg base tabN "is_table" (defScope sTab) f cdv A outer s H E).nox.A.units + 10 < cLine := by
      have := hr.un
      show (A.deeper _).units + 10 < cLine
      omega
    refine ⟨_, pss_cons (ps_if (PW.pt (pw_or (pt_not (pt_val (pe_callB callIsD (by rfl) B.i.isi boot_isinstance (pa_cons (pv 0) (pa_cons (pe_bltn (v := .ty "dict") (by rfl) B.dict boot_dict rfl) pa_nil)))))
        (pw_or1 (pt_not (pt_val (pe_callB (cr_all hc) (by rfl) B.i.all (by decide +kernel) (pa_cons (pe_lock (pe_lc (own := [("word", 2)]) (g := gName 2) (tt := tYes) rfl scTab.nd (piKeysM (pv 0))
          (blkOk_by (N := tabN) (sc := defScope sTab) (by decide +kernel)) (fun _ _ _ _ _ => pg_name (i := 2) scTab.nd rfl (Or.inl rfl)) (fun _ _ _ _ _ => pts_nil)
          (fun _ _ _ _ _ => pe_call GW hr (by rfl) gW FW.kp bW .nil pass0 (pa_cons (pv 2) pa_nil)))) pa_nil))))))) (pss_one (ps_ret pe_bl)) pss_nil)
      (pss_one (ps_ret (pe_callB (cr_all hc) (by rfl) B.i.all (by decide +kernel) (pa_cons (pe_lock (pe_lc (own := [("word", 2)]) (g := gName 2) (tt := tYes) rfl scTab.nd (piKeysM (pv 0))
          (blkOk_by (N := tabN) (sc := defScope sTab) (by decide +kernel)) (fun _ _ _ _ _ => pg_name (i := 2) scTab.nd rfl (Or.inl rfl)) (fun _ _ _ _ _ => pts_nil)
          (fun _ _ _ _ _ => pe_and (pe_callB (r := rIsD w) callIsD (by rfl) B.i.isi boot_isinstance (pa_cons (pe_ix (r := rIxM w) (ixM (by exact hu10)) (pv 0) (pv 2) (fun _ _ => rfl)) (pa_cons (pe_bltn (v := .ty "str") (by rfl) B.i.str boot_str rfl) pa_nil)))
            (pe_one (pe_cmpR (r := rIn K false) op_in_seq (pe_ix (r := rIxM w) (ixM (by exact hu10)) (pv 0) (pv 2) (fun _ _ => rfl)) (pv 1) (by rfl)))))) pa_nil)))), ?_⟩
    refine ⟨v, rfl, v, d, fp, "dict", isDictD d, rfl, rp.rep, kitDict d, isDictD d, rfl, ?_⟩
    cases hd : isDictD d with
    | false =>
      refine iteT (iteT ?_)
      have e : rowD lv d = false := by
        cases d with
        | dict kvs => cases hd
        | _ => rfl
      have fin := q H (Same.refl H)
      rw [e] at fin
      exact fin
    | true =>
      obtain ⟨kvs, rfl⟩ : ∃ kvs, d = .dict kvs := by
        cases d with
        | dict kvs => exact ⟨kvs, rfl⟩
        | _ => cases hd
      refine iteF ?_
      obtain ⟨a, es, fv, rfl, D, _⟩ := repA_dict rp
      have few := nc.few
      have el := D.len
      have e0 : rowD lv (.dict kvs) = ((kvs.all fun p => wordD p.1) && kvs.all fun p => levD lv p.2) := by
        show (kvs.all fun p => wordD p.1 && levD lv p.2) = _
        rw [Bool.eq_iff_iff, Bool.and_eq_true, List.all_eq_true, List.all_eq_true, List.all_eq_true]
        exact ⟨fun h => ⟨fun p hp => (Bool.and_eq_true_iff.mp (h p hp)).1, fun p hp => (Bool.and_eq_true_iff.mp (h p hp)).2⟩, fun h p hp => Bool.and_eq_true_iff.mpr ⟨h.1 p hp, h.2 p hp⟩⟩
      refine keysP (w := w) (es := es) D (by omega) (fun p => wordD p.1) rfl (fun Hi r p A Q' q' => ?_) (fun H' L sH nL eL => ?_)
      · refine ⟨_, rfl, r.2.1, p.1, [], rfl, A.rk, fun x ex => ?_, fun H'' s'' => ?_⟩
        · have := (nc.part A.pe).2
          rw [ex] at this
          exact this
        · rw [word_same]
          exact q' H'' s''
      · rw [map_bl (fun p : PyData × PyData => wordD p.1)] at eL
        refine ⟨L, _, rfl, .inl (.inl eL), ?_⟩
        rw [List.all_map]
        show ∃ k, V.bl (kvs.all fun p => wordD p.1) = V.bl k ∧ _
        refine ⟨_, rfl, ?_⟩
        cases hw : kvs.all fun p => wordD p.1 with
        | false =>
          rw [hw, Bool.false_and] at e0
          rw [e0] at q
          exact iteT (q H' sH)
        | true =>
          rw [hw, Bool.true_and] at e0
          rw [e0] at q
          have D' : DictAt w H' a es kvs fv := ⟨sH _ _ D.at_, KAll.keep D.ka (tup_same sH), D.nd, D.rk.same sH, D.rv.same sH, D.na⟩
          refine iteF (keysP (w := w) (es := es) D' (by omega) (fun p => levD lv p.2) rfl (fun Hi r p A Q' q' => ?_) (fun H2 L2 s2 nL2 eL2 => ?_))
          · obtain ⟨f2, sub, r2⟩ := A.rv
            have tS : SqT K Hi t (lv.map V.str) := sqT_lock D'.at_ A.st (sqT_same sH sq)
            refine ⟨.ref a, rfl, r.2.1, rfl, a, es, r.1, r, rfl, A.rd, A.all, A.key, A.look, r.2.2, p.2, f2, "str", isStrD p.2, rfl, r2.rep, kitStr _, isStrD p.2, rfl, ?_⟩
            cases hs : isStrD p.2 with
            | false =>
              refine iteF ?_
              have e : levD lv p.2 = false := by
                cases h2 : p.2 with
                | str x => rw [h2] at hs; cases hs
                | _ => rfl
              have fin := q' Hi (Same.refl Hi)
              rw [e] at fin
              exact fin
            | true =>
              obtain ⟨x, ex⟩ : ∃ x, p.2 = .str x := by
                cases h2 : p.2 with
                | str x => exact ⟨x, rfl⟩
                | _ => rw [h2] at hs; cases hs
              rw [ex] at r2
              have ev := repA_str r2
              refine iteT ⟨.ref a, rfl, r.2.1, rfl, a, es, r.1, r, rfl, A.rd, A.all, A.key, A.look, .ref t, rfl, t, lv.map V.str, rfl, .inr tS, ?_, ?_, ?_⟩
              · rw [ev]
                rfl
              · rw [List.all_map]
                exact List.all_eq_true.mpr fun _ _ => rfl
              · rw [if_neg Bool.false_ne_true, ev, inV_strs]
                have fin := q' Hi (Same.refl Hi)
                rw [ex] at fin
                exact fin
          · rw [map_bl (fun p : PyData × PyData => levD lv p.2)] at eL2
            refine ⟨L2, _, rfl, .inl (.inl eL2), ?_⟩
            rw [List.all_map]
            exact q H2 (sH.trans s2)
end
end KF
end L2
end
/-! ### RD -/
section
namespace L2
namespace KF
open PySem PySem.Spec PyProof.Rows PySem.KD KE KC PySem.KA KM TL KS
/-! ## [g(x) for x in xs], xs a list -/
section
variable {w : World} {K : PySem.W.Frag} {te : TE} {i j : Nat} {σ : St} {H : Hp} {Q : VK} {l : Addr}
theorem listB {α : Type} {as : List α} {fv : α → V} (hl : H l = some (.lst (as.map fv))) (le : as.length ≤ 900) (g : α → Bool) (hi : σ[i]? = some (some (.ref l)))
    (step : ∀ (Hi : Hp) (a : α), a ∈ as → Same H Hi → ∀ Q' : VK, (∀ H'', Same Hi H'' → Q' (.bl (g a)) H'') → te ((wipe σ [j]).set j (some (fv a))) Hi Q')
    (q : ∀ H' L, Same H H' → H L = none → H' L = some (.lst ((as.map g).map V.bl)) → Q (.ref L) H') : tLc (iList K (tVar i)) (gName j) tYes te [j] σ H Q := by
  refine c_lc ⟨.ref l, hi, l, rfl, ⟨_, .inl (.inl hl)⟩, fun L nL => ?_⟩
  have same0 : Same H (upd H L (.lst [])) := fun b u e => by
    rw [upd_ne (ne_of_none e nL)]
    exact e
  refine lc_it (walk_list (K := K) (a := l) (xs := as.map fv)) (fun n Hi => Same H Hi ∧ Hi L = some (.lst (((as.take n).map g).map V.bl))) ⟨same0, upd_same⟩ (fun n Hi _ S => .inl (.inl (S.1 _ _ hl))) (fun n x Hi Hj hn S hy => ?_) (fun Hi S => ?_)
  · obtain ⟨rfl, hx⟩ := hy
    rw [List.getElem?_map] at hx
    obtain ⟨a, ha, rfl⟩ := Option.map_eq_some_iff.mp hx
    refine c_name ⟨wipe_one σ j _, step Hj a (List.mem_of_getElem? ha) S.1 _ fun H' s => ⟨_, s _ _ S.2, ?_, ?_, ?_⟩⟩
    · rw [List.length_map, List.length_map, List.length_take]
      exact small1000 (by omega)
    · have sH := S.1.trans s
      intro b u e
      rw [upd_ne (ne_of_none e nL)]
      exact sH b u e
    · rw [upd_same, List.take_add_one, ha, List.map_append, List.map_append]
      rfl
  · rw [List.length_map, List.take_length] at S
    exact q _ L S.1 nL S.2
end
/-! ## equal words -/
theorem nodup_sub : ∀ {ks ls : List Str}, ks.Nodup → (∀ x ∈ ks, x ∈ ls) → ks.length = ls.length → ∀ x ∈ ls, x ∈ ks
  | [], ls, _, _, len, x, hx => by
    have e : ls = [] := List.length_eq_zero_iff.mp len.symm
    rw [e] at hx
    cases hx
  | k :: ks, ls, h, s, len, x, hx => by
    rw [List.nodup_cons] at h
    have hk := s k List.mem_cons_self
    have ll : (ls.erase k).length = ls.length - 1 := by rw [List.length_erase_of_mem hk]
    have sub : ∀ y ∈ ks, y ∈ ls.erase k := fun y hy => (List.mem_erase_of_ne (fun e => h.1 (by rw [← e]; exact hy))).mpr (s y (List.mem_cons_of_mem _ hy))
    by_cases e : x = k
    · rw [e]
      exact List.mem_cons_self
    · rw [List.length_cons] at len
      exact List.mem_cons_of_mem _ (nodup_sub h.2 sub (by omega) x ((List.mem_erase_of_ne e).mpr hx))
theorem sameS_iff {ks ls : List Str} (h1 : ks.Nodup) (h2 : ls.Nodup) : sameS ks ls = true ↔ ∀ x, x ∈ ks ↔ x ∈ ls := by
  unfold sameS
  rw [Bool.and_eq_true, decide_eq_true_eq, List.all_eq_true]
  constructor
  · rintro ⟨len, s⟩ x
    have s' : ∀ x ∈ ks, x ∈ ls := fun x hx => of_decide_eq_true (s x hx)
    exact ⟨s' x, nodup_sub h1 s' len x⟩
  · intro h
    exact ⟨((List.perm_ext_iff_of_nodup h1 h2).mpr h).length_eq, fun x hx => decide_eq_true ((h x).mp hx)⟩
theorem inK_words {x : Str} {ls : List (Str × Str)} : inK (.str x) (.dict (kvT ls)) = true ↔ x ∈ ls.map (·.1) := by
  show ((kvT ls).any fun p => eqT (.str x) p.1) = true ↔ _
  rw [List.any_eq_true]
  constructor
  · rintro ⟨p, hp, e⟩
    obtain ⟨q, hq, rfl⟩ := List.mem_map.mp hp
    have e2 : x = q.1 := of_decide_eq_true e
    rw [e2]
    exact List.mem_map_of_mem hq
  · intro h
    obtain ⟨q, hq, e⟩ := List.mem_map.mp h
    exact ⟨(.str q.1, .str q.2), List.mem_map_of_mem (f := fun (q : Str × Str) => ((.str q.1, .str q.2) : PyData × PyData)) hq, decide_eq_true e.symm⟩
theorem sameW_iff {a b : List (Str × Str)} : sameW (.dict (kvT a)) (.dict (kvT b)) = true ↔ ∀ x, x ∈ a.map (·.1) ↔ x ∈ b.map (·.1) := by
  show ((kvT a).all (fun p => inK p.1 (.dict (kvT b))) && (kvT b).all fun p => inK p.1 (.dict (kvT a))) = true ↔ _
  rw [Bool.and_eq_true, List.all_eq_true, List.all_eq_true]
  constructor
  · rintro ⟨h1, h2⟩ x
    constructor
    · intro hx
      obtain ⟨q, hq, e⟩ := List.mem_map.mp hx
      have := inK_words.mp (h1 (.str q.1, .str q.2) (List.mem_map_of_mem (f := fun (q : Str × Str) => ((.str q.1, .str q.2) : PyData × PyData)) hq))
      rw [← e]
      exact this
    · intro hx
      obtain ⟨q, hq, e⟩ := List.mem_map.mp hx
      have := inK_words.mp (h2 (.str q.1, .str q.2) (List.mem_map_of_mem (f := fun (q : Str × Str) => ((.str q.1, .str q.2) : PyData × PyData)) hq))
      rw [← e]
      exact this
  · intro h
    constructor
    · intro p hp
      obtain ⟨q, hq, rfl⟩ := List.mem_map.mp hp
      exact inK_words.mpr ((h q.1).mp (List.mem_map_of_mem hq))
    · intro p hp
      obtain ⟨q, hq, rfl⟩ := List.mem_map.mp hp
      exact inK_words.mpr ((h q.1).mpr (List.mem_map_of_mem hq))
/-- the words of a row -/
abbrev keysT (ls : List (Str × Str)) : List Str := ls.map (·.1)
theorem nodup_rev {xs : List Str} (h : xs.Nodup) : xs.reverse.Nodup := List.pairwise_reverse.mpr (List.Pairwise.imp Ne.symm h)
theorem sameS_words {a b : List (Str × Str)} (h1 : (keysT a).Nodup) (h2 : (keysT b).Nodup) : sameS (keysT a).reverse (keysT b).reverse = sameW (.dict (kvT a)) (.dict (kvT b)) := by
  have n1 : (keysT a).reverse.Nodup := nodup_rev h1
  have n2 : (keysT b).reverse.Nodup := nodup_rev h2
  rw [Bool.eq_iff_iff, sameS_iff n1 n2, sameW_iff]
  exact ⟨fun h x => by simpa using h x, fun h x => by simpa using h x⟩
/-- the first row's words -/
def head1 (fs : List Fin) : List (Str × Str) := ((fs[0]?).map fun q => q.2.2).getD []
theorem finD_rows {fs : List Fin} (h : finR (.dict (kvF fs)) = true) : finD (.dict (kvF fs)) = fs.all fun q => sameW (.dict (kvT q.2.2)) (.dict (kvT (head1 fs))) := by
  have h' : ((kvF fs).all fun p => outD p.1 && rowD endL p.2) = true := h
  show ((kvF fs).all (fun p => outD p.1 && rowD endL p.2) && (kvF fs).all fun p => (kvF fs).all fun q => sameW p.2 q.2) = _
  rw [h', Bool.true_and, Bool.eq_iff_iff, List.all_eq_true, List.all_eq_true]
  have mem : ∀ q ∈ fs, ((.str q.1, .dict (kvT q.2.2)) : PyData × PyData) ∈ kvF fs := fun q hq => List.mem_map_of_mem (f := fun q : Fin => ((.str q.1, .dict (kvT q.2.2)) : PyData × PyData)) hq
  constructor
  · intro z q hq
    cases fs with
    | nil => cases hq
    | cons q0 fs =>
      have := List.all_eq_true.mp (z _ (mem q hq)) _ (mem q0 List.mem_cons_self)
      exact this
  · intro z p hp
    rw [List.all_eq_true]
    intro p2 hp2
    obtain ⟨q, hq, rfl⟩ := List.mem_map.mp hp
    obtain ⟨q2, hq2, rfl⟩ := List.mem_map.mp hp2
    have z1 := sameW_iff.mp (z q hq)
    have z2 := sameW_iff.mp (z q2 hq2)
    exact sameW_iff.mpr fun x => (z1 x).trans (z2 x).symm
end KF
end L2
end
/-! ### RE -/
section
namespace L2
namespace KF
open PySem PySem.Spec PyProof.Rows PySem.KD KE KC PySem.KA KM TL KS
/-! ## are_outcomes -/
abbrev sAO : Stmt := topS 24
abbrev aoN : List Str := ["value", "tables", "outcome", "table"]
theorem scAO : FnScope aoN ["value"] (defScope sAO) := ⟨rfl, rfl, rfl, by decide +kernel, rfl, by decide +kernel, by decide +kernel⟩
structure BltO (K : PySem.W.Frag) (mg : Str → Option Value) : Prop where
  c : BltC mg
  set : mg "set" = none
  ends : ∃ t, mg "END_LEVELS" = some (.ref t) ∧ ∀ H, SqT K H t (endL.map V.str)
theorem rep_zip {w : World} {H : Hp} : ∀ {vs : List V} {ds : List PyData} {f : List Addr}, RepAA w H vs ds f → (vs.zip ds).map (·.1) = vs ∧ (vs.zip ds).map (·.2) = ds ∧ ∀ p ∈ vs.zip ds, ∃ g, RepA w H p.1 p.2 g
  | _, _, _, .nil => ⟨rfl, rfl, fun _ z => nomatch z⟩
  | _, _, _, .cons h t => by
    obtain ⟨h1, h2, h3⟩ := rep_zip t
    refine ⟨by rw [List.zip_cons_cons, List.map_cons, h1], by rw [List.zip_cons_cons, List.map_cons, h2], fun p hp => ?_⟩
    rw [List.zip_cons_cons] at hp
    rcases List.mem_cons.mp hp with rfl | hp
    · exact ⟨_, h⟩
    · exact h3 p hp
section
variable {P : Program} {w : World} {K : PySem.W.Frag} {mg : Str → Option Value} {base : Heap}
def spData (w : World) (g : PyData → Bool) : Sp := fun vs H Q _ => ∃ v d fp, vs = [v] ∧ RepA w H v d fp ∧ Nice 5 70 3000 d ∧ ∀ H', Same H H' → Q (.bl (g d)) H'
theorem ok_ao {f fW fI fT : Addr} {fd fdW fdI fdT : FuncData} (F : Fun K "are_outcomes" "are_outcomes" sAO f fd) (FW : Fun K "has_word_form" "has_word_form" sIsWord fW fdW) (gW : mg "has_word_form" = some (.ref fW)) (bW : Binds K fdW ["value"] [])
    (FI : Fun K "is_outcome" "is_outcome" sIO fI fdI) (gI : mg "is_outcome" = some (.ref fI)) (bI : Binds K fdI ["value"] []) (FT : Fun K "is_table" "is_table" sTab fT fdT) (gT : mg "is_table" = some (.ref fT)) (bT : Binds K fdT ["value", "levels"] []) (B : BltO K mg) :
    FnOk P w K mg base CX0 3 f fd ["value"] (spData w finD) := by
  have GI : FnOk P w K mg base CX0 2 fI fdI ["value"] (spTest w outD) := ok_io FI FW gW bW B.c.i
  have GT : FnOk P w K mg base CX0 2 fT fdT ["value", "levels"] (spTab K w) := ok_tab FT FW gW bW B.c
  obtain ⟨tE, gE, sE⟩ := B.ends
  refine F.ok scAO (fun vs H Q E h => ?_) (fun cdv A outer s H vs Q E hr h => ?_)
  · obtain ⟨v, d, fp, rfl, _⟩ := h
    rfl
  · obtain ⟨v, d, fp, rfl, rp, nc, q⟩ := h
    have hc : (cxOf CX0 P w K mg base aoN "are_outcomes" (defScope sAO) f cdv A outer s H E).nox.calm = true := rfl
    have hu : (cxOf CX0 P w K mg base aoN "are_outcomes" (defScope sAO) f cdv A outer s H E).nox.A.units < cLine := by
      have := hr.un
      show (A.deeper _).units < cLine
      omega
    refine ⟨_, pss_cons (ps_if (PW.pt (pw_or (pt_not (pt_val (pe_callB callIsD (by rfl) B.c.i.isi boot_isinstance (pa_cons (pv 0) (pa_cons (pe_bltn (v := .ty "dict") (by rfl) B.c.dict boot_dict rfl) pa_nil)))))
        (pw_or1 (pt_not (pt_val (pe_callB (cr_all hc) (by rfl) B.c.i.all (by decide +kernel) (pa_cons (pe_lock (pe_lc (own := [("outcome", 2)]) (g := gName 2) (tt := tYes) rfl scAO.nd (piKeysM (pv 0))
          (blkOk_by (N := aoN) (sc := defScope sAO) (by decide +kernel)) (fun _ _ _ _ _ => pg_name (i := 2) scAO.nd rfl (Or.inl rfl)) (fun _ _ _ _ _ => pts_nil)
          (fun _ _ _ _ _ => pe_call GI hr (by rfl) gI FI.kp bI .nil pass0 (pa_cons (pv 2) pa_nil)))) pa_nil))))))) (pss_one (ps_ret pe_bl)) pss_nil)
      (pss_cons (ps_set (i := 1) scAO.nd rfl (.inr rfl) (peListVals hc (pv 0) (by rfl) B.c.i.list boot_list))
      (pss_cons (ps_if (pt_not (pt_val (pe_callB (cr_all hc) (by rfl) B.c.i.all (by decide +kernel) (pa_cons (pe_lc (own := [("table", 3)]) (g := gName 3) (tt := tYes) rfl scAO.nd (pi_list (pv 1))
          (blkOk_by (N := aoN) (sc := defScope sAO) (by decide +kernel)) (fun _ _ _ _ _ => pg_name (i := 3) scAO.nd rfl (Or.inl rfl)) (fun _ _ _ _ _ => pts_nil)
          (fun _ _ _ _ _ => pe_call GT hr (by rfl) gT FT.kp bT .nil pass0 (pa_cons (pv 3) (pa_cons (pe_glob (v := .ref tE) (by rfl) gE rfl) pa_nil)))) pa_nil)))) (pss_one (ps_ret pe_bl)) pss_nil)
      (pss_one (ps_ret (pe_callB (cr_all hc) (by rfl) B.c.i.all (by decide +kernel) (pa_cons (pe_lc (own := [("table", 3)]) (g := gName 3) (tt := tYes) rfl scAO.nd (pi_list (pv 1))
          (blkOk_by (N := aoN) (sc := defScope sAO) (by decide +kernel)) (fun _ _ _ _ _ => pg_name (i := 3) scAO.nd rfl (Or.inl rfl)) (fun _ _ _ _ _ => pts_nil)
          (fun _ _ _ _ _ => pe_cmpR (r := rEqSS P w) (op_eqSS (by exact hu)) (pe_callTy (r := rSetD P w) cr_setD (by rfl) B.set boot_set (pa_cons (pv 3) pa_nil)) (pe_callTy (r := rSetD P w) cr_setD (by rfl) B.set boot_set (pa_cons (pe_ix (r := rIx K) ix_seq (pv 1) pe_int (fun _ _ => rfl)) pa_nil)) (nomark _))) pa_nil)))))), ?_⟩
    refine ⟨v, rfl, v, d, fp, "dict", isDictD d, rfl, rp.rep, kitDict d, isDictD d, rfl, ?_⟩
    cases hd : isDictD d with
    | false =>
      refine iteT (iteT ?_)
      have e : finD d = false := by
        cases d with
        | dict kvs => cases hd
        | _ => rfl
      have fin := q H (Same.refl H)
      rw [e] at fin
      exact fin
    | true =>
      obtain ⟨kvs, rfl⟩ : ∃ kvs, d = .dict kvs := by
        cases d with
        | dict kvs => exact ⟨kvs, rfl⟩
        | _ => cases hd
      refine iteF ?_
      obtain ⟨a, es, fv, rfl, D, _⟩ := repA_dict rp
      have few := nc.few
      have el := D.len
      have e0 : finR (.dict kvs) = ((kvs.all fun p => outD p.1) && kvs.all fun p => rowD endL p.2) := by
        show (kvs.all fun p => outD p.1 && rowD endL p.2) = _
        rw [Bool.eq_iff_iff, Bool.and_eq_true, List.all_eq_true, List.all_eq_true, List.all_eq_true]
        exact ⟨fun h => ⟨fun p hp => (Bool.and_eq_true_iff.mp (h p hp)).1, fun p hp => (Bool.and_eq_true_iff.mp (h p hp)).2⟩, fun h p hp => Bool.and_eq_true_iff.mpr ⟨h.1 p hp, h.2 p hp⟩⟩
      have wrong : finR (.dict kvs) = false → finD (.dict kvs) = false := fun z => by
        cases y : finD (.dict kvs) with
        | false => rfl
        | true =>
          rw [finR_of y] at z
          cases z
      refine keysP (w := w) (es := es) D (by omega) (fun p => outD p.1) rfl (fun Hi r p A Q' q' => ?_) (fun H1 L1 s1 nL1 eL1 => ?_)
      · refine ⟨_, rfl, r.2.1, p.1, [], rfl, A.rk, fun x ex => ?_, fun H'' s'' => q' H'' s''⟩
        have := (nc.part A.pe).2
        rw [ex] at this
        exact this
      · rw [map_bl (fun p : PyData × PyData => outD p.1)] at eL1
        refine ⟨L1, _, rfl, .inl (.inl eL1), ?_⟩
        rw [List.all_map]
        show ∃ k, V.bl (kvs.all fun p => outD p.1) = V.bl k ∧ _
        refine ⟨_, rfl, ?_⟩
        cases hw : kvs.all fun p => outD p.1 with
        | false =>
          rw [hw, Bool.false_and] at e0
          rw [wrong e0] at q
          exact iteT (q H1 s1)
        | true =>
          rw [hw, Bool.true_and] at e0
          refine iteF ⟨.ref a, rfl, a, es, rfl, .inl (s1 _ _ D.at_), fun l nl => ?_⟩
          have s2 : Same H (upd H1 l (.lst (es.map (·.2.2)))) := s1.trans (same_upd nl)
          have el2 : (upd H1 l (.lst (es.map (·.2.2)))) l = some (.lst (es.map (·.2.2))) := upd_same
          revert s2 el2
          generalize upd H1 l (.lst (es.map (·.2.2))) = H2
          intro s2 el2
          have rz := rep_zip (D.rv.same s2)
          have el2' : H2 l = some (.lst (((es.map fun r => r.2.2).zip (kvs.map (·.2))).map (·.1))) := by
            rw [rz.1]
            exact el2
          refine c_name (c_nx (c_seq ?_))
          unfold tIfS tNot tB tCB
          refine c_cons ?_
          refine listB (K := K) (H := H2) (i := 1) (j := 3) (l := l) (as := (es.map fun r => r.2.2).zip (kvs.map (·.2))) (fv := (·.1)) el2' (by rw [List.length_zip, List.length_map, List.length_map]; omega) (fun p => rowD endL p.2) rfl (fun Hi p hp sHi Q' q' => ?_) (fun H3 L3 s3 nL3 eL3 => ?_)
          · obtain ⟨g, rg⟩ := rz.2.2 p hp
            have hp2 : p.2 ∈ kvs.map (·.2) := by
              rw [← rz.2.1]
              exact List.mem_map_of_mem hp
            obtain ⟨z, hz, ez⟩ := List.mem_map.mp hp2
            exact ⟨_, rfl, p.1, tE, p.2, g, endL, rfl, rg.same sHi, sE _, ez ▸ (nc.part hz).1, fun H'' s'' => q' H'' s''⟩
          · refine ⟨L3, _, rfl, .inl (.inl eL3), ?_⟩
            rw [List.all_map]
            have e3 : ((es.map fun r => r.2.2).zip (kvs.map (·.2))).all (fun p => rowD endL p.2) = kvs.all fun p => rowD endL p.2 := by
              have z := congrArg (fun l => List.all l (rowD endL)) rz.2.1
              simp only [List.all_map] at z
              exact z
            show ∃ k, V.bl (((es.map fun r => r.2.2).zip (kvs.map (·.2))).all fun p => rowD endL p.2) = V.bl k ∧ _
            rw [e3]
            refine ⟨_, rfl, ?_⟩
            have s4 : Same H H3 := s2.trans s3
            cases hr2 : kvs.all fun p => rowD endL p.2 with
            | false =>
              rw [hr2] at e0
              rw [wrong e0] at q
              exact iteT (q H3 s4)
            | true =>
              rw [hr2] at e0
              obtain ⟨fs, rfl, rfl, ho, hrow⟩ := rows_fin D.ka D.rk D.rv e0
              rw [finD_rows e0] at q
              have nd := D.nd
              rw [rowsF_keys] at nd
              have nd := nodup_of_text nd
              have fv2 : (rowsF fs).map (fun r => r.2.2) = fs.map fun q => V.ref q.2.1 := by
                unfold rowsF
                rw [List.map_map]
                rfl
              rw [fv2] at el2
              have el4 := s3 _ _ el2
              have rowsAt : ∀ q ∈ fs, RowAt w H3 endL q.2.1 q.2.2 := fun q hq => (hrow q hq).1.keep (s4 _ _ (hrow q hq).1.at_)
              refine iteF ?_
              refine c_next (c_nx (c_ret ?_))
              refine c_cons ?_
              refine (listB (K := K) (H := H3) (i := 1) (j := 3) (l := l) (as := fs) (fv := fun q => V.ref q.2.1) el4 (by rw [rowsF_len] at el; rw [kvF_len] at few; omega) (fun q => sameW (.dict (kvT q.2.2)) (.dict (kvT (head1 fs)))) rfl (fun Hi p hp sHi Q' q' => ?_) (fun H5 L5 s5 nL5 eL5 => ?_))
              · have R := rowsAt p hp
                refine ⟨_, rfl, p.2.1, rowsT p.2.2, keysT p.2.2, rfl, .inl (sHi _ _ R.at_), rowsT_keys _, rowsT_all _ _, R.nd, fun a1 n1 => ?_⟩
                obtain ⟨q0, fs', e0'⟩ : ∃ q0 fs', fs = q0 :: fs' := by
                  cases fs with
                  | nil => cases hp
                  | cons q0 fs' => exact ⟨q0, fs', rfl⟩
                have h0 : q0 ∈ fs := by
                  rw [e0']
                  exact List.mem_cons_self
                have R0 := rowsAt q0 h0
                have sA := same_upd (o := SetO' P w a1 (keysT p.2.2).reverse) n1
                refine ⟨.ref l, rfl, .inl ⟨l, _, _, .ref q0.2.1, rfl, rfl, .inl (.inl (sA _ _ (sHi _ _ el4))), atN (i := 0) (by rw [e0']; rfl), q0.2.1, rowsT q0.2.2, keysT q0.2.2, rfl, .inl (sA _ _ (sHi _ _ R0.at_)), rowsT_keys _, rowsT_all _ _, R0.nd, fun a2 n2 => ?_⟩⟩
                have eh : head1 fs = q0.2.2 := by
                  rw [e0']
                  rfl
                have ne12 : a1 ≠ a2 := fun z => by
                  rw [← z, upd_same] at n2
                  cases n2
                refine ⟨a1, a2, _, _, rfl, rfl, (upd_ne ne12).trans upd_same, upd_same, ?_⟩
                rw [sameS_words R.nd R0.nd, ← eh]
                exact q' _ (sA.trans (same_upd n2))
              · refine ⟨L5, _, rfl, .inl (.inl eL5), ?_⟩
                rw [List.all_map]
                exact q H5 (s4.trans s5)
end
end KF
end L2
end
/-! ### RF -/
section
namespace L2
namespace KF
open PySem PySem.Spec PyProof.Rows PySem.KD KE KC PySem.KA KM TL KS
/-! ## are_reads -/
abbrev sAR : Stmt := topS 25
abbrev arN : List Str := ["value", "outcomes", "outcome"]
theorem scAR : FnScope arN ["value", "outcomes"] (defScope sAR) := ⟨rfl, rfl, rfl, by decide +kernel, rfl, by decide +kernel, by decide +kernel⟩
structure BltA (K : PySem.W.Frag) (mg : Str → Option Value) : Prop where
  o : BltO K mg
  reads : ∃ t, mg "READ_LEVELS" = some (.ref t) ∧ ∀ H, SqT K H t (readL.map V.str)
theorem rd_keep {H Hi : Hp} {d b : Addr} {u o : HO} (e : H d = some u) (st : ∀ b v, b ≠ d → H b = some v → Hi b = some v) (fz : ∃ od, Hi d = some (.frz od u)) (h : H b = some o) : Rd Hi b o := by
  by_cases c : b = d
  · subst c
    have z : u = o := Option.some.inj (e.symm.trans h)
    subst z
    exact .inr fz
  · exact .inl (st _ _ c h)
theorem rd_stay {H Hi : Hp} {b : Addr} {o : HO} (s : Same H Hi) (h : Rd H b o) : Rd Hi b o := by
  rcases h with h | ⟨od, h⟩
  · exact .inl (s _ _ h)
  · exact .inr ⟨od, s _ _ h⟩
theorem sameW_sym {a b : List (Str × Str)} : sameW (.dict (kvT a)) (.dict (kvT b)) = sameW (.dict (kvT b)) (.dict (kvT a)) := by
  rw [Bool.eq_iff_iff, sameW_iff, sameW_iff]
  exact ⟨fun h x => (h x).symm, fun h x => (h x).symm⟩
section
variable {P : Program} {w : World} {K : PySem.W.Frag} {mg : Str → Option Value} {base : Heap}
def spAR (w : World) : Sp := fun vs H Q _ => ∃ vr vf dr df fr ff, vs = [vr, vf] ∧ RepA w H vr dr fr ∧ RepA w H vf df ff ∧ Nice 5 70 3000 dr ∧ Nice 5 70 3000 df ∧ finR df = true ∧ ∀ H', Same H H' → Q (.bl (rowD readL dr && allW df dr)) H'
theorem ok_ar {f fW fT : Addr} {fd fdW fdT : FuncData} (F : Fun K "are_reads" "are_reads" sAR f fd) (FW : Fun K "has_word_form" "has_word_form" sIsWord fW fdW) (gW : mg "has_word_form" = some (.ref fW)) (bW : Binds K fdW ["value"] [])
    (FT : Fun K "is_table" "is_table" sTab fT fdT) (gT : mg "is_table" = some (.ref fT)) (bT : Binds K fdT ["value", "levels"] []) (B : BltA K mg) :
    FnOk P w K mg base CX0 3 f fd ["value", "outcomes"] (spAR w) := by
  have GT : FnOk P w K mg base CX0 2 fT fdT ["value", "levels"] (spTab K w) := ok_tab FT FW gW bW B.o.c
  obtain ⟨tR, gR, sR⟩ := B.reads
  refine F.ok scAR (fun vs H Q E h => ?_) (fun cdv A outer s H vs Q E hr h => ?_)
  · obtain ⟨vr, vf, dr, df, fr, ff, rfl, _⟩ := h
    rfl
  · obtain ⟨vr, vf, dr, df, fr, ff, rfl, rr, rf, nr, nf, hf, q⟩ := h
    have hc : (cxOf CX0 P w K mg base arN "are_reads" (defScope sAR) f cdv A outer s H E).nox.calm = true := rfl
    have hu10 : (cxOf CX0 P w K mg base arN "are_reads" (defScope sAR) f cdv A outer s H E).nox.A.units + 10 < cLine := by
      have := hr.un
      show (A.deeper _).units + 10 < cLine
      omega
    have hu : (cxOf CX0 P w K mg base arN "are_reads" (defScope sAR) f cdv A outer s H E).nox.A.units < cLine := by omega
    refine ⟨_, pss_cons (ps_if (pt_not (pt_val (pe_call GT hr (by rfl) gT FT.kp bT .nil pass0 (pa_cons (pv 0) (pa_cons (pe_glob (v := .ref tR) (by rfl) gR rfl) pa_nil))))) (pss_one (ps_ret pe_bl)) pss_nil)
      (pss_one (ps_ret (pe_callB (cr_all hc) (by rfl) B.o.c.i.all (by decide +kernel) (pa_cons (pe_lock (pe_lc (own := [("outcome", 2)]) (g := gName 2) (tt := tYes) rfl scAR.nd (piKeysM (pv 1))
          (blkOk_by (N := arN) (sc := defScope sAR) (by decide +kernel)) (fun _ _ _ _ _ => pg_name (i := 2) scAR.nd rfl (Or.inl rfl)) (fun _ _ _ _ _ => pts_nil)
          (fun _ _ _ _ _ => pe_cmpR (r := rEqSS P w) (op_eqSS (by exact hu)) (pe_callTy (r := rSetD P w) cr_setD (by rfl) B.o.set boot_set (pa_cons (pv 0) pa_nil)) (pe_callTy (r := rSetD P w) cr_setD (by rfl) B.o.set boot_set (pa_cons (pe_ix (r := rIxM w) (ixM (by exact hu10)) (pv 1) (pv 2) (fun _ _ => rfl)) pa_nil)) (nomark _)))) pa_nil)))), ?_⟩
    refine ⟨vr, rfl, vr, tR, dr, fr, readL, rfl, rr, sR _, nr, fun H1 s1 => ⟨_, rfl, ?_⟩⟩
    cases hrow : rowD readL dr with
    | false =>
      rw [hrow, Bool.false_and] at q
      exact iteT (q H1 s1)
    | true =>
      rw [hrow, Bool.true_and] at q
      obtain ⟨b, ls, rfl, rfl, _, Rb⟩ := row_at (rr.same s1) hrow
      have rf1 := rf.same s1
      cases df with
      | dict kvs =>
        obtain ⟨d, es, fv, rfl, D, _⟩ := repA_dict rf1
        have few := nf.few
        have el := D.len
        refine iteF (keysP (w := w) (es := es) D (by omega) (fun p => sameW p.2 (.dict (kvT ls))) rfl (fun Hi r p A Q' q' => ?_) (fun H2 L2 s2 nL2 eL2 => ?_))
        · have hp : rowD endL p.2 = true := (Bool.and_eq_true_iff.mp (List.all_eq_true.mp (show (kvs.all fun p => outD p.1 && rowD endL p.2) = true from hf) p A.pe)).2
          obtain ⟨f2, _, r2⟩ := A.rv
          obtain ⟨a, ms, ea, em, _, Ra⟩ := row_at r2 hp
          refine ⟨.ref b, rfl, b, rowsT ls, keysT ls, rfl, rd_keep D.at_ A.st A.fz Rb.at_, rowsT_keys _, rowsT_all _ _, Rb.nd, fun a1 n1 => ?_⟩
          have sA := same_upd (o := SetO' P w a1 (keysT ls).reverse) n1
          refine ⟨.ref d, rfl, r.2.1, rfl, d, es, r.1, r, rfl, rd_stay sA A.rd, KAll.keep A.all (tup_same sA), A.key.mono (tup_same sA), A.look, a, rowsT ms, keysT ms, by rw [ea], .inl (sA _ _ Ra.at_), rowsT_keys _, rowsT_all _ _, Ra.nd, fun a2 n2 => ?_⟩
          have ne12 : a1 ≠ a2 := fun z => by
            rw [← z, upd_same] at n2
            cases n2
          refine ⟨a1, a2, _, _, rfl, rfl, (upd_ne ne12).trans upd_same, upd_same, ?_⟩
          rw [sameS_words Rb.nd Ra.nd, sameW_sym, ← em]
          exact q' _ (sA.trans (same_upd n2))
        · rw [map_bl (fun p : PyData × PyData => sameW p.2 (.dict (kvT ls)))] at eL2
          refine ⟨L2, _, rfl, .inl (.inl eL2), ?_⟩
          rw [List.all_map]
          exact q H2 (s1.trans s2)
      | _ => cases hf
end
end KF
end L2
end
/-! ### RG -/
section
namespace L2
namespace KF
open PySem PySem.Spec PyProof.Rows PySem.KD KE KC PySem.KA KM TL KS
/-! ## ordered -/
/-- what a row has for a word -/
def valT (ls : List (Str × Str)) (x : Str) : Str := ((ls.find? fun q => decide (q.1 = x)).map (·.2)).getD Str.empty
theorem valT_mem {ls : List (Str × Str)} {x : Str} (h : x ∈ keysT ls) : (x, valT ls x) ∈ ls := by
  unfold valT
  cases e : ls.find? fun q => decide (q.1 = x) with
  | none =>
    obtain ⟨q, hq, rfl⟩ := List.mem_map.mp h
    have := List.find?_eq_none.mp e q hq
    simp at this
  | some q =>
    have e1 : q.1 = x := by simpa using List.find?_some e
    subst e1
    exact List.mem_of_find?_eq_some e
theorem valT_self : ∀ {ls : List (Str × Str)} {q : Str × Str}, (keysT ls).Nodup → q ∈ ls → valT ls q.1 = q.2
  | p :: ls, q, nd, h => by
    have nd : p.1 ∉ keysT ls ∧ (keysT ls).Nodup := List.nodup_cons.mp nd
    unfold valT
    rcases List.mem_cons.mp h with rfl | h
    · rw [List.find?_cons_of_pos (by simp)]
      rfl
    · rw [List.find?_cons_of_neg (by
        simp only [decide_eq_true_eq]
        intro e
        exact nd.1 (e ▸ List.mem_map_of_mem (f := fun q : Str × Str => q.1) h))]
      exact valT_self nd.2 h
theorem valT_at {ls : List (Str × Str)} {x : Str} (nd : (keysT ls).Nodup) (h : x ∈ keysT ls) : lookH (rowsT ls) (.text x) = some (.text x, .str x, .str (valT ls x)) := by
  have m := valT_mem h
  have r : ((.text x, .str x, .str (valT ls x)) : MRow) ∈ rowsT ls := List.mem_map_of_mem (f := fun q : Str × Str => ((.text q.1, .str q.1, .str q.2) : MRow)) m
  exact look_mem (by rw [rowsT_keys]; exact nd_text nd) r
/-- a row, its words ascending -/
def ordT (ls : List (Str × Str)) : List (Str × Str) := (srt (keysT ls)).map fun x => (x, valT ls x)
theorem ordT_keys (ls : List (Str × Str)) : keysT (ordT ls) = srt (keysT ls) := by
  unfold keysT ordT
  rw [List.map_map]
  exact List.map_id _
theorem ordT_nd {ls : List (Str × Str)} (nd : (keysT ls).Nodup) : (keysT (ordT ls)).Nodup := by
  rw [ordT_keys]
  exact (srt_perm _).nodup_iff.mpr nd
theorem ordT_perm {ls : List (Str × Str)} (nd : (keysT ls).Nodup) : (ordT ls).Perm ls := by
  have p : (ordT ls).Perm ((keysT ls).map fun x => (x, valT ls x)) := (srt_perm _).map _
  have e : (keysT ls).map (fun x => (x, valT ls x)) = ls := by
    unfold keysT
    rw [List.map_map]
    conv => rhs; rw [← List.map_id ls]
    refine List.map_congr_left fun q hq => ?_
    show (q.1, valT ls q.1) = q
    rw [valT_self nd hq]
  rw [e] at p
  exact p
theorem ordT_len (ls : List (Str × Str)) : (ordT ls).length = ls.length := by
  unfold ordT
  rw [List.length_map, (srt_perm _).length_eq]
  exact List.length_map ..
theorem RowAt.ord {w : World} {H H' : Hp} {lv : List Str} {a p : Addr} {ls : List (Str × Str)} (R : RowAt w H lv a ls) (e : H' p = some (mdo w p (rowsT (ordT ls)))) : RowAt w H' lv p (ordT ls) :=
  ⟨e, ordT_nd R.nd, fun q hq => R.word q ((ordT_perm R.nd).mem_iff.mp hq), fun q hq => R.lev q ((ordT_perm R.nd).mem_iff.mp hq)⟩
theorem srt_rev (ks : List Str) : srt ks.reverse = srt ks := srt_of_perm (List.reverse_perm ks)
abbrev sOrd : Stmt := topS 23
abbrev orN : List Str := ["table", "key"]
theorem scOrd : FnScope orN ["table"] (defScope sOrd) := ⟨rfl, rfl, rfl, by decide +kernel, rfl, by decide +kernel, by decide +kernel⟩
structure BltS (mg : Str → Option Value) : Prop where
  set : mg "set" = none
  sorted : mg "sorted" = none
section
variable {P : Program} {w : World} {K : PySem.W.Frag} {mg : Str → Option Value} {base : Heap}
def spOrd (w : World) : Sp := fun vs H Q _ => ∃ a ls, vs = [.ref a] ∧ Rd H a (mdo w a (rowsT ls)) ∧ (keysT ls).Nodup ∧ ls.length ≤ 70 ∧ ∀ H' p, Same H H' → H p = none → H' p = some (mdo w p (rowsT (ordT ls))) → Q (.ref p) H'
theorem ok_ord {f : Addr} {fd : FuncData} {k : Nat} (F : Fun K "ordered" "ordered" sOrd f fd) (B : BltS mg) : FnOk P w K mg base CX0 (k + 1) f fd ["table"] (spOrd w) := by
  refine F.ok scOrd (fun vs H Q E h => ?_) (fun cdv A outer s H vs Q E hr h => ?_)
  · obtain ⟨a, ls, rfl, _⟩ := h
    rfl
  · obtain ⟨a, ls, rfl, ra, nd, few, q⟩ := h
    have hc : (cxOf CX0 P w K mg base orN "ordered" (defScope sOrd) f cdv A outer s H E).nox.calm = true := rfl
    have hu10 : (cxOf CX0 P w K mg base orN "ordered" (defScope sOrd) f cdv A outer s H E).nox.A.units + 10 < cLine := by
      have := hr.un
      show (A.deeper _).units + 10 < cLine
      omega
    have hu40 : (cxOf CX0 P w K mg base orN "ordered" (defScope sOrd) f cdv A outer s H E).nox.A.units + 40 < cLine := by
      have := hr.un
      show (A.deeper _).units + 40 < cLine
      omega
    refine ⟨_, pss_one (ps_ret (peDcM (own := [("key", 1)]) (g := gName 1) hu10 hc scOrd.nd
      (pi_list (pe_callB (cr_sortS hc hu40) (by rfl) B.sorted (by decide +kernel) (pa_cons (pe_callTy cr_setD (by rfl) B.set boot_set (pa_cons (pv 0) pa_nil)) pa_nil)))
      (blkOk_by (N := orN) (sc := defScope sOrd) (by decide +kernel)) (fun _ _ _ _ _ => pg_name (i := 1) scOrd.nd rfl (Or.inl rfl))
      (fun _ _ _ _ _ => pv 1) (fun _ _ _ _ _ => pe_ix (r := rIxM w) (ixM (by exact hu10)) (pv 0) (pv 1) (fun _ _ => rfl)))), ?_⟩
    rw [show (cxOf CX0 P w K mg base orN "ordered" (defScope sOrd) f cdv A outer s H E).nox.w = w from rfl, show (cxOf CX0 P w K mg base orN "ordered" (defScope sOrd) f cdv A outer s H E).nox.prog = P from rfl]
    refine ⟨.ref a, rfl, a, rowsT ls, keysT ls, rfl, ra, rowsT_keys _, rowsT_all _ _, nd, fun S nS => ?_⟩
    have sS := same_upd (o := SetO' P w S (keysT ls).reverse) nS
    refine ⟨S, _, rfl, upd_same, by rw [List.length_reverse, List.length_map]; omega, fun L nL => ?_⟩
    rw [srt_rev]
    have sL := sS.trans (same_upd (o := .lst ((srt (keysT ls)).map V.str)) nL)
    have eL : (upd (upd H S (SetO' P w S (keysT ls).reverse)) L (.lst ((srt (keysT ls)).map V.str))) L = some (.lst ((srt (keysT ls)).map V.str)) := upd_same
    revert sL eL
    generalize upd (upd H S (SetO' P w S (keysT ls).reverse)) L (.lst ((srt (keysT ls)).map V.str)) = H1
    intro sL eL
    refine ⟨L, rfl, ⟨_, .inl (.inl eL)⟩, fun D nD => ?_⟩
    have len : (srt (keysT ls)).length = ls.length := by
      rw [(srt_perm _).length_eq]
      exact List.length_map ..
    have same0 : Same H1 (upd H1 D (mdo w D [])) := same_upd nD
    refine dcM_it (walk_list (K := K) (a := L) (xs := (srt (keysT ls)).map V.str)) (fun i Hi => Same H1 Hi ∧ Hi D = some (mdo w D ((rowsT (ordT ls)).take i))) ⟨same0, upd_same⟩ (fun i Hi _ S => .inl (.inl (S.1 _ _ eL))) (fun i x Hi Hj hi S hy => ?_) (fun Hi S => ?_)
    · obtain ⟨rfl, hx⟩ := hy
      rw [List.getElem?_map] at hx
      obtain ⟨x, hx2, rfl⟩ := Option.map_eq_some_iff.mp hx
      have mx : x ∈ keysT ls := srt_mem.mp (List.mem_of_getElem? hx2)
      have rx : (rowsT (ordT ls))[i]? = some (.text x, .str x, .str (valT ls x)) := by
        unfold rowsT ordT
        rw [List.map_map, List.getElem?_map, hx2]
        rfl
      have sH := sL.trans S.1
      refine c_name ⟨rfl, .str x, rfl, .ref a, rfl, .str x, rfl, a, rowsT ls, .text x, _, rfl, rd_stay sH ra, rowsT_all _ _, kAt.text _ _, valT_at nd mx, _, .text x, kAt.text _ _, S.2, ?_, ?_, ?_, ?_⟩
      · exact KAll.take (rowsT_all _ _) i
      · rw [List.length_take, rowsT_len, ordT_len]
        omega
      · intro b u e
        rw [upd_ne (ne_of_none e nD)]
        exact S.1 b u e
      · rw [upd_same, ← put_next (r := (.text x, .str x, .str (valT ls x))) (by rw [rowsT_keys]; exact nd_text (ordT_nd nd)) rx]
    · have S2 := S.2
      rw [List.length_map, len, List.take_of_length_le (by rw [rowsT_len, ordT_len]; exact Nat.le_refl _)] at S2
      refine q Hi D (sL.trans S.1) ?_ S2
      cases e : H D with
      | none => rfl
      | some u =>
        rw [sL _ _ e] at nD
        cases nD
end
end KF
end L2
end
/-! ### RH0 -/
section
namespace L2
namespace KF
open PySem PySem.Spec PyProof.Rows PySem.KD KE KC PySem.KA KM TL KS
/-! ## data in another order -/
structure Alike (a b : List (PyData × PyData)) : Prop where
  sh : PyData.showableKv a = PyData.showableKv b
  lf : PyData.leavesShortKv 13 a = PyData.leavesShortKv 13 b
  dp : PyData.depthKv a = PyData.depthKv b
  sz : szKv a = szKv b
  wt : PyData.weightKv a = PyData.weightKv b
theorem Alike.refl (a : List (PyData × PyData)) : Alike a a := ⟨rfl, rfl, rfl, rfl, rfl⟩
theorem Alike.trans {a b c : List (PyData × PyData)} (h : Alike a b) (g : Alike b c) : Alike a c := ⟨h.sh.trans g.sh, h.lf.trans g.lf, h.dp.trans g.dp, h.sz.trans g.sz, h.wt.trans g.wt⟩
theorem Alike.symm {a b : List (PyData × PyData)} (h : Alike a b) : Alike b a := ⟨h.sh.symm, h.lf.symm, h.dp.symm, h.sz.symm, h.wt.symm⟩
theorem alike_perm {a b : List (PyData × PyData)} (p : a.Perm b) : Alike a b := by
  induction p with
  | nil => exact .refl _
  | cons x _ ih =>
    obtain ⟨k, v⟩ := x
    refine ⟨?_, ?_, ?_, ?_, ?_⟩
    · simp only [PyData.showableKv, ih.sh]
    · simp only [PyData.leavesShortKv, ih.lf]
    · simp only [PyData.depthKv, ih.dp]
    · simp only [szKv, ih.sz]
    · simp only [PyData.weightKv, ih.wt]
  | swap x y l =>
    obtain ⟨k, v⟩ := x
    obtain ⟨k2, v2⟩ := y
    refine ⟨?_, ?_, ?_, ?_, ?_⟩
    · simp only [PyData.showableKv]
      cases k.showable <;> cases v.showable <;> cases k2.showable <;> cases v2.showable <;> simp
    · simp only [PyData.leavesShortKv]
      cases k.leavesShort 13 <;> cases v.leavesShort 13 <;> cases k2.leavesShort 13 <;> cases v2.leavesShort 13 <;> simp
    · simp only [PyData.depthKv]
      omega
    · simp only [szKv]
      omega
    · simp only [PyData.weightKv]
      omega
  | trans _ _ ih1 ih2 => exact ih1.trans ih2
theorem Nice.alike {D N W : Nat} {a b : List (PyData × PyData)} (n : Nice D N W (.dict a)) (h : Alike a b) : Nice D N W (.dict b) := by
  have h1 := n.show_
  have h2 := n.leaf
  have h3 := n.dep
  have h4 := n.sz
  have h5 := n.wt
  simp only [PyData.showable, PyData.leavesShort, PyData.depth, L2.KF.sz, PyData.weight] at h1 h2 h3 h4 h5
  refine ⟨?_, ?_, ?_, ?_, ?_⟩ <;> simp only [PyData.showable, PyData.leavesShort, PyData.depth, L2.KF.sz, PyData.weight]
  · rw [← h.sh, h1]
  · rw [← h.lf, h2]
  · rw [← h.dp]
    exact h3
  · rw [← h.sz]
    exact h4
  · rw [← h.wt]
    exact h5
theorem alike_ord {ls : List (Str × Str)} (nd : (keysT ls).Nodup) : Alike (kvT (ordT ls)) (kvT ls) := alike_perm ((ordT_perm nd).map _)
/-- rows exchanged for alike ones -/
theorem alike_rows (g : List (Str × Str) → List (Str × Str)) : ∀ {fs : List Fin}, (∀ q ∈ fs, Alike (kvT (g q.2.2)) (kvT q.2.2)) → Alike (fs.map fun q => ((.str q.1, .dict (kvT (g q.2.2))) : PyData × PyData)) (kvF fs)
  | [], _ => .refl _
  | q :: fs, h => by
    have ih := alike_rows g (fs := fs) fun p hp => h p (List.mem_cons_of_mem _ hp)
    have a := h q List.mem_cons_self
    have e : kvF (q :: fs) = (.str q.1, .dict (kvT q.2.2)) :: kvF fs := rfl
    rw [e, List.map_cons]
    refine ⟨?_, ?_, ?_, ?_, ?_⟩
    · simp only [PyData.showableKv, PyData.showable, ih.sh, a.sh]
    · simp only [PyData.leavesShortKv, PyData.leavesShort, ih.lf, a.lf]
    · simp only [PyData.depthKv, PyData.depth, ih.dp, a.dp]
    · simp only [szKv, L2.KF.sz, ih.sz, a.sz]
    · simp only [PyData.weightKv, PyData.weight, ih.wt, a.wt]
/-- the row of an outcome -/
def rowF (fs : List Fin) (x : Str) : List (Str × Str) := ((fs.find? fun q => decide (q.1 = x)).map (·.2.2)).getD []
theorem rowF_self : ∀ {fs : List Fin} {q : Fin}, (fs.map (·.1)).Nodup → q ∈ fs → rowF fs q.1 = q.2.2
  | p :: fs, q, nd, h => by
    have nd : p.1 ∉ fs.map (·.1) ∧ (fs.map (·.1)).Nodup := List.nodup_cons.mp nd
    unfold rowF
    rcases List.mem_cons.mp h with rfl | h
    · rw [List.find?_cons_of_pos (by simp)]
      rfl
    · rw [List.find?_cons_of_neg (by
        simp only [decide_eq_true_eq]
        intro e
        exact nd.1 (e ▸ List.mem_map_of_mem (f := fun q : Fin => q.1) h))]
      exact rowF_self nd.2 h
theorem look_fin {fs : List Fin} {q : Fin} (nd : (fs.map (·.1)).Nodup) (h : q ∈ fs) : lookH (rowsF fs) (.text q.1) = some (.text q.1, .str q.1, .ref q.2.1) := by
  have r : ((.text q.1, .str q.1, .ref q.2.1) : MRow) ∈ rowsF fs := List.mem_map_of_mem (f := fun q : Fin => ((.text q.1, .str q.1, .ref q.2.1) : MRow)) h
  exact look_mem (by rw [rowsF_keys]; exact nd_text nd) r
/-- finals, outcomes and words ascending, wherever they lie -/
structure OrdF (fs gs : List Fin) (n : Nat) : Prop where
  eq : gs.map (fun q => (q.1, q.2.2)) = ((srt (fs.map (·.1))).take n).map fun o => (o, ordT (rowF fs o))
theorem OrdF.keys {fs gs : List Fin} {n : Nat} (h : OrdF fs gs n) : gs.map (·.1) = (srt (fs.map (·.1))).take n := by
  have e := congrArg (List.map (·.1)) h.eq
  rw [List.map_map, List.map_map] at e
  have e2 : ((srt (fs.map (·.1))).take n).map ((fun x : Str × List (Str × Str) => x.1) ∘ fun o => (o, ordT (rowF fs o))) = (srt (fs.map (·.1))).take n := List.map_id _
  rw [e2] at e
  exact e
theorem OrdF.nice {fs gs : List Fin} {n : Nat} (h : OrdF fs gs n) (all : (srt (fs.map (·.1))).length ≤ n) (nd : (fs.map (·.1)).Nodup) (wnd : ∀ q ∈ fs, (keysT q.2.2).Nodup) {D N W : Nat} (ni : Nice D N W (.dict (kvF fs))) : Nice D N W (.dict (kvF gs)) := by
  have e1 : kvF gs = (gs.map fun q => (q.1, q.2.2)).map fun t => ((.str t.1, .dict (kvT t.2)) : PyData × PyData) := by
    unfold kvF
    rw [List.map_map]
    rfl
  rw [h.eq, List.take_of_length_le all, List.map_map] at e1
  have p : ((srt (fs.map (·.1))).map fun o => ((.str o, .dict (kvT (ordT (rowF fs o)))) : PyData × PyData)).Perm ((fs.map (·.1)).map fun o => ((.str o, .dict (kvT (ordT (rowF fs o)))) : PyData × PyData)) := (srt_perm _).map _
  have e2 : ((fs.map (·.1)).map fun o => ((.str o, .dict (kvT (ordT (rowF fs o)))) : PyData × PyData)) = fs.map fun q => ((.str q.1, .dict (kvT (ordT q.2.2))) : PyData × PyData) := by
    rw [List.map_map]
    refine List.map_congr_left fun q hq => ?_
    show ((.str q.1, .dict (kvT (ordT (rowF fs q.1)))) : PyData × PyData) = _
    rw [rowF_self nd hq]
  have a := (alike_perm p).trans (e2 ▸ alike_rows ordT fun q hq => alike_ord (wnd q hq))
  have e3 : kvF gs = (srt (fs.map (·.1))).map fun o => ((.str o, .dict (kvT (ordT (rowF fs o)))) : PyData × PyData) := e1
  rw [e3]
  exact ni.alike a.symm
theorem Nice.few1 {D N W : Nat} {kvs : List (PyData × PyData)} (n : Nice D N W (.dict kvs)) : kvs.length + 1 ≤ N := by
  have h := n.sz
  simp only [L2.KF.sz] at h
  have := len_kv kvs
  omega
theorem nice_names {xs : List Str} (h : ∀ x ∈ xs, isWordL (tl x) = true) (l : xs.length ≤ 69) : Nice 5 70 3000 (.tuple (xs.map .str)) :=
  (Nice.tuple (D := 1) (N := 1) (W := 20) (k := 69) (fun d hd => by
    obtain ⟨x, hx, rfl⟩ := List.mem_map.mp hd
    exact nice_word (h x hx)) (by rw [List.length_map]; exact l)).mono (by decide) (by decide) (by decide)
end KF
end L2
end
/-! ### RH -/
section
namespace L2
namespace KF
open PySem PySem.Spec PyProof.Rows PySem.KD KE KC PySem.KA KM TL KS KH
/-! ## Profile.__init__ -/
/-- a profile in the heap -/
structure PAt (w : World) (C : Addr) (H : Hp) (x dx T D R : Addr) (fs : List Fin) (rs : List (Str × Str)) : Prop where
  hx : H x = some (.ins C dx [("_names", .ref T), ("_outcomes", .ref D), ("_reads", .ref R)])
  hT : H T = some (.tup ((srt (keysT rs)).map V.str))
  hD : H D = some (mdo w D (rowsF fs))
  hR : H R = some (mdo w R (rowsT rs))
  row : ∀ q ∈ fs, H q.2.1 = some (mdo w q.2.1 (rowsT q.2.2)) ∧ (keysT q.2.2).Nodup ∧ q.2.1 ≠ D
  fnd : (fs.map (·.1)).Nodup
  rnd : (keysT rs).Nodup
  len : fs.length ≤ 70 ∧ rs.length ≤ 70 ∧ ∀ q ∈ fs, q.2.2.length ≤ 70
def PX (w : World) (C : Addr) : Hp → Addr → PyData → PyData → PyData → (Addr → Prop) → Prop := fun H x o r n S => ∃ dx T D R fs rs, PAt w C H x dx T D R fs rs ∧ o = .dict (kvF fs) ∧ r = .dict (kvT rs) ∧ n = .tuple ((srt (keysT rs)).map .str) ∧
  S = fun a => a = x ∨ a = D ∨ a = R ∨ a ∈ fs.map (·.2.1)
/-- the object holds what was passed, ascending -/
def Made (w : World) (C : Addr) (H : Hp) (x : Addr) (df dr : PyData) : Prop := ∃ (fs gs : List Fin) (rs : List (Str × Str)) (dx T D R : Addr), df = .dict (kvF fs) ∧ dr = .dict (kvT rs) ∧ (fs.map (·.1)).Nodup ∧ (∀ q ∈ fs, (keysT q.2.2).Nodup) ∧ (keysT rs).Nodup ∧ OrdF fs gs (srt (fs.map (·.1))).length ∧ PAt w C H x dx T D R gs (ordT rs)
def spInit (w : World) (C CV : Addr) : Sp := fun vs H Q E => ∃ x dx vf vr df dr ff fr, vs = [.ref x, vf, vr] ∧ H x = some (.ins C dx []) ∧ H dx = some (.own x) ∧ x ≠ dx ∧ RepA w H vf df ff ∧ RepA w H vr dr fr ∧ Nice 5 70 3000 df ∧ Nice 5 70 3000 dr ∧
  ((finD df = true ∧ rowD readL dr = true ∧ allW df dr = true) → ∀ H' S o r n, (∀ b u, b ≠ x → H b = some u → H' b = some u) → PX w C H' x o r n S → (∀ a, S a → a = x ∨ a = dx ∨ H a = none) → Nice 5 70 3000 o → Nice 5 70 3000 r → Nice 5 70 3000 n → Made w C H' x df dr → Q .non H') ∧
  (¬ (finD df = true ∧ rowD readL dr = true ∧ allW df dr = true) → ∀ H' d fs v f, Same H H' → H' d = some (.xd fs) → fs.lookup (Str.ofString "value") = some v → Rep w H' v (if finD df = true then dr else df) f → E (.ref CV) (some d) H')
abbrev sInit : Stmt := methOf 22 0
abbrev inN : List Str := ["self", "outcomes", "reads", "outcome"]
theorem scInit : FnScope inN ["self", "outcomes", "reads"] (defScope sInit) := ⟨rfl, rfl, rfl, by decide +kernel, rfl, by decide +kernel, by decide +kernel⟩
structure BltP (mg : Str → Option Value) : Prop where
  s : BltS mg
  tuple : mg "tuple" = none
section
variable {P : Program} {w : World} {K : PySem.W.Frag} {mg : Str → Option Value} {base : Heap}
theorem ok_init {C CV f fAO fAR fOR fIP : Addr} {fd fdAO fdAR fdOR fdIP : FuncData} (F : Fun K "__init__" "Profile.__init__" sInit f fd)
    (GAO : FnOk P w K mg base CX0 3 fAO fdAO ["value"] (spData w finD)) (kAO : PySem.W.keepIn K (.ref fAO) = true) (gAO : mg "are_outcomes" = some (.ref fAO)) (bAO : Binds K fdAO ["value"] [])
    (GAR : FnOk P w K mg base CX0 3 fAR fdAR ["value", "outcomes"] (spAR w)) (kAR : PySem.W.keepIn K (.ref fAR) = true) (gAR : mg "are_reads" = some (.ref fAR)) (bAR : Binds K fdAR ["value", "outcomes"] [])
    (GOR : FnOk P w K mg base CX0 1 fOR fdOR ["table"] (spOrd w)) (kOR : PySem.W.keepIn K (.ref fOR) = true) (gOR : mg "ordered" = some (.ref fOR)) (bOR : Binds K fdOR ["table"] [])
    (Er : ErrV K mg "InvalidProfile" "value" CV fIP) (GIP : FnOk P w K mg base CX0 3 fIP fdIP ["self", "value"] (spErr w CV "value")) (bIP : Binds K fdIP ["self", "value"] [])
    (cl : Cls K C) (n1 : NoAttr K C "_names") (n2 : NoAttr K C "_outcomes") (n3 : NoAttr K C "_reads") (B : BltP mg) : FnOk P w K mg base (L2.CX P w) 6 f fd ["self", "outcomes", "reads"] (spInit w C CV) := by
  refine F.okX scInit (fun vs H Q E h => ?_) (fun cdv A outer s H vs Q E hr h => ?_)
  · obtain ⟨x, dx, vf, vr, df, dr, ff, fr, rfl, _⟩ := h
    rfl
  · obtain ⟨x, dx, vf, vr, df, dr, ff, fr, rfl, hx, hdx, nx, rf, rr, nf, nr, qg, qb⟩ := h
    have hc : (cxOf (L2.CX P w) P w K mg base inN "Profile.__init__" (defScope sInit) f cdv A outer s H E).calm = true := rfl
    have hu10 : (cxOf (L2.CX P w) P w K mg base inN "Profile.__init__" (defScope sInit) f cdv A outer s H E).A.units + 10 < cLine := by
      have := hr.un
      show (A.deeper _).units + 10 < cLine
      omega
    have hu40 : (cxOf (L2.CX P w) P w K mg base inN "Profile.__init__" (defScope sInit) f cdv A outer s H E).A.units + 40 < cLine := by
      have := hr.un
      show (A.deeper _).units + 40 < cLine
      omega
    refine ⟨_, pss_cons (ps_if (pt_not (pt_val (pe_call GAO (hr.mono (by decide)) (by rfl) gAO kAO bAO .nil pass0 (pa_cons (pv 1) pa_nil)))) (pss_one (ps_raise rfl (takes_of rfl rfl rfl rfl) (pmk_oex Er.oex Er.iC Er.tI GIP (hr.mono (by decide)) bIP .nil pass0 (by rfl) Er.gC (pa_cons (pv 1) pa_nil)))) pss_nil)
      (pss_cons (ps_if (pt_not (pt_val (pe_call GAR (hr.mono (by decide)) (by rfl) gAR kAR bAR .nil pass0 (pa_cons (pv 2) (pa_cons (pv 1) pa_nil))))) (pss_one (ps_raise rfl (takes_of rfl rfl rfl rfl) (pmk_oex Er.oex Er.iC Er.tI GIP (hr.mono (by decide)) bIP .nil pass0 (by rfl) Er.gC (pa_cons (pv 2) pa_nil)))) pss_nil)
      (pss_cons (ps_fld (pv 0) (pe_callTy call_tuple_of (by rfl) B.tuple (by decide +kernel) (pa_cons (pe_callB (cr_sortS hc hu40) (by rfl) B.s.sorted (by decide +kernel) (pa_cons (pe_callTy cr_setD (by rfl) B.s.set boot_set (pa_cons (pv 2) pa_nil)) pa_nil)) pa_nil)) rfl)
      (pss_cons (ps_fld (pv 0) (peDcM (own := [("outcome", 3)]) (g := gName 3) hu10 hc scInit.nd
        (pi_list (pe_callB (cr_sortS hc hu40) (by rfl) B.s.sorted (by decide +kernel) (pa_cons (pe_callTy cr_setD (by rfl) B.s.set boot_set (pa_cons (pv 1) pa_nil)) pa_nil)))
        (blkOk_by (N := inN) (sc := defScope sInit) (by decide +kernel)) (fun _ _ _ _ _ => pg_name (i := 3) scInit.nd rfl (Or.inl rfl))
        (fun _ _ _ _ _ => pv 3) (fun _ _ _ _ _ => pe_call GOR (hr.mono (by decide)) (by rfl) gOR kOR bOR .nil pass0 (pa_cons (pe_ix (r := rIxM w) (ixM (by exact hu10)) (pv 1) (pv 3) (fun _ _ => rfl)) pa_nil))) rfl)
      (pss_one (ps_fld (pv 0) (pe_call GOR (hr.mono (by decide)) (by rfl) gOR kOR bOR .nil pass0 (pa_cons (pv 2) pa_nil)) rfl))))), ?_⟩
    rw [show (cxOf (L2.CX P w) P w K mg base inN "Profile.__init__" (defScope sInit) f cdv A outer s H E).w = w from rfl, show (cxOf (L2.CX P w) P w K mg base inN "Profile.__init__" (defScope sInit) f cdv A outer s H E).prog = P from rfl]
    have gv : ∀ {σ : St} {i : Nat} {v : V} {H : Hp}, σ[i]? = some (some v) → GivesR (tVar i) σ H (Pure v) := fun hi H' _ Q q => ⟨_, hi, q _ H' (same_refl _) ⟨rfl, rfl⟩⟩
    refine ⟨vf, rfl, vf, df, ff, rfl, rf, nf, fun H1 s1 => ⟨_, rfl, ?_⟩⟩
    cases hF : finD df with
    | false =>
      refine iteT (raised (C := CV) (f := "value") (gv rfl) (rf.rep.same s1) (Nat.le_trans nf.sz (by decide)) fun H' dd fs v' f3 s2 e l r' => ?_)
      refine qb (fun z => ?_) H' dd fs v' f3 (s1.trans s2) e l ?_
      · rw [hF] at z
        cases z.1
      · rw [hF]
        exact r'
    | true =>
      have rf1 := rf.same s1
      have rr1 := rr.same s1
      have hFR := finR_of hF
      obtain ⟨d0, fs, rfl, rfl, FA⟩ := fin_at rf1 hFR
      refine iteF ⟨vr, rfl, .ref d0, rfl, vr, .ref d0, dr, .dict (kvF fs), fr, ff, rfl, rr1, rf1, nr, nf, hFR, fun H2 s2 => ⟨_, rfl, ?_⟩⟩
      cases hR : (rowD readL dr && allW (.dict (kvF fs)) dr) with
      | false =>
        refine iteT (raised (C := CV) (f := "value") (gv rfl) (rr1.rep.same s2) (Nat.le_trans nr.sz (by decide)) fun H' dd fs' v' f3 s3 e l r' => ?_)
        refine qb (fun z => ?_) H' dd fs' v' f3 ((s1.trans s2).trans s3) e l ?_
        · rw [z.2.1, z.2.2] at hR
          cases hR
        · rw [hF, if_pos rfl]
          exact r'
      | true =>
        rw [Bool.and_eq_true] at hR
        have qg2 := qg ⟨hF, hR.1, hR.2⟩
        obtain ⟨r0, ls, rfl, rfl, _, RA⟩ := row_at (rr1.same s2) hR.1
        have lsF := nr.few1
        rw [kvT_len] at lsF
        have fsF := nf.few1
        rw [kvF_len] at fsF
        have len1 : (srt (keysT ls)).length = ls.length := by
          rw [(srt_perm _).length_eq]
          exact List.length_map ..
        have hx2 := (s1.trans s2) _ _ hx
        have FA2 : FinAt w H2 d0 fs := ⟨s2 _ _ FA.at_, FA.nd, FA.out, fun q hq => (FA.row q hq).keep (s2 _ _ (FA.row q hq).at_), FA.ne⟩
        have s02 := s1.trans s2
        refine iteF ⟨.ref r0, rfl, r0, rowsT ls, keysT ls, rfl, .inl RA.at_, rowsT_keys _, rowsT_all _ _, RA.nd, fun S nS => ⟨S, _, rfl, upd_same, by rw [List.length_reverse, List.length_map]; omega, fun L nL => ⟨L, _, rfl, .inl ⟨.inl (.inl upd_same), fun T nT => ?_⟩⟩⟩⟩
        rw [srt_rev] at nT ⊢
        have s3 : Same H2 (upd (upd (upd H2 S (SetO' P w S (keysT ls).reverse)) L (.lst ((srt (keysT ls)).map V.str))) T (.tup ((srt (keysT ls)).map V.str))) := ((same_upd nS).trans (same_upd nL)).trans (same_upd nT)
        have e3 : (upd (upd (upd H2 S (SetO' P w S (keysT ls).reverse)) L (.lst ((srt (keysT ls)).map V.str))) T (.tup ((srt (keysT ls)).map V.str))) T = some (.tup ((srt (keysT ls)).map V.str)) := upd_same
        revert s3 e3
        generalize upd (upd (upd H2 S (SetO' P w S (keysT ls).reverse)) L (.lst ((srt (keysT ls)).map V.str))) T (.tup ((srt (keysT ls)).map V.str)) = H3
        intro s3 e3
        have hx3 := s3 _ _ hx2
        refine ⟨.ref x, rfl, x, C, dx, [], rfl, hx3, cl, n1, by decide, ?_⟩
        have s03 := s02.trans s3
        -- the object with its first field
        rw [show putF (Str.ofString "_names") (V.ref T) [] = [(Str.ofString "_names", V.ref T)] from rfl]
        have b4 : ∀ b u, b ≠ x → H3 b = some u → (upd H3 x (.ins C dx [("_names", .ref T)])) b = some u := fun b u nb e => by
          rw [upd_ne nb]
          exact e
        have f4 : ∀ b, (upd H3 x (.ins C dx [("_names", .ref T)])) b = none → b ≠ x ∧ H3 b = none := fun b e => by
          have nb : b ≠ x := fun z => by
            rw [z, upd_same] at e
            cases e
          rw [upd_ne nb] at e
          exact ⟨nb, e⟩
        have hx4 : (upd H3 x (.ins C dx [("_names", .ref T)])) x = some (.ins C dx [("_names", .ref T)]) := upd_same
        revert b4 f4 hx4
        generalize upd H3 x (.ins C dx [("_names", .ref T)]) = H4
        intro b4 f4 hx4
        have notx : ∀ {b : Addr} {es : List MRow}, H3 b = some (mdo w b es) → b ≠ x := fun {b es} e z => by
          rw [z, hx3] at e
          cases e
        have nTx : T ≠ x := fun z => by
          rw [z, hx3] at e3
          cases e3
        have FA4 : H4 d0 = some (mdo w d0 (rowsF fs)) := b4 _ _ (notx (s3 _ _ FA2.at_)) (s3 _ _ FA2.at_)
        have RW4 : ∀ q ∈ fs, H4 q.2.1 = some (mdo w q.2.1 (rowsT q.2.2)) := fun q hq => b4 _ _ (notx (s3 _ _ (FA2.row q hq).at_)) (s3 _ _ (FA2.row q hq).at_)
        have RA4 : H4 r0 = some (mdo w r0 (rowsT ls)) := b4 _ _ (notx (s3 _ _ RA.at_)) (s3 _ _ RA.at_)
        have e4 := b4 _ _ nTx e3
        have len2 : (srt (fs.map (·.1))).length = fs.length := by
          rw [(srt_perm _).length_eq]
          exact List.length_map ..
        refine ⟨.ref d0, rfl, d0, rowsF fs, fs.map (·.1), rfl, .inl FA4, rowsF_keys _, rowsF_all _ _, FA.nd, fun S2 nS2 => ⟨S2, _, rfl, upd_same, by rw [List.length_reverse, List.length_map]; omega, fun L2 nL2 => ?_⟩⟩
        rw [srt_rev]
        have s5 : Same H4 (upd (upd H4 S2 (SetO' P w S2 (fs.map (·.1)).reverse)) L2 (.lst ((srt (fs.map (·.1))).map V.str))) := (same_upd nS2).trans (same_upd nL2)
        have e5 : (upd (upd H4 S2 (SetO' P w S2 (fs.map (·.1)).reverse)) L2 (.lst ((srt (fs.map (·.1))).map V.str))) L2 = some (.lst ((srt (fs.map (·.1))).map V.str)) := upd_same
        revert s5 e5
        generalize upd (upd H4 S2 (SetO' P w S2 (fs.map (·.1)).reverse)) L2 (.lst ((srt (fs.map (·.1))).map V.str)) = H5
        intro s5 e5
        refine ⟨L2, rfl, ⟨_, .inl (.inl e5)⟩, fun D nD => ?_⟩
        have snd : (srt (fs.map (·.1))).Nodup := (srt_perm _).nodup_iff.mpr FA.nd
        refine dcM_it (walk_list (K := K) (a := L2) (xs := (srt (fs.map (·.1))).map V.str)) (fun i Hi => Same H5 Hi ∧ ∃ gs, Hi D = some (mdo w D (rowsF gs)) ∧ OrdF fs gs i ∧ ∀ q ∈ gs, Hi q.2.1 = some (mdo w q.2.1 (rowsT q.2.2)) ∧ H5 q.2.1 = none ∧ q.2.1 ≠ D ∧ (keysT q.2.2).Nodup ∧ q.2.2.length ≤ 70)
          ⟨same_upd nD, [], upd_same, ⟨rfl⟩, fun _ z => nomatch z⟩ (fun i Hi _ S => .inl (.inl (S.1 _ _ e5))) (fun i y Hi Hj hi S hy => ?_) (fun Hi S => ?_)
        · obtain ⟨rfl, hy⟩ := hy
          rw [List.getElem?_map] at hy
          obtain ⟨o, ho, rfl⟩ := Option.map_eq_some_iff.mp hy
          obtain ⟨q, hq, eq⟩ := List.mem_map.mp (srt_mem.mp (List.mem_of_getElem? ho))
          have eq : q.1 = o := eq
          subst eq
          obtain ⟨sI, gs, eD, OF, rg⟩ := S
          have s4I := s5.trans sI
          have hq70 := (nf.part (List.mem_map_of_mem (f := fun q : Fin => ((.str q.1, .dict (kvT q.2.2)) : PyData × PyData)) hq)).1.few1
          rw [kvT_len] at hq70
          refine c_name ⟨rfl, .str q.1, rfl, .ref d0, rfl, .str q.1, rfl, d0, rowsF fs, .text q.1, _, rfl, .inl (s4I _ _ FA4), rowsF_all _ _, kAt.text _ _, look_fin FA.nd hq, q.2.1, q.2.2, rfl, .inl (s4I _ _ (RW4 q hq)), (FA.row q hq).nd, by omega, fun H' p sH np ep => ?_⟩
          have fresh : NestedKey.text q.1 ∉ (rowsF gs).map (·.1) := by
            rw [rowsF_keys, OF.keys]
            intro z
            obtain ⟨y, hy, e⟩ := List.mem_map.mp z
            injection e with e
            subst e
            obtain ⟨j, hj, ej⟩ := List.getElem_of_mem hy
            rw [List.length_take] at hj
            rw [List.getElem_take] at ej
            obtain ⟨hi2, e2⟩ := List.getElem?_eq_some_iff.mp ho
            have := (List.getElem_inj (xs := srt (fs.map (·.1))) (i := j) (j := i) (h₀ := by omega) (h₁ := hi2) snd).mp (ej.trans e2.symm)
            omega
          have lgs : gs.length ≤ 70 := by
            have z := congrArg List.length OF.keys
            rw [List.length_map, List.length_take] at z
            omega
          have nDI : D ≠ p := fun z => by
            rw [← z, eD] at np
            cases np
          refine ⟨rowsF gs, .text q.1, kAt.text _ _, sH _ _ eD, rowsF_all _ _, by rw [rowsF_len]; omega, ?_, gs ++ [(q.1, p, ordT q.2.2)], ?_, ⟨?_⟩, ?_⟩
          · intro b u e
            rw [upd_ne (ne_of_none e nD)]
            exact sH _ _ (sI b u e)
          · rw [upd_same, put_fresh fresh]
            unfold rowsF
            rw [List.map_append]
            rfl
          · rw [List.map_append, OF.eq, List.take_add_one, ho, List.map_append]
            show _ ++ [(q.1, ordT q.2.2)] = _ ++ [(q.1, ordT (rowF fs q.1))]
            rw [rowF_self FA.nd hq]
          · intro z hz
            rcases List.mem_append.mp hz with hz | hz
            · obtain ⟨h1, h2, h3, h4⟩ := rg z hz
              refine ⟨?_, h2, h3, h4⟩
              rw [upd_ne h3]
              exact sH _ _ h1
            · rw [List.mem_singleton.mp hz]
              refine ⟨?_, sI.free np, Ne.symm nDI, ordT_nd (FA.row q hq).nd, by rw [ordT_len]; omega⟩
              show (upd H' D _) p = _
              rw [upd_ne (Ne.symm nDI)]
              exact ep
        · obtain ⟨s6, gs, eD, OF, rg⟩ := S
          rw [List.length_map] at OF
          have hx6 := s6 _ _ (s5 _ _ hx4)
          refine ⟨.ref x, rfl, x, C, dx, [("_names", .ref T)], rfl, hx6, cl, n2, by show 1 < 1000; decide, ?_⟩
          rw [show putF (Str.ofString "_outcomes") (V.ref D) [(Str.ofString "_names", V.ref T)] = [(Str.ofString "_names", V.ref T), (Str.ofString "_outcomes", V.ref D)] from rfl]
          have b7 : ∀ b u, b ≠ x → Hi b = some u → (upd Hi x (.ins C dx [("_names", .ref T), ("_outcomes", .ref D)])) b = some u := fun b u nb e => by
            rw [upd_ne nb]
            exact e
          have f7 : ∀ b, (upd Hi x (.ins C dx [("_names", .ref T), ("_outcomes", .ref D)])) b = none → b ≠ x ∧ Hi b = none := fun b e => by
            have nb : b ≠ x := fun z => by
              rw [z, upd_same] at e
              cases e
            rw [upd_ne nb] at e
            exact ⟨nb, e⟩
          have hx7 : (upd Hi x (.ins C dx [("_names", .ref T), ("_outcomes", .ref D)])) x = some (.ins C dx [("_names", .ref T), ("_outcomes", .ref D)]) := upd_same
          revert b7 f7 hx7
          generalize upd Hi x (.ins C dx [("_names", .ref T), ("_outcomes", .ref D)]) = H7
          intro b7 f7 hx7
          have s46 := s5.trans s6
          have notx4 : ∀ {b : Addr} {es : List MRow}, Hi b = some (mdo w b es) → b ≠ x := fun {b es} e z => by
            rw [z, hx6] at e
            cases e
          have RA7 : H7 r0 = some (mdo w r0 (rowsT ls)) := b7 _ _ (notx4 (s46 _ _ RA4)) (s46 _ _ RA4)
          refine ⟨.ref r0, rfl, r0, ls, rfl, .inl RA7, RA.nd, by omega, fun H8 R s8 nR eR => ?_⟩
          have hx8 := s8 _ _ hx7
          refine ⟨.ref x, rfl, x, C, dx, [("_names", .ref T), ("_outcomes", .ref D)], rfl, hx8, cl, n3, by show 2 < 1000; decide, ?_⟩
          rw [show putF (Str.ofString "_reads") (V.ref R) [(Str.ofString "_names", V.ref T), (Str.ofString "_outcomes", V.ref D)] = [(Str.ofString "_names", V.ref T), (Str.ofString "_outcomes", V.ref D), (Str.ofString "_reads", V.ref R)] from rfl]
          have go : ∀ b u, b ≠ x → Hi b = some u → (upd H8 x (.ins C dx [("_names", .ref T), ("_outcomes", .ref D), ("_reads", .ref R)])) b = some u := fun b u nb e => by
            rw [upd_ne nb]
            exact s8 _ _ (b7 _ _ nb e)
          have back : ∀ b, Hi b = none → b ≠ x → H b = none := fun b e nb => by
            have z := s46.free e
            cases y : H b with
            | none => rfl
            | some u =>
              rw [b4 _ _ nb (s03 _ _ y)] at z
              cases z
          have nRx : R ≠ x := (f7 R nR).1
          have eR9 : (upd H8 x (.ins C dx [("_names", .ref T), ("_outcomes", .ref D), ("_reads", .ref R)])) R = some (mdo w R (rowsT (ordT ls))) := by
            rw [upd_ne nRx]
            exact eR
          have nDx : D ≠ x := fun z => by
            rw [z] at nD
            rw [s5 _ _ hx4] at nD
            cases nD
          have lgs : gs.length ≤ 70 := by
            have z := congrArg List.length OF.keys
            rw [List.length_map, List.length_take] at z
            omega
          have gnd : (gs.map (·.1)).Nodup := by
            rw [OF.keys]
            exact List.Sublist.nodup (List.take_sublist _ _) snd
          have fr5 : ∀ b, H5 b = none → b ≠ x → H b = none := fun b e nb => by
            have z := s5.free e
            cases y : H b with
            | none => rfl
            | some u =>
              rw [b4 _ _ nb (s03 _ _ y)] at z
              cases z
          have e9 : srt (keysT (ordT ls)) = srt (keysT ls) := by
            rw [ordT_keys]
            exact srt_of_perm (srt_perm _)
          have gx : ∀ q ∈ gs, q.2.1 ≠ x := fun q hq z => by
            have y := (rg q hq).1
            rw [z, hx6] at y
            cases y
          have PA : PAt w C (upd H8 x (.ins C dx [("_names", .ref T), ("_outcomes", .ref D), ("_reads", .ref R)])) x dx T D R gs (ordT ls) := by
            refine ⟨upd_same, ?_, ?_, eR9, fun q hq => ⟨?_, (rg q hq).2.2.2.1, (rg q hq).2.2.1⟩, gnd, ordT_nd RA.nd, lgs, by rw [ordT_len]; omega, fun q hq => (rg q hq).2.2.2.2⟩
            · rw [e9]
              exact go _ _ nTx (s46 _ _ e4)
            · exact go _ _ nDx eD
            · exact go _ _ (gx q hq) (rg q hq).1
          refine qg2 _ (fun a => a = x ∨ a = D ∨ a = R ∨ a ∈ gs.map (·.2.1)) (.dict (kvF gs)) (.dict (kvT (ordT ls))) (.tuple ((srt (keysT ls)).map .str)) (fun b u nb e => ?_) ⟨dx, T, D, R, gs, ordT ls, PA, rfl, rfl, by rw [e9], rfl⟩ (fun a ha => ?_) ?_ ?_ ?_ ⟨fs, gs, ls, dx, T, D, R, rfl, rfl, FA.nd, fun q hq => (FA.row q hq).nd, RA.nd, OF, PA⟩
          · exact go _ _ nb (s46 _ _ (b4 _ _ nb (s03 _ _ e)))
          · rcases ha with rfl | rfl | rfl | ha
            · exact .inl rfl
            · exact .inr (.inr (fr5 _ nD nDx))
            · exact .inr (.inr (back _ (f7 _ nR).2 nRx))
            · obtain ⟨q, hq, rfl⟩ := List.mem_map.mp ha
              exact .inr (.inr (fr5 _ (rg q hq).2.1 (gx q hq)))
          · exact OF.nice (by omega) FA.nd (fun q hq => (FA.row q hq).nd) nf
          · exact nr.alike (alike_ord RA.nd).symm
          · refine nice_names (fun y hy => ?_) (by omega)
            obtain ⟨q, hq, e⟩ := List.mem_map.mp (srt_mem.mp hy)
            rw [← e]
            exact RA.word q hq
end
end KF
end L2
end
/-! ### PD3 -/
section
namespace L2
namespace KE
open PySem PySem.Spec PyProof.Rows PySem.KD
/-! ## dict(d), d with texts as keys -/
def AllT (kvs : List (Key × V)) : Prop := ∀ p ∈ kvs, ∃ x, p.1 = .inr x
theorem of_toM {P : Program} {w : World} {h : Heap} {d : Addr} {kvs : List (Key × V)} {rows : List KD.Row} (t : AllT kvs) (rr : Paired MRel (toM kvs) rows) (D : DM w h d rows) : ∃ vs : List (Key × Value), h.DictOf (mixKind P w) d vs ∧ KV kvs vs := by
  obtain ⟨⟨o, ens, ep, ho, hx, hd, he⟩, once⟩ := D
  have main : ∀ (kvs : List (Key × V)) (rows : List KD.Row), AllT kvs → Paired MRel (toM kvs) rows → ∃ vs : List (Key × Value), KV kvs vs ∧ Pairs (mixKind P w) (rows.map (rowE w)) vs ∧ (∀ r ∈ rows, ∃ x tk, r.1 = .text x ∧ r.2.1 = .str x tk) ∧ rows.map (·.1) = vs.map fun p => nkOf p.1 := by
    intro kvs
    induction kvs with
    | nil =>
      intro rows _ rr
      cases rr
      exact ⟨[], .nil, .nil, (fun _ z => nomatch z), rfl⟩
    | cons p kvs ih =>
      intro rows t rr
      cases rr with
      | @cons _ r _ rs hr rest =>
        obtain ⟨vs, h1, h2, h3, h4⟩ := ih rs (fun q hq => t q (List.mem_cons_of_mem _ hq)) rest
        obtain ⟨x, ex⟩ := t p List.mem_cons_self
        obtain ⟨k, v⟩ := p
        have ex : k = .inr x := ex
        subst ex
        have er : r.1 = .text x := hr.1.symm
        obtain ⟨tk, ek⟩ := (show ∃ tk, r.2.1 = Value.str x tk from hr.2.1)
        refine ⟨(.inr x, r.2.2) :: vs, .cons ⟨rfl, hr.2.2⟩ h1, .cons ?_ rfl h2, fun q hq => ?_, by rw [List.map_cons, List.map_cons, h4, er]; rfl⟩
        · show (mixKind P w).is (.inr x) r.2.1 = true
          rw [ek]
          exact mixKind_str P w x tk
        · rcases List.mem_cons.mp hq with rfl | hq
          · exact ⟨x, tk, er, ek⟩
          · exact h3 q hq
  obtain ⟨vs, h1, h2, h3, h4⟩ := main kvs rows t rr
  refine ⟨vs, ⟨o, ens, ep, ho, hx, hd, fun e hm => ?_, by rw [he]; exact h2, ?_⟩, h1⟩
  · have hm2 : e ∈ rows.map (rowE w) := by
      rw [← he]
      exact Array.mem_toList_iff.mpr hm
    obtain ⟨r, hr, rfl⟩ := List.mem_map.mp hm2
    obtain ⟨x, tk, e1, e2⟩ := h3 r hr
    refine ⟨.inr x, ?_, ?_⟩
    · show (mixKind P w).is (.inr x) r.2.1 = true
      rw [e2]
      exact mixKind_str P w x tk
    · show r.1.hash w = keyH w (.inr x)
      rw [e1]
      exact nk_hash w (.inr x)
  · rw [h4] at once
    have e2 : (vs.map fun p => nkOf p.1) = (vs.map (·.1)).map nkOf := by
      rw [List.map_map]
      rfl
    rw [e2] at once
    exact List.Pairwise.imp (fun ne e => ne (by rw [e])) (List.pairwise_map.mp once)
section
variable {X : Cx}
/-- dict(d) -/
def rCopyM (w : World) : List V → Hp → VK → Prop := fun ys H Q => ∃ a kvs, ys = [V.ref a] ∧ Rd H a (mdo w a (toM kvs)) ∧ AllT kvs ∧ ∀ p, H p = none → Q (.ref p) (upd H p (mdo w p (toM kvs)))
theorem callCopyM : CallR X (.type "dict") (rCopyM X.w) := by
  intro pins s σ H ys us Q I r z
  obtain ⟨a, kvs, rfl, rd, t, q⟩ := z
  rw [Vals.ref1 r]
  obtain ⟨l, sy, rows, rr, D⟩ := mdo_rd I.hok rd
  obtain ⟨vs, dd, kv⟩ := of_toM (P := X.prog) t rr D
  have lk : kvs.length ≤ 1000 := by
    unfold toM at l
    rwa [List.length_map] at l
  have lz : kvs.length ≤ sizeLine := Nat.le_of_lt (small1000 lk)
  refine kt_call_dict sy dd (by rw [← kv.length]; exact lz) fun h' dd' hs => ?_
  have sy' : (s.heap.objs.size == sysModules) = false := beq_eq_false_iff_ne.mpr (Ne.symm (Nat.ne_of_lt I.big))
  have ok : ObjOk X.prog X.w H h' s.heap.objs.size (.dK kvs) := dk_new lz sy' kv dd'
  have ok2 := (dk_mdo (w := X.w) ok lk).1
  obtain ⟨a1, a2, rows', rr', D'⟩ := ok2
  exact ⟨.ref _, _, I.laid (t' := s.toks) (fun b u e => (hs.2 b (Nat.ne_of_lt (Heap.lt_size e))).trans (Heap.get?_push_of_some _ e)) (Nat.le_refl _) (mdo_ok a1 a2 rr' D'), rfl, q _ (I.hok.fresh (Nat.le_refl _))⟩
end
end KE
end L2
end
/-! ### RI -/
section
namespace L2
namespace KF
open PySem PySem.Spec PyProof.Rows PySem.KD KE KC PySem.KA KM TL KS KH
/-! ## the properties -/
theorem rowsT_toM (ls : List (Str × Str)) : rowsT ls = toM (ls.map fun q => ((.inr q.1, .str q.2) : Key × V)) := by
  unfold rowsT toM
  rw [List.map_map]
  rfl
theorem allT_row (ls : List (Str × Str)) : AllT (ls.map fun q => ((.inr q.1, .str q.2) : Key × V)) := fun p hp => by
  obtain ⟨q, _, rfl⟩ := List.mem_map.mp hp
  exact ⟨q.1, rfl⟩
theorem rows_rep {w : World} {H : Hp} : ∀ {gs : List Fin}, (∀ q ∈ gs, H q.2.1 = some (mdo w q.2.1 (rowsT q.2.2)) ∧ (keysT q.2.2).Nodup) → RepAA w H ((rowsF gs).map fun r => r.2.2) ((kvF gs).map (·.2)) (gs.map (·.2.1))
  | [], _ => .nil
  | q :: gs, h => by
    obtain ⟨h1, h2⟩ := h q List.mem_cons_self
    have r : RepA w H (.ref q.2.1) (.dict (kvT q.2.2)) [q.2.1] := (rowsT_at h1 h2).rep
    exact .cons (f1 := [q.2.1]) r (rows_rep fun x hx => h x (List.mem_cons_of_mem _ hx))
theorem fin_dict {w : World} {H : Hp} {D : Addr} {gs : List Fin} (e : H D = some (mdo w D (rowsF gs))) (nd : (gs.map (·.1)).Nodup) (h : ∀ q ∈ gs, H q.2.1 = some (mdo w q.2.1 (rowsT q.2.2)) ∧ (keysT q.2.2).Nodup) (ne : ∀ q ∈ gs, q.2.1 ≠ D) : DictAt w H D (rowsF gs) (kvF gs) (gs.map (·.2.1)) := by
  refine ⟨e, rowsF_all _ _, by rw [rowsF_keys]; exact nd_text nd, ?_, rows_rep h, fun z => ?_⟩
  · have e1 : (rowsF gs).map (fun r => r.2.1) = (gs.map (·.1)).map V.str := by
      unfold rowsF
      rw [List.map_map, List.map_map]
      rfl
    have e2 : (kvF gs).map (·.1) = (gs.map (·.1)).map .str := by
      unfold kvF
      rw [List.map_map, List.map_map]
      rfl
    rw [e1, e2]
    exact strs_rep _
  · obtain ⟨q, hq, e⟩ := List.mem_map.mp z
    exact ne q hq e
def spOut (w : World) (C : Addr) : Sp := fun vs H Q _ => ∃ x o r n S, vs = [.ref x] ∧ PX w C H x o r n S ∧ ∀ H' v f, Same H H' → Rep w H' v o f → Q v H'
/-- a new dict with new rows -/
def spOutS (w : World) (C : Addr) : Sp := fun vs H Q _ => ∃ x dx T D R fs rs, vs = [.ref x] ∧ PAt w C H x dx T D R fs rs ∧ ∀ H' N gs, Same H H' → H N = none → H' N = some (mdo w N (rowsF gs)) → gs.map (fun q => (q.1, q.2.2)) = fs.map (fun q => (q.1, q.2.2)) →
  (∀ q ∈ gs, H' q.2.1 = some (mdo w q.2.1 (rowsT q.2.2)) ∧ H q.2.1 = none ∧ q.2.1 ≠ N) → Q (.ref N) H'
def spRdsS (w : World) (C : Addr) : Sp := fun vs H Q _ => ∃ x dx T D R fs rs, vs = [.ref x] ∧ PAt w C H x dx T D R fs rs ∧ ∀ H' N, Same H H' → H N = none → H' N = some (mdo w N (rowsT rs)) → Q (.ref N) H'
def spNmsS (w : World) (C : Addr) : Sp := fun vs H Q _ => ∃ x dx T D R fs rs, vs = [.ref x] ∧ PAt w C H x dx T D R fs rs ∧ Q (.ref T) H
theorem fn_weak {P : Program} {w : World} {K : PySem.W.Frag} {mg : Str → Option Value} {base : Heap} {CX : CXT} {k : Nat} {f : Addr} {fd : FuncData} {ps : List Str} {sp sp' : Sp} (F : FnOk P w K mg base CX k f fd ps sp) (h : ∀ vs H Q E, sp' vs H Q E → sp vs H Q E) : FnOk P w K mg base CX k f fd ps sp' :=
  ⟨fun vs H Q E z => F.len _ _ _ _ (h vs H Q E z), fun A outer s H args us vs Q E r e b v z => F.run A outer s H args us vs Q E r e b v (h vs H Q E z)⟩
def spRds (w : World) (C : Addr) : Sp := fun vs H Q _ => ∃ x o r n S, vs = [.ref x] ∧ PX w C H x o r n S ∧ ∀ H' v f, Same H H' → Rep w H' v r f → Q v H'
def spNms (w : World) (C : Addr) : Sp := fun vs H Q _ => ∃ x o r n S, vs = [.ref x] ∧ PX w C H x o r n S ∧ ∀ H' v f, Same H H' → Rep w H' v n f → Q v H'
abbrev sOut : Stmt := methOf 22 1
abbrev sRds : Stmt := methOf 22 2
abbrev sNms : Stmt := methOf 22 3
theorem scOut : FnScope ["self", "outcome"] ["self"] (defScope sOut) := ⟨rfl, rfl, rfl, by decide +kernel, rfl, by decide +kernel, by decide +kernel⟩
theorem scRds : FnScope ["self"] ["self"] (defScope sRds) := ⟨rfl, rfl, rfl, by decide +kernel, rfl, by decide +kernel, by decide +kernel⟩
theorem scNms : FnScope ["self"] ["self"] (defScope sNms) := ⟨rfl, rfl, rfl, by decide +kernel, rfl, by decide +kernel, by decide +kernel⟩
section
variable {P : Program} {w : World} {K : PySem.W.Frag} {mg : Str → Option Value} {base : Heap}
theorem ok_nmsS {C f : Addr} {fd : FuncData} {k : Nat} (F : Fun K "names" "Profile.names" sNms f fd) (cl : Cls K C) (n1 : NoAttr K C "_names") : FnOk P w K mg base CX0 (k + 1) f fd ["self"] (spNmsS w C) := by
  refine F.ok scNms (fun vs H Q E h => ?_) (fun cdv A outer s H vs Q E hr h => ?_)
  · obtain ⟨x, dx, T, D, R, fs, rs, rfl, _⟩ := h
    rfl
  · obtain ⟨x, dx, T, D, R, fs, rs, rfl, PA, q⟩ := h
    refine ⟨_, pss_one (ps_ret (pe_fld (pv 0) rfl)), ?_⟩
    exact ⟨.ref x, rfl, x, C, dx, _, .ref T, rfl, PA.hx, cl, n1, rfl, q⟩
theorem ok_nms {C f : Addr} {fd : FuncData} {k : Nat} (F : Fun K "names" "Profile.names" sNms f fd) (cl : Cls K C) (n1 : NoAttr K C "_names") : FnOk P w K mg base CX0 (k + 1) f fd ["self"] (spNms w C) := fn_weak (ok_nmsS F cl n1) fun vs H Q E h => by
  obtain ⟨x, o, r, n, S, rfl, ⟨dx, T, D, R, fs, rs, PA, rfl, rfl, rfl, rfl⟩, q⟩ := h
  refine ⟨x, dx, T, D, R, fs, rs, rfl, PA, ?_⟩
  refine q H (.ref T) [] (Same.refl H) ?_
  exact .tup PA.hT (strs_rep _).rep
theorem ok_rdsS {C f : Addr} {fd : FuncData} {k : Nat} (F : Fun K "reads" "Profile.reads" sRds f fd) (cl : Cls K C) (n3 : NoAttr K C "_reads") (mD : mg "dict" = none) : FnOk P w K mg base CX0 (k + 1) f fd ["self"] (spRdsS w C) := by
  refine F.ok scRds (fun vs H Q E h => ?_) (fun cdv A outer s H vs Q E hr h => ?_)
  · obtain ⟨x, dx, T, D, R, fs, rs, rfl, _⟩ := h
    rfl
  · obtain ⟨x, dx, T, D, R, fs, rs, rfl, PA, q⟩ := h
    refine ⟨_, pss_one (ps_ret (pe_callTy (r := rCopyM w) callCopyM (by rfl) mD boot_dict (pa_cons (pe_fld (pv 0) rfl) pa_nil))), ?_⟩
    refine ⟨.ref x, rfl, x, C, dx, _, .ref R, rfl, PA.hx, cl, n3, rfl, R, _, rfl, ?_, allT_row rs, fun p np => ?_⟩
    · rw [← rowsT_toM]
      exact .inl PA.hR
    · rw [← rowsT_toM]
      exact q _ p (same_upd np) np upd_same
theorem ok_rds {C f : Addr} {fd : FuncData} {k : Nat} (F : Fun K "reads" "Profile.reads" sRds f fd) (cl : Cls K C) (n3 : NoAttr K C "_reads") (mD : mg "dict" = none) : FnOk P w K mg base CX0 (k + 1) f fd ["self"] (spRds w C) := fn_weak (ok_rdsS F cl n3 mD) fun vs H Q E h => by
  obtain ⟨x, o, r, n, S, rfl, ⟨dx, T, D, R, fs, rs, PA, rfl, rfl, rfl, rfl⟩, q⟩ := h
  exact ⟨x, dx, T, D, R, fs, rs, rfl, PA, fun H' N s _ e => q _ (.ref N) _ s (rowsT_at e PA.rnd).rep.rep⟩
theorem ok_outS {C f : Addr} {fd : FuncData} {k : Nat} (F : Fun K "outcomes" "Profile.outcomes" sOut f fd) (cl : Cls K C) (n2 : NoAttr K C "_outcomes") (mD : mg "dict" = none) : FnOk P w K mg base CX0 (k + 1) f fd ["self"] (spOutS w C) := by
  refine F.ok scOut (fun vs H Q E h => ?_) (fun cdv A outer s H vs Q E hr h => ?_)
  · obtain ⟨x, dx, T, D, R, fs, rs, rfl, _⟩ := h
    rfl
  · obtain ⟨x, dx, T, D, R, fs, rs, rfl, PA, q⟩ := h
    have hc : (cxOf CX0 P w K mg base ["self", "outcome"] "Profile.outcomes" (defScope sOut) f cdv A outer s H E).nox.calm = true := rfl
    have hu10 : (cxOf CX0 P w K mg base ["self", "outcome"] "Profile.outcomes" (defScope sOut) f cdv A outer s H E).nox.A.units + 10 < cLine := by
      have := hr.un
      show (A.deeper _).units + 10 < cLine
      omega
    refine ⟨_, pss_one (ps_ret (pe_lock (peDcM (own := [("outcome", 1)]) (g := gName 1) hu10 hc scOut.nd (piKeysM (pe_fld (pv 0) rfl))
        (blkOk_by (N := ["self", "outcome"]) (sc := defScope sOut) (by decide +kernel)) (fun _ _ _ _ _ => pg_name (i := 1) scOut.nd rfl (Or.inl rfl))
        (fun _ _ _ _ _ => pv 1) (fun _ _ _ _ _ => pe_callTy (r := rCopyM w) callCopyM (by rfl) mD boot_dict (pa_cons (pe_ix (r := rIxM w) (ixM (by exact hu10)) (show PE _ _ (tFld K (tVar 0) "_outcomes") from pe_fld (pv 0) rfl) (pv 1) (fun _ _ => rfl)) pa_nil))))), ?_⟩
    have nxD : x ≠ D := fun z => by
      have y := PA.hx
      rw [z, PA.hD] at y
      cases y
    refine ⟨D, mdo w D (rowsF fs), PA.hD, trivial, fun od => ?_⟩
    refine ⟨.ref x, rfl, x, C, dx, _, .ref D, rfl, (upd_ne nxD).trans PA.hx, cl, n2, rfl, D, od, rowsF fs, rfl, upd_same, fun N nN => ?_⟩
    have nND : N ≠ D := fun z => by
      rw [z, upd_same] at nN
      cases nN
    have nN0 : H N = none := by
      rwa [upd_ne nND] at nN
    refine dcM_it walkM (fun i Hi => Hi D = some (.frz od (mdo w D (rowsF fs))) ∧ (∀ b u, b ≠ D → H b = some u → Hi b = some u) ∧ ∃ gs : List Fin, Hi N = some (mdo w N (rowsF gs)) ∧ gs.map (fun q => (q.1, q.2.2)) = (fs.take i).map (fun q => (q.1, q.2.2)) ∧ ∀ q ∈ gs, Hi q.2.1 = some (mdo w q.2.1 (rowsT q.2.2)) ∧ H q.2.1 = none ∧ q.2.1 ≠ N ∧ q.2.1 ≠ D)
      ⟨(upd_ne (Ne.symm nND)).trans upd_same, fun b u nb e => ?_, [], upd_same, rfl, fun _ z => nomatch z⟩ (fun i Hi _ S => S.1) (fun i y Hi Hj hi S hy => ?_) (fun Hi S => ?_)
    · have nbN : b ≠ N := fun z => by
        rw [z, nN0] at e
        cases e
      rw [upd_ne nbN, upd_ne nb]
      exact e
    · obtain ⟨rfl, r, hr', rfl⟩ := hy
      obtain ⟨fz, st, gs, eN, eg, rg⟩ := S
      have hr2 : (fs.map fun q : Fin => ((.text q.1, .str q.1, .ref q.2.1) : MRow))[i]? = some r := hr'
      rw [List.getElem?_map] at hr2
      obtain ⟨t, ht, rfl⟩ := Option.map_eq_some_iff.mp hr2
      have hq : t ∈ fs := List.mem_of_getElem? ht
      obtain ⟨t1, t2, t3⟩ := PA.row t hq
      have kg : gs.map (·.1) = (fs.map (·.1)).take i := by
        have e := congrArg (List.map (·.1)) eg
        rw [List.map_map, List.map_map] at e
        rw [← List.map_take]
        exact e
      have lgs : gs.length ≤ 70 := by
        have z := congrArg List.length kg
        have := PA.len.1
        rw [List.length_map, List.length_take, List.length_map] at z
        omega
      refine c_name ⟨rfl, .str t.1, rfl, .ref x, rfl, x, C, dx, _, .ref D, rfl, st _ _ nxD PA.hx, cl, n2, rfl, .str t.1, rfl, D, rowsF fs, .text t.1, _, rfl, .inr ⟨od, fz⟩, rowsF_all _ _, kAt.text _ _, look_fin PA.fnd hq, t.2.1, _, rfl, ?_, allT_row t.2.2, fun p np => ?_⟩
      · rw [← rowsT_toM]
        exact .inl (st _ _ t3 t1)
      · rw [← rowsT_toM]
        have npN : N ≠ p := fun z => by
          rw [← z, eN] at np
          cases np
        have npD : D ≠ p := fun z => by
          rw [← z, fz] at np
          cases np
        have np0 : H p = none := by
          cases z : H p with
          | none => rfl
          | some u =>
            rw [st _ _ (Ne.symm npD) z] at np
            cases np
        have fresh : NestedKey.text t.1 ∉ (rowsF gs).map (·.1) := by
          rw [rowsF_keys, kg]
          intro z
          obtain ⟨y, hy, e⟩ := List.mem_map.mp z
          injection e with e
          subst e
          obtain ⟨j, hj, ej⟩ := List.getElem_of_mem hy
          rw [List.length_take] at hj
          rw [List.getElem_take] at ej
          have hi2 : i < (fs.map (·.1)).length := by
            obtain ⟨h, _⟩ := List.getElem?_eq_some_iff.mp ht
            rw [List.length_map]
            exact h
          have e2 : (fs.map (·.1))[i] = t.1 := by
            rw [List.getElem_map]
            obtain ⟨h, e⟩ := List.getElem?_eq_some_iff.mp ht
            rw [e]
          have := (List.getElem_inj (xs := fs.map (·.1)) (i := j) (j := i) (h₀ := by omega) (h₁ := hi2) PA.fnd).mp (ej.trans e2.symm)
          omega
        refine ⟨rowsF gs, .text t.1, kAt.text _ _, (upd_ne npN).trans eN, rowsF_all _ _, by rw [rowsF_len]; omega, ?_, ?_, gs ++ [(t.1, p, t.2.2)], ?_, ?_, ?_⟩
        · rw [upd_ne (Ne.symm nND), upd_ne npD]
          exact fz
        · intro b u nb e
          have nbN : b ≠ N := fun z => by
            rw [z, nN0] at e
            cases e
          rw [upd_ne nbN, upd_ne (ne_of_none e np0)]
          exact st b u nb e
        · rw [upd_same, put_fresh fresh]
          unfold rowsF
          rw [List.map_append]
          rfl
        · rw [List.map_append, eg, List.take_add_one, ht, List.map_append]
          rfl
        · intro z hz
          rcases List.mem_append.mp hz with hz | hz
          · obtain ⟨h1, h2, h3, h4⟩ := rg z hz
            refine ⟨?_, h2, h3, h4⟩
            rw [upd_ne h3, upd_ne (fun y => by
              rw [y, np] at h1
              cases h1)]
            exact h1
          · rw [List.mem_singleton.mp hz]
            refine ⟨?_, np0, Ne.symm npN, Ne.symm npD⟩
            show (upd (upd _ p _) N _) p = _
            rw [upd_ne (Ne.symm npN), upd_same]
    · obtain ⟨fz, st, gs, eN, eg, rg⟩ := S
      rw [rowsF_len, List.take_length] at eg
      refine ⟨fz, q _ N gs (fun b u e => ?_) nN0 ((upd_ne nND).trans eN) eg fun z hz => ⟨(upd_ne (rg z hz).2.2.2).trans (rg z hz).1, (rg z hz).2.1, (rg z hz).2.2.1⟩⟩
      by_cases c : b = D
      · subst c
        rw [upd_same, ← e, PA.hD]
      · rw [upd_ne c]
        exact st b u c e
theorem same_rows {gs fs : List Fin} (eg : gs.map (fun q => (q.1, q.2.2)) = fs.map (fun q => (q.1, q.2.2))) : kvF gs = kvF fs ∧ gs.map (·.1) = fs.map (·.1) := by
  refine ⟨?_, ?_⟩
  · have h : ∀ l : List Fin, kvF l = (l.map fun q => (q.1, q.2.2)).map fun t => ((.str t.1, .dict (kvT t.2)) : PyData × PyData) := fun l => by
      unfold kvF
      rw [List.map_map]
      rfl
    rw [h gs, h fs, eg]
  · have e := congrArg (List.map (·.1)) eg
    rw [List.map_map, List.map_map] at e
    exact e
theorem same_mem {gs fs : List Fin} (eg : gs.map (fun q => (q.1, q.2.2)) = fs.map (fun q => (q.1, q.2.2))) {z : Fin} (hz : z ∈ gs) : ∃ y ∈ fs, y.1 = z.1 ∧ y.2.2 = z.2.2 := by
  have m : (z.1, z.2.2) ∈ gs.map (fun q => (q.1, q.2.2)) := List.mem_map_of_mem (f := fun q : Fin => (q.1, q.2.2)) hz
  rw [eg] at m
  obtain ⟨y, hy, e⟩ := List.mem_map.mp m
  exact ⟨y, hy, congrArg (·.1) e, congrArg (fun t : Str × List (Str × Str) => t.2) e⟩
theorem ok_out {C f : Addr} {fd : FuncData} {k : Nat} (F : Fun K "outcomes" "Profile.outcomes" sOut f fd) (cl : Cls K C) (n2 : NoAttr K C "_outcomes") (mD : mg "dict" = none) : FnOk P w K mg base CX0 (k + 1) f fd ["self"] (spOut w C) := fn_weak (ok_outS F cl n2 mD) fun vs H Q E h => by
  obtain ⟨x, o, r, n, S, rfl, ⟨dx, T, D, R, fs, rs, PA, rfl, rfl, rfl, rfl⟩, q⟩ := h
  refine ⟨x, dx, T, D, R, fs, rs, rfl, PA, fun H' N gs s _ eN eg rg => q H' (.ref N) (N :: gs.map (·.2.1)) s ?_⟩
  rw [← (same_rows eg).1]
  refine (fin_dict (D := N) (gs := gs) eN (by rw [(same_rows eg).2]; exact PA.fnd) (fun z hz => ⟨(rg z hz).1, ?_⟩) fun z hz => (rg z hz).2.2).rep.rep
  obtain ⟨y, hy, _, e⟩ := same_mem eg hz
  rw [← e]
  exact (PA.row y hy).2.1
end
end KF
end L2
end
/-! ### GA -/
section
namespace L2
namespace TG
open PySem PySem.Spec PyProof.Rows
/-! ## tables of every size: where the probes of a set come to -/
/-- 0, 1, 6, 31, ..: the starts of the runs, without a table's size -/
def five : Nat → Nat
  | 0 => 0
  | n + 1 => 5 * five n + 1
theorem five_add (n : Nat) : ∀ m, five (n + m) = five n * (4 * five m + 1) + five m
  | 0 => by simp [five]
  | m + 1 => by
    show 5 * five (n + m) + 1 = _
    rw [five_add n m]
    show _ = five n * (4 * (5 * five m + 1) + 1) + (5 * five m + 1)
    simp only [Nat.mul_add, Nat.mul_one, ← Nat.mul_assoc]
    have e : five n * (4 * 5 * five m) = five n * 4 * 5 * five m := by simp only [Nat.mul_assoc]
    have e2 : 5 * five n * 4 * five m = five n * 4 * 5 * five m := by
      rw [Nat.mul_comm 5 (five n), Nat.mul_assoc (five n), Nat.mul_assoc (five n) 4 5]
    generalize five n = x at *
    generalize five m = y at *
    have e3 : x * 4 * 5 * y = 5 * (x * 4 * y) := by
      rw [Nat.mul_comm 5, Nat.mul_assoc (x * 4), Nat.mul_comm 5 y, ← Nat.mul_assoc]
    rw [show 5 * x * 4 * y = x * 4 * 5 * y from e2, e3]
    omega
/-- behind 2 ^ k steps: an odd number of times 2 ^ k -/
theorem five_pow : ∀ k, ∃ c, five (2 ^ k) = 2 ^ k * (2 * c + 1)
  | 0 => ⟨0, rfl⟩
  | k + 1 => by
    obtain ⟨c, e⟩ := five_pow k
    have d : 2 ^ (k + 1) = 2 ^ k + 2 ^ k := by rw [Nat.pow_succ]; omega
    refine ⟨c + 2 ^ k * (2 * c + 1) * (2 * c + 1), ?_⟩
    rw [d, five_add, e]
    generalize 2 ^ k = q
    generalize hy : q * (2 * c + 1) = y
    have : y * (4 * y + 1) + y = 2 * y + 4 * (y * y) := by
      rw [Nat.mul_add, Nat.mul_one, ← Nat.mul_assoc, Nat.mul_comm y 4, Nat.mul_assoc]
      omega
    rw [this]
    have : (q + q) * (2 * (c + y * (2 * c + 1)) + 1) = 2 * (q * (2 * c + 1)) + 4 * (q * (2 * c + 1) * y) := by
      rw [show q + q = 2 * q from by omega, Nat.mul_assoc, show q * (2 * (c + y * (2 * c + 1)) + 1) = q * (2 * c + 1) + 2 * (q * (2 * c + 1) * y) from ?_]
      · omega
      · rw [show 2 * (c + y * (2 * c + 1)) + 1 = (2 * c + 1) + 2 * ((2 * c + 1) * y) from by rw [Nat.mul_comm y]; omega, Nat.mul_add q, Nat.mul_left_comm q 2, Nat.mul_assoc q]
    rw [this, hy]
theorem odd_flip (x q c j : Nat) (hq : 0 < q) (hj : j < 2 * q) (e : x % q = j % q) (ne : x % (2 * q) ≠ j) : (x + q * (2 * c + 1)) % (2 * q) = j := by
  have m2 : ∀ y, y % (2 * q) = y % q + q * (y / q % 2) := fun y => by rw [Nat.mul_comm 2 q, Nat.mod_mul]
  have jj : j = j % q + q * (j / q % 2) := by rw [← m2, Nat.mod_eq_of_lt hj]
  rw [m2] at ne ⊢
  have a1 : (x + q * (2 * c + 1)) % q = x % q := Nat.add_mul_mod_self_left _ _ _
  have a2 : (x + q * (2 * c + 1)) / q = x / q + (2 * c + 1) := Nat.add_mul_div_left _ _ hq
  rw [a1, a2, e]
  rw [e] at ne
  rw [jj] at ne
  have ne2 : x / q % 2 ≠ j / q % 2 := fun z => ne (by
    rw [z]
    have : (j % q + q * (j / q % 2)) % q = j % q := by rw [Nat.add_mul_mod_self_left, Nat.mod_mod]
    rw [this])
  have : (x / q + (2 * c + 1)) % 2 = j / q % 2 := by
    have l1 := Nat.mod_lt (x / q) (show 0 < 2 by decide)
    have l2 := Nat.mod_lt (j / q) (show 0 < 2 by decide)
    omega
  rw [this]
  exact jj.symm
/-- every slot is the start of a run -/
theorem five_all : ∀ k j, j < 2 ^ k → ∃ n, n < 2 ^ k ∧ five n % 2 ^ k = j
  | 0, j, h => ⟨0, by decide, by
    have : j = 0 := by simpa using h
    rw [this]
    rfl⟩
  | k + 1, j, h => by
    have hq : 0 < 2 ^ k := Nat.two_pow_pos k
    have d : 2 ^ (k + 1) = 2 * 2 ^ k := by rw [Nat.pow_succ, Nat.mul_comm]
    rw [d] at h ⊢
    obtain ⟨n, hn, e⟩ := five_all k (j % 2 ^ k) (Nat.mod_lt _ hq)
    by_cases c : five n % (2 * 2 ^ k) = j
    · exact ⟨n, by omega, c⟩
    · obtain ⟨o, eo⟩ := five_pow k
      refine ⟨n + 2 ^ k, by omega, ?_⟩
      rw [five_add, eo]
      have r : five n * (4 * (2 ^ k * (2 * o + 1)) + 1) + 2 ^ k * (2 * o + 1) = five n + 2 ^ k * (2 * (o + five n * (2 * (2 * o + 1))) + 1) := by
        rw [Nat.mul_add, Nat.mul_one, show five n * (4 * (2 ^ k * (2 * o + 1))) = 2 ^ k * (2 * (five n * (2 * (2 * o + 1)))) from ?_]
        · generalize five n = x
          generalize x * (2 * (2 * o + 1)) = z
          rw [show 2 * (o + z) + 1 = 2 * z + (2 * o + 1) from by omega, Nat.mul_add (2 ^ k) (2 * z) (2 * o + 1)]
          omega
        · generalize five n = x
          generalize 2 * o + 1 = u
          rw [Nat.mul_left_comm x 4, Nat.mul_left_comm x (2 ^ k), Nat.mul_left_comm 4, Nat.mul_left_comm x 2]
          congr 1
          omega
      rw [r]
      exact odd_flip _ _ _ _ hq h e c
/-- the masks of tables: all but one bits set -/
def Msk (m : Nat) : Prop := ∃ k, 3 ≤ k ∧ m + 1 = 2 ^ k
theorem Msk.odd {m : Nat} (h : Msk m) : m % 2 = 1 := by
  obtain ⟨k, hk, e⟩ := h
  obtain ⟨j, rfl⟩ : ∃ j, k = j + 1 := ⟨k - 1, by omega⟩
  rw [Nat.pow_succ] at e
  omega
theorem Msk.big {m : Nat} (h : Msk m) : 7 ≤ m := by
  obtain ⟨k, hk, e⟩ := h
  have : 2 ^ 3 ≤ 2 ^ k := Nat.pow_le_pow_right (by decide) hk
  omega
theorem lcg_five (m : Nat) : ∀ n, lcgN m n = five n % (m + 1)
  | 0 => (Nat.zero_mod _).symm
  | n + 1 => by
    show (lcgN m n * 5 + 1) % (m + 1) = (5 * five n + 1) % (m + 1)
    rw [lcg_five m n, Nat.mul_comm 5, Nat.add_mod, Nat.mul_mod, Nat.mod_mod, ← Nat.mul_mod, ← Nat.add_mod]
theorem lcg_turn {m : Nat} (h : Msk m) : ∀ n, lcgN m (m + 1 + n) = lcgN m n
  | 0 => by
    obtain ⟨k, _, e⟩ := h
    show lcgN m (m + 1) = 0
    rw [lcg_five, e]
    obtain ⟨c, ec⟩ := five_pow k
    rw [ec]
    exact Nat.mul_mod_right _ _
  | n + 1 => by
    show (lcgN m (m + 1 + n) * 5 + 1) % (m + 1) = _
    rw [lcg_turn h n]
    rfl
/-- from each start on, each slot is the start of a run within a round -/
theorem round {m i j : Nat} (h : Msk m) (hi : i ≤ m) (hj : j ≤ m) : ∃ n, n ≤ m ∧ lcgI m i n = j := by
  have all : ∀ x, x ≤ m → ∃ n, n ≤ m ∧ lcgN m n = x := fun x hx => by
    obtain ⟨k, _, e⟩ := h
    obtain ⟨n, hn, en⟩ := five_all k x (by omega)
    exact ⟨n, by omega, by rw [lcg_five, e, en]⟩
  obtain ⟨a, la, ea⟩ := all i hi
  obtain ⟨b, lb, eb⟩ := all j hj
  by_cases c : a ≤ b
  · exact ⟨b - a, by omega, by rw [← ea, lcgN_add, show a + (b - a) = b from by omega, eb]⟩
  · exact ⟨m + 1 + b - a, by omega, by rw [← ea, lcgN_add, show a + (m + 1 + b - a) = m + 1 + b from by omega, lcg_turn h, eb]⟩
theorem run_comes {m : Nat} (hm : Msk m) (h : Int) {j : Nat} (hj : j ≤ m) : ∃ n, n < SetTable.turns m ∧ runI m (SetTable.bits h) n = j := by
  obtain ⟨n, ln, e⟩ := round hm (runI_le m (SetTable.bits h) 12) hj
  refine ⟨12 + n, ?_, (runI_tail (bits_lt h) n).trans e⟩
  unfold SetTable.turns
  omega
theorem way_comes {m : Nat} (hm : Msk m) (h : Int) {j : Nat} (hj : j ≤ m) : ∃ k, k < 10 * SetTable.turns m ∧ way m h k = j := by
  obtain ⟨n, ln, e⟩ := run_comes hm h hj
  obtain ⟨k, lk, q⟩ := run_nth m (SetTable.bits h) n
  refine ⟨k, by omega, ?_⟩
  show (nth m _ k).j = j
  rw [q, ← e]
  rfl
theorem way_in (m : Nat) (h : Int) (k : Nat) : way m h k ≤ m := by
  have b : SetTable.bits h % (m + 1) ≤ m := Nat.le_of_lt_succ (Nat.mod_lt _ (Nat.succ_pos _))
  have r := runEnd_bd b
  have q := nth_in (m := m) k (runAt m (SetTable.bits h % (m + 1)) (SetTable.bits h)) (show SetTable.bits h % (m + 1) + (SetTable.runEnd m (SetTable.bits h % (m + 1)) - SetTable.bits h % (m + 1)) ≤ m by omega)
  exact Nat.le_trans (Nat.le_add_right _ _) q
/-- a slot that is free is found, the first one of the way -/
theorem spare {m : Nat} (hm : Msk m) (own : Array (Option Nat)) (h : Int) {j : Nat} (hj : j ≤ m) (free : oAt own j = none) :
    ∃ K, SetTable.layClean.free m own (SetTable.turns m) (SetTable.bits h % (m + 1)) (SetTable.bits h) = some (way m h K) ∧ oAt own (way m h K) = none ∧ ∀ k, k < K → oAt own (way m h k) ≠ none := by
  obtain ⟨n, ln, e⟩ := run_comes hm h hj
  have at_ : way m h (off m (SetTable.bits h % (m + 1)) (SetTable.bits h) n) = j := by
    show (nth m _ _).j = j
    rw [nth_off, itL_run]
    exact e
  obtain ⟨K, lK, K1, K2⟩ := st_least (p := fun k => oAt own (way m h k) = none) _ (show oAt own (way m h _) = none by rw [at_]; exact free)
  refine ⟨K, free_spec m own _ n _ _ K ln lK (fun k lk => ?_) ?_, K1, K2⟩
  · have z := K2 k lk
    rw [Option.isNone_eq_false_iff, Option.isSome_iff_ne_none]
    exact z
  · exact Option.isNone_iff_eq_none.mpr K1
end TG
end L2
end
/-! ### GB -/
section
namespace L2
namespace TG
open PySem PySem.Spec PyProof.Rows
/-! ## the table of a set: each element lies where a search for it comes by -/
structure Tab (t : SetTable) (hs : List Int) : Prop where
  ris : Ris t.place.toList
  dm : t.dummies = #[]
  len : t.place.toList.length = hs.length
  msk : Msk t.mask
  le : ∀ x ∈ t.place.toList, x ≤ t.mask
  met : ∀ (i : Nat) (h : Int) (j : Nat), hs[i]? = some h → t.place.toList[i]? = some j → ∃ n, way t.mask h n = j ∧ ∀ n', n' < n → way t.mask h n' ∈ t.place.toList
/-- the first empty slot for a hash: K steps from the start -/
def Gap (t : SetTable) (h : Int) (K : Nat) : Prop := way t.mask h K ∉ t.place.toList ∧ ∀ k, k < K → way t.mask h k ∈ t.place.toList
section
variable {t : SetTable} {hs : List Int}
theorem Tab.gap (T : Tab t hs) (few : hs.length ≤ t.mask) (h : Int) : ∃ K, K < 10 * SetTable.turns t.mask ∧ Gap t h K := by
  obtain ⟨j, lj, out⟩ := st_missing t.place.toList (t.mask + 1) (by rw [T.len]; omega)
  obtain ⟨k, lk, rfl⟩ := way_comes T.msk h (Nat.le_of_lt_succ lj)
  obtain ⟨K, lK, z, least⟩ := st_least (p := fun k => way t.mask h k ∉ t.place.toList) k out
  exact ⟨K, by omega, z, fun k lk => Classical.not_not.mp (least k lk)⟩
theorem Tab.ahead (T : Tab t hs) {h : Int} {K i j : Nat} (g : Gap t h K) (hi : hs[i]? = some h) (hj : t.place.toList[i]? = some j) : ∃ k, k < K ∧ way t.mask h k = j := by
  obtain ⟨k, e, all⟩ := T.met i h j hi hj
  have jin : j ∈ t.place.toList := List.mem_of_getElem? hj
  refine ⟨k, Nat.lt_of_not_le fun z => ?_, e⟩
  rcases Nat.lt_or_eq_of_le z with z | z
  · exact g.1 (all K z)
  · exact g.1 (z ▸ e ▸ jin)
/-- where in the list of elements the one at a gap is put -/
def spot (t : SetTable) (h : Int) (K : Nat) : Nat := SetTable.below t.place (way t.mask h K)
def ins {α : Type} (l : List α) (p : Nat) (x : α) : List α := l.take p ++ x :: l.drop p
theorem Tab.laid (T : Tab t hs) {h : Int} {K : Nat} (g : Gap t h K) : spot t h K ≤ hs.length ∧ Tab (t.put (way t.mask h K)).1 (ins hs (spot t h K) h) := by
  unfold spot ins
  have jm := way_in t.mask h K
  have cut := (below_cut T.ris (way t.mask h K)).1
  have ph : SetTable.below t.place (way t.mask h K) ≤ hs.length := by
    rw [← T.len, Array.length_toList]
    exact cut
  have pp : SetTable.below t.place (way t.mask h K) ≤ t.place.toList.length := T.len ▸ ph
  have other : t.place[SetTable.below t.place (way t.mask h K)]? ≠ some (way t.mask h K) := fun e => g.1 (List.mem_of_getElem? (i := SetTable.below t.place (way t.mask h K)) (by rw [Array.getElem?_toList, e]))
  have newp := put_place t (way t.mask h K)
  have isin : ∀ x, x ∈ (t.put (way t.mask h K)).1.place.toList ↔ x = way t.mask h K ∨ x ∈ t.place.toList := fun x => by rw [newp, mem_ins]
  refine ⟨ph, ris_insert T.ris other, put_dm T.dm _, ?_, T.msk, fun x hx => ?_, fun i h' j' ha hb => ?_⟩
  · rw [newp, len_ins _ pp, len_ins _ ph, T.len]
  · rcases (isin x).mp hx with z | z
    · rw [z]
      exact jm
    · exact T.le x z
  · rw [tins_get hs ph] at ha
    rw [newp, tins_get _ pp] at hb
    show ∃ n, way t.mask h' n = j' ∧ ∀ n', n' < n → way t.mask h' n' ∈ (t.put (way t.mask h K)).1.place.toList
    have old : ∀ i0, hs[i0]? = some h' → t.place.toList[i0]? = some j' → ∃ n, way t.mask h' n = j' ∧ ∀ n', n' < n → way t.mask h' n' ∈ (t.put (way t.mask h K)).1.place.toList := fun i0 a b => by
      obtain ⟨n, e, z⟩ := T.met i0 h' j' a b
      exact ⟨n, e, fun n' ln => (isin _).mpr (.inr (z n' ln))⟩
    split at ha
    · rw [if_pos (by assumption)] at hb
      exact old i ha hb
    · rw [if_neg (by assumption)] at hb
      split at ha
      · rw [if_pos (by assumption)] at hb
        cases ha
        cases hb
        exact ⟨K, rfl, fun n' ln => (isin _).mpr (.inr (g.2 n' ln))⟩
      · rw [if_neg (by assumption)] at hb
        exact old (i - 1) ha hb
/-! ### laying all anew -/
theorem own_more {m : Nat} (hm : Msk m) {done : List Int} {own : Array (Option Nat)} (W : Own m done own) (few : done.length ≤ m) (h : Int) :
    ∃ j, SetTable.layClean.free m own (SetTable.turns m) (SetTable.bits h % (m + 1)) (SetTable.bits h) = some j ∧ Own m (done ++ [h]) (own.setIfInBounds j (some done.length)) := by
  obtain ⟨ps, lp, cover⟩ := W.ps
  obtain ⟨x, lx, out⟩ := st_missing ps (m + 1) (by omega)
  have fx : oAt own x = none := Classical.not_not.mp fun z => out (cover x (Nat.le_of_lt_succ lx) z)
  obtain ⟨K, found, fK, busy⟩ := spare hm own h (Nat.le_of_lt_succ lx) fx
  refine ⟨_, found, ?_⟩
  have wm := way_in m h K
  have ws : way m h K < own.size := by rw [W.sz]; omega
  have ej : way m h K = way m h K := rfl
  generalize hj : way m h K = j at found fK wm ws ej ⊢
  have self := oAt_set_self (some done.length) ws
  have rest : ∀ i, i ≠ j → oAt (own.setIfInBounds j (some done.length)) i = oAt own i := fun i ne => oAt_set_ne _ ne
  have stays : ∀ i, oAt own i ≠ none → oAt (own.setIfInBounds j (some done.length)) i ≠ none := fun i hi => by
    by_cases c : i = j
    · rw [c, self]
      simp
    · rw [rest i c]
      exact hi
  have len1 : (done ++ [h]).length = done.length + 1 := by simp
  refine ⟨by rw [Array.size_setIfInBounds, W.sz], fun i k li e => ?_, fun k lk => ?_, j :: ps, by rw [List.length_cons, lp, len1], fun i li e => ?_⟩
  · by_cases c : i = j
    · rw [c, self] at e
      cases e
      exact ⟨h, K, by simp, by rw [c]; exact hj, fun k' lk => stays _ (busy k' lk)⟩
    · rw [rest i c] at e
      obtain ⟨h', K', a, b, d⟩ := W.at_ i k li e
      exact ⟨h', K', by rw [List.getElem?_append_left (List.getElem?_eq_some_iff.mp a).1, a], b, fun k' lk => stays _ (d k' lk)⟩
  · rw [len1] at lk
    rcases Nat.lt_or_eq_of_le (Nat.le_of_lt_succ lk) with c | c
    · obtain ⟨i, li, e⟩ := W.all k c
      exact ⟨i, li, (rest i fun z => by rw [z, fK] at e; cases e).trans e⟩
    · exact ⟨j, wm, c ▸ self⟩
  · by_cases c : i = j
    · rw [c]
      exact List.mem_cons_self
    · rw [rest i c] at e
      exact List.mem_cons_of_mem _ (cover i li e)
theorem folded {m : Nat} (hm : Msk m) (todo : List Int) : ∀ (done : List Int) (own : Array (Option Nat)), Own m done own → done.length + todo.length ≤ m →
    ∃ own', todo.foldl (stepF m) (some (own, done.length)) = some (own', done.length + todo.length) ∧ Own m (done ++ todo) own' := by
  induction todo with
  | nil => exact fun done own W _ => ⟨own, rfl, by rwa [List.append_nil]⟩
  | cons h todo ih =>
    intro done own W few
    rw [List.length_cons] at few
    obtain ⟨j, e, W1⟩ := own_more hm W (by omega) h
    have l1 : (done ++ [h]).length = done.length + 1 := by simp
    obtain ⟨own', e', W2⟩ := ih _ _ W1 (by omega)
    rw [l1, List.append_assoc] at *
    refine ⟨own', ?_, W2⟩
    rw [List.foldl_cons, stepF_some e, e', List.length_cons, show done.length + 1 + todo.length = done.length + (todo.length + 1) from by omega]
theorem cleaned {m : Nat} (hm : Msk m) {hs : Array Int} (few : hs.size ≤ m) : ∃ own, SetTable.layClean m hs = some own ∧ Own m hs.toList own := by
  obtain ⟨own, e, W⟩ := folded hm hs.toList [] _ (Own.init m) (by simpa using few)
  refine ⟨own, ?_, by simpa using W⟩
  rw [layClean_eq, show (some (Array.replicate (m + 1) (none : Option Nat), 0)) = some (Array.replicate (m + 1) none, ([] : List Int).length) from rfl, e]
  rfl
theorem anew (t : SetTable) {hs : Array Int} {wanted : Nat} (hm : Msk (SetTable.sizeAbove wanted - 1)) (few : hs.size ≤ SetTable.sizeAbove wanted - 1) :
    ∃ t' order, t.relaid hs wanted = some (t', order) ∧ order.toList.Perm (List.range hs.size) ∧ Tab t' (order.toList.map fun i => hs.getD i 0) ∧ t'.mask = SetTable.sizeAbove wanted - 1 ∧ t'.led = t.led ∧ t'.plain = t.plain := by
  obtain ⟨own, e, W⟩ := cleaned hm few
  have rr : t.relaid hs wanted = some (tabOf t (SetTable.sizeAbove wanted - 1) own, ((liveOf (SetTable.sizeAbove wanted - 1) own).map (·.2)).toArray) := by
    rw [relaid_eq, e]
    rfl
  generalize SetTable.sizeAbove wanted - 1 = M at *
  obtain ⟨ris, within⟩ := ris_live (fun j => own.getD j none) (List.range (M + 1)) List.pairwise_lt_range
  have ris : Ris ((liveOf M own).map (·.1)) := ris
  have within : ∀ x ∈ (liveOf M own).map (·.1), x ∈ List.range (M + 1) := within
  have hz : hs.toList.length = hs.size := Array.length_toList
  have every : ∀ k, k < hs.size → k ∈ (liveOf M own).map (·.2) := fun k lk => by
    obtain ⟨j, lj, ej⟩ := W.all k (hz ▸ lk)
    exact List.mem_map.mpr ⟨(j, k), (mem_live W.sz).mpr ⟨lj, ej⟩, rfl⟩
  have most : (liveOf M own).length ≤ hs.size := by
    obtain ⟨ps, lp, cover⟩ := W.ps
    have nd : ((liveOf M own).map (·.1)).Nodup := List.Pairwise.imp (fun z => Nat.ne_of_lt z) ris
    have q := nat_nodup_len ((liveOf M own).map (·.1)) ps nd fun x hx => by
      obtain ⟨⟨y, k⟩, hy, rfl⟩ := List.mem_map.mp hx
      obtain ⟨ly, ey⟩ := (mem_live W.sz).mp hy
      exact cover y ly fun z => by rw [ey] at z; cases z
    rw [List.length_map, lp, hz] at q
    exact q
  have len : (liveOf M own).length = hs.size := by
    have q := nat_nodup_len (List.range hs.size) _ List.nodup_range fun k hk => every k (List.mem_range.mp hk)
    rw [List.length_range, List.length_map] at q
    omega
  refine ⟨_, _, rr, perm_range hs.size _ ((List.length_map _).trans len) every, ⟨ris, rfl, ?_, hm, fun x hx => Nat.le_of_lt_succ (List.mem_range.mp (within x hx)), fun i h j ha hb => ?_⟩, rfl, rfl, rfl⟩
  · show ((liveOf M own).map (·.1)).length = (((liveOf M own).map (·.2)).map fun i => hs.getD i 0).length
    simp only [List.length_map]
  · have ha' : (((liveOf M own).map (·.2)).map fun i => hs.getD i 0)[i]? = some h := ha
    have hb' : ((liveOf M own).map (·.1))[i]? = some j := hb
    rw [List.getElem?_map] at hb'
    obtain ⟨⟨y, k⟩, hy, ey⟩ := Option.map_eq_some_iff.mp hb'
    have ey : y = j := ey
    subst ey
    rw [List.getElem?_map, List.getElem?_map, hy] at ha'
    have eh2 : hs.getD k 0 = h := Option.some.inj ha'
    subst eh2
    obtain ⟨lj, ej⟩ := (mem_live W.sz).mp (List.mem_of_getElem? hy)
    obtain ⟨h0, K, a, b, d⟩ := W.at_ y k lj ej
    have eh : hs.getD k 0 = h0 := by
      rw [Array.getElem?_toList] at a
      rw [Array.getD_eq_getD_getElem?, a]
      rfl
    refine ⟨K, (show way M (hs.getD k 0) K = y by rw [eh]; exact b), fun n ln => ?_⟩
    show way M (hs.getD k 0) n ∈ (liveOf M own).map (·.1)
    rw [eh]
    obtain ⟨k2, e2⟩ := Option.ne_none_iff_exists'.mp (d n ln)
    exact List.mem_map.mpr ⟨(_, k2), (mem_live W.sz).mpr ⟨way_in M h0 n, e2⟩, rfl⟩
end
/-! ### how great tables are -/
theorem size_msk (n : Nat) : Msk (SetTable.sizeAbove n - 1) := by
  have key : ∀ f k, 3 ≤ k → ∃ k', 3 ≤ k' ∧ SetTable.sizeAbove.go n f (2 ^ k) = 2 ^ k' := by
    intro f
    induction f with
    | zero => exact fun k hk => ⟨k, hk, rfl⟩
    | succ f ih =>
      intro k hk
      unfold SetTable.sizeAbove.go
      split
      · rw [← Nat.pow_succ]
        exact ih (k + 1) (by omega)
      · exact ⟨k, hk, rfl⟩
  obtain ⟨k', l, e⟩ := key 64 3 (Nat.le_refl _)
  refine ⟨k', l, ?_⟩
  have e' : SetTable.sizeAbove n = 2 ^ k' := e
  rw [e']
  have := Nat.two_pow_pos k'
  omega
theorem size_over (n : Nat) (h : n < 2 ^ 60) : n < SetTable.sizeAbove n := by
  have key : ∀ f k, n < 2 ^ (k + f) → n < SetTable.sizeAbove.go n f (2 ^ k) := by
    intro f
    induction f with
    | zero => exact fun k hk => hk
    | succ f ih =>
      intro k hk
      unfold SetTable.sizeAbove.go
      split
      · rw [← Nat.pow_succ]
        exact ih (k + 1) (by rw [show k + 1 + f = k + (f + 1) from by omega]; exact hk)
      · omega
  exact key 64 3 (Nat.lt_of_lt_of_le h (Nat.pow_le_pow_right (by decide) (by omega)))
theorem size_most (n : Nat) : SetTable.sizeAbove n ≤ 2 * n + 8 := by
  have key : ∀ f b, b ≤ 2 * n + 8 → SetTable.sizeAbove.go n f b ≤ 2 * n + 8 := by
    intro f
    induction f with
    | zero => exact fun b hb => hb
    | succ f ih =>
      intro b hb
      unfold SetTable.sizeAbove.go
      split
      · exact ih _ (by omega)
      · exact hb
  exact key 64 8 (by omega)
theorem grown_small {n : Nat} (h : n ≤ 50000) : SetTable.grown n = n * 4 := if_neg (by omega)
end TG
end L2
end
/-! ### GC -/
section
namespace L2
namespace TG
open PySem PySem.Spec PyProof.Rows
/-! ## keys of every sort: what a set asks of them shows nothing -/
section
variable {P : Program} {w : World}
/-- whether a hash hangs on the value alone: either answer, and nothing else -/
def Asked (P : Program) (w : World) (m : Sem Bool) (s : Shared) : Prop := ∀ (A : Around) (E : Value → Shared → Prop) (Q : Bool → Shared → Prop), (∀ b, Q b s) → wpAny (model P w) A m Q E s
def Answered (P : Program) (w : World) (m : Sem Bool) (c : Bool) (s : Shared) : Prop := ∀ (A : Around) (E : Value → Shared → Prop) (Q : Bool → Shared → Prop), Q c s → wpAny (model P w) A m Q E s
theorem asked_pure {c : Bool} {s : Shared} : Asked P w (pure c) s := fun _ _ _ h => wpAny_pure (h c)
theorem answered_pure {c : Bool} {s : Shared} : Answered P w (pure c) c s := fun _ _ _ h => wpAny_pure h
theorem byValue_tup {s : Shared} {a : Addr} {o : Obj} {vs : Array Value} {m n : Nat} (ho : s.heap.get? a = some o) (hc : o.cls = .type "tuple") (hd : o.data = .seq vs m) (all : ∀ v ∈ vs.toList, Asked P w (hashByValue n v) s) :
    Asked P w (hashByValue (n + 1) (.ref a)) s := fun A E Q h => by
  unfold hashByValue
  refine wpAny_bind (wpAny_specialOf (T := "tuple") ⟨o, ho, hc⟩ F.slot_tuple_hash.lookup ?_)
  show wpAny _ _ (seqItems? (.ref a) >>= _) _ _ s
  refine wpAny_bind (wpAny_seqItems ho hd ?_)
  refine wpAny_bind ?_
  show wpAny _ _ (forIn vs _ _) _ _ s
  rw [← Array.forIn_toList]
  refine wpAny_forIn_list _ (fun rest r s' => s' = s ∧ (r.1 = none ∨ r.1 = some false) ∧ ∀ v ∈ rest, v ∈ vs.toList) _ ?_ ?_ _ _ ⟨rfl, .inl rfl, fun v hv => hv⟩
  · rintro v rest r s' ⟨rfl, hr, sub⟩
    refine wpAny_bind (all v (sub v List.mem_cons_self) _ _ _ fun b => ?_)
    cases b
    · simp only [Bool.not_false, if_true]
      exact wpAny_pure (wpAny_pure (h false))
    · simp only [Bool.not_true, Bool.false_eq_true, if_false]
      exact wpAny_pure ⟨rfl, .inl rfl, fun u hu => sub u (List.mem_cons_of_mem _ hu)⟩
  · rintro ⟨r1, r2⟩ s' ⟨rfl, hr, _⟩
    simp only at hr
    rcases hr with e | e
    · subst e
      exact wpAny_pure (h true)
    · subst e
      exact wpAny_pure (h false)
mutual
theorem byValue_key : ∀ (k : NestedKey) (v : Value) (n : Nat) (s : Shared), NestedIs s.heap k v → Asked P w (hashByValue n v) s
  | .none, _, n, s, r => by
    cases r
    cases n <;> exact asked_pure
  | .num i, _, n, s, r => by
    cases r <;> cases n <;> exact asked_pure
  | .text x, _, n, s, r => by
    cases r
    cases n <;> exact asked_pure
  | .tup ks, _, n, s, r => by
    cases r with
    | tup ho hc hd hk =>
      cases n with
      | zero => exact asked_pure
      | succ n => exact byValue_tup ho hc hd (byValue_keys ks _ n s hk)
theorem byValue_keys : ∀ (ks : List NestedKey) (vs : List Value) (n : Nat) (s : Shared), NestedAll s.heap ks vs → ∀ v ∈ vs, Asked P w (hashByValue n v) s
  | [], _, n, s, r, v, hv => by
    cases r
    cases hv
  | k :: ks, _, n, s, r, v, hv => by
    cases r with
    | cons r1 r2 =>
      rcases List.mem_cons.mp hv with e | hv
      · exact e ▸ byValue_key k _ n s r1
      · exact byValue_keys ks _ n s r2 v hv
end
theorem plain_tup {s : Shared} {a : Addr} {o : Obj} {vs : Array Value} {m n : Nat} (ho : s.heap.get? a = some o) (hc : o.cls = .type "tuple") (hd : o.data = .seq vs m) (all : ∀ v ∈ vs.toList, Answered P w (ofAClassStatement n v) false s) :
    Answered P w (ofAClassStatement (n + 1) (.ref a)) false s := fun A E Q h => by
  unfold ofAClassStatement
  refine wpAny_bind (wpAny_typeOf (T := "tuple") ⟨o, ho, hc⟩ ?_)
  dsimp only
  have e : (("tuple" : String) == "tuple") = true := by decide
  simp only [e, if_true, Bool.not_true, Bool.false_eq_true, if_false]
  try refine wpAny_bind (wpAny_pure ?_)
  try simp only [Bool.not_true, Bool.false_eq_true, if_false]
  show wpAny _ _ (seqItems? (.ref a) >>= _) _ _ s
  refine wpAny_bind (wpAny_seqItems ho hd ?_)
  dsimp only
  refine wpAny_bind ?_
  show wpAny _ _ (forIn vs _ _) _ _ s
  rw [← Array.forIn_toList]
  refine wpAny_forIn_list _ (fun rest r s' => s' = s ∧ r.1 = none ∧ ∀ v ∈ rest, v ∈ vs.toList) _ ?_ ?_ _ _ ⟨rfl, rfl, fun v hv => hv⟩
  · rintro v rest r s' ⟨rfl, hr, sub⟩
    refine wpAny_bind (all v (sub v List.mem_cons_self) _ _ _ ?_)
    simp only [Bool.false_eq_true, if_false]
    exact wpAny_pure ⟨rfl, rfl, fun u hu => sub u (List.mem_cons_of_mem _ hu)⟩
  · rintro ⟨r1, r2⟩ s' ⟨rfl, hr, _⟩
    simp only at hr
    subst hr
    exact wpAny_pure h
mutual
theorem plain_key : ∀ (k : NestedKey) (v : Value) (n : Nat) (s : Shared), NestedIs s.heap k v → k.depth ≤ n → Answered P w (ofAClassStatement n v) false s
  | .none, _, n, s, r, _ => by
    cases r
    cases n <;> exact answered_pure
  | .num i, _, n, s, r, _ => by
    cases r <;> cases n <;> exact answered_pure
  | .text x, _, n, s, r, _ => by
    cases r
    cases n <;> exact answered_pure
  | .tup ks, _, n, s, r, hn => by
    simp only [NestedKey.depth] at hn
    cases r with
    | tup ho hc hd hk =>
      cases n with
      | zero => omega
      | succ n => exact plain_tup ho hc hd (plain_keys ks _ n s hk (by omega))
theorem plain_keys : ∀ (ks : List NestedKey) (vs : List Value) (n : Nat) (s : Shared), NestedAll s.heap ks vs → NestedKey.depthAll ks ≤ n → ∀ v ∈ vs, Answered P w (ofAClassStatement n v) false s
  | [], _, n, s, r, _, v, hv => by
    cases r
    cases hv
  | k :: ks, _, n, s, r, hn, v, hv => by
    simp only [NestedKey.depthAll] at hn
    cases r with
    | cons r1 r2 =>
      rcases List.mem_cons.mp hv with e | hv
      · exact e ▸ plain_key k _ n s r1 (by omega)
      · exact plain_keys ks _ n s r2 (by omega) v hv
end
/-- the tuple at b is the key k -/
def IsK (h : Heap) (k : NestedKey) (b : Addr) : Prop := NestedIs h k (.ref b) ∧ k.depth ≤ 8
theorem IsK.inj {h : Heap} {k k' : NestedKey} {b : Addr} (r : IsK h k b) (r' : IsK h k' b) : k = k' := NestedIs.inj _ _ _ r.1 r'.1
theorem IsK.keep {h h' : Heap} {k : NestedKey} {b : Addr} (r : IsK h k b) (hk : ∀ c o, h.get? c = some o → h'.get? c = some o) : IsK h' k b := ⟨NestedIs.at (fun a o _ _ e _ => hk a o e) _ _ r.1, r.2⟩
/-- a key's tuples are no set -/
theorem IsK.apart {h h' : Heap} {k : NestedKey} {a b : Addr} {o : Obj} {es : Array (Int × Value)} {ep : Nat} {t : SetTable} (r : IsK h k b) (ho : h.get? a = some o) (hd : o.data = .set es ep t) (sb : Heap.SameBut a h h') : IsK h' k b :=
  ⟨NestedIs.at (fun c u vs n e q => (sb.2 c fun z => by
    rw [z, ho] at e
    cases e
    rw [hd] at q
    cases q).trans e) _ _ r.1, r.2⟩
/-- a search among keys shows nothing -/
theorem unseen {A : Around} {E : Value → Shared → Prop} {s : Shared} {k : NestedKey} {b : Addr} {Q : Bool → Shared → Prop} (r : IsK s.heap k b) {ys : List Value} (hy : ∀ y ∈ ys, ∃ k' c, y = Value.ref c ∧ IsK s.heap k' c) (h : Q false s) :
    wpAny (model P w) A (searchCouldBeSeen (.ref b) ys) Q E s := by
  have quiet : ∀ {k' : NestedKey} {c : Addr}, IsK s.heap k' c → ∀ Q', Q' true s → wpAny (model P w) A (eqIsQuiet 8 (.ref c)) Q' E s := fun r' Q' q => quiet_key _ _ 8 s r'.1 r'.2 A E Q' q
  have plain : ∀ {k' : NestedKey} {c : Addr}, IsK s.heap k' c → ∀ Q', Q' false s → wpAny (model P w) A (ofAClassStatement 8 (.ref c)) Q' E s := fun r' Q' q => plain_key _ _ 8 s r'.1 r'.2 A E Q' q
  unfold searchCouldBeSeen
  refine wpAny_bind ?_
  refine wpAny_forIn_list _ (fun rest r s' => s' = s ∧ r.1 = none ∧ ∀ y ∈ rest, y ∈ ys) _ ?_ ?_ _ _ ⟨rfl, rfl, fun y hy => hy⟩
  · rintro v rest acc s' ⟨rfl, hacc, sub⟩
    obtain ⟨k', c, rfl, r'⟩ := hy v (sub v List.mem_cons_self)
    have next : ∀ y ∈ rest, y ∈ ys := fun y hy => sub y (List.mem_cons_of_mem _ hy)
    dsimp only
    by_cases same : (b == c || (carriedByValue (.ref b) && carriedByValue (.ref c))) = true
    · exact wp_if_pos same (wpAny_pure ⟨rfl, rfl, next⟩)
    · refine wp_if_neg same (wpAny_bind (quiet r _ ?_))
      simp only [Bool.not_true, Bool.false_eq_true, if_false]
      refine wpAny_bind (quiet r' _ ?_)
      simp only [Bool.not_true, Bool.false_eq_true, if_false]
      refine wpAny_bind (plain r _ ?_)
      simp only [Bool.false_eq_true, if_false]
      refine wpAny_bind (plain r' _ ?_)
      simp only [Bool.false_eq_true, if_false]
      exact wpAny_pure ⟨rfl, rfl, next⟩
  · rintro ⟨r1, r2⟩ s' ⟨rfl, hr, _⟩
    simp only at hr
    subst hr
    exact wpAny_pure h
end
end TG
end L2
end
/-! ### GD -/
section
namespace L2
namespace TG
open PySem PySem.Spec PyProof.Rows
/-! ## the set of keys of every sort -/
abbrev Keyed := Addr × NestedKey
def hashesK (w : World) (L : List Keyed) : List Int := L.map fun p => p.2.hash w
def rowsK (w : World) (L : List Keyed) : List (Int × Value) := L.map fun p => (p.2.hash w, Value.ref p.1)
/-- at a the set of the keys L, each with the tuple that stands in it, in the order of the table -/
structure SetK (w : World) (h : Heap) (a : Addr) (L : List Keyed) (es : Array (Int × Value)) (ep : Nat) (t : SetTable) : Prop where
  ob : ∃ o, h.get? a = some o ∧ o.ExactSet ∧ o.data = .set es ep t
  rows : es.toList = rowsK w L
  tab : Tab t (hashesK w L)
  nd : (L.map (·.2)).Nodup
  key : ∀ p ∈ L, IsK h p.2 p.1
  led : w.params.followText "set-order" = true ∨ t.led = true
  room : L.length * 5 < t.mask * 3
  small : t.mask ≤ 8191
section
variable {P : Program} {w : World} {A : Around} {E : Value → Shared → Prop} {s : Shared} {a : Addr} {L : List Keyed} {es : Array (Int × Value)} {ep : Nat} {t : SetTable}
theorem rowsK_len {l : List Keyed} {es : Array (Int × Value)} (e : es.toList = rowsK w l) : es.size = l.length := by
  rw [← Array.length_toList, e]
  exact List.length_map _
theorem SetK.size {h : Heap} (R : SetK w h a L es ep t) : es.size = L.length := rowsK_len R.rows
theorem SetK.places {h : Heap} (R : SetK w h a L es ep t) : t.place.toList.length = L.length := R.tab.len.trans (List.length_map _)
theorem SetK.fits {h : Heap} (R : SetK w h a L es ep t) : t.fits es.size = true := by
  have l1 := R.places
  have l2 := R.room
  rw [Array.length_toList] at l1
  unfold SetTable.fits SetTable.fill
  rw [R.size, R.tab.dm, l1, Bool.and_eq_true, decide_eq_true_eq]
  refine ⟨beq_self_eq_true _, ?_⟩
  show L.length + 0 ≤ t.mask
  omega
theorem rowsK_at {es : Array (Int × Value)} (e : es.toList = rowsK w L) {i : Nat} {p : Keyed} (hp : L[i]? = some p) : es[i]? = some (p.2.hash w, Value.ref p.1) := by
  rw [← Array.getElem?_toList, e]
  show (L.map _)[i]? = _
  rw [List.getElem?_map, hp]
  rfl
/-- the state of a search for h after c steps -/
abbrev step (m : Nat) (h : Int) (c : Nat) : SetTable.Probe := nth m (runAt m (SetTable.bits h % (m + 1)) (SetTable.bits h)) c
theorem step_add (m : Nat) (h : Int) (c q : Nat) : nth m (step m h c) q = step m h (c + q) := (nth_add m c _ q).symm
theorem step_dummy (m : Nat) (h : Int) : ∀ c, (step m h c).dummy = none
  | 0 => rfl
  | c + 1 => by
    rw [show step m h (c + 1) = adv m (step m h c) from nth_succ m _ c]
    unfold adv
    split
    · exact step_dummy m h c
    · exact step_dummy m h c
/-- the search for the key k, from step c on, up to the gap at K -/
theorem seek (R : SetK w s.heap a L es ep t) {x : Addr} {k : NestedKey} (hx : IsK s.heap k x) (hu : A.units + 8 < cLine) {K : Nat} (lK : K < 10 * SetTable.turns t.mask) (g : Gap t (k.hash w) K)
    {Q : SetFound → Shared → Prop} (there : k ∈ L.map (·.2) → Q (.there none) s) (free : k ∉ L.map (·.2) → Q (.free (way t.mask (k.hash w) K) false) s) (f : Nat) :
    ∀ (c : Nat) (stand : Option SetTable.Probe), stand.getD (t.probeStart (k.hash w)) = step t.mask (k.hash w) c → c ≤ K → K - c < f →
      (∀ (i : Nat) (p : Keyed), L[i]? = some p → p.2 = k → ∃ c', c ≤ c' ∧ c' < K ∧ t.place.toList[i]? = some (way t.mask (k.hash w) c')) →
      wpAny (model P w) A (setSearchFrom a (.ref x) (k.hash w) true f stand) Q E s := by
  induction f with
  | zero => exact fun c _ _ _ lf _ => absurd lf (Nat.not_lt_zero _)
  | succ f ih =>
    intro c stand es0 lc lf ahead
    obtain ⟨o, ho, hex, hd⟩ := R.ob
    rw [setSearchFrom_succ]
    refine wpAny_bind (wpAny_setState_of ho hd R.fits ?_)
    dsimp only
    refine wp_if_neg (by unfold SetTable.gaveWay; rw [R.tab.msk.odd]; decide) ?_
    try refine wpAny_bind (wpAny_pure ?_)
    have way_q : ∀ q, (nth t.mask (step t.mask (k.hash w) c) q).j = way t.mask (k.hash w) (c + q) := fun q => congrArg SetTable.Probe.j (step_add _ _ _ q)
    have hashAt : ∀ (i : Nat) (p : Keyed), L[i]? = some p → (es[i]?.map (·.1)).getD 0 = p.2.hash w := fun i p hp => by
      rw [rowsK_at R.rows hp]
      rfl
    have asked := go_spec t R.tab.ris R.tab.dm (fun i => (es[i]?.map (·.1)).getD 0) (k.hash w) (10 * SetTable.turns t.mask) (K - c) (step t.mask (k.hash w) c) (step_dummy _ _ c) (by omega)
      (fun q lq => by rw [way_q]; exact g.2 (c + q) (by omega)) (by rw [way_q, show c + (K - c) = K from by omega]; exact g.1)
    rw [← es0] at asked
    have missed : (∀ (q i : Nat), q < K - c → t.place.toList[i]? = some (way t.mask (k.hash w) (c + q)) → (es[i]?.map (·.1)).getD 0 ≠ k.hash w) → k ∉ L.map (·.2) := fun no z => by
      obtain ⟨p, hp, e⟩ := List.mem_map.mp z
      obtain ⟨i, li, ei⟩ := List.getElem_of_mem hp
      have gi : L[i]? = some p := by rw [List.getElem?_eq_getElem li, ei]
      obtain ⟨c', l1, l2, e'⟩ := ahead i p gi e
      exact no (c' - c) i (by omega) (by rw [e', show c + (c' - c) = c' from by omega]) (by rw [hashAt i p gi, e])
    rcases asked with ⟨q, i, lq, hi, hh, before, ans⟩ | ⟨none_, ans⟩
    · rw [es0] at hi before ans
      have ans' : t.probe (fun i => (es[i]?.map (·.1)).getD 0) (k.hash w) (stand.getD (t.probeStart (k.hash w))) = some (.candidate (way t.mask (k.hash w) (c + q)) i (step t.mask (k.hash w) (c + (q + 1)))) := by
        rw [es0, ← way_q, ← step_add]
        exact ans
      rw [ans']
      dsimp only
      rw [way_q] at hi
      have li : i < L.length := by
        have z := (List.getElem?_eq_some_iff.mp hi).1
        rwa [R.places] at z
      obtain ⟨p, hp⟩ : ∃ p, L[i]? = some p := ⟨_, List.getElem?_eq_getElem li⟩
      have inn : p ∈ L := List.mem_of_getElem? hp
      have live : t.slot (way t.mask (k.hash w) (c + q)) = .live i := slot_live R.tab.ris hi
      have go : wpAny (model P w) A (searchRest a (.ref x) (k.hash w) true f es t (way t.mask (k.hash w) (c + q)) i (step t.mask (k.hash w) (c + (q + 1)))) Q E s := by
        unfold searchRest
        rw [rowsK_at R.rows hp]
        dsimp only
        refine wpAny_bind (wpAny_holding (eqAt_key p.2 k A s _ _ (R.key p inn).1 hx.1 (by have := (R.key p inn).2; omega) _ _ _ _ ?_))
        refine wpAny_bind (wpAny_setState_of ho hd R.fits ?_)
        dsimp only
        by_cases same : p.2 = k
        · refine wp_if_pos (by rw [same, NestedKey.beq_self]; rfl) ?_
          exact wpAny_pure (there (List.mem_map.mpr ⟨p, inn, same⟩))
        · have ne : NestedKey.beq p.2 k = false := by
            rw [← NestedKey.decide_eq]
            exact decide_eq_false same
          rw [ne]
          refine wp_if_neg (by decide) ?_
          try refine wpAny_bind (wpAny_pure ?_)
          rw [sameMem]
          dsimp only
          simp only [if_true, live, rowsK_at R.rows hp]
          refine wpAny_bind (wpAny_isSame_ref_self (wpAny_bind (wpAny_pure ?_)))
          simp only [if_true]
          refine wp_if_neg (by decide) ?_
          refine ih (c + (q + 1)) _ rfl (by omega) (by omega) fun i0 p0 h0 k0 => ?_
          obtain ⟨c', l1, l2, e'⟩ := ahead i0 p0 h0 k0
          refine ⟨c', Nat.lt_of_not_le fun z => ?_, l2, e'⟩
          have z : c' ≤ c + q := z
          have z2 : c' < c + q ∨ c' = c + q := by omega
          rcases z2 with z2 | rfl
          · exact before (c' - c) i0 (by omega) (by rw [way_q, show c + (c' - c) = c' from by omega]; exact e') ((hashAt i0 p0 h0).trans (by rw [k0]))
          · have s0 := slot_live R.tab.ris e'
            rw [live] at s0
            cases s0
            rw [hp] at h0
            cases h0
            exact same k0
      by_cases led : t.led = true
      · refine wp_if_neg (by simp [led]) ?_
        try refine wpAny_bind (wpAny_pure ?_)
        exact go
      · refine wp_if_pos (by simp [led]) ?_
        refine wpAny_bind (unseen hx (fun y hy => ?_) ?_)
        · obtain ⟨e, he, rfl⟩ := List.mem_map.mp hy
          have he : e ∈ es.toList := by
            have z : e ∈ es ∧ e.1 = k.hash w := by simpa using he
            simpa using z.1
          rw [R.rows] at he
          obtain ⟨p', hp', rfl⟩ := List.mem_map.mp he
          exact ⟨p'.2, p'.1, rfl, R.key p' hp'⟩
        · refine wp_if_neg (by decide) ?_
          try refine wpAny_bind (wpAny_pure ?_)
          exact go
    · rw [es0] at none_ ans
      have ans' : t.probe (fun i => (es[i]?.map (·.1)).getD 0) (k.hash w) (stand.getD (t.probeStart (k.hash w))) = some (.empty (way t.mask (k.hash w) K) none) := by
        have e2 : way t.mask (k.hash w) K = (nth t.mask (step t.mask (k.hash w) c) (K - c)).j := by rw [way_q, show c + (K - c) = K from by omega]
        rw [es0, e2]
        exact ans
      rw [ans']
      exact wpAny_pure (free (missed fun q i lq e => none_ q i lq (by rw [way_q]; exact e)))
/-- the whole search -/
theorem sought (R : SetK w s.heap a L es ep t) {x : Addr} {k : NestedKey} (hx : IsK s.heap k x) (hu : A.units + 8 < cLine) {Q : SetFound → Shared → Prop} (there : k ∈ L.map (·.2) → Q (.there none) s)
    (free : ∀ K, k ∉ L.map (·.2) → Gap t (k.hash w) K → Q (.free (way t.mask (k.hash w) K) false) s) : wpAny (model P w) A (setSearch a (.ref x) (k.hash w) true) Q E s := by
  have l1 := R.room
  have l2 := R.small
  have l3 := R.tab.msk.big
  obtain ⟨K, lK, g⟩ := R.tab.gap (show (hashesK w L).length ≤ t.mask from by rw [hashesK, List.length_map]; omega) (k.hash w)
  have bound : K < 100000 := by
    unfold SetTable.turns at lK
    omega
  unfold setSearch
  refine seek R hx hu lK g there (fun z => free K z g) 100000 0 none rfl (Nat.zero_le _) (by omega) fun i p hp e => ?_
  have li : i < t.place.toList.length := by
    rw [R.places]
    exact (List.getElem?_eq_some_iff.mp hp).1
  have hj := List.getElem?_eq_getElem li
  obtain ⟨c, lc, ec⟩ := R.tab.ahead g (i := i) (show (L.map _)[i]? = _ by rw [List.getElem?_map, hp, ← e]; rfl) hj
  exact ⟨c, Nat.zero_le _, lc, by rw [hj, ec]⟩
end
end TG
end L2
end
/-! ### GE -/
section
namespace L2
namespace TG
open PySem PySem.Spec PyProof.Rows
/-! ## one key more -/
theorem range_get {α : Type} (l : List α) : (List.range l.length).filterMap (fun i => l[i]?) = l := by
  induction l with
  | nil => rfl
  | cons x l ih =>
    rw [List.length_cons, List.range_succ_eq_map, List.filterMap_cons_some (f := fun i => (x :: l)[i]?) (a := 0) (b := x) rfl, List.filterMap_map]
    exact congrArg (x :: ·) ih
section
variable {P : Program} {w : World} {A : Around} {E : Value → Shared → Prop} {s : Shared} {a : Addr} {L : List Keyed} {es : Array (Int × Value)} {ep : Nat} {t : SetTable}
theorem ordered {l : List Keyed} {es : Array (Int × Value)} {order : Array Nat} (hr : es.toList = rowsK w l) (hp : order.toList.Perm (List.range l.length)) :
    ∃ l2 : List Keyed, (order.filterMap (es[·]?)).toList = rowsK w l2 ∧ l2.Perm l ∧ hashesK w l2 = order.toList.map fun i => (es.map (·.1)).getD i 0 := by
  have within : ∀ i ∈ order.toList, i < l.length := fun i hi => List.mem_range.mp (hp.mem_iff.mp hi)
  have get : ∀ i, i < l.length → ∃ p, l[i]? = some p := fun i li => ⟨_, List.getElem?_eq_getElem li⟩
  refine ⟨order.toList.filterMap fun i => l[i]?, ?_, ?_, ?_⟩
  · rw [Array.toList_filterMap]
    generalize order.toList = q at within
    induction q with
    | nil => rfl
    | cons i q ih =>
      obtain ⟨p, e⟩ := get i (within i List.mem_cons_self)
      rw [List.filterMap_cons_some (rowsK_at hr e), List.filterMap_cons_some e, ih fun j hj => within j (List.mem_cons_of_mem _ hj)]
      rfl
  · have z := hp.filterMap fun i => l[i]?
    rwa [range_get] at z
  · generalize order.toList = q at within
    induction q with
    | nil => rfl
    | cons i q ih =>
      obtain ⟨p, e⟩ := get i (within i List.mem_cons_self)
      rw [List.filterMap_cons_some e, List.map_cons, ← ih fun j hj => within j (List.mem_cons_of_mem _ hj)]
      have v : (es.map (·.1)).getD i 0 = p.2.hash w := by
        rw [Array.getD_eq_getD_getElem?, Array.getElem?_map, rowsK_at hr e]
        rfl
      rw [v]
      rfl
/-- the table laid anew: the same keys in another order -/
theorem grow {o : Obj} (ho : s.heap.get? a = some o) (hex : o.ExactSet) (hd : o.data = .set es ep t) (hr : es.toList = rowsK w L) (ft : t.fits es.size = true) (nd : (L.map (·.2)).Nodup) (key : ∀ p ∈ L, IsK s.heap p.2 p.1)
    (led : w.params.followText "set-order" = true ∨ t.led = true) (n1 : 1 ≤ L.length) (n2 : L.length ≤ 1000) {Q : Unit → Shared → Prop}
    (h : ∀ h' L' es' ep' t', Heap.SameBut a s.heap h' → SetK w h' a L' es' ep' t' → L'.Perm L → Q () { s with heap := h' }) : wpAny (model P w) A (setRelay a (SetTable.grown L.length)) Q E s := by
  have sz := rowsK_len hr
  have gr : SetTable.grown L.length = L.length * 4 := grown_small (by omega)
  have over := size_over (L.length * 4) (by omega)
  have most := size_most (L.length * 4)
  rw [gr]
  obtain ⟨t', order, e, pm, T, em, el, _⟩ := anew t (hs := es.map (·.1)) (size_msk (L.length * 4)) (by rw [Array.size_map, sz]; omega)
  rw [Array.size_map, sz] at pm
  obtain ⟨L2, r1, r2, r3⟩ := ordered hr pm
  rw [← r3] at T
  have len2 : (order.filterMap (es[·]?)).size = es.size := by rw [rowsK_len r1, r2.length_eq, sz]
  rw [setRelay_eq]
  refine wpAny_bind (wpAny_setState_of ho hd ft ?_)
  dsimp only
  refine wp_if_neg (by rw [sizeLine_eq]; omega) ?_
  try refine wpAny_bind (wpAny_pure ?_)
  rw [e]
  dsimp only
  refine wpAny_bind (wp_if_neg (by rw [len2]; simp) ?_)
  try refine wpAny_bind (wpAny_pure ?_)
  refine wpAny_pure ?_
  dsimp only
  have sb : Heap.SameBut a s.heap (s.heap.update a (Obj.putSet (order.filterMap (es[·]?)) t')) := Heap.SameBut.update ..
  refine wpAny_storeSet_of ho hd (h _ L2 _ (ep + 1) t' sb ⟨⟨_, store_at ho hd, hex, rfl⟩, r1, T, (r2.map (·.2)).nodup_iff.mpr nd, fun p hp => (key p (r2.mem_iff.mp hp)).apart ho hd sb, el.symm ▸ led, ?_, ?_⟩ r2) (by rw [len2, sz, sizeLine_eq]; omega)
  · rw [r2.length_eq, em]
    omega
  · rw [em]
    omega
theorem ins_perm {α : Type} (l : List α) (p : Nat) (x : α) : (ins l p x).Perm (x :: l) := by
  unfold ins
  have z : (l.take p ++ x :: l.drop p).Perm (x :: (l.take p ++ l.drop p)) := List.perm_middle
  rwa [List.take_append_drop] at z
theorem ins_map {α β : Type} (f : α → β) (l : List α) (p : Nat) (x : α) : (ins l p x).map f = ins (l.map f) p (f x) := by
  unfold ins
  rw [List.map_append, List.map_cons, List.map_take, List.map_drop]
/-- adding the key k that stands at x -/
theorem added (R : SetK w s.heap a L es ep t) {x : Addr} {k : NestedKey} (hx : IsK s.heap k x) (hu : A.units + 8 < cLine) (few : L.length < 1000) {Q : Bool → Shared → Prop}
    (old : k ∈ L.map (·.2) → Q false s) (new : k ∉ L.map (·.2) → ∀ h' L' es' ep' t', Heap.SameBut a s.heap h' → SetK w h' a L' es' ep' t' → L'.Perm ((x, k) :: L) → Q true { s with heap := h' }) :
    wpAny (model P w) A (setAddHashed a (.ref x) (k.hash w)) Q E s := by
  obtain ⟨o, ho, hex, hd⟩ := R.ob
  have sz := R.size
  unfold setAddHashed
  refine wpAny_holding ?_
  rw [show (100000 : Nat) = 99999 + 1 from rfl, setAddHashedIn_succ]
  refine wpAny_bind (wpAny_setState_of ho hd R.fits ?_)
  dsimp only
  refine wp_if_neg (by simp [byScan, Value.scannable]) ?_
  try refine wpAny_bind (wpAny_pure ?_)
  refine wpAny_bind (sought R hx hu (fun z => ?_) fun K out g => ?_)
  · exact wpAny_pure (old z)
  · dsimp only
    refine wpAny_bind (wpAny_setState_of ho hd R.fits ?_)
    dsimp only
    have lay := R.tab.laid g
    have len0 : t.place.toList.length = L.length := R.places
    have newp := put_place t (way t.mask (k.hash w) K)
    have snd : (t.put (way t.mask (k.hash w) K)).2 = spot t (k.hash w) K := rfl
    have fm : (t.put (way t.mask (k.hash w) K)).1.mask = t.mask := rfl
    have fl : (t.put (way t.mask (k.hash w) K)).1.led = t.led := rfl
    generalize t.put (way t.mask (k.hash w) K) = pt at lay newp snd fm fl ⊢
    obtain ⟨t1, p⟩ := pt
    dsimp only at lay newp snd fm fl ⊢
    subst snd
    generalize spot t (k.hash w) K = p at lay ⊢
    obtain ⟨lp, T1⟩ := lay
    have hh : ins (hashesK w L) p (k.hash w) = hashesK w (ins L p (x, k)) := (ins_map (fun q : Keyed => q.2.hash w) L p (x, k)).symm
    rw [hh] at T1
    have rows1 : (SetTable.insertAt es p (k.hash w, Value.ref x)).toList = rowsK w (ins L p (x, k)) := by
      rw [SetTable.toList_insertAt, R.rows]
      exact (ins_map (fun q : Keyed => (q.2.hash w, Value.ref q.1)) L p (x, k)).symm
    have pm := ins_perm L p (x, k)
    generalize ins L p (x, k) = L1 at T1 rows1 pm
    have len1 : L1.length = L.length + 1 := pm.length_eq
    have nd1 : (L1.map (·.2)).Nodup := (pm.map (·.2)).nodup_iff.mpr (List.nodup_cons.mpr ⟨out, R.nd⟩)
    have sz1 := rowsK_len rows1
    generalize SetTable.insertAt es p (k.hash w, Value.ref x) = es1 at rows1 sz1 ⊢
    have fill1 : ∀ b, SetTable.fill { t1 with plain := b } = L.length + 1 := fun b => by
      show t1.place.size + t1.dummies.size = _
      rw [T1.dm, ← Array.length_toList, T1.len, hashesK, List.length_map, len1]
      rfl
    -- whatever 'plain' is
    have after : ∀ b : Bool, wpAny (model P w) A (do
        storeSet a es1 { t1 with plain := b }
        if (!false && ({ t1 with plain := b } : SetTable).tooFull) = true then do
          setRelay a (SetTable.grown (es.size + 1))
          pure true
        else pure true) Q E s := fun b => by
      have T2 : Tab { t1 with plain := b } (hashesK w L1) := ⟨T1.ris, T1.dm, T1.len, T1.msk, T1.le, T1.met⟩
      have f2 := fill1 b
      have m2 : ({ t1 with plain := b } : SetTable).mask = t.mask := fm
      have l2 : ({ t1 with plain := b } : SetTable).led = t.led := fl
      generalize ({ t1 with plain := b } : SetTable) = t2 at T2 f2 m2 l2 ⊢
      have sb : Heap.SameBut a s.heap (s.heap.update a (Obj.putSet es1 t2)) := Heap.SameBut.update ..
      have ho1 := store_at (es' := es1) (t' := t2) ho hd
      refine wpAny_bind (wpAny_storeSet_of ho hd ?_ (by rw [sz1, len1, sizeLine_eq]; omega))
      generalize s.heap.update a (Obj.putSet es1 t2) = h1 at sb ho1 ⊢
      have key1 : ∀ q ∈ L1, IsK h1 q.2 q.1 := fun q hq => by
        rcases List.mem_cons.mp (pm.mem_iff.mp hq) with z | z
        · exact z ▸ hx.apart ho hd sb
        · exact (R.key q z).apart ho hd sb
      have led1 : w.params.followText "set-order" = true ∨ t2.led = true := l2.symm ▸ R.led
      have room := R.room
      have small := R.small
      have big := R.tab.msk.big
      have pl : t2.place.size = L.length + 1 := by
        rw [← Array.length_toList, T2.len, hashesK, List.length_map, len1]
      have ft1 : t2.fits es1.size = true := by
        unfold SetTable.fits
        rw [f2, pl, sz1, len1, m2, Bool.and_eq_true, decide_eq_true_eq]
        exact ⟨beq_self_eq_true _, by omega⟩
      by_cases full : t2.tooFull = true
      · refine wp_if_pos (by rw [full]; rfl) ?_
        rw [show es.size + 1 = L1.length from by rw [sz, len1]]
        refine wpAny_bind (grow (s := { s with heap := h1 }) ho1 hex rfl rows1 ft1 nd1 key1 led1 (by omega) (by omega) fun h2 L2 es2 ep2 t3 sb2 R2 pm2 => ?_)
        exact wpAny_pure (new out h2 L2 es2 ep2 t3 (sb.trans sb2) R2 (pm2.trans pm))
      · refine wp_if_neg (by simp [full]) ?_
        refine wpAny_pure (new out h1 L1 es1 (ep + 1) t2 sb ⟨⟨_, ho1, hex, rfl⟩, rows1, T2, nd1, key1, led1, ?_, ?_⟩ pm)
        · have z := full
          unfold SetTable.tooFull at z
          rw [decide_eq_true_eq, f2, m2] at z
          rw [len1, m2]
          omega
        · rw [m2]
          exact small
    have eta : ∀ b : Bool, t1.plain = b → t1 = { t1 with plain := b } := fun b e => by
      subst e
      rfl
    have go : ∀ b : Bool, wpAny (model P w) A (do
        storeSet a es1 (if b = true then t1 else { t1 with plain := false })
        if (!false && (if b = true then t1 else { t1 with plain := false } : SetTable).tooFull) = true then do
          setRelay a (SetTable.grown (es.size + 1))
          pure true
        else pure true) Q E s := fun b => by
      cases b
      · exact after false
      · have z := after t1.plain
        rw [← eta t1.plain rfl] at z
        exact z
    by_cases pl : t1.plain = true
    · first
        | (refine wp_if_pos pl (wpAny_bind (byValue_key k (.ref x) 8 s hx.1 _ _ _ fun b => go b)))
        | (refine wpAny_bind (wp_if_pos pl (byValue_key k (.ref x) 8 s hx.1 _ _ _ fun b => go b)))
    · first
        | (refine wp_if_neg pl (wpAny_bind (wpAny_pure (go true))))
        | (refine wpAny_bind (wp_if_neg pl (wpAny_pure (go true))))
end
end TG
end L2
end
/-! ### GF -/
section
namespace L2
namespace TG
open PySem PySem.Spec PyProof.Rows
/-! ## set(xs), xs a list of keys -/
/-- L: of ks each key once -/
structure Once (ks L : List Keyed) : Prop where
  sub : ∀ p ∈ L, p ∈ ks
  all : ∀ p ∈ ks, p.2 ∈ L.map (·.2)
theorem once_nil : Once [] [] := ⟨fun _ z => z, fun _ z => (by cases z)⟩
theorem once_old {ks L : List Keyed} {x : Keyed} (o : Once ks L) (m : x.2 ∈ L.map (·.2)) : Once (ks ++ [x]) L := ⟨fun p hp => List.mem_append_left _ (o.sub p hp), fun p hp => by
  rcases List.mem_append.mp hp with z | z
  · exact o.all p z
  · rw [List.mem_singleton.mp z]
    exact m⟩
theorem once_new {ks L L' : List Keyed} {x : Keyed} (o : Once ks L) (pm : L'.Perm (x :: L)) : Once (ks ++ [x]) L' := ⟨fun p hp => by
  rcases List.mem_cons.mp (pm.mem_iff.mp hp) with rfl | z
  · exact List.mem_append_right _ List.mem_cons_self
  · exact List.mem_append_left _ (o.sub p z), fun p hp => (pm.map (·.2)).mem_iff.mpr (by
  rcases List.mem_append.mp hp with z | z
  · exact List.mem_cons_of_mem _ (o.all p z)
  · rw [List.mem_singleton.mp z]
    exact List.mem_cons_self)⟩
section
variable {P : Program} {w : World} {A : Around} {E : Value → Shared → Prop} {s : Shared}
theorem SetK.stays {h h' : Heap} {a : Addr} {L : List Keyed} {es : Array (Int × Value)} {ep : Nat} {t : SetTable} (R : SetK w h a L es ep t) (ha : ∀ o, h.get? a = some o → h'.get? a = some o) (hk : ∀ p ∈ L, IsK h' p.2 p.1) : SetK w h' a L es ep t :=
  let ⟨o, ho, r⟩ := R.ob
  ⟨⟨o, ha o ho, r⟩, R.rows, R.tab, R.nd, hk, R.led, R.room, R.small⟩
/-- the set that set() makes first -/
def emptyObj (w : World) : Obj := { cls := .type "set", dict := none, data := .set #[] 0 (.fresh 0 0 (!w.params.followText "set-order")) }
theorem setK_empty {h : Heap} {a : Addr} (ho : h.get? a = some (emptyObj w)) : SetK w h a [] #[] 0 (.fresh 0 0 (!w.params.followText "set-order")) where
  ob := ⟨_, ho, ⟨rfl, rfl, rfl⟩, rfl⟩
  rows := rfl
  tab := ⟨List.Pairwise.nil, rfl, rfl, ⟨3, Nat.le_refl _, rfl⟩, fun x hx => (nomatch hx), fun i h j e => (by simp [hashesK] at e)⟩
  nd := List.nodup_nil
  key := fun p hp => (nomatch hp)
  led := by
    cases e : w.params.followText "set-order"
    · exact .inr rfl
    · exact .inl rfl
  room := (by decide : 0 * 5 < 7 * 3)
  small := (by decide : 7 ≤ 8191)
/-- the loop that puts in what a walk hands out -/
theorem put_all {I S : Addr} {fp wr : List Addr} {G : Array GenState → Array GenState → Prop} {n : Nat} {Pv : Nat → Value → Prop} {St : Nat → Shared → Prop} {R : Result → Shared → Prop} (W : WalksS P w A.in1 I fp wr G n Pv St) (apart : S ∉ fp)
    {ks : List Keyed} (hn : n = ks.length) (few : ks.length ≤ 1000) (is_ : ∀ i v, Pv i v → ∃ p, ks[i]? = some p ∧ v = .ref p.1) {h0 : Heap} (hk : ∀ p ∈ ks, IsK h0 p.2 p.1) (S0 : h0.get? S = none) (w0 : ∀ b ∈ wr, h0.get? b = none) (hu : A.in1.units + 8 < cLine)
    (todo : Nat) : ∀ (i : Nat) (s : Shared) (L : List Keyed) (es : Array (Int × Value)) (ep : Nat) (t : SetTable), n = i + todo → St i s → (∀ b o, h0.get? b = some o → s.heap.get? b = some o) → SetK w s.heap S L es ep t → Once (ks.take i) L → L.length ≤ i →
      (∀ s' L' es' ep' t', Moved (S :: wr) G s s' → SetK w s'.heap S L' es' ep' t' → Once ks L' → (∀ b o, h0.get? b = some o → s'.heap.get? b = some o) → R (.ok (.ret .none)) s') →
      codeAny (model P w) A (.builtin "set.update.loop" ⟨[.ref S, .ref I], []⟩) R s := by
  have out : S ∉ wr := fun z => apart (W.sub _ z)
  have keepM : ∀ {s s' : Shared}, Moved wr G s s' → (∀ b o, h0.get? b = some o → s.heap.get? b = some o) → ∀ b o, h0.get? b = some o → s'.heap.get? b = some o := fun m k b o e => m.heap b o (fun z => by rw [w0 b z] at e; cases e) (k b o e)
  have wide : ∀ b ∈ wr, b ∈ S :: wr := fun b hb => List.mem_cons_of_mem _ hb
  induction todo with
  | zero =>
    intro i s L es ep t en st k R0 once _ fin
    have en : n = i := en
    subst en
    refine codeAny_builtin F.entry_set_update_loop (Around.under_plainId F.plain_set_update_loop _ ▸ ?_)
    show wpAny _ A.in1 (pyNext (.ref I) >>= _) _ _ s
    refine wpAny_bind (W.done s _ _ st fun s' m => ?_)
    have k' := keepM m k
    rw [hn, List.take_length] at once
    show wpAny _ A.in1 (ret Value.none) _ _ s'
    exact wpAny_pure (fin s' L es ep t (m.mono wide) (R0.stays (fun o e => m.heap S o out e) fun p hp => (hk p (once.sub p hp)).keep k') once k')
  | succ todo ih =>
    intro i s L es ep t en st k R0 once len fin
    refine codeAny_builtin F.entry_set_update_loop (Around.under_plainId F.plain_set_update_loop _ ▸ ?_)
    show wpAny _ A.in1 (pyNext (.ref I) >>= _) _ _ s
    refine wpAny_bind (W.item i s _ _ (by omega) st fun v s' pv st' m => ?_)
    obtain ⟨p, hp, rfl⟩ := is_ i v pv
    have k' := keepM m k
    have R1 : SetK w s'.heap S L es ep t := R0.stays (fun o e => m.heap S o out e) fun q hq => (hk q (List.mem_of_mem_take (once.sub q hq))).keep k'
    have hx : IsK s'.heap p.2 p.1 := (hk p (List.mem_of_getElem? hp)).keep k'
    have next : ks.take (i + 1) = ks.take i ++ [p] := take_next hp
    show wpAny _ A.in1 (holding [Value.ref p.1] (setAdd S (.ref p.1)) >>= _) _ _ s'
    refine wpAny_bind (wpAny_holding ?_)
    unfold setAdd
    refine wpAny_holding (wpAny_bind (pyHash_key p.2 (.ref p.1) A.in1 s' _ hx.1 (by have := hx.2; omega) ?_))
    refine added (s := { s' with toks := s'.toks + p.2.draws }) R1 hx hu (by omega) (fun inn => ?_) fun no h' L' es' ep' t' sb R2 pm => ?_
    · refine wpAny_pure ⟨plainId_quiet F.plain_set_update_loop _, ih (i + 1) _ L es ep t (by omega) (W.frame _ s' _ _ st' (Nat.le_add_right _ _) fun b _ o e => e) k' R1 (next ▸ once_old once inn) (Nat.le_succ_of_le len) fun s2 L2 es2 ep2 t2 m2 r2 o2 k2 => ?_⟩
      exact fin s2 L2 es2 ep2 t2 (Moved.trans W.gtrans ((m.mono wide).then_heap (Nat.le_add_right _ _) fun b o _ e => e) m2) r2 o2 k2
    · have ne : ∀ b o, h0.get? b = some o → b ≠ S := fun b o e z => by rw [z, S0] at e; cases e
      refine wpAny_pure ⟨plainId_quiet F.plain_set_update_loop _, ih (i + 1) _ L' es' ep' t' (by omega) (W.frame _ s' _ _ st' (Nat.le_add_right _ _) fun b hb o e => (sb.2 b fun z => apart (z ▸ hb)).trans e) (fun b o e => (sb.2 b (ne b o e)).trans (k' b o e)) R2 (next ▸ once_new once pm) (by rw [pm.length_eq, List.length_cons]; omega) fun s2 L2 es2 ep2 t2 m2 r2 o2 k2 => ?_⟩
      exact fin s2 L2 es2 ep2 t2 (Moved.trans W.gtrans ((m.mono wide).then_heap (Nat.le_add_right _ _) fun b o hb e => (sb.2 b fun z => hb (z ▸ List.mem_cons_self)).trans e) m2) r2 o2 k2
/-- set(xs) -/
theorem set_of_list {l : Addr} {items : Array Value} {ks : List Keyed} {Q : Value → Shared → Prop} (hh : A.handled = none) (hl : s.heap.IsList l items) (it : items.toList = ks.map fun p => Value.ref p.1) (hk : ∀ p ∈ ks, IsK s.heap p.2 p.1) (few : ks.length ≤ 1000) (hu : A.units + 16 < cLine)
    (z : ∀ h' tk L es ep t, (∀ b u, s.heap.get? b = some u → h'.get? b = some u) → SetK w h' s.heap.objs.size L es ep t → Once ks L → Q (.ref s.heap.objs.size) { s with heap := h', toks := tk }) : wpAny (model P w) A (call (.type "set") [.ref l]) Q E s := by
  obtain ⟨c0, t0, hmro⟩ := F.called_set.mro
  have m0 := F.called_set.made
  have m1 := F.called_set.sub
  have m2 := F.called_set.notType
  have m3 := F.called_set.canCreate
  have m4 := F.typeCall_set_1 (.ref l)
  have isz : items.size = ks.length := by rw [← Array.length_toList, it, List.length_map]
  refine wpAny_call (codeAny_of_tree (show wpAny _ _ (callAny (.type "set") _) _ _ _ from wpAny_pure ⟨Code.quiet_builtin _ (by decide +kernel), codeAny_builtin F.entry_type_call ?_⟩))
  rw [Around.under_plain (weight_type_call_type "set" [.ref l] []) rfl]
  repeat (any_goals (first
    | assumption
    | wp_step))
  refine codeAny_mono (code_set_led1 (.ref l) (E := E) (Q₁ := fun v s1 => v = .ref s.heap.objs.size ∧ s1 = { s with heap := s.heap.push (emptyObj w) }) ⟨rfl, rfl⟩) fun r s1 hr => ?_
  match r, hr with
  | .error e, hr => exact hr
  | .ok .next, hr => exact hr.elim
  | .ok .brk, hr => exact hr.elim
  | .ok .cont, hr => exact hr.elim
  | .ok (.ret v), hr =>
    obtain ⟨rfl, rfl⟩ := hr
    have hS : (s.heap.push (emptyObj w)).get? s.heap.objs.size = some (emptyObj w) := Heap.get?_push_size _ rfl
    have tS : Shared.TypeIs { s with heap := s.heap.push (emptyObj w) } (.ref s.heap.objs.size) "set" := ⟨_, hS, rfl⟩
    have i0 := F.called_set.init.lookup
    have i1 := F.called_set.init.bind (.ref s.heap.objs.size)
    repeat (any_goals (first
      | assumption
      | wp_step))
    refine codeAny_mono (codeAny_call_builtin (R := wants (fun r s2 => r = .none ∧ ∃ h' tk L es ep t, s2 = { s with heap := h', toks := tk } ∧ (∀ b u, s.heap.get? b = some u → h'.get? b = some u) ∧ SetK w h' s.heap.objs.size L es ep t ∧ Once ks L) E) F.called_set.init.plain F.entry_set_init (check_set_init_1 tS ?_)) fun r2 s2 hr2 => ?_
    · obtain ⟨ol, hol, hcl, nl, hdl⟩ := hl
      have hol1 : (s.heap.push (emptyObj w)).get? l = some ol := Heap.get?_push_of_some _ hol
      have hl1 : (s.heap.push (emptyObj w)).IsList l items := ⟨_, hol1, hcl, nl, hdl⟩
      have below : l < s.heap.objs.size := Heap.lt_size hol
      obtain ⟨ocls, odict, odata, oslots⟩ := ol
      simp only at hcl hdl
      subst hcl
      subst hdl
      have j1 := F.sub_list_set
      have j2 := F.sub_list_frozenset
      have j3 : (Value.type "list" == Value.type "dict") = false := by decide
      unfold Builtin.«set.__init__» noKeywords Builtin.Frozenset.updateFrom
      generalize hPI : pyIter = PI
      wp_walk
      subst hPI
      refine wpAny_pyIter_list hl1 (wpAny_bind (wpAny_runValue ?_))
      have size1 : (s.heap.push (emptyObj w)).objs.size = s.heap.objs.size + 1 := Heap.size_push ..
      have away : l ≠ (s.heap.push (emptyObj w)).objs.size := by
        rw [size1]
        exact Nat.ne_of_lt (Nat.lt_succ_of_lt below)
      have nowhere : ∀ b, s.heap.objs.size ≤ b → s.heap.get? b = none := fun b lb => by
        cases q : s.heap.get? b with
        | none => rfl
        | some o => exact absurd (Heap.lt_size q) (Nat.not_lt.mpr lb)
      refine put_all ((Walks.list (by simp [hh]) _ l away items).toS) ?_ isz few (fun i v hv => ?_) hk (nowhere _ (Nat.le_refl _)) (fun b hb => nowhere b ?_) ?_ items.size 0 _ [] #[] 0 (.fresh 0 0 (!w.params.followText "set-order")) (Nat.zero_add _).symm
        ⟨⟨_, Heap.get?_push_size _ rfl, rfl, rfl⟩, hl1.push _⟩ (fun b o e => Heap.get?_push_of_some _ (Heap.get?_push_of_some _ e)) (setK_empty (Heap.get?_push_of_some _ hS)) once_nil (Nat.le_refl _) fun s' L es ep t m R1 once k' => ?_
      · rw [size1]
        simp only [List.mem_cons, List.not_mem_nil, or_false, not_or]
        exact ⟨Nat.ne_of_lt (Nat.lt_succ_self _), Nat.ne_of_gt below⟩
      · have q : items.toList[i]? = some v := by rw [Array.getElem?_toList]; exact hv
        rw [it, List.getElem?_map] at q
        obtain ⟨p, e1, e2⟩ := Option.map_eq_some_iff.mp q
        exact ⟨p, e1, e2.symm⟩
      · rw [List.mem_singleton.mp hb, size1]
        exact Nat.le_succ _
      · show _ + 8 < cLine
        simp only [Around.in1_units]
        omega
      · obtain ⟨h', g', d', tk', os'⟩ := s'
        have e1 : g' = s.gens := m.gens
        have e2 : d' = s.drawn := m.drawn
        have e3 : os' = s.os := m.os
        subst e1
        subst e2
        subst e3
        show wpAny _ _ _ _ _ _
        refine wpAny_pure (show wpAny _ _ (ret Value.none) _ _ _ from wpAny_pure ⟨rfl, h', tk', L, es, ep, t, rfl, k', R1, once⟩)
    · match r2, hr2 with
      | .error e, hr2 => exact hr2
      | .ok .next, hr2 => exact hr2.elim
      | .ok .brk, hr2 => exact hr2.elim
      | .ok .cont, hr2 => exact hr2.elim
      | .ok (.ret v), hr2 =>
        obtain ⟨rfl, h', tk, L, es, ep, t, rfl, k', R1, once⟩ := hr2
        repeat (any_goals (first
          | assumption
          | wp_step))
        exact z _ _ _ _ _ _ k' R1 once
end
end TG
end L2
end
/-! ### GG -/
section
namespace L2
namespace TG
open PySem PySem.Spec PyProof.Rows
/-! ## sorted(a set of keys of every sort) -/
mutual
theorem data_depth : ∀ k : NestedKey, k.data.depth = k.depth
  | .none => by simp only [NestedKey.data, NestedKey.depth, PyData.depth]
  | .num i => by simp only [NestedKey.data, NestedKey.depth, PyData.depth]
  | .text x => by simp only [NestedKey.data, NestedKey.depth, PyData.depth]
  | .tup ks => by simp only [NestedKey.data, NestedKey.depth, PyData.depth, datas_depth ks]
theorem datas_depth : ∀ ks : List NestedKey, PyData.depthAll (NestedKey.datas ks) = NestedKey.depthAll ks
  | [] => by simp only [NestedKey.datas, NestedKey.depthAll, PyData.depthAll]
  | k :: ks => by simp only [NestedKey.datas, NestedKey.depthAll, PyData.depthAll, data_depth k, datas_depth ks]
end
mutual
theorem data_inj : ∀ k k' : NestedKey, k.data = k'.data → k = k'
  | .none, k', e => by cases k' <;> simp only [NestedKey.data, reduceCtorEq] at e; rfl
  | .num i, k', e => by
    cases k' <;> simp only [NestedKey.data, reduceCtorEq, PyData.int.injEq] at e
    rw [e]
  | .text i, k', e => by
    cases k' <;> simp only [NestedKey.data, reduceCtorEq, PyData.str.injEq] at e
    rw [e]
  | .tup ks, k', e => by
    cases k' <;> simp only [NestedKey.data, reduceCtorEq, PyData.tuple.injEq] at e
    rw [datas_inj _ _ e]
theorem datas_inj : ∀ ks ks' : List NestedKey, NestedKey.datas ks = NestedKey.datas ks' → ks = ks'
  | [], [], _ => rfl
  | [], _ :: _, e => by simp only [NestedKey.datas, reduceCtorEq] at e
  | _ :: _, [], e => by simp only [NestedKey.datas, reduceCtorEq] at e
  | k :: ks, k' :: ks', e => by
    simp only [NestedKey.datas, List.cons.injEq] at e
    rw [data_inj k k' e.1, datas_inj ks ks' e.2]
end
theorem perm_of_map {α β : Type} {f : α → β} {us vs : List β} (p : us.Perm vs) : ∀ l : List α, us = l.map f → ∃ l1, vs = l1.map f ∧ l.Perm l1 := by
  induction p with
  | nil =>
    intro l e
    have z : l = [] := List.map_eq_nil_iff.mp e.symm
    exact ⟨[], rfl, z ▸ List.Perm.refl _⟩
  | cons x _ ih =>
    intro l e
    obtain ⟨y, l, rfl, rfl, e2⟩ := List.map_eq_cons_iff.mp e.symm
    obtain ⟨l1, e3, q⟩ := ih l e2.symm
    exact ⟨y :: l1, by rw [List.map_cons, e3], q.cons y⟩
  | swap x y l0 =>
    intro l e
    obtain ⟨a, l, rfl, rfl, e2⟩ := List.map_eq_cons_iff.mp e.symm
    obtain ⟨b, l, rfl, rfl, e3⟩ := List.map_eq_cons_iff.mp e2
    exact ⟨b :: a :: l, by rw [List.map_cons, List.map_cons, e3], List.Perm.swap _ _ _⟩
  | trans _ _ ih1 ih2 =>
    intro l e
    obtain ⟨l1, e1, q1⟩ := ih1 l e
    obtain ⟨l2, e2, q2⟩ := ih2 l1 e1
    exact ⟨l2, e2, q1.trans q2⟩
theorem each_map_ref : ∀ l : List Keyed, PySem.W.EachIs (fun v (p : Keyed) => v = Value.ref p.1) (l.map fun p => Value.ref p.1) l
  | [] => .nil
  | p :: l => .cons rfl (each_map_ref l)
theorem each_ref_eq : ∀ {vs : List Value} {l : List Keyed}, PySem.W.EachIs (fun v (p : Keyed) => v = Value.ref p.1) vs l → vs = l.map fun p => Value.ref p.1
  | _, _, .nil => rfl
  | _, _, .cons h t => by rw [h, each_ref_eq t]; rfl
theorem each_and {α β : Type} {R S : α → β → Prop} : ∀ {vs : List α} {l : List β}, PySem.W.EachIs R vs l → (∀ v, ∀ b ∈ l, R v b → S v b) → PySem.W.EachIs S vs l
  | _, _, .nil, _ => .nil
  | _, _, .cons h t, f => .cons (f _ _ List.mem_cons_self h) (each_and t fun v b hb => f v b (List.mem_cons_of_mem _ hb))
/-- the order of keys, as sorted() has it -/
def keyLe (p q : Keyed) : Bool := PySem.W.dataLe false (fun r : Keyed => r.2.data) p q
section
variable {P : Program} {w : World} {A : Around} {E : Value → Shared → Prop} {s : Shared} {a : Addr} {L : List Keyed} {es : Array (Int × Value)} {ep : Nat} {t : SetTable}
theorem sorted_keys {Q : Value → Shared → Prop} (R : SetK w s.heap a L es ep t) (hh : A.handled = none) (few : L.length ≤ 1000) (hu : A.units + 40 < cLine) (rd : ∀ p ∈ L, PySem.Reads s.heap (.ref p.1) p.2.data [])
    (al : ∀ p ∈ L, ∀ q ∈ L, PySem.W.alike p.2.data q.2.data = true) (ne : ∀ p ∈ L, ∃ x r, p.2.data = .tuple (x :: r))
    (z : ∀ s' p c (L' : List Keyed), (∀ b o, s.heap.get? b = some o → s'.heap.get? b = some o) → s'.gens = s.gens → s'.os = s.os → s.heap.objs.size ≤ p → s'.heap.get? p = some (seqObj "list" (List.toArray (L'.map fun q : Keyed => Value.ref q.1)) c) →
      L'.Perm L → L'.Pairwise (fun p q => keyLe p q = true) → Q (.ref p) s') :
    wpAny (model P w) A (call (.builtin "sorted") [.ref a]) Q E s := by
  obtain ⟨o, ho, hx, hd⟩ := R.ob
  have sz := R.size
  refine Calls.call_function_entry kind_sorted plain_sorted entry_sorted (args_sorted1 _) (wpAny_bind (m := checkCount "sorted" 1 1 _) (wpAny_pure (wpAny_bind (collect_set (A := A.in1) hh ⟨o, ho, hx.1, hd⟩ R.fits (by unfold scanBound; omega) R.tab.ris R.led fun s1 vs k1 z1 g1 o1 pv => ?_))))
  have e0 : es.toList.map (·.2) = L.map fun p => Value.ref p.1 := by
    rw [R.rows, rowsK, List.map_map]
    rfl
  rw [e0] at pv
  obtain ⟨L1, rfl, p1⟩ := perm_of_map pv.symm L rfl
  have len1 : L1.length = L.length := p1.length_eq.symm
  refine wpAny_bind (wpAny_newList ?_ (by rw [List.length_map, len1, sizeLine_eq]; omega))
  have hoL : (s1.heap.push (seqObj "list" (L1.map fun p => Value.ref p.1).toArray 0)).get? s1.heap.objs.size = some (seqObj "list" (L1.map fun p => Value.ref p.1).toArray 0) := Heap.get?_push_size _ rfl
  have in1 : ∀ p ∈ L1, p ∈ L := fun p hp => p1.mem_iff.mpr hp
  refine wpAny_bind (wpAny_holding (PySem.W.list_sort_data (s := { s1 with heap := s1.heap.push (seqObj "list" (L1.map fun p => Value.ref p.1).toArray 0) }) (enc := fun r : Keyed => r.2.data) hoL (each_map_ref L1) (each_and (each_map_ref L1) fun v p hp e => ?_) ?_ (.inl ?_) (by rw [len1, sizeLine_eq]; omega) (fun p hp => ?_) fun out ol or_ => ?_))
  · subst e
    exact ⟨[], PyProof.Rows.Reads.keeps (fun b o e => Heap.get?_push_of_some _ (k1 b o e)) (rd p (in1 p hp)), by simp⟩
  · intro d hd d' hd'
    obtain ⟨p, hp, rfl⟩ := List.mem_map.mp hd
    obtain ⟨q, hq, rfl⟩ := List.mem_map.mp hd'
    exact al p (in1 p hp) q (in1 q hq)
  · intro d hd
    obtain ⟨p, hp, rfl⟩ := List.mem_map.mp hd
    exact ne p (in1 p hp)
  · have dp := (R.key p (in1 p hp)).2
    show A.units + 1 + 1 + p.2.data.depth < cLine
    rw [data_depth]
    omega
  · obtain ⟨c, hc⟩ := sortedHeap_at (vs := L1.map fun p => Value.ref p.1) (out := out.toArray) hoL
    have oe := each_ref_eq or_
    subst oe
    refine wpAny_pure ⟨_, rfl, z _ s1.heap.objs.size c (L1.mergeSort (PySem.W.dataLe false fun r : Keyed => r.2.data)) (fun b u e => ?_) g1 o1 z1 hc ((List.mergeSort_perm _ _).trans p1.symm) ?_⟩
    · have q := k1 b u e
      have lt := Heap.lt_size q
      show (sortedHeap (s1.heap.push (seqObj "list" (L1.map fun p => Value.ref p.1).toArray 0)) s1.heap.objs.size (L1.map fun p => Value.ref p.1) _).get? b = some u
      rw [sortedHeap_old (Nat.ne_of_lt lt) (by rw [size_push']; exact Nat.lt_succ_of_lt lt)]
      exact Heap.get?_push_of_some _ q
    · exact (PySem.W.sort_pairwise (PySem.W.sortLe_total (PyProof.Rows.listOrd PyProof.Rows.itemOrd) false fun p : Keyed => PySem.W.keyToks p.2.data) L1).imp fun h => h
end
end TG
end L2
end
/-! ### GH -/
section
namespace L2
namespace TG
open PySem PySem.Spec PyProof.Rows
/-! ## in the hand layer -/
mutual
/-- the value v is the key k, and reads as it: no truth among its parts -/
inductive KR (H : Hp) : NestedKey → V → Prop
  | none : KR H .none .non
  | num (i : Int) : KR H (.num i) (.int i)
  | text (x : Str) : KR H (.text x) (.str x)
  | tup {a : Addr} {vs : List V} {ks : List NestedKey} : H a = some (.tup vs) → KRs H ks vs → KR H (.tup ks) (.ref a)
inductive KRs (H : Hp) : List NestedKey → List V → Prop
  | nil : KRs H [] []
  | cons {k : NestedKey} {v : V} {ks : List NestedKey} {vs : List V} : KR H k v → KRs H ks vs → KRs H (k :: ks) (v :: vs)
end
mutual
theorem KR.ka {H : Hp} : ∀ {k : NestedKey} {v : V}, KR H k v → KE.KA H k v
  | _, _, .none => .none
  | _, _, .num i => .num i
  | _, _, .text x => .text x
  | _, _, .tup e r => .tup e r.kas
theorem KRs.kas {H : Hp} : ∀ {ks : List NestedKey} {vs : List V}, KRs H ks vs → KE.KAs H ks vs
  | _, _, .nil => .nil
  | _, _, .cons a r => .cons a.ka r.kas
end
mutual
theorem KR.mono {H H' : Hp} (t : ∀ a xs, H a = some (.tup xs) → H' a = some (.tup xs)) : ∀ {k : NestedKey} {v : V}, KR H k v → KR H' k v
  | _, _, .none => .none
  | _, _, .num i => .num i
  | _, _, .text x => .text x
  | _, _, .tup e r => .tup (t _ _ e) (r.mono t)
theorem KRs.mono {H H' : Hp} (t : ∀ a xs, H a = some (.tup xs) → H' a = some (.tup xs)) : ∀ {ks : List NestedKey} {vs : List V}, KRs H ks vs → KRs H' ks vs
  | _, _, .nil => .nil
  | _, _, .cons a r => .cons (a.mono t) (r.mono t)
end
mutual
theorem KR.reads {P : Program} {w : World} {H : Hp} {h : Heap} (ok : HOk P w H h) : ∀ {k : NestedKey} {v : V}, KR H k v → ∀ {u : Value}, RelV v u → PySem.Reads h u k.data []
  | _, _, .none, u, r => by
    obtain rfl : u = Value.none := r
    simp only [NestedKey.data]
    exact .none
  | _, _, .num i, _, ⟨t, e⟩ => by
    subst e
    simp only [NestedKey.data]
    exact .int i t
  | _, _, .text x, _, ⟨t, e⟩ => by
    subst e
    simp only [NestedKey.data]
    exact .str x t
  | _, _, .tup (a := a) (vs := vs) (ks := ks) e q, u, r => by
    obtain rfl : u = Value.ref a := r
    obtain ⟨_, its, rr, o, h1, h2, n, h3⟩ := (show ObjOk P w H h a (.tup vs) from ok a _ e)
    simp only [NestedKey.data]
    exact .tuple h1 h2 h3 (by simpa using q.reads ok rr)
theorem KRs.reads {P : Program} {w : World} {H : Hp} {h : Heap} (ok : HOk P w H h) : ∀ {ks : List NestedKey} {vs : List V}, KRs H ks vs → ∀ {us : List Value}, Vals vs us → PySem.ReadsAll h us (NestedKey.datas ks) []
  | _, _, .nil, _, .nil => by
    simp only [NestedKey.datas]
    exact .nil
  | _, _, .cons a q, _, .cons r rs => by
    simp only [NestedKey.datas]
    exact .cons (as := []) (bs := []) (a.reads ok r) (q.reads ok rs)
end
/-- the set of the keys L at a; of their tuples nothing is said -/
structure SetK0 (w : World) (h : Heap) (a : Addr) (L : List Keyed) : Prop where
  ex : ∃ (es : Array (Int × Value)) (ep : Nat) (t : SetTable), (∃ o, h.get? a = some o ∧ o.ExactSet ∧ o.data = .set es ep t) ∧ es.toList = rowsK w L ∧ Tab t (hashesK w L) ∧ (L.map (·.2)).Nodup ∧ (w.params.followText "set-order" = true ∨ t.led = true) ∧ L.length * 5 < t.mask * 3 ∧ t.mask ≤ 8191
theorem SetK.bare {w : World} {h : Heap} {a : Addr} {L : List Keyed} {es : Array (Int × Value)} {ep : Nat} {t : SetTable} (R : SetK w h a L es ep t) : SetK0 w h a L := ⟨es, ep, t, R.ob, R.rows, R.tab, R.nd, R.led, R.room, R.small⟩
theorem SetK0.whole {w : World} {h : Heap} {a : Addr} {L : List Keyed} (R : SetK0 w h a L) (k : ∀ p ∈ L, IsK h p.2 p.1) : ∃ es ep t, SetK w h a L es ep t := by
  obtain ⟨es, ep, t, r1, r2, r3, r4, r5, r6, r7⟩ := R.ex
  exact ⟨es, ep, t, r1, r2, r3, r4, k, r5, r6, r7⟩
def SetKO (w : World) (a : Addr) (L : List Keyed) : HO := .ext fun h => SetK0 w h a L
theorem setKO_ok {P : Program} {w : World} {H : Hp} {h : Heap} {a : Addr} {L : List Keyed} (R : SetK0 w h a L) : ObjOk P w H h a (SetKO w a L) := by
  have ⟨es, ep, t, ⟨o, ho, r⟩, q⟩ := R.ex
  refine ⟨R, ⟨o, ho⟩, fun h1 h2 p k => ?_⟩
  have ⟨es', ep', t', ⟨o', ho', r'⟩, q'⟩ := SetK0.ex p
  exact ⟨es', ep', t', ⟨o', k o' ho', r'⟩, q'⟩
/-- every key of L is one that can be sorted: no truth in it, at most eight deep -/
def KAllR (H : Hp) (L : List Keyed) : Prop := ∀ p ∈ L, KR H p.2 (.ref p.1) ∧ p.2.depth ≤ 8
def KAllA (H : Hp) (L : List Keyed) : Prop := ∀ p ∈ L, KE.KA H p.2 (.ref p.1) ∧ p.2.depth ≤ 8
theorem KAllR.a {H : Hp} {L : List Keyed} (k : KAllR H L) : KAllA H L := fun p hp => ⟨(k p hp).1.ka, (k p hp).2⟩
theorem KAllA.is {P : Program} {w : World} {H : Hp} {h : Heap} {L : List Keyed} (k : KAllA H L) (ok : HOk P w H h) : ∀ p ∈ L, IsK h p.2 p.1 := fun p hp => ⟨(k p hp).1.is ok rfl, (k p hp).2⟩
theorem refs_vals : ∀ {ks : List Keyed} {us : List Value}, Vals (ks.map fun p => V.ref p.1) us → us = ks.map fun p => Value.ref p.1
  | [], _, .nil => rfl
  | p :: ks, _, .cons r t => by
    cases r
    rw [refs_vals t]
    rfl
theorem vals_refs : ∀ ks : List Keyed, Vals (ks.map fun p => V.ref p.1) (ks.map fun p => Value.ref p.1)
  | [] => .nil
  | p :: ks => .cons rfl (vals_refs ks)
section
variable {X : Cx}
/-- set(xs), xs a list of tuples -/
def rSetOfK (K : PySem.W.Frag) (w : World) : List V → Hp → VK → Prop := fun xs H Q => ∃ (l : Addr) (ks : List Keyed), xs = [V.ref l] ∧ SqL K H l (ks.map fun p => V.ref p.1) ∧ KAllA H ks ∧ ks.length ≤ 1000 ∧
  ∀ a L, H a = none → Once ks L → (L.map (·.2)).Nodup → Q (.ref a) (upd H a (SetKO w a L))
theorem cr_setOfK (hc : X.calm = true) (hu : X.A.units + 64 < cLine) : CallR X (.type "set") (rSetOfK X.K X.w) := by
  intro pins s σ H xs us Q I r h
  obtain ⟨l, ks, rfl, hl, hk, few, q⟩ := h
  rw [Vals.ref1 r]
  obtain ⟨its, rv, pl, hz⟩ := I.list hl
  have hn : H s.heap.objs.size = none := I.hok.fresh (Nat.le_refl _)
  refine set_of_list (P := X.prog) (w := X.w) (ks := ks) (I.ok.hd hc) pl.isList (by simpa using refs_vals rv) (hk.is I.hok) few (by omega) fun h' tk L es ep t k R once => ?_
  exact ⟨.ref _, _, I.laid (t' := tk) k (Nat.le_refl _) (setKO_ok R.bare), rfl, q _ L hn once R.nd⟩
/-- sorted(a set of tuples) -/
def rSortK (w : World) : List V → Hp → VK → Prop := fun vs H Q => ∃ (a : Addr) (L : List Keyed), vs = [V.ref a] ∧ H a = some (SetKO w a L) ∧ KAllR H L ∧ L.length ≤ 1000 ∧ (∀ p ∈ L, ∀ q ∈ L, PySem.W.alike p.2.data q.2.data = true) ∧ (∀ p ∈ L, ∃ x r, p.2.data = .tuple (x :: r)) ∧
  ∀ (L' : List Keyed) (p : Addr), L'.Perm L → L'.Pairwise (fun x y => keyLe x y = true) → H p = none → Q (.ref p) (upd H p (.lst (L'.map fun x => V.ref x.1)))
theorem cr_sortK (hc : X.calm = true) (hu : X.A.units + 40 < cLine) : CallR X (.builtin "sorted") (rSortK X.w) := by
  intro pins s σ H vs us Q I r h
  obtain ⟨a, L, rfl, ea, hk, few, al, ne, q⟩ := h
  rw [Vals.ref1 r]
  have R0 : SetK0 X.w s.heap a L := (I.hok a _ ea).1
  obtain ⟨es, ep, t, R⟩ := R0.whole (hk.a.is I.hok)
  refine sorted_keys R (I.ok.hd hc) few hu (fun p hp => (hk p hp).1.reads I.hok rfl) al ne fun s' p c L' k g o hp hg pm pw => ?_
  have ll : (L'.map fun x => V.ref x.1).length ≤ sizeLine := by
    rw [List.length_map, pm.length_eq, sizeLine_eq]
    omega
  have hn : H p = none := I.hok.fresh hp
  have J : Inv X pins σ (upd H p (.lst (L'.map fun x => V.ref x.1))) { s with heap := s'.heap, gens := s'.gens, drawn := s'.drawn, toks := s'.toks } :=
    I.call (ch := []) (Un.laid k hp hn) (I.hok.laid k hp ⟨ll, _, c, vals_refs L', hg⟩) (by rw [g]; exact I.bare) (fun _ z => nomatch z)
  obtain ⟨h1, h2, h3, h4, h5⟩ := s'
  have e5 : h5 = s.os := o
  subst e5
  exact ⟨.ref p, _, J, rfl, q L' p pm pw hn⟩
end
end TG
end L2
end
/-! ### GI -/
section
namespace L2
namespace TG
open PySem PySem.Spec PyProof.Rows PySem.KD KE KF KS
/-! ## sorted(set(list(d.items()))) of a dict of texts -/
theorem once_perm {ks L : List Keyed} (o : Once ks L) (n1 : (ks.map (·.2)).Nodup) (n2 : (L.map (·.2)).Nodup) : L.Perm ks := by
  refine (List.perm_ext_iff_of_nodup (nodup_of_map n2) (nodup_of_map n1)).mpr fun p => ⟨o.sub p, fun hp => ?_⟩
  obtain ⟨q, hq, e⟩ := List.mem_map.mp (o.all p hp)
  have key : ∀ {l : List Keyed} {a b : Keyed}, (l.map (·.2)).Nodup → a ∈ l → b ∈ l → a.2 = b.2 → a = b := by
    intro l
    induction l with
    | nil => exact fun _ h => nomatch h
    | cons x l ih =>
      intro a b n ha hb e
      obtain ⟨m1, m2⟩ := List.nodup_cons.mp n
      rcases List.mem_cons.mp ha with ea | ia
      · rcases List.mem_cons.mp hb with eb | ib
        · rw [ea, eb]
        · exact absurd ((List.mem_map (f := fun p : Keyed => p.2) (l := l)).mpr ⟨b, ib, by rw [← e, ea]⟩) m1
      · rcases List.mem_cons.mp hb with eb | ib
        · exact absurd ((List.mem_map (f := fun p : Keyed => p.2) (l := l)).mpr ⟨a, ia, by rw [e, eb]⟩) m1
        · exact ih m2 ia ib e
  exact key n1 (o.sub q hq) hp e ▸ hq
/-- two lists in order with the same members are the same -/
theorem one_order {α : Type} {le : α → α → Bool} : ∀ {xs ys : List α}, (∀ a ∈ xs, ∀ b ∈ xs, le a b = true → le b a = true → a = b) → xs.Perm ys → xs.Pairwise (fun a b => le a b = true) → ys.Pairwise (fun a b => le a b = true) → xs = ys
  | [], ys, _, p, _, _ => (List.nil_perm.mp p).symm
  | x :: xs, [], _, p, _, _ => absurd p.length_eq (by simp)
  | x :: xs, y :: ys, anti, p, hx, hy => by
    obtain ⟨x1, x2⟩ := List.pairwise_cons.mp hx
    obtain ⟨y1, y2⟩ := List.pairwise_cons.mp hy
    have e : x = y := by
      rcases List.mem_cons.mp (p.mem_iff.mpr (List.mem_cons_self (a := y) (l := ys))) with z | z
      · exact z.symm
      rcases List.mem_cons.mp (p.mem_iff.mp List.mem_cons_self) with z2 | z2
      · exact z2
      exact anti x List.mem_cons_self y (List.mem_cons_of_mem _ z) (x1 y z) (y1 x z2)
    subst e
    rw [one_order (fun a ha b hb => anti a (List.mem_cons_of_mem _ ha) b (List.mem_cons_of_mem _ hb)) (List.Perm.cons_inv p) x2 y2]
def leP (a b : Str × Str) : Bool := leS a.1 b.1
/-- a row in the order of its words -/
def sortR (ls : List (Str × Str)) : List (Str × Str) := ls.mergeSort leP
theorem sortR_perm (ls : List (Str × Str)) : (sortR ls).Perm ls := List.mergeSort_perm _ _
theorem sortR_sorted (ls : List (Str × Str)) : (sortR ls).Pairwise fun a b => leP a b = true := List.pairwise_mergeSort (le := leP) (fun a b c h1 h2 => leS_trans a.1 b.1 c.1 h1 h2) (fun a b => leS_total a.1 b.1) ls
theorem fst_inj {ls : List (Str × Str)} (nd : (ls.map (·.1)).Nodup) : ∀ a ∈ ls, ∀ b ∈ ls, a.1 = b.1 → a = b := by
  induction ls with
  | nil => exact fun _ h => nomatch h
  | cons x l ih =>
    intro a ha b hb e
    obtain ⟨m1, m2⟩ := List.nodup_cons.mp nd
    rcases List.mem_cons.mp ha with ea | ia
    · rcases List.mem_cons.mp hb with eb | ib
      · rw [ea, eb]
      · exact absurd ((List.mem_map (f := fun p : Str × Str => p.1) (l := l)).mpr ⟨b, ib, by rw [← e, ea]⟩) m1
    · rcases List.mem_cons.mp hb with eb | ib
      · exact absurd ((List.mem_map (f := fun p : Str × Str => p.1) (l := l)).mpr ⟨a, ia, by rw [e, eb]⟩) m1
      · exact ih m2 a ia b ib e
theorem sortR_of {ls xs : List (Str × Str)} (nd : (ls.map (·.1)).Nodup) (p : xs.Perm ls) (s : xs.Pairwise fun a b => leP a b = true) : xs = sortR ls :=
  one_order (fun a ha b hb h1 h2 => fst_inj nd a (p.mem_iff.mp ha) b (p.mem_iff.mp hb) (leS_anti h1 h2)) (p.trans (sortR_perm ls).symm) s (sortR_sorted ls)
/-- a pair of texts as a key -/
def keyP (q : Str × Str) : NestedKey := .tup [.text q.1, .text q.2]
theorem keyP_inj {a b : Str × Str} (e : keyP a = keyP b) : a = b := by
  unfold keyP at e
  injection e with e
  injection e with e1 e2
  injection e1 with e1
  injection e2 with e2
  injection e2 with e2
  exact Prod.ext e1 e2
theorem keyP_data (q : Str × Str) : (keyP q).data = .tuple [.str q.1, .str q.2] := by simp only [keyP, NestedKey.data, NestedKey.datas]
theorem keyP_alike (a b : Str × Str) : PySem.W.alike (keyP a).data (keyP b).data = true := by
  rw [keyP_data, keyP_data]
  simp only [PySem.W.alike, PySem.W.alikeAll, Bool.and_self]
theorem keyP_le {p q : Keyed} {a b : Str × Str} (ep : p.2 = keyP a) (eq : q.2 = keyP b) (h : keyLe p q = true) : leP a b = true := by
  unfold keyLe at h
  rw [PySem.W.dataLe_eq] at h
  simp only [cond_false, ep, eq, keyP_data, Bool.not_eq_true'] at h
  have al : ∀ x y : Str, PySem.W.alike (.str x) (.str y) = true := fun x y => by simp only [PySem.W.alike]
  rw [PySem.W.dataLt_pair (al _ _) (al _ _)] at h
  unfold leP leS
  split at h
  · next e =>
    have e : b.1 = a.1 := by simpa [PyData.eqv] using e
    rw [e]
    exact decide_eq_true (List.le_refl _)
  · rw [PySem.W.dataLt_str, decide_eq_false_iff_not] at h
    exact decide_eq_true (List.not_lt.mp h)
/-- each of the addresses with the key that stands there -/
def keysAt (ts : List Addr) (ls : List (Str × Str)) : List Keyed := (ts.zip ls).map fun q => (q.1, keyP q.2)
theorem keysAt_keys : ∀ {ts : List Addr} {ls : List (Str × Str)}, ts.length = ls.length → (keysAt ts ls).map (·.2) = ls.map keyP
  | [], [], _ => rfl
  | _ :: ts, _ :: ls, h => congrArg (_ :: ·) (keysAt_keys (ts := ts) (ls := ls) (Nat.succ.inj h))
theorem keysAt_refs : ∀ {ts : List Addr} {ls : List (Str × Str)}, ts.length = ls.length → (keysAt ts ls).map (fun p => V.ref p.1) = ts.map V.ref
  | [], [], _ => rfl
  | _ :: ts, _ :: ls, h => congrArg (_ :: ·) (keysAt_refs (ts := ts) (ls := ls) (Nat.succ.inj h))
/-- at each of the addresses stands its pair -/
def PairsAt (H : Hp) (ts : List Addr) (ls : List (Str × Str)) : Prop := Paired (fun (t : Addr) (q : Str × Str) => H t = some (.tup [.str q.1, .str q.2])) ts ls
theorem keysAt_mem {H : Hp} : ∀ {ts : List Addr} {ls : List (Str × Str)}, PairsAt H ts ls → ∀ p ∈ keysAt ts ls, ∃ q ∈ ls, p.2 = keyP q ∧ H p.1 = some (.tup [.str q.1, .str q.2])
  | _, _, .nil, _, h => nomatch h
  | _, q :: ls, .cons a t, p, h => by
    rcases List.mem_cons.mp h with rfl | h
    · exact ⟨q, List.mem_cons_self, rfl, a⟩
    · obtain ⟨q', m, e⟩ := keysAt_mem t p h
      exact ⟨q', List.mem_cons_of_mem _ m, e⟩
theorem keysAt_r {H : Hp} {ts : List Addr} {ls : List (Str × Str)} (h : PairsAt H ts ls) : KAllR H (keysAt ts ls) := fun p hp => by
  obtain ⟨q, _, e1, e2⟩ := keysAt_mem h p hp
  rw [e1]
  refine ⟨.tup e2 (.cons (.text _) (.cons (.text _) .nil)), ?_⟩
  simp only [keyP, NestedKey.depth, NestedKey.depthAll]
  omega
theorem pairs_rows {H : Hp} : ∀ {ts : List Addr} {ls : List (Str × Str)}, Paired (fun (t : Addr) (q : MRow) => H t = some (.tup [q.2.1, q.2.2])) ts (rowsT ls) → PairsAt H ts ls
  | [], [], .nil => .nil
  | _ :: _, _ :: _, .cons a t => .cons a (pairs_rows t)
/-- sorted(set(list(d.items()))) -/
abbrev tSortI (K : PySem.W.Frag) (w : World) (tr : TE) : TE := tCB (rSortK w) (tCons (tCB (rSetOfK K w) (tCons (tItemsM w tr) tNil)) tNil)
/-- a new list of new pairs, in the order of the row's words -/
def SortedI (ls : List (Str × Str)) : Hp → V → Hp → Prop := fun H' v H'' => ∃ p us, v = .ref p ∧ H' p = none ∧ H'' p = some (.lst (us.map V.ref)) ∧ PairsAt H'' us (sortR ls)
theorem pairs_back {H : Hp} : ∀ {l : List Keyed}, (∀ p ∈ l, ∃ q : Str × Str, p.2 = keyP q ∧ H p.1 = some (.tup [.str q.1, .str q.2])) → ∃ qs, PairsAt H (l.map (·.1)) qs ∧ l.map (·.2) = qs.map keyP
  | [], _ => ⟨[], .nil, rfl⟩
  | p :: l, h => by
    obtain ⟨q, e1, e2⟩ := h p List.mem_cons_self
    obtain ⟨qs, r1, r2⟩ := pairs_back fun x hx => h x (List.mem_cons_of_mem _ hx)
    exact ⟨q :: qs, .cons e2 r1, by rw [List.map_cons, List.map_cons, e1, r2]⟩
theorem gives_sortI {K : PySem.W.Frag} {w : World} {tr : TE} {σ : St} {H : Hp} {r : Addr} {ls : List (Str × Str)} (hr : GivesR tr σ H (Pure (.ref r))) (at_ : H r = some (mdo w r (rowsT ls))) (nd : (ls.map (·.1)).Nodup) (le : ls.length ≤ 100) : GivesR (tSortI K w tr) σ H (SortedI ls) := fun H' s Q q => hr H' s _ fun x Hx s1 z => by
  obtain ⟨rfl, rfl⟩ := z
  refine ⟨r, rowsT ls, rfl, .inl (s _ _ at_), fun H1 p ts k1 n1 n2 n3 e1 pr => ?_⟩
  have s1 : Same Hx H1 := k1
  have tl : ts.length = ls.length := by rw [Paired.length pr, rowsT_len]
  have pa := pairs_rows pr
  have kn : ((keysAt ts ls).map (·.2)).Nodup := by
    rw [keysAt_keys tl]
    exact List.pairwise_map.mpr ((nodup_of_map nd).imp fun h e => h (keyP_inj e))
  have kl : (keysAt ts ls).length = ls.length := by
    have z := congrArg List.length (keysAt_keys tl)
    simpa using z
  refine ⟨p, keysAt ts ls, rfl, .inl (.inl (by rw [keysAt_refs tl]; exact e1)), (keysAt_r pa).a, by omega, fun a L na once Ln => ?_⟩
  have sa := same_upd (o := SetKO w a L) na
  have pm := once_perm once kn Ln
  have inL : ∀ p ∈ L, p ∈ keysAt ts ls := fun p hp => pm.mem_iff.mp hp
  have kr : KAllR (upd H1 a (SetKO w a L)) L := fun p hp => ⟨(keysAt_r pa p (inL p hp)).1.mono (tup_same sa), (keysAt_r pa p (inL p hp)).2⟩
  have isP : ∀ p ∈ L, ∃ q ∈ ls, p.2 = keyP q ∧ H1 p.1 = some (.tup [.str q.1, .str q.2]) := fun p hp => keysAt_mem pa p (inL p hp)
  refine ⟨a, L, rfl, upd_same, kr, by rw [pm.length_eq]; omega, fun p hp p' hp' => ?_, fun p hp => ?_, fun L' d pm' pw nd' => ?_⟩
  · obtain ⟨q, _, e, _⟩ := isP p hp
    obtain ⟨q', _, e', _⟩ := isP p' hp'
    rw [e, e']
    exact keyP_alike q q'
  · obtain ⟨q, _, e, _⟩ := isP p hp
    exact ⟨_, _, by rw [e]; exact keyP_data q⟩
  · have sd := same_upd (o := HO.lst (L'.map fun x => V.ref x.1)) nd'
    obtain ⟨qs, q1, q2⟩ := pairs_back (H := upd (upd H1 a (SetKO w a L)) d (.lst (L'.map fun x => V.ref x.1))) (l := L') fun p hp => by
      obtain ⟨q, _, e, f⟩ := isP p (pm'.mem_iff.mp hp)
      exact ⟨q, e, sd _ _ (sa _ _ f)⟩
    have eq : qs = sortR ls := by
      refine sortR_of nd ?_ ?_
      · have z : (qs.map keyP).Perm (ls.map keyP) := by
          rw [← q2, ← keysAt_keys tl]
          exact (pm'.trans pm).map _
        obtain ⟨l1, e, r⟩ := perm_of_map z qs rfl
        have : l1 = ls := by
          have inj : ∀ {a b : List (Str × Str)}, a.map keyP = b.map keyP → a = b := by
            intro a
            induction a with
            | nil =>
              intro b e
              exact (List.map_eq_nil_iff.mp e.symm).symm
            | cons x a ih =>
              intro b e
              cases b with
              | nil => cases e
              | cons y b =>
                injection e with e1 e2
                rw [keyP_inj e1, ih e2]
          exact inj e.symm
        exact this ▸ r
      · have z : ∀ {l : List Keyed} {qs : List (Str × Str)}, l.map (·.2) = qs.map keyP → l.Pairwise (fun x y => keyLe x y = true) → qs.Pairwise fun a b => leP a b = true := by
          intro l
          induction l with
          | nil =>
            intro qs e _
            rw [List.map_eq_nil_iff.mp e.symm]
            exact List.Pairwise.nil
          | cons x l ih =>
            intro qs e h
            cases qs with
            | nil => cases e
            | cons y qs =>
              injection e with e1 e2
              obtain ⟨h1, h2⟩ := List.pairwise_cons.mp h
              refine List.pairwise_cons.mpr ⟨fun b hb => ?_, ih e2 h2⟩
              have m : keyP b ∈ l.map (·.2) := by
                rw [e2]
                exact List.mem_map_of_mem hb
              obtain ⟨x', hx', ex'⟩ := List.mem_map.mp m
              exact keyP_le e1 ex' (h1 x' hx')
        exact z q2 pw
    subst eq
    refine q _ _ ((s1.trans sa).trans sd) ⟨d, L'.map (·.1), rfl, (s1.trans sa).free nd', by rw [upd_same, List.map_map]; rfl, q1⟩
end TG
end L2
end
/-! ### QA -/
section
namespace L2
namespace KF
open PySem PySem.Spec PyProof.Rows PySem.KD KE KC PySem.KA KM TL
/-! ## _law_rank -/
abbrev sRk : Stmt := topS 42
abbrev rkN : List Str := ["_law_level"]
theorem scRk : FnScope rkN ["_law_level"] (defScope sRk) := ⟨rfl, rfl, rfl, by decide +kernel, rfl, by decide +kernel, by decide +kernel⟩
def rkRows : List (Key × V) := [(.inr (Str.ofString "set"), .int 0), (.inr (Str.ofString "keep"), .int 1), (.inr (Str.ofString "unset"), .int 2), (.inr (Str.ofString "none"), .int 0), (.inr (Str.ofString "entry"), .int 1), (.inr (Str.ofString "always"), .int 2)]
/-- how bad a level is -/
def rankI (x : Str) : Int := if x = Str.ofString "set" ∨ x = Str.ofString "none" then 0 else if x = Str.ofString "keep" ∨ x = Str.ofString "entry" then 1 else 2
theorem rank_at {x : Str} (h : x ∈ endL ++ readL) : valV rkRows (.inr x) = some (.int (rankI x)) := by
  simp only [List.mem_append, List.mem_cons, List.not_mem_nil, or_false] at h
  rcases h with (rfl | rfl | rfl) | (rfl | rfl | rfl) <;> rfl
section
variable {P : Program} {w : World} {K : PySem.W.Frag} {mg : Str → Option Value} {base : Heap}
def spRk : Sp := fun vs H Q _ => ∃ x, vs = [.str x] ∧ x ∈ endL ++ readL ∧ ∀ H', Same H H' → Q (.int (rankI x)) H'
theorem ok_rk {f : Addr} {fd : FuncData} {k : Nat} (F : Fun K "_law_rank" "_law_rank" sRk f fd) : FnOk P w K mg base CX0 (k + 1) f fd ["_law_level"] spRk := by
  refine F.ok scRk (fun vs H Q E h => ?_) (fun cdv A outer s H vs Q E hr h => ?_)
  · obtain ⟨x, rfl, _⟩ := h
    rfl
  · obtain ⟨x, rfl, hx, q⟩ := h
    have hu : (cxOf CX0 P w K mg base rkN "_law_rank" (defScope sRk) f cdv A outer s H E).nox.A.units + 1 < cLine := by
      have := hr.un
      show (A.deeper _).units + 1 < cLine
      omega
    refine ⟨_, pss_one (ps_ret (pe_dget hu (pe_disp (pps_cons pe_str pe_int (pps_cons pe_str pe_int (pps_cons pe_str pe_int (pps_cons pe_str pe_int (pps_cons pe_str pe_int (pps_cons pe_str pe_int pps_nil)))))) rfl rfl (by decide) (by decide)) (pv 0) (fun _ _ => rfl))), ?_⟩
    intro p np
    have s1 := same_upd (o := HO.dK []) np
    refine ⟨upd_same, rkRows, rfl, by show 6 ≤ 15; decide, .str x, rfl, p, .int (rankI x), rfl, ?_, q _ fun b o e => ?_⟩
    · have z : DGet (upd (upd H p (.dK [])) p (.dK (mergeK [] rkRows))) p (kV (.inr x)) (valV (mergeK [] rkRows) (.inr x)) := DGet.k upd_same
      have m : mergeK [] rkRows = rkRows := by rfl
      rw [m, rank_at hx] at z
      rw [m]
      exact z
    · rw [upd_ne (ne_of_none e np)]
      exact s1 _ _ e
end
end KF
end L2
end
/-! ### QL -/
section
namespace L2
namespace KF
open PySem PySem.Spec PyProof.Rows PySem.KD KE KC PySem.KA KM TL
/-! ## [x for x in d if g(x)], d a row of texts; reads while something is locked -/
/-- what stands still can be read while another thing, or it itself, is locked -/
theorem rd_lock {H H' : Hp} {a d : Addr} {u o : HO} (e : H d = some u) (st : ∀ b v, b ≠ d → H b = some v → H' b = some v) (fz : ∃ od, H' d = some (.frz od u)) (h : H a = some o) : Rd H' a o := by
  by_cases c : a = d
  · subst c
    rw [e] at h
    cases h
    exact .inr fz
  · exact .inl (st a o c h)
theorem rd_same {H H' : Hp} {a : Addr} {o : HO} (r : Rd H a o) (s : Same H H') : Rd H' a o := r.elim (fun h => .inl (s _ _ h)) fun ⟨od, h⟩ => .inr ⟨od, s _ _ h⟩
theorem rd_lock2 {w : World} {H H' : Hp} {a d : Addr} {es : List MRow} {o : HO} (e : H d = some (mdo w d es)) (st : ∀ b v, b ≠ d → H b = some v → H' b = some v) (fz : ∃ od, H' d = some (.frz od (mdo w d es))) (h : Rd H a o) : Rd H' a o := by
  by_cases c : a = d
  · subst c
    rcases h with h | ⟨od, h⟩
    · rw [e] at h
      cases h
      exact .inr fz
    · rw [e] at h
      cases h
  · exact h.elim (fun h => .inl (st a _ c h)) fun ⟨od, h⟩ => .inr ⟨od, st a _ c h⟩
theorem unlocked {H H' : Hp} {d : Addr} {u : HO} (e : H d = some u) (st : ∀ b v, b ≠ d → H b = some v → H' b = some v) : Same H (upd H' d u) := fun b v h => by
  by_cases c : b = d
  · subst c
    rw [upd_same, ← e, h]
  · rw [upd_ne c]
    exact st b v c h
theorem rows_get {ls : List (Str × Str)} {n : Nat} {p : MRow} (h : (rowsT ls)[n]? = some p) : ∃ q, ls[n]? = some q ∧ p = (.text q.1, .str q.1, .str q.2) := by
  unfold rowsT at h
  rw [List.getElem?_map] at h
  obtain ⟨q, e1, e2⟩ := Option.map_eq_some_iff.mp h
  exact ⟨q, e1, e2.symm⟩
section
variable {w : World} {tr : TE} {tt : TT} {j : Nat} {σ : St} {H : Hp} {Q : VK} {d : Addr} {ls : List (Str × Str)}
theorem pickT (e : H d = some (mdo w d (rowsT ls))) (le : ls.length ≤ 900) (g : Str × Str → Bool) (hj : j < σ.length)
    (hi : ∀ (od : Obj) (Q' : VK), Q' (.ref d) (upd H d (.frz od (mdo w d (rowsT ls)))) → tr σ (upd H d (.frz od (mdo w d (rowsT ls)))) Q')
    (step : ∀ (H' : Hp) (q : Str × Str), q ∈ ls → (∀ b u, b ≠ d → H b = some u → H' b = some u) → (∃ od, H' d = some (.frz od (mdo w d (rowsT ls)))) → ∀ Q' : Bool → Hp → Prop, (∀ H'', Same H' H'' → Q' (g q) H'') → tt ((wipe σ [j]).set j (some (.str q.1))) H' Q')
    (q : ∀ H' L, Same H H' → H L = none → H' L = some (.lst ((ls.filter g).map fun p => V.str p.1)) → Q (.ref L) H') : tLockE (tLc (iKeysMM w tr) (gName j) tt (tVar j) [j]) σ H Q := by
  refine ⟨d, mdo w d (rowsT ls), e, trivial, fun od => c_lc (hi od _ ⟨d, od, rowsT ls, rfl, upd_same, fun L nL => ?_⟩)⟩
  have ndL : d ≠ L := fun z => by
    rw [← z, upd_same] at nL
    cases nL
  refine lc_it walkM (fun n Hi => LcD w H d L od (rowsT ls) (((ls.take n).filter g).map fun p => V.str p.1) Hi) ⟨by rw [upd_ne ndL, upd_same], upd_same, fun b u nb e2 => ?_⟩ (fun n Hi _ S => S.frz) (fun n x Hi Hj hn S hy => ?_) (fun Hi S => ?_)
  · have nb2 : b ≠ L := fun z => by
      rw [z] at nb e2
      rw [upd_ne nb, e2] at nL
      cases nL
    rw [upd_ne nb2, upd_ne nb]
    exact e2
  · obtain ⟨rfl, p, hp, rfl⟩ := hy
    obtain ⟨z, ez, rfl⟩ := rows_get hp
    have e3 : ls.take (n + 1) = ls.take n ++ [z] := by rw [List.take_add_one, ez]; rfl
    refine c_name ⟨wipe_one σ j _, step Hj z (List.mem_of_getElem? ez) S.st ⟨od, S.frz⟩ _ fun H' s => ?_⟩
    have short : (((ls.take n).filter g).map fun p => V.str p.1).length ≤ 900 := by
      rw [List.length_map]
      exact Nat.le_trans (List.length_filter_le _ _) (Nat.le_trans (by rw [List.length_take]; omega) le)
    cases eg : g z with
    | true =>
      refine ⟨.str z.1, ?_, _, s _ _ S.acc, small1000 (by omega), ?_⟩
      · show ((σ.set j none).set j (some (V.str z.1)))[j]? = some (some (V.str z.1))
        rw [List.getElem?_set_self (by rw [List.length_set]; exact hj)]
      · have e4 : ((ls.take (n + 1)).filter g).map (fun p => V.str p.1) = ((ls.take n).filter g).map (fun p => V.str p.1) ++ [V.str z.1] := by
          rw [e3, List.filter_append, List.filter_cons_of_pos eg, List.map_append]
          rfl
        rw [e4]
        exact S.next nL s
    | false =>
      have e4 : ((ls.take (n + 1)).filter g).map (fun p => V.str p.1) = ((ls.take n).filter g).map (fun p => V.str p.1) := by
        rw [e3, List.filter_append, List.filter_cons_of_neg (by rw [eg]; exact Bool.false_ne_true), List.filter_nil, List.append_nil]
      show LcD w H d L od (rowsT ls) _ H'
      rw [e4]
      exact ⟨s _ _ S.frz, s _ _ S.acc, fun b u nb e5 => s _ _ (S.st b u nb e5)⟩
  · rw [rowsT_len, List.take_length] at S
    obtain ⟨h1, h2, h3⟩ := lcD_end e nL S
    exact ⟨S.frz, q _ L h1 h3 h2⟩
end
end KF
end L2
end
/-! ### QB -/
section
namespace L2
namespace KF
open PySem PySem.Spec PyProof.Rows PySem.KD KE KC PySem.KA KM TL
/-! ## _law_is_low -/
abbrev sLow : Stmt := topS 43
abbrev lowN : List Str := ["_law_one", "_law_other", "_law_outcome", "_law_row", "_law_word"]
theorem scLow : FnScope lowN ["_law_one", "_law_other"] (defScope sLow) := ⟨rfl, rfl, rfl, by decide +kernel, rfl, by decide +kernel, by decide +kernel⟩
/-- the level of a word -/
def lookT (ls : List (Str × Str)) (x : Str) : Str := ((ls.find? fun q => decide (q.1 = x)).map (·.2)).getD Str.empty
theorem lookT_mem {ls : List (Str × Str)} {x : Str} (h : x ∈ ls.map (·.1)) : (x, lookT ls x) ∈ ls := by
  unfold lookT
  cases e : ls.find? fun q => decide (q.1 = x) with
  | none =>
    obtain ⟨q, hq, rfl⟩ := List.mem_map.mp h
    have := List.find?_eq_none.mp e q hq
    simp at this
  | some q =>
    have e1 : q.1 = x := by simpa using List.find?_some e
    subst e1
    exact List.mem_of_find?_eq_some e
theorem lookT_at {ls : List (Str × Str)} {x : Str} (h : x ∈ ls.map (·.1)) : lookH (rowsT ls) (.text x) = some (.text x, .str x, .str (lookT ls x)) := by
  unfold lookH rowsT lookT
  induction ls with
  | nil => cases h
  | cons q ls ih =>
    by_cases c : q.1 = x
    · subst c
      rw [List.map_cons, List.find?_cons_of_pos (by exact NestedKey.beq_self _), List.find?_cons_of_pos (by simp)]
      rfl
    · rw [List.map_cons, List.find?_cons_of_neg (by
        intro z
        have z2 := NestedKey.eq_of_beq _ _ z
        injection z2 with z2
        exact c z2), List.find?_cons_of_neg (by simpa using c)]
      refine ih ?_
      rcases List.mem_cons.mp h with z | z
      · exact absurd z.symm c
      · exact z
/-- where a row is worse than another -/
def worse (a b : List (Str × Str)) (q : Str × Str) : Bool := decide (rankI (lookT b q.1) < rankI (lookT a q.1))
def rowLow (a b : List (Str × Str)) : Bool := (a.filter (worse a b)).isEmpty
def findF (fs : List Fin) (x : Str) : Option Fin := fs.find? fun q => decide (q.1 = x)
def finLow (fs fs2 : List Fin) (q : Fin) : Bool := match findF fs2 q.1 with
  | some q2 => rowLow q.2.2 q2.2.2
  | none => false
/-- at most -/
def lowB (fs : List Fin) (rs : List (Str × Str)) (fs2 : List Fin) (rs2 : List (Str × Str)) : Bool := fs.all (finLow fs fs2 ·) && rowLow rs rs2
theorem findF_at (fs : List Fin) (x : Str) : lookH (rowsF fs) (.text x) = (findF fs x).map fun q => (.text q.1, .str q.1, .ref q.2.1) := by
  unfold lookH rowsF findF
  induction fs with
  | nil => rfl
  | cons q fs ih =>
    by_cases c : q.1 = x
    · subst c
      rw [List.map_cons, List.find?_cons_of_pos (by exact NestedKey.beq_self _), List.find?_cons_of_pos (by simp)]
      rfl
    · rw [List.map_cons, List.find?_cons_of_neg (by
        intro z
        have z2 := NestedKey.eq_of_beq _ _ z
        injection z2 with z2
        exact c z2), List.find?_cons_of_neg (by simpa using c)]
      exact ih
theorem self_at {fs : List Fin} {z : Fin} (nd : (fs.map (·.1)).Nodup) (h : z ∈ fs) : findF fs z.1 = some z := by
  unfold findF
  induction fs with
  | nil => cases h
  | cons q fs ih =>
    obtain ⟨n1, n2⟩ := List.nodup_cons.mp nd
    rcases List.mem_cons.mp h with e | i
    · rw [← e, List.find?_cons_of_pos (by simp)]
    · rw [List.find?_cons_of_neg (by
        intro c
        have c' : q.1 = z.1 := by simpa using c
        exact n1 (List.mem_map.mpr ⟨z, i, c'.symm⟩))]
      exact ih n2 i
theorem c_test {te : TE} {t u : TS} {D : Ends} {σ : St} {H : Hp} (h : te σ H fun x H1 => ∃ k, x = .bl k ∧ (if k = true then t D σ H1 else u D σ H1)) : tIfS (tTest te) t u D σ H := h
/-! ### lists of texts against [] -/
theorem ne_nil {K : PySem.W.Frag} {H : Hp} {L M : Addr} {xs : List Str} {Q : VK} (ok : ∀ x ∈ xs, PyData.strOk x = true) (e : H L = some (.lst (xs.map V.str))) (e2 : H M = some (.lst [])) (q : Q (.bl (!xs.isEmpty)) H) : rNeD K (.ref L) (.ref M) H Q :=
  ⟨_, _, .lst (.inl (.inl e)) (strs_dp xs), .lst (.inl (.inl e2)) .nil, strs_shaped ok, ints_shaped [], by rw [strs_eqv]; exact q⟩
theorem eq_nil {K : PySem.W.Frag} {H : Hp} {L M : Addr} {xs : List Str} {Q : VK} (ok : ∀ x ∈ xs, PyData.strOk x = true) (e : H L = some (.lst (xs.map V.str))) (e2 : H M = some (.lst [])) (q : Q (.bl xs.isEmpty) H) : rEqD K (.ref L) (.ref M) H Q :=
  ⟨_, _, .lst (.inl (.inl e)) (strs_dp xs), .lst (.inl (.inl e2)) .nil, strs_shaped ok, ints_shaped [], by rw [strs_eqv]; exact q⟩
section
variable {P : Program} {w : World} {K : PySem.W.Frag} {mg : Str → Option Value} {base : Heap}
def spLow (w : World) : Sp := fun vs H Q _ => ∃ (T T2 D R D2 R2 : Addr) (words : List Str) (fs fs2 : List Fin) (rs rs2 : List (Str × Str)), vs = [.ref T, .ref T2] ∧ H T = some (.tup [.ref D, .ref R]) ∧ H T2 = some (.tup [.ref D2, .ref R2]) ∧ ProfAt w H D R words fs rs ∧ ProfAt w H D2 R2 words fs2 rs2 ∧ words.length ≤ 60 ∧ (∀ x ∈ words, PyData.strOk x = true) ∧
  ∀ H', Same H H' → Q (.bl (lowB fs rs fs2 rs2)) H'
theorem ok_low {f fR : Addr} {fd fdR : FuncData} (F : Fun K "_law_is_low" "_law_is_low" sLow f fd) (FR : Fun K "_law_rank" "_law_rank" sRk fR fdR) (gR : mg "_law_rank" = some (.ref fR)) (bR : Binds K fdR ["_law_level"] []) : FnOk P w K mg base CX0 3 f fd ["_law_one", "_law_other"] (spLow w) := by
  have GR : FnOk P w K mg base CX0 1 fR fdR ["_law_level"] spRk := ok_rk FR
  refine F.ok scLow (fun vs H Q E h => ?_) (fun cdv A outer s H vs Q E hr h => ?_)
  · obtain ⟨T, T2, _, _, _, _, _, _, _, _, _, rfl, _⟩ := h
    rfl
  · obtain ⟨T, T2, D, R, D2, R2, words, fs, fs2, rs, rs2, rfl, eT, eT2, PA, PB, w60, wok, q⟩ := h
    have hr1 := hr.mono (show 1 ≤ 2 by decide)
    have hu10 : (cxOf CX0 P w K mg base lowN "_law_is_low" (defScope sLow) f cdv A outer s H E).nox.A.units + 10 < cLine := by
      have := hr.un
      show (A.deeper _).units + 10 < cLine
      omega
    have hu64 : (cxOf CX0 P w K mg base lowN "_law_is_low" (defScope sLow) f cdv A outer s H E).nox.A.units + 64 < cLine := by
      have := hr.un
      show (A.deeper _).units + 64 < cLine
      omega
    refine ⟨_, pss_cons (ps_lock (ps_for PassesOwn.never rfl (piKeysM (pe_ix ix_seq (pv 0) pe_int (fun _ _ => rfl))) (pg_name (i := 2) scLow.nd rfl (.inr rfl))
        (pss_cons (ps_if (pt_cmpR (op_ninM hu10) (pv 2) (pe_ix ix_seq (pv 1) pe_int (fun _ _ => rfl)) rfl) (pss_one (ps_ret pe_bl)) pss_nil)
        (pss_cons (ps_set (i := 3) scLow.nd rfl (.inr rfl) (pe_ix (ixM hu10) (pe_ix ix_seq (pv 0) pe_int (fun _ _ => rfl)) (pv 2) (fun _ _ => rfl)))
        (pss_one (ps_if (pt_cmpR (op_neD hu64) (pe_lock (pe_lc (own := [("_law_word", 4)]) (g := gName 4) rfl scLow.nd (piKeysM (pv 3))
          (blkOk_by (N := lowN) (sc := defScope sLow) (by decide +kernel)) (fun _ _ _ _ _ => pg_name (i := 4) scLow.nd rfl (Or.inl rfl))
          (fun _ _ _ _ _ => pts_one (pt_cmpR op_gt (pe_call GR hr1 (by rfl) gR FR.kp bR .nil pass0 (pa_cons (pe_ix (r := rIxM w) (ixM (by exact hu10)) (pv 3) (pv 4) (fun _ _ => rfl)) pa_nil)) (pe_call GR hr1 (by rfl) gR FR.kp bR .nil pass0 (pa_cons (pe_ix (r := rIxM w) (ixM (by exact hu10)) (pe_ix (r := rIxM w) (ixM (by exact hu10)) (pe_ix (r := rIx K) ix_seq (pv 1) pe_int (fun _ _ => rfl)) (pv 2) (fun _ _ => rfl)) (pv 4) (fun _ _ => rfl)) pa_nil)) (nomark _)))
          (fun _ _ _ _ _ => pv 4))) (pe_lst pa_nil) (nomark _)) (pss_one (ps_ret pe_bl)) pss_nil))))))
      (pss_one (ps_ret (pe_cmpR (op_eqD hu64) (pe_lock (pe_lc (own := [("_law_word", 4)]) (g := gName 4) rfl scLow.nd (piKeysM (pe_ix (r := rIx K) ix_seq (pv 0) pe_int (fun _ _ => rfl)))
          (blkOk_by (N := lowN) (sc := defScope sLow) (by decide +kernel)) (fun _ _ _ _ _ => pg_name (i := 4) scLow.nd rfl (Or.inl rfl))
          (fun _ _ _ _ _ => pts_one (pt_cmpR op_gt (pe_call GR hr1 (by rfl) gR FR.kp bR .nil pass0 (pa_cons (pe_ix (r := rIxM w) (ixM (by exact hu10)) (pe_ix (r := rIx K) ix_seq (pv 0) pe_int (fun _ _ => rfl)) (pv 4) (fun _ _ => rfl)) pa_nil)) (pe_call GR hr1 (by rfl) gR FR.kp bR .nil pass0 (pa_cons (pe_ix (r := rIxM w) (ixM (by exact hu10)) (pe_ix (r := rIx K) ix_seq (pv 1) pe_int (fun _ _ => rfl)) (pv 4) (fun _ _ => rfl)) pa_nil)) (nomark _)))
          (fun _ _ _ _ _ => pv 4))) (pe_lst pa_nil) (nomark _)))), ?_⟩
    have memA : ∀ q ∈ fs, ∀ z ∈ q.2.2, z.1 ∈ words := fun q hq z hz => by
      rw [← PA.rows.keys q hq]
      exact List.mem_map_of_mem hz
    have rkE : ∀ {fs : List Fin} {q : Fin} {x : Str} {D R : Addr} {rs : List (Str × Str)}, ProfAt w H D R words fs rs → q ∈ fs → x ∈ words → lookT q.2.2 x ∈ endL ++ readL := fun PA hq hx => List.mem_append_left _ (PA.rows.lev _ hq _ (lookT_mem (by rw [PA.rows.keys _ hq]; exact hx)))
    have rkR : ∀ {fs : List Fin} {x : Str} {D R : Addr} {rs : List (Str × Str)}, ProfAt w H D R words fs rs → x ∈ words → lookT rs x ∈ endL ++ readL := fun PA hx => List.mem_append_right _ (PA.rl _ (lookT_mem (by rw [PA.rk]; exact hx)))
    have nTD : T ≠ D := fun z => by
      rw [z, PA.hD] at eT
      cases eT
    have nT2D : T2 ≠ D := fun z => by
      rw [z, PA.hD] at eT2
      cases eT2
    have nTR : T ≠ R := fun z => by
      rw [z, PA.hR] at eT
      cases eT
    have nT2R : T2 ≠ R := fun z => by
      rw [z, PA.hR] at eT2
      cases eT2
    have nRF : ∀ q ∈ fs, T ≠ q.2.1 ∧ T2 ≠ q.2.1 := fun q hq => ⟨fun z => (by
      rw [z, PA.rows.at_ q hq] at eT
      cases eT), fun z => (by
      rw [z, PA.rows.at_ q hq] at eT2
      cases eT2)⟩
    have few : ∀ {ls : List (Str × Str)}, ls.map (·.1) = words → ls.length ≤ 60 := fun e => by
      rw [← e, List.length_map] at w60
      exact w60
    refine c_seq ⟨D, mdo w D (rowsF fs), PA.hD, trivial, fun od => ?_⟩
    refine ⟨.ref T, rfl, .inr (.inl ⟨T, _, _, .ref D, rfl, rfl, .inl (.inl ((upd_ne nTD).trans eT)), atN (i := 0) rfl, D, od, rowsF fs, rfl, upd_same, ?_⟩)⟩
    refine for_it (walkM (w := w) (d := D) (o := od) (es := rowsF fs)) (fun i σ Hi => ∃ y2 y3 y4, σ = [some (.ref T), some (.ref T2), y2, y3, y4] ∧ Hi D = some (.frz od (mdo w D (rowsF fs))) ∧ (∀ b u, b ≠ D → H b = some u → Hi b = some u) ∧ (fs.take i).all (finLow fs fs2 ·) = true)
      ⟨none, none, none, rfl, upd_same, fun b u nb e => (upd_ne nb).trans e, rfl⟩ (fun i σ Hi _ hp => hp.choose_spec.choose_spec.choose_spec.2.1) (fun i x σ Hi Hj hi hp hy => ?_) (fun σ Hi hp => ?_)
    · obtain ⟨y2, y3, y4, rfl, fz, st, all⟩ := hp
      obtain ⟨rfl, p, hpx, rfl⟩ := hy
      obtain ⟨z, ez, rfl⟩ : ∃ z, fs[i]? = some z ∧ p = (.text z.1, .str z.1, .ref z.2.1) := by
        unfold rowsF at hpx
        rw [List.getElem?_map] at hpx
        obtain ⟨q, e1, e2⟩ := Option.map_eq_some_iff.mp hpx
        exact ⟨q, e1, e2.symm⟩
      have hz : z ∈ fs := List.mem_of_getElem? ez
      have nzD : z.2.1 ≠ D := fun y => (List.nodup_cons.mp PA.nd).1 (List.mem_cons_of_mem _ (y ▸ List.mem_map_of_mem hz))
      have eTj := st T _ nTD eT
      have eT2j := st T2 _ nT2D eT2
      have rdD2 : Rd Hj D2 (mdo w D2 (rowsF fs2)) := rd_lock PA.hD st ⟨od, fz⟩ PB.hD
      have wrong : ∀ H', (∀ b u, Hj b = some u → H' b = some u) → lowB fs rs fs2 rs2 = false → H' D = some (.frz od (mdo w D (rowsF fs))) ∧ Q (.bl false) (upd H' D (mdo w D (rowsF fs))) := fun H' sj low => by
        refine ⟨sj _ _ fz, ?_⟩
        have y := q (upd H' D (mdo w D (rowsF fs))) (unlocked PA.hD fun b u nb e => sj _ _ (st b u nb e))
        rw [low] at y
        exact y
      have notLow : finLow fs fs2 z = false → lowB fs rs fs2 rs2 = false := fun y => by
        unfold lowB
        rw [show fs.all (finLow fs fs2 ·) = false from List.all_eq_false.mpr ⟨z, hz, by rw [y]; exact Bool.false_ne_true⟩]
        rfl
      refine c_name (c_seq ?_)
      refine ⟨.str z.1, rfl, .ref T2, rfl, .inr (.inl ⟨T2, _, _, .ref D2, rfl, rfl, .inl (.inl eT2j), atN (i := 0) rfl, D2, rowsF fs2, .text z.1, rfl, rdD2, rowsF_all _ _, kAt.text _ _, _, rfl, ?_⟩)⟩
      rw [findF_at]
      cases ef : findF fs2 z.1 with
      | none =>
        refine iteT (wrong Hj (fun _ _ y => y) (notLow ?_))
        unfold finLow
        rw [ef]
      | some z2 =>
        have hz2 : z2 ∈ fs2 := List.mem_of_find?_eq_some ef
        refine iteF (c_nx (c_seq (c_asg ?_)))
        refine ⟨.ref T, rfl, .inr (.inl ⟨T, _, _, .ref D, rfl, rfl, .inl (.inl eTj), atN (i := 0) rfl, .str z.1, rfl, D, rowsF fs, .text z.1, (.text z.1, .str z.1, .ref z.2.1), rfl, .inr ⟨od, fz⟩, rowsF_all _ _, kAt.text _ _, (by rw [findF_at, self_at PA.fk hz]; rfl), c_name (c_nx (c_test (c_op ?_)))⟩)⟩
        have e2 : Hj z.2.1 = some (mdo w z.2.1 (rowsT z.2.2)) := st _ _ nzD (PA.rows.at_ z hz)
        have l2 := few (PA.rows.keys z hz)
        refine pickT e2 (by omega) (worse z.2.2 z2.2.2) (show 4 < 5 by decide) (fun od2 Q' y => ⟨.ref z.2.1, rfl, y⟩) (fun H2 qq hq st2 fz2 Q' q' => ?_) fun H1 L s1 nL eL => ?_
        · have hw : qq.1 ∈ words := memA z hz qq hq
          have rd2 : Rd H2 D2 (mdo w D2 (rowsF fs2)) := rd_lock2 e2 st2 fz2 rdD2
          have rd3 : Rd H2 z2.2.1 (mdo w z2.2.1 (rowsT z2.2.2)) := rd_lock2 e2 st2 fz2 (rd_lock PA.hD st ⟨od, fz⟩ (PB.rows.at_ z2 hz2))
          have eT2k := st2 T2 _ (nRF z hz).2 eT2j
          refine ⟨.ref z.2.1, rfl, .str qq.1, rfl, z.2.1, rowsT z.2.2, .text qq.1, _, rfl, .inr fz2, rowsT_all _ _, kAt.text _ _, lookT_at (List.mem_map_of_mem hq), lookT z.2.2 qq.1, rfl, rkE PA hz hw, fun H3 s3 => ?_⟩
          refine ⟨.ref T2, rfl, .inr (.inl ⟨T2, _, _, .ref D2, rfl, rfl, .inl (.inl (s3 _ _ eT2k)), atN (i := 0) rfl, .str z.1, rfl, D2, rowsF fs2, .text z.1, (.text z2.1, .str z2.1, .ref z2.2.1), rfl, rd_same rd2 s3, rowsF_all _ _, kAt.text _ _, ?_, .str qq.1, rfl, z2.2.1, rowsT z2.2.2, .text qq.1, _, rfl, rd_same rd3 s3, rowsT_all _ _, kAt.text _ _, lookT_at (by rw [PB.rows.keys z2 hz2]; exact hw), lookT z2.2.2 qq.1, rfl, rkE PB hz2 hw, fun H4 s4 => ⟨_, _, rfl, rfl, _, rfl, q' _ (s3.trans s4)⟩⟩)⟩
          rw [findF_at, ef]
          rfl
        · have eL' : H1 L = some (.lst ((((z.2.2.filter (worse z.2.2 z2.2.2)).map (·.1))).map V.str)) := by
            rw [eL, List.map_map]
            rfl
          refine ⟨by show 0 ≤ sizeLine; exact Nat.zero_le _, fun M nM => ne_nil (fun x hx => ?_) (same_upd nM _ _ eL') upd_same ⟨_, rfl, ?_⟩⟩
          · obtain ⟨y, hy, rfl⟩ := List.mem_map.mp hx
            exact wok _ (memA z hz y (List.mem_filter.mp hy).1)
          · have sM := same_upd (o := HO.lst []) nM
            have low : finLow fs fs2 z = rowLow z.2.2 z2.2.2 := by
              unfold finLow
              rw [ef]
            have emp : ((z.2.2.filter (worse z.2.2 z2.2.2)).map (·.1)).isEmpty = rowLow z.2.2 z2.2.2 := by
              unfold rowLow
              rw [List.isEmpty_map]
            rw [emp]
            cases er : rowLow z.2.2 z2.2.2 with
            | false => exact iteT (wrong _ (fun b u y => sM _ _ (s1 _ _ y)) (notLow (low.trans er)))
            | true =>
              refine iteF ⟨_, _, _, rfl, sM _ _ (s1 _ _ fz), fun b u nb e => sM _ _ (s1 _ _ (st b u nb e)), ?_⟩
              rw [List.take_add_one, ez, List.all_append, all]
              show (true && (finLow fs fs2 z && true)) = true
              rw [low, er]
              rfl
    · obtain ⟨y2, y3, y4, rfl, fz, st, all⟩ := hp
      rw [rowsF_len, List.take_length] at all
      refine ⟨fz, ?_⟩
      have s6 := unlocked PA.hD st
      generalize upd Hi D (mdo w D (rowsF fs)) = H6 at s6
      have eR := s6 _ _ PA.hR
      have lr := few PA.rk
      refine c_nx (c_ret (c_op ?_))
      refine pickT eR (by omega) (worse rs rs2) (show 4 < 5 by decide) (fun od2 Q' y => ⟨.ref T, rfl, .inr (.inl ⟨T, _, _, .ref R, rfl, rfl, .inl (.inl ((upd_ne nTR).trans (s6 _ _ eT))), atN (i := 1) rfl, y⟩)⟩) (fun H2 qq hq st2 fz2 Q' q' => ?_) fun H1 L s1 nL eL => ?_
      · have hw : qq.1 ∈ words := by
          rw [← PA.rk]
          exact List.mem_map_of_mem hq
        have rd2 : Rd H2 R2 (mdo w R2 (rowsT rs2)) := rd_lock2 eR st2 fz2 (.inl (s6 _ _ PB.hR))
        have eTk := st2 T _ nTR (s6 _ _ eT)
        have eT2k := st2 T2 _ nT2R (s6 _ _ eT2)
        refine ⟨.ref T, rfl, .inr (.inl ⟨T, _, _, .ref R, rfl, rfl, .inl (.inl eTk), atN (i := 1) rfl, .str qq.1, rfl, R, rowsT rs, .text qq.1, _, rfl, .inr fz2, rowsT_all _ _, kAt.text _ _, lookT_at (List.mem_map_of_mem hq), lookT rs qq.1, rfl, rkR PA hw, fun H3 s3 => ?_⟩)⟩
        exact ⟨.ref T2, rfl, .inr (.inl ⟨T2, _, _, .ref R2, rfl, rfl, .inl (.inl (s3 _ _ eT2k)), atN (i := 1) rfl, .str qq.1, rfl, R2, rowsT rs2, .text qq.1, _, rfl, rd_same rd2 s3, rowsT_all _ _, kAt.text _ _, lookT_at (by rw [PB.rk]; exact hw), lookT rs2 qq.1, rfl, rkR PB hw, fun H4 s4 => ⟨_, _, rfl, rfl, _, rfl, q' _ (s3.trans s4)⟩⟩)⟩
      · have eL' : H1 L = some (.lst (((rs.filter (worse rs rs2)).map (·.1)).map V.str)) := by
          rw [eL, List.map_map]
          rfl
        refine ⟨by show 0 ≤ sizeLine; exact Nat.zero_le _, fun M nM => eq_nil (fun x hx => ?_) (same_upd nM _ _ eL') upd_same ?_⟩
        · obtain ⟨y, hy, rfl⟩ := List.mem_map.mp hx
          exact wok _ (by rw [← PA.rk]; exact List.mem_map_of_mem (List.mem_filter.mp hy).1)
        · have y := q _ ((s6.trans s1).trans (same_upd (o := HO.lst []) nM))
          have el : lowB fs rs fs2 rs2 = ((rs.filter (worse rs rs2)).map (·.1)).isEmpty := by
            unfold lowB rowLow
            rw [all, List.isEmpty_map]
            rfl
          rw [el] at y
          exact y
end
end KF
end L2
end
/-! ### CN -/
section
namespace L2
namespace KF
open PySem PySem.Spec PyProof.Rows PySem.KD KE KC PySem.KA KM TL KS KH
/-! ## rows by outcomes, a profile as it is told, what is ascending (of no law of its own) -/
abbrev Cs := List (Str × List (Str × Str))
def prF (fs : List Fin) : Cs := fs.map fun q => (q.1, q.2.2)
def findC (cs : Cs) (o : Str) : Option (List (Str × Str)) := (cs.find? fun q => decide (q.1 = o)).map (·.2)
theorem findC_prF (fs : List Fin) (o : Str) : findC (prF fs) o = (findF fs o).map (·.2.2) := by
  unfold findC prF findF
  induction fs with
  | nil => rfl
  | cons q fs ih =>
    by_cases c : q.1 = o
    · rw [List.map_cons, List.find?_cons_of_pos (by exact decide_eq_true c), List.find?_cons_of_pos (by exact decide_eq_true c)]
      rfl
    · rw [List.map_cons, List.find?_cons_of_neg (by simpa using c), List.find?_cons_of_neg (by simpa using c)]
      exact ih
theorem findF_mem {fs : List Fin} {o : Str} {q : Fin} (h : findF fs o = some q) : q ∈ fs ∧ q.1 = o := by
  unfold findF at h
  exact ⟨List.mem_of_find?_eq_some h, by simpa using List.find?_some h⟩
theorem findF_none {fs : List Fin} {o : Str} (h : findF fs o = none) : o ∉ fs.map (·.1) := fun z => by
  obtain ⟨q, hq, rfl⟩ := List.mem_map.mp z
  have := List.find?_eq_none.mp h q hq
  simp at this
/-- what a told profile is, in two dicts -/
structure TwoD (w : World) (H : Hp) (D R : Addr) (gs : List Fin) (rs : List (Str × Str)) (names : List Str) : Prop where
  hD : H D = some (mdo w D (rowsF gs))
  row : ∀ q ∈ gs, H q.2.1 = some (mdo w q.2.1 (rowsT q.2.2))
  keys : ∀ q ∈ gs, keysT q.2.2 = names
  hR : H R = some (mdo w R (rowsT rs))
  rk : keysT rs = names
theorem TwoD.same {w : World} {H H' : Hp} {D R : Addr} {gs : List Fin} {rs : List (Str × Str)} {names : List Str} (t : TwoD w H D R gs rs names) (s : Same H H') : TwoD w H' D R gs rs names := ⟨s _ _ t.hD, fun q hq => s _ _ (t.row q hq), t.keys, s _ _ t.hR, t.rk⟩
/-- an object holds these outcomes and reads, names ascending -/
structure PP (w : World) (C : Addr) (H : Hp) (x dx T D R : Addr) (gs : List Fin) (rs : List (Str × Str)) (names : List Str) : Prop where
  pa : PAt w C H x dx T D R gs rs
  rk : keysT rs = names
  nm : srt names = names
  keys : ∀ q ∈ gs, keysT q.2.2 = names
  few : gs.length ≤ 4 ∧ names.length ≤ 3
theorem PP.same {w : World} {C : Addr} {H H' : Hp} {x dx T D R : Addr} {gs : List Fin} {rs : List (Str × Str)} {names : List Str} (p : PP w C H x dx T D R gs rs names) (s : Same H H') : PP w C H' x dx T D R gs rs names :=
  ⟨⟨s _ _ p.pa.hx, s _ _ p.pa.hT, s _ _ p.pa.hD, s _ _ p.pa.hR, fun q hq => ⟨s _ _ (p.pa.row q hq).1, (p.pa.row q hq).2⟩, p.pa.fnd, p.pa.rnd, p.pa.len⟩, p.rk, p.nm, p.keys, p.few⟩
theorem PP.but {w : World} {C : Addr} {p : Addr} {H H' : Hp} {rows : List (Key × V)} {x dx T D R : Addr} {gs : List Fin} {rs : List (Str × Str)} {names : List Str} (P : PP w C H x dx T D R gs rs names) (sb : SameBut p H H') (hp : H p = some (.dK rows)) : PP w C H' x dx T D R gs rs names := by
  have k : ∀ {b : Addr} {u : HO}, H b = some u → u ≠ .dK rows → H' b = some u := fun {b u} e n => sb _ _ (fun z => n (by rw [z, hp] at e; exact (Option.some.inj e).symm)) e
  have m : ∀ {b : Addr} {es : List MRow}, mdo w b es ≠ .dK rows := fun {b es} z => by
    unfold mdo at z
    cases z
  exact ⟨⟨k P.pa.hx fun z => (nomatch z), k P.pa.hT fun z => (nomatch z), k P.pa.hD m, k P.pa.hR m, fun q hq => ⟨k (P.pa.row q hq).1 m, (P.pa.row q hq).2⟩, P.pa.fnd, P.pa.rnd, P.pa.len⟩, P.rk, P.nm, P.keys, P.few⟩
theorem PP.names {w : World} {C : Addr} {H : Hp} {x dx T D R : Addr} {gs : List Fin} {rs : List (Str × Str)} {names : List Str} (p : PP w C H x dx T D R gs rs names) : H T = some (.tup (names.map V.str)) := by
  have := p.pa.hT
  rw [p.rk, p.nm] at this
  exact this
theorem PP.two {w : World} {C : Addr} {H H' : Hp} {x dx T D R D' R' : Addr} {gs gs' : List Fin} {rs : List (Str × Str)} {names : List Str} (p : PP w C H x dx T D R gs rs names) (e : gs'.map (fun q => (q.1, q.2.2)) = gs.map fun q => (q.1, q.2.2)) (hD : H' D' = some (mdo w D' (rowsF gs'))) (row : ∀ q ∈ gs', H' q.2.1 = some (mdo w q.2.1 (rowsT q.2.2)))
    (hR : H' R' = some (mdo w R' (rowsT rs))) : TwoD w H' D' R' gs' rs names := ⟨hD, row, fun q hq => by
  obtain ⟨y, hy, _, e2⟩ := same_mem e hq
  rw [← e2]
  exact p.keys y hy, hR, p.rk⟩
theorem kvT_inj : ∀ {a b : List (Str × Str)}, kvT a = kvT b → a = b
  | [], [], _ => rfl
  | [], _ :: _, h => by cases h
  | _ :: _, [], h => by cases h
  | (x, y) :: a, (x2, y2) :: b, h => by
    have h : ((.str x, .str y) : PyData × PyData) :: kvT a = (.str x2, .str y2) :: kvT b := h
    injection h with h1 h2
    injection h1 with h3 h4
    injection h3 with h3
    injection h4 with h4
    rw [h3, h4, kvT_inj h2]
theorem kvF_inj : ∀ {a b : List Fin}, kvF a = kvF b → prF a = prF b
  | [], [], _ => rfl
  | [], _ :: _, h => by cases h
  | _ :: _, [], h => by cases h
  | p :: a, q :: b, h => by
    have h : ((.str p.1, .dict (kvT p.2.2)) : PyData × PyData) :: kvF a = (.str q.1, .dict (kvT q.2.2)) :: kvF b := h
    injection h with h1 h2
    injection h1 with h3 h4
    injection h3 with h3
    injection h4 with h4
    have e := kvF_inj h2
    show (p.1, p.2.2) :: prF a = (q.1, q.2.2) :: prF b
    rw [h3, kvT_inj h4, e]
def canC (cs : Cs) : Cs := (srt (cs.map (·.1))).map fun o => (o, ordT ((findC cs o).getD []))
theorem rowF_C (fs : List Fin) (o : Str) : rowF fs o = (findC (prF fs) o).getD [] := by
  rw [findC_prF]
  unfold rowF findF
  rfl
theorem prF_keys (fs : List Fin) : (prF fs).map (·.1) = fs.map (·.1) := by
  unfold prF
  rw [List.map_map]
  rfl
theorem ordF_can {fs gs : List Fin} (h : OrdF fs gs (srt (fs.map (·.1))).length) : prF gs = canC (prF fs) := by
  have e := h.eq
  rw [List.take_length] at e
  unfold canC
  rw [prF_keys]
  show gs.map (fun q => (q.1, q.2.2)) = _
  rw [e]
  refine List.map_congr_left fun o _ => ?_
  rw [rowF_C]
theorem findC_mem {cs : Cs} {o : Str} {ls : List (Str × Str)} (h : findC cs o = some ls) : (o, ls) ∈ cs := by
  unfold findC at h
  cases e : cs.find? fun q => decide (q.1 = o) with
  | none => rw [e] at h; cases h
  | some q =>
    rw [e] at h
    have h1 : q.1 = o := by simpa using List.find?_some e
    have h2 : q.2 = ls := Option.some.inj h
    rw [← h1, ← h2]
    exact List.mem_of_find?_eq_some e
theorem findC_none {cs : Cs} {o : Str} (h : findC cs o = none) : o ∉ cs.map (·.1) := fun z => by
  obtain ⟨q, hq, rfl⟩ := List.mem_map.mp z
  unfold findC at h
  have := List.find?_eq_none.mp (Option.map_eq_none_iff.mp h) q hq
  simp at this
theorem findC_map (g : Str → List (Str × Str)) (o : Str) : ∀ l : List Str, findC (l.map fun o => (o, g o)) o = if o ∈ l then some (g o) else none
  | [] => rfl
  | x :: l => by
    have ih := findC_map g o l
    unfold findC at ih ⊢
    by_cases c : x = o
    · subst c
      rw [List.map_cons, List.find?_cons_of_pos (by simp), if_pos List.mem_cons_self]
      rfl
    · rw [List.map_cons, List.find?_cons_of_neg (by simpa using c), ih]
      by_cases c2 : o ∈ l
      · rw [if_pos c2, if_pos (List.mem_cons_of_mem _ c2)]
      · rw [if_neg c2, if_neg fun z => (List.mem_cons.mp z).elim (fun y => c y.symm) c2]
theorem findC_can (cs : Cs) (o : Str) : findC (canC cs) o = (findC cs o).map ordT := by
  unfold canC
  rw [findC_map]
  cases h : findC cs o with
  | none =>
    rw [if_neg fun z => findC_none h (srt_mem.mp z)]
    rfl
  | some ls =>
    rw [if_pos (srt_mem.mpr (List.mem_map_of_mem (f := fun q : Str × List (Str × Str) => q.1) (findC_mem h)))]
    rfl
theorem look_ord {ls : List (Str × Str)} {x : Str} (nd : (keysT ls).Nodup) (hx : x ∈ keysT ls) : lookT (ordT ls) x = lookT ls x := by
  have m : (x, valT ls x) ∈ ordT ls := by
    unfold ordT
    exact List.mem_map_of_mem (f := fun x => (x, valT ls x)) (srt_mem.mpr hx)
  have := valT_self (ordT_nd nd) m
  exact this
/-- rows for these words -/
structure CsOk (words : List Str) (cs : Cs) (rs : List (Str × Str)) : Prop where
  keys : ∀ q ∈ cs, keysT q.2 = words
  lev : ∀ q ∈ cs, ∀ z ∈ q.2, z.2 ∈ endL
  rk : keysT rs = words
  rl : ∀ z ∈ rs, z.2 ∈ readL
  nd : words.Nodup
  ck : (cs.map (·.1)).Nodup
theorem lev_cases {l : Str} (h : l ∈ endL) : l = Str.ofString "set" ∨ l = Str.ofString "keep" ∨ l = Str.ofString "unset" := by
  simpa using h
theorem read_cases {l : Str} (h : l ∈ readL) : l = Str.ofString "none" ∨ l = Str.ofString "entry" ∨ l = Str.ofString "always" := by
  simpa using h
theorem key_lev {lv : List Str} {ls : List (Str × Str)} {words : List Str} (k : keysT ls = words) (l : ∀ z ∈ ls, z.2 ∈ lv) {x : Str} (hx : x ∈ words) : lookT ls x ∈ lv := by
  have : x ∈ ls.map (·.1) := by
    have k : ls.map (·.1) = words := k
    rw [k]
    exact hx
  exact l _ (lookT_mem this)
theorem row_all {ls : List (Str × Str)} {words : List Str} (k : keysT ls = words) {R : Str → Prop} : (∀ q ∈ ls, R q.1) ↔ ∀ x ∈ words, R x := by
  subst k
  constructor
  · intro h x hx
    obtain ⟨q, hq, rfl⟩ := List.mem_map.mp hx
    exact h q hq
  · intro h q hq
    exact h _ (List.mem_map_of_mem (f := fun q : Str × Str => q.1) hq)
end KF
end L2
end
/-! ### TA -/
section
namespace L2
namespace KF
open PySem PySem.Spec PyProof.Rows PySem.KD KE KC PySem.KA KM TL KS KH
/-! ## probes -/
def optV : Option Str → V
  | none => .non
  | some x => .str x
def optD : Option Str → PyData
  | none => .none
  | some x => .str x
/-- state, outcome, name -/
abbrev Pb := Option Str × Option Str × Option Str
def pbO (p : Pb) : HO := .tup [optV p.1, optV p.2.1, optV p.2.2]
def pbD (p : Pb) : PyData := .tuple [optD p.1, optD p.2.1, optD p.2.2]
def stL : List Str := ["set", "unset"]
inductive PbOk (names : List Str) : Pb → Prop
  | out (o : Str) : PbOk names (none, some o, none)
  | st (s : Str) (o : Option Str) (x : Str) (hs : s ∈ stL) (hx : x ∈ names) : PbOk names (some s, o, some x)
/-- whether an end, a read is unset for a name that is so at the call -/
def badE (l s : Str) : Bool := decide (l = Str.ofString "unset") || (decide (l = Str.ofString "keep") && decide (s = Str.ofString "unset"))
def badR (l s : Str) : Bool := decide (l = Str.ofString "always") || (decide (l = Str.ofString "entry") && decide (s = Str.ofString "unset"))
def toldC (cs : Cs) (rs : List (Str × Str)) (p : Pb) : Bool := match p with
  | (some s, none, some x) => badR (lookT rs x) s
  | (some s, some o, some x) => (match findC cs o with
    | none => false
    | some ls => badE (lookT ls x) s)
  | (none, some o, none) => (findC cs o).isSome
  | _ => false
/-! ## told_of -/
abbrev sTold : Stmt := topS 32
abbrev tdN : List Str := ["outcomes", "reads", "probe", "state", "outcome", "name", "end"]
theorem scTd : FnScope tdN ["outcomes", "reads", "probe"] (defScope sTold) := ⟨rfl, rfl, rfl, by decide +kernel, rfl, by decide +kernel, by decide +kernel⟩
section
variable {P : Program} {w : World} {K : PySem.W.Frag} {mg : Str → Option Value} {base : Heap}
def spTold (w : World) : Sp := fun vs H Q _ => ∃ (D R T : Addr) (gs : List Fin) (rs : List (Str × Str)) (names : List Str) (p : Pb), vs = [.ref D, .ref R, .ref T] ∧ TwoD w H D R gs rs names ∧ H T = some (pbO p) ∧ PbOk names p ∧ Q (.bl (toldC (prF gs) rs p)) H
theorem ok_told {f : Addr} {fd : FuncData} {k : Nat} (F : Fun K "told_of" "told_of" sTold f fd) : FnOk P w K mg base CX0 (k + 1) f fd ["outcomes", "reads", "probe"] (spTold w) := by
  refine F.ok scTd (fun vs H Q E h => ?_) (fun cdv A outer s H vs Q E hr h => ?_)
  · obtain ⟨_, _, _, _, _, _, _, rfl, _⟩ := h
    rfl
  · obtain ⟨D, R, T, gs, rs, names, p, rfl, TD, eT, ok, q⟩ := h
    have hu10 : (cxOf CX0 P w K mg base tdN "told_of" (defScope sTold) f cdv A outer s H E).nox.A.units + 10 < cLine := by
      have := hr.un
      show (A.deeper _).units + 10 < cLine
      omega
    refine ⟨_, pss_cons (ps_asg (pv 2) (pg_tup rfl (pgs_cons (pg_name (i := 3) scTd.nd rfl (.inl rfl)) (pgs_cons (pg_name (i := 4) scTd.nd rfl (.inl rfl)) (pgs_cons (pg_name (i := 5) scTd.nd rfl (.inl rfl)) pgs_nil)))))
      (pss_cons (ps_if (pt_cmpR op_isN (pv 4) pe_non (nomark _)) (pss_one (ps_ret (pe_or (pe_cmpR op_eq (pe_ix (ixM hu10) (pv 1) (pv 5) (fun _ _ => rfl)) pe_str (nomark _)) (pe_one (pe_and (pe_cmpR op_eq (pe_ix (ixM hu10) (pv 1) (pv 5) (fun _ _ => rfl)) pe_str (nomark _)) (pe_one (pe_cmpR op_eq (pv 3) pe_str (nomark _)))))))) pss_nil)
      (pss_cons (ps_if (pt_cmpR (op_ninM hu10) (pv 4) (pv 0) rfl) (pss_one (ps_ret pe_bl)) pss_nil)
      (pss_cons (ps_if (pt_cmpR op_isN (pv 3) pe_non (nomark _)) (pss_one (ps_ret pe_bl)) pss_nil)
      (pss_cons (ps_set (i := 6) scTd.nd rfl (.inl rfl) (pe_ix (ixM hu10) (pe_ix (ixM hu10) (pv 0) (pv 4) (fun _ _ => rfl)) (pv 5) (fun _ _ => rfl)))
      (pss_one (ps_ret (pe_or (pe_cmpR op_eq (pv 6) pe_str (nomark _)) (pe_one (pe_and (pe_cmpR op_eq (pv 6) pe_str (nomark _)) (pe_one (pe_cmpR op_eq (pv 3) pe_str (nomark _)))))))))))), ?_⟩
    refine ⟨.ref T, rfl, T, _, rfl, .inl (.inl eT), rfl, _, _, rfl, _, _, rfl, _, _, rfl, rfl, ?_⟩
    have rdR : Rd H R (mdo w R (rowsT rs)) := .inl TD.hR
    have rdD : Rd H D (mdo w D (rowsF gs)) := .inl TD.hD
    cases ok with
    | out o =>
      refine ⟨.str o, rfl, rfl, _, rfl, ?_⟩
      rw [show decide (V.str o = V.non) = false from rfl]
      refine iteF ⟨.str o, rfl, .ref D, rfl, D, rowsF gs, .text o, rfl, rdD, rowsF_all _ _, kAt.text _ _, _, rfl, ?_⟩
      rw [findF_at]
      have e : toldC (prF gs) rs (none, some o, none) = (findC (prF gs) o).isSome := rfl
      rw [e, findC_prF] at q
      cases h : findF gs o with
      | none =>
        rw [h] at q
        exact iteT q
      | some z =>
        rw [h] at q
        exact iteF ⟨.non, rfl, rfl, _, rfl, iteT q⟩
    | st s o x hs hx =>
      have lr : lookH (rowsT rs) (.text x) = some (.text x, .str x, .str (lookT rs x)) := lookT_at (by
        have := TD.rk
        unfold keysT at this
        rw [this]
        exact hx)
      cases o with
      | none =>
        refine ⟨.non, rfl, rfl, _, rfl, ?_⟩
        rw [show decide (V.non = V.non) = true from rfl]
        refine iteT ⟨.ref R, rfl, .str x, rfl, R, rowsT rs, .text x, _, rfl, rdR, rowsT_all _ _, kAt.text _ _, lr, rfl, _, rfl, ?_⟩
        have e : toldC (prF gs) rs (some s, none, some x) = badR (lookT rs x) s := rfl
        rw [e] at q
        unfold badR at q
        by_cases c1 : lookT rs x = Str.ofString "always"
        · rw [show decide (V.str (lookT rs x) = V.str (Str.ofString "always")) = true by rw [c1]; simp]
          rw [decide_eq_true c1] at q
          exact iteT q
        · rw [show decide (V.str (lookT rs x) = V.str (Str.ofString "always")) = false by simpa using c1]
          rw [decide_eq_false c1, Bool.false_or] at q
          refine iteF ⟨.ref R, rfl, .str x, rfl, R, rowsT rs, .text x, _, rfl, rdR, rowsT_all _ _, kAt.text _ _, lr, rfl, _, rfl, ?_⟩
          by_cases c2 : lookT rs x = Str.ofString "entry"
          · rw [show decide (V.str (lookT rs x) = V.str (Str.ofString "entry")) = true by rw [c2]; simp]
            rw [decide_eq_true c2, Bool.true_and] at q
            refine iteT ⟨.str s, rfl, rfl, ?_⟩
            rw [show decide (V.str s = V.str (Str.ofString "unset")) = decide (s = Str.ofString "unset") by simp]
            exact q
          · rw [show decide (V.str (lookT rs x) = V.str (Str.ofString "entry")) = false by simpa using c2]
            rw [decide_eq_false c2, Bool.false_and] at q
            exact iteF q
      | some o =>
        refine ⟨.str o, rfl, rfl, _, rfl, ?_⟩
        rw [show decide (V.str o = V.non) = false from rfl]
        refine iteF ⟨.str o, rfl, .ref D, rfl, D, rowsF gs, .text o, rfl, rdD, rowsF_all _ _, kAt.text _ _, _, rfl, ?_⟩
        rw [findF_at]
        have e : toldC (prF gs) rs (some s, some o, some x) = (match findC (prF gs) o with | none => false | some ls => badE (lookT ls x) s) := rfl
        rw [e, findC_prF] at q
        cases h : findF gs o with
        | none =>
          rw [h] at q
          exact iteT q
        | some z =>
          rw [h] at q
          have q : Q (.bl (badE (lookT z.2.2 x) s)) H := q
          obtain ⟨hz, ez⟩ := findF_mem h
          have lz : lookH (rowsT z.2.2) (.text x) = some (.text x, .str x, .str (lookT z.2.2 x)) := lookT_at (by
            have := TD.keys z hz
            unfold keysT at this
            rw [this]
            exact hx)
          refine iteF ⟨.str s, rfl, rfl, _, rfl, ?_⟩
          rw [show decide (V.str s = V.non) = false from rfl]
          refine iteF ⟨.ref D, rfl, .str o, rfl, D, rowsF gs, .text o, (.text z.1, .str z.1, .ref z.2.1), rfl, rdD, rowsF_all _ _, kAt.text _ _, by rw [findF_at, h]; rfl, .str x, rfl, z.2.1, rowsT z.2.2, .text x, _, rfl, .inl (TD.row z hz), rowsT_all _ _, kAt.text _ _, lz, ?_⟩
          refine ⟨_, rfl, rfl, _, rfl, ?_⟩
          unfold badE at q
          by_cases c1 : lookT z.2.2 x = Str.ofString "unset"
          · rw [show decide (V.str (lookT z.2.2 x) = V.str (Str.ofString "unset")) = true by rw [c1]; simp]
            rw [decide_eq_true c1] at q
            exact iteT q
          · rw [show decide (V.str (lookT z.2.2 x) = V.str (Str.ofString "unset")) = false by simpa using c1]
            rw [decide_eq_false c1, Bool.false_or] at q
            refine iteF ⟨_, rfl, rfl, _, rfl, ?_⟩
            by_cases c2 : lookT z.2.2 x = Str.ofString "keep"
            · rw [show decide (V.str (lookT z.2.2 x) = V.str (Str.ofString "keep")) = true by rw [c2]; simp]
              rw [decide_eq_true c2, Bool.true_and] at q
              refine iteT ⟨.str s, rfl, rfl, ?_⟩
              rw [show decide (V.str s = V.str (Str.ofString "unset")) = decide (s = Str.ofString "unset") by simp]
              exact q
            · rw [show decide (V.str (lookT z.2.2 x) = V.str (Str.ofString "keep")) = false by simpa using c2]
              rw [decide_eq_false c2, Bool.false_and] at q
              exact iteF q
end
end KF
end L2
end
/-! ### TB -/
section
namespace L2
namespace KF
open PySem PySem.Spec PyProof.Rows PySem.KD KE KC PySem.KA KM TL KS KH
/-! ## is_tuple_of, is_probe -/
abbrev sTup : Stmt := topS 5
abbrev sIPb : Stmt := topS 31
abbrev ipN : List Str := ["value", "names", "state", "outcome", "name"]
theorem scTup : FnScope ["value", "many"] ["value", "many"] (defScope sTup) := ⟨rfl, rfl, rfl, by decide +kernel, rfl, by decide +kernel, by decide +kernel⟩
theorem scIPb : FnScope ipN ["value", "names"] (defScope sIPb) := ⟨rfl, rfl, rfl, by decide +kernel, rfl, by decide +kernel, by decide +kernel⟩
def isTupN (n : Nat) : PyData → Bool
  | .tuple ds => decide (ds.length = n)
  | _ => false
def isNoneD : PyData → Bool
  | .none => true
  | _ => false
theorem none_rep {w : World} {H : Hp} {v : V} {d : PyData} {f : List Addr} (r : RepA w H v d f) : decide (v = V.non) = isNoneD d := by
  cases r <;> simp [isNoneD]
def inD (xs : List Str) : PyData → Bool
  | .str x => decide (x ∈ xs)
  | _ => false
/-- a probe for these names -/
def probeD (names : List Str) : PyData → Bool
  | .tuple [a, b, c] => if isNoneD a then outD b && isNoneD c else inD stL a && inD names c && (isNoneD b || outD b)
  | _ => false
section
variable {P : Program} {w : World} {K : PySem.W.Frag} {mg : Str → Option Value} {base : Heap}
structure BltT (mg : Str → Option Value) : Prop where
  isi : mg "isinstance" = none
  tuple : mg "tuple" = none
  str : mg "str" = none
  len : mg "len" = none
def spTupN (w : World) : Sp := fun vs H Q _ => ∃ v d fp n, vs = [v, .int ((n : Nat) : Int)] ∧ RepA w H v d fp ∧ Q (.bl (isTupN n d)) H
theorem ok_tupN {f : Addr} {fd : FuncData} {k : Nat} (F : Fun K "is_tuple_of" "is_tuple_of" sTup f fd) (B : BltT mg) : FnOk P w K mg base CX0 (k + 1) f fd ["value", "many"] (spTupN w) := by
  refine F.ok scTup (fun vs H Q E h => ?_) (fun cdv A outer s H vs Q E hr h => ?_)
  · obtain ⟨_, _, _, _, rfl, _⟩ := h
    rfl
  · obtain ⟨v, d, fp, n, rfl, rp, q⟩ := h
    refine ⟨_, pss_one (ps_ret (pe_and (pe_callB callIsD (by rfl) B.isi boot_isinstance (pa_cons (pv 0) (pa_cons (pe_bltn (v := .ty "tuple") (by rfl) B.tuple (by decide +kernel) rfl) pa_nil)))
      (pe_one (pe_cmpR op_eq (pe_callB call_len_seq (by rfl) B.len PySem.boot_len (pa_cons (pv 0) pa_nil)) (pv 1) (nomark _))))), ?_⟩
    refine ⟨v, rfl, v, d, fp, "tuple", isTupD d, rfl, rp.rep, kitTup d, isTupD d, rfl, ?_⟩
    cases rp with
    | @tup a vs ds f e r =>
      refine iteT ⟨.ref a, rfl, a, vs, rfl, .inr (.inl (.inl e)), .int n, rfl, rfl, ?_⟩
      rw [show decide (V.int ((vs.length : Nat) : Int) = V.int ((n : Nat) : Int)) = isTupN n (.tuple ds) from by
        show _ = decide (ds.length = n)
        rw [← r.length]
        by_cases z : vs.length = n
        · rw [decide_eq_true z, decide_eq_true (by rw [z])]
        · rw [decide_eq_false z, decide_eq_false fun y => z (by injection y with y; omega)]]
      exact q
    | none => exact iteF q
    | bool b => exact iteF q
    | int i => exact iteF q
    | str x => exact iteF q
    | lst e r => exact iteF q
    | dct e _ _ _ _ _ => exact iteF q
def spIPb (w : World) : Sp := fun vs H Q _ => ∃ v d fp Tn names, vs = [v, .ref Tn] ∧ RepA w H v d fp ∧ H Tn = some (.tup (names.map V.str)) ∧ Nice 5 70 3000 d ∧ ∀ H', Same H H' → Q (.bl (probeD names d)) H'
theorem split3 {w : World} {H : Hp} {vs : List V} {ds : List PyData} {f : List Addr} (r : RepAA w H vs ds f) (h : ds.length = 3) : ∃ v1 v2 v3 d1 d2 d3 f1 f2 f3, vs = [v1, v2, v3] ∧ ds = [d1, d2, d3] ∧ RepA w H v1 d1 f1 ∧ RepA w H v2 d2 f2 ∧ RepA w H v3 d3 f3 := by
  cases r with
  | nil => cases h
  | cons a r =>
    cases r with
    | nil => cases h
    | cons b r =>
      cases r with
      | nil => cases h
      | cons c r =>
        cases r with
        | nil => exact ⟨_, _, _, _, _, _, _, _, _, rfl, rfl, a, b, c⟩
        | cons _ _ => cases h
theorem ok_iPb {f fT fI fW : Addr} {fd fdT fdI fdW : FuncData} (F : Fun K "is_probe" "is_probe" sIPb f fd) (FT : Fun K "is_tuple_of" "is_tuple_of" sTup fT fdT) (gT : mg "is_tuple_of" = some (.ref fT)) (bT : Binds K fdT ["value", "many"] [])
    (FI : Fun K "is_outcome" "is_outcome" sIO fI fdI) (gI : mg "is_outcome" = some (.ref fI)) (bI : Binds K fdI ["value"] []) (FW : Fun K "has_word_form" "has_word_form" sIsWord fW fdW) (gW : mg "has_word_form" = some (.ref fW)) (bW : Binds K fdW ["value"] [])
    (B : BltT mg) (BI : BltI mg) (S : ∃ t, mg "STATES" = some (.ref t) ∧ ∀ H, SqT K H t (stL.map V.str)) : FnOk P w K mg base CX0 3 f fd ["value", "names"] (spIPb w) := by
  have GT : FnOk P w K mg base CX0 1 fT fdT ["value", "many"] (spTupN w) := ok_tupN FT B
  have GI : FnOk P w K mg base CX0 2 fI fdI ["value"] (spTest w outD) := ok_io FI FW gW bW BI
  obtain ⟨tS, gS, sS⟩ := S
  refine F.ok scIPb (fun vs H Q E h => ?_) (fun cdv A outer s H vs Q E hr h => ?_)
  · obtain ⟨_, _, _, _, _, rfl, _⟩ := h
    rfl
  · obtain ⟨v, d, fp, Tn, names, rfl, rp, eN, nc, q⟩ := h
    refine ⟨_, pss_cons (ps_if (pt_not (pt_val (pe_call GT (hr.mono (by decide)) (by rfl) gT FT.kp bT .nil pass0 (pa_cons (pv 0) (pa_cons pe_int pa_nil))))) (pss_one (ps_ret pe_bl)) pss_nil)
      (pss_cons (ps_asg (pv 0) (pg_tup rfl (pgs_cons (pg_name (i := 2) scIPb.nd rfl (.inl rfl)) (pgs_cons (pg_name (i := 3) scIPb.nd rfl (.inl rfl)) (pgs_cons (pg_name (i := 4) scIPb.nd rfl (.inl rfl)) pgs_nil)))))
      (pss_cons (ps_if (pt_cmpR op_isN (pv 2) pe_non (nomark _)) (pss_one (ps_ret (pe_and (pe_call GI hr (by rfl) gI FI.kp bI .nil pass0 (pa_cons (pv 3) pa_nil)) (pe_one (pe_cmpR op_isN (pv 4) pe_non (nomark _)))))) pss_nil)
      (pss_cons (ps_if (PW.pt (pw_or (pt_not (pt_val (pe_callB callIsD (by rfl) B.isi boot_isinstance (pa_cons (pv 2) (pa_cons (pe_bltn (v := .ty "str") (by rfl) B.str boot_str rfl) pa_nil)))))
          (pw_or (pt_cmpR op_notIn_seq (pv 2) (pe_glob (v := .ref tS) (by rfl) gS rfl) (by rfl))
          (pw_or (pt_not (pt_val (pe_callB callIsD (by rfl) B.isi boot_isinstance (pa_cons (pv 4) (pa_cons (pe_bltn (v := .ty "str") (by rfl) B.str boot_str rfl) pa_nil)))))
          (pw_or1 (pt_cmpR op_notIn_seq (pv 4) (pv 1) (by rfl))))))) (pss_one (ps_ret pe_bl)) pss_nil)
      (pss_one (ps_ret (pe_or (pe_cmpR op_isN (pv 3) pe_non (nomark _)) (pe_one (pe_call GI hr (by rfl) gI FI.kp bI .nil pass0 (pa_cons (pv 3) pa_nil))))))))), ?_⟩
    refine ⟨v, rfl, v, d, fp, 3, rfl, rp, isTupN 3 d, rfl, ?_⟩
    cases hT : isTupN 3 d with
    | false =>
      refine iteT ?_
      have e : probeD names d = false := by
        cases d with
        | tuple ds =>
          have h3 : ds.length ≠ 3 := of_decide_eq_false hT
          match ds, h3 with
          | [], _ => rfl
          | [_], _ => rfl
          | [_, _], _ => rfl
          | [_, _, _], h => exact absurd rfl h
          | _ :: _ :: _ :: _ :: _, _ => rfl
        | _ => rfl
      have fin := q H (Same.refl H)
      rw [e] at fin
      exact fin
    | true =>
      refine iteF ?_
      cases rp with
      | @tup T vs ds f eT r =>
        obtain ⟨v1, v2, v3, d1, d2, d3, f1, f2, f3, rfl, rfl, r1, r2, r3⟩ := split3 r (of_decide_eq_true hT)
        have part : ∀ x ∈ [d1, d2, d3], ∀ y, x = .str y → y.length ≤ 3000 := fun x hx y e => by
          have h5 := nc.wt
          have z : x.weight ≤ 3000 := Nat.le_trans (by
            simp only [PyData.weight, PyData.weightAll]
            simp only [List.mem_cons, List.not_mem_nil, or_false] at hx
            rcases hx with rfl | rfl | rfl <;> omega) h5
          rw [e] at z
          simp only [PyData.weight] at z
          have : y.length = y.cps.size := rfl
          omega
        refine ⟨.ref T, rfl, T, _, rfl, .inl (.inl eT), rfl, _, _, rfl, _, _, rfl, _, _, rfl, rfl, ?_⟩
        refine ⟨v1, rfl, rfl, _, rfl, ?_⟩
        rw [none_rep r1]
        have e0 : probeD names (.tuple [d1, d2, d3]) = if isNoneD d1 then outD d2 && isNoneD d3 else inD stL d1 && inD names d3 && (isNoneD d2 || outD d2) := rfl
        rw [e0] at q
        cases hn : isNoneD d1 with
        | true =>
          rw [hn, if_pos rfl] at q
          refine iteT ⟨v2, rfl, v2, d2, f2, rfl, r2.rep, part d2 (by simp), fun H' s' => ⟨outD d2, rfl, ?_⟩⟩
          cases ho : outD d2 with
          | false =>
            rw [ho, Bool.false_and] at q
            exact iteF (q H' s')
          | true =>
            rw [ho, Bool.true_and] at q
            refine iteT ⟨v3, rfl, rfl, ?_⟩
            rw [none_rep r3]
            exact q H' s'
        | false =>
          rw [hn, if_neg Bool.false_ne_true] at q
          refine iteF ⟨v1, rfl, v1, d1, f1, "str", isStrD d1, rfl, r1.rep, kitStr d1, isStrD d1, rfl, ?_⟩
          cases h1 : isStrD d1 with
          | false =>
            have e : inD stL d1 = false := by
              cases d1 with
              | str x => cases h1
              | _ => rfl
            rw [e, Bool.false_and, Bool.false_and] at q
            exact iteT (iteT (q H (Same.refl H)))
          | true =>
            refine iteF ?_
            cases r1 with
            | str x =>
              refine ⟨.str x, rfl, tS, _, rfl, .inr (sS _), rfl, by decide, _, rfl, ?_⟩
              rw [if_pos rfl, inV_strs]
              have e : inD stL (.str x) = decide (x ∈ stL) := rfl
              rw [e] at q
              by_cases hx : x ∈ stL
              · rw [decide_eq_true hx] at q ⊢
                rw [Bool.true_and] at q
                refine iteF ⟨v3, rfl, v3, d3, f3, "str", isStrD d3, rfl, r3.rep, kitStr d3, isStrD d3, rfl, ?_⟩
                cases h3 : isStrD d3 with
                | false =>
                  have e : inD names d3 = false := by
                    cases d3 with
                    | str x => cases h3
                    | _ => rfl
                  rw [e, Bool.false_and] at q
                  exact iteT (iteT (q H (Same.refl H)))
                | true =>
                  refine iteF ?_
                  cases r3 with
                  | str y =>
                    refine ⟨_, rfl, .ref Tn, rfl, Tn, names.map V.str, rfl, .inr (.inl (.inl eN)), rfl, by rw [List.all_map]; exact List.all_eq_true.mpr fun _ _ => rfl, _, rfl, ?_⟩
                    rw [if_pos rfl, inV_strs]
                    have e : inD names (.str y) = decide (y ∈ names) := rfl
                    rw [e] at q
                    by_cases hy : y ∈ names
                    · rw [decide_eq_true hy] at q ⊢
                      rw [Bool.true_and] at q
                      refine iteF ⟨v2, rfl, rfl, _, rfl, ?_⟩
                      rw [none_rep r2]
                      cases h2 : isNoneD d2 with
                      | true =>
                        rw [h2, Bool.true_or] at q
                        exact iteT (q H (Same.refl H))
                      | false =>
                        rw [h2, Bool.false_or] at q
                        exact iteF ⟨v2, rfl, v2, d2, f2, rfl, r2.rep, part d2 (by simp), fun H' s' => q H' s'⟩
                    · rw [decide_eq_false hy] at q ⊢
                      rw [Bool.false_and] at q
                      exact iteT (q H (Same.refl H))
                  | _ => cases h3
              · rw [decide_eq_false hx] at q ⊢
                rw [Bool.false_and, Bool.false_and] at q
                exact iteT (iteT (q H (Same.refl H)))
            | _ => cases h1
      | _ => cases hT
end
end KF
end L2
end
/-! ### TC -/
section
namespace L2
namespace KF
open PySem PySem.Spec PyProof.Rows PySem.KD KE KC PySem.KA KM TL KS KH
/-! ## probes_of -/
abbrev sPO : Stmt := topS 29
abbrev poN : List Str := ["names", "outcomes", "probes", "state", "name", "outcome"]
theorem scPO : FnScope poN ["names", "outcomes"] (defScope sPO) := ⟨rfl, rfl, rfl, by decide +kernel, rfl, by decide +kernel, by decide +kernel⟩
def pbsN (outs : List Str) (s x : Str) : List Pb := (some s, none, some x) :: outs.map fun o => (some s, some o, some x)
def pbsS (names outs : List Str) (s : Str) : List Pb := names.flatMap (pbsN outs s)
def pbsOf (names outs : List Str) : List Pb := (outs.map fun o => (none, some o, none)) ++ stL.flatMap (pbsS names outs)
/-- a list of probes that is made -/
structure PbList (H0 H : Hp) (L : Addr) (ps : List Pb) : Prop where
  off : ∀ b u, H0 b = some u → H b = some u
  ex : ∃ ts : List Addr, H L = some (.lst (ts.map V.ref)) ∧ Paired (fun (t : Addr) (p : Pb) => H t = some (pbO p)) ts ps
theorem pb_ne {H : Hp} {L : Addr} {xs : List V} {ts : List Addr} {ps : List Pb} (e : H L = some (.lst xs)) (p : Paired (fun (t : Addr) (p : Pb) => H t = some (pbO p)) ts ps) : ∀ t ∈ ts, t ≠ L := by
  induction p with
  | nil => exact fun _ z => nomatch z
  | cons h _ ih =>
    intro t ht
    rcases List.mem_cons.mp ht with rfl | ht
    · intro z
      rw [z, e] at h
      cases h
    · exact ih t ht
theorem paired_ne {H H' : Hp} {L : Addr} {ts : List Addr} {ps : List Pb} (p : Paired (fun (t : Addr) (p : Pb) => H t = some (pbO p)) ts ps) (n : ∀ t ∈ ts, t ≠ L) (k : ∀ b u, b ≠ L → H b = some u → H' b = some u) : Paired (fun (t : Addr) (p : Pb) => H' t = some (pbO p)) ts ps := by
  induction p with
  | nil => exact .nil
  | cons h _ ih => exact .cons (k _ _ (n _ List.mem_cons_self) h) (ih fun t ht => n t (List.mem_cons_of_mem _ ht))
theorem PbList.nil {H : Hp} {L : Addr} (n : H L = none) : PbList H (upd H L (.lst [])) L [] := ⟨same_upd n, [], upd_same, .nil⟩
/-- more at its end -/
theorem PbList.more {H0 H H' : Hp} {L : Addr} {ps qs : List Pb} {us : List Addr} (B : PbList H0 H L ps) (n : H0 L = none) (s : Same H H') (r : Paired (fun (t : Addr) (p : Pb) => H' t = some (pbO p)) us qs) :
    ∃ ts : List Addr, H' L = some (.lst (ts.map V.ref)) ∧ ts.length = ps.length ∧ PbList H0 (upd H' L (.lst (ts.map V.ref ++ us.map V.ref))) L (ps ++ qs) := by
  obtain ⟨ts, e, p⟩ := B.ex
  have e' := s _ _ e
  refine ⟨ts, e', Paired.length p, fun b u eb => ?_, ts ++ us, by rw [upd_same, List.map_append], paired_append (paired_ne p (pb_ne e p) fun b u nb eb => ?_) (paired_ne r (pb_ne e' r) fun b u nb eb => ?_)⟩
  · rw [upd_ne fun z => by rw [z, n] at eb; cases eb]
    exact s _ _ (B.off b u eb)
  · rw [upd_ne nb]
    exact s _ _ eb
  · rw [upd_ne nb]
    exact eb
theorem PbList.on {H0 H1 H : Hp} {L : Addr} {ps : List Pb} (B : PbList H1 H L ps) (s : Same H0 H1) : PbList H0 H L ps := ⟨fun b u e => B.off b u (s _ _ e), B.ex⟩
theorem take_map {α β : Type} (f : α → β) (l : List α) (i : Nat) {x : α} (h : l[i]? = some x) : (l.map f).take (i + 1) = (l.map f).take i ++ [f x] := by
  rw [List.take_add_one, List.getElem?_map, h]
  rfl
theorem flat_take {α β : Type} (f : α → List β) (l : List α) (i : Nat) {x : α} (h : l[i]? = some x) : (l.take (i + 1)).flatMap f = (l.take i).flatMap f ++ f x := by
  rw [List.take_add_one, h, List.flatMap_append]
  simp
section
variable {P : Program} {w : World} {K : PySem.W.Frag} {mg : Str → Option Value} {base : Heap}
def spPO : Sp := fun vs H Q _ => ∃ (Tn Lo : Addr) (names outs : List Str), vs = [.ref Tn, .ref Lo] ∧ H Tn = some (.tup (names.map V.str)) ∧ H Lo = some (.lst (outs.map V.str)) ∧ names.length ≤ 3 ∧ outs.length ≤ 4 ∧
  ∀ H' L, Same H H' → H L = none → PbList H H' L (pbsOf names outs) → Q (.ref L) H'
theorem ok_po {f : Addr} {fd : FuncData} {k : Nat} (F : Fun K "probes_of" "probes_of" sPO f fd) (S : ∃ t, mg "STATES" = some (.ref t) ∧ ∀ H, SqT K H t (stL.map V.str)) : FnOk P w K mg base CX0 (k + 1) f fd ["names", "outcomes"] spPO := by
  obtain ⟨tS, gS, sS⟩ := S
  refine F.ok scPO (fun vs H Q E h => ?_) (fun cdv A outer s H vs Q E hr h => ?_)
  · obtain ⟨_, _, _, _, rfl, _⟩ := h
    rfl
  · obtain ⟨Tn, Lo, names, outs, rfl, eN, eO, n3, o4, q⟩ := h
    refine ⟨_, pss_cons (ps_setLc (i := 2) (own := [("outcome", 5)]) (g := gName 5) (tt := tYes) rfl scPO.nd rfl rfl rfl (pi_list (pv 1))
          (blkOk_by (N := poN) (sc := defScope sPO) (by decide +kernel)) (fun _ _ _ _ _ => pg_name (i := 5) scPO.nd rfl (Or.inl rfl)) (fun _ _ _ _ _ => pts_nil)
          (fun _ _ _ _ _ => pe_tup (pa_cons pe_non (pa_cons (pv 5) (pa_cons pe_non pa_nil)))))
      (pss_cons (ps_for PassesOwn.never rfl (pi_tup (pe_glob (v := .ref tS) (by rfl) gS rfl)) (pg_name (i := 3) scPO.nd rfl (.inr rfl))
        (pss_one (ps_for PassesOwn.never rfl (pi_tup (pv 0)) (pg_name (i := 4) scPO.nd rfl (.inr rfl))
          (pss_cons (ps_expr (pe_bm PySem.F.plainAttrs_list PySem.F.slot_list_append PySem.F.type_list_append mt_append (pv 2) (pa_cons (pe_tup (pa_cons (pv 3) (pa_cons pe_non (pa_cons (pv 4) pa_nil)))) pa_nil)))
          (pss_one (ps_expr (pe_bm PySem.F.plainAttrs_list PySem.F.slot_list_extend PySem.F.type_list_extend mt_extend (pv 2) (pa_cons (pe_lc (own := [("outcome", 5)]) (g := gName 5) (tt := tYes) rfl scPO.nd (pi_list (pv 1))
            (blkOk_by (N := poN) (sc := defScope sPO) (by decide +kernel)) (fun _ _ _ _ _ => pg_name (i := 5) scPO.nd rfl (Or.inl rfl)) (fun _ _ _ _ _ => pts_nil)
            (fun _ _ _ _ _ => pe_tup (pa_cons (pv 3) (pa_cons (pv 5) (pa_cons (pv 4) pa_nil))))) pa_nil))))))))
      (pss_one (ps_ret (pv 2)))), ?_⟩
    refine c_seq (c_asg (c_lc ⟨.ref Lo, rfl, Lo, rfl, ⟨_, .inl (.inl eO)⟩, fun L nL => ?_⟩))
    refine lc_list (a := Lo) (xs := outs.map V.str) (fun i Hi => PbList H Hi L ((outs.map fun o => ((none, some o, none) : Pb)).take i)) (PbList.nil nL) (fun i Hi _ S => .inl (.inl (S.off _ _ eO))) (fun i y Hi hy S => ?_) (fun Hi S => ?_)
    · rw [List.getElem?_map] at hy
      obtain ⟨o, ho, rfl⟩ := Option.map_eq_some_iff.mp hy
      refine c_name ⟨wipe_one _ 5 _, .str o, rfl, by show 3 ≤ sizeLine; decide, fun T nT => ?_⟩
      obtain ⟨ts, e, lt, B⟩ := S.more (us := [T]) (qs := [(none, some o, none)]) nL (same_upd (o := HO.tup [.non, .str o, .non]) nT) (.cons upd_same .nil)
      rw [take_map _ _ _ ho]
      exact ⟨_, e, small1000 (by rw [List.length_map, lt, List.length_take, List.length_map]; omega), B⟩
    · rw [List.length_map] at S
      rw [show (outs.map fun o => ((none, some o, none) : Pb)).take outs.length = outs.map fun o => ((none, some o, none) : Pb) from List.take_of_length_le (by rw [List.length_map]; exact Nat.le_refl _)] at S
      refine c_name (c_nx (c_seq ?_))
      refine ⟨tS, rfl, ⟨_, sS _⟩, ?_⟩
      have lo : (outs.map fun o => ((none, some o, none) : Pb)).length ≤ 4 := by rw [List.length_map]; exact o4
      generalize hB : (outs.map fun o => ((none, some o, none) : Pb)) = base0 at S lo
      refine for_tup (a := tS) (xs := stL.map V.str) (fun i σ Hi => (∃ y3 y4 y5, σ = [some (.ref Tn), some (.ref Lo), some (.ref L), y3, y4, y5]) ∧ PbList H Hi L (base0 ++ (stL.take i).flatMap (pbsS names outs))) ⟨⟨_, _, _, rfl⟩, by rw [List.take_zero, List.flatMap_nil, List.append_nil]; exact S⟩ (fun i σ Hi _ _ => sS _) (fun i y σ Hi hy Z => ?_) (fun σ Hi Z => ?_)
      · rw [List.getElem?_map] at hy
        obtain ⟨st, hst, rfl⟩ := Option.map_eq_some_iff.mp hy
        obtain ⟨⟨y3, y4, y5, rfl⟩, S1⟩ := Z
        have i2 : i < 2 := (List.getElem?_eq_some_iff.mp hst).1
        refine c_name ?_
        refine ⟨.ref Tn, rfl, Tn, rfl, ⟨_, .inl (.inl (S1.off _ _ eN))⟩, ?_⟩
        have len1 : (base0 ++ (stL.take i).flatMap (pbsS names outs)).length ≤ 40 := by
          have h1 : ∀ l : List Str, l.length ≤ 2 → (l.flatMap (pbsS names outs)).length ≤ l.length * 15 := fun l _ => by
            induction l with
            | nil => exact Nat.zero_le _
            | cons a l ih =>
              rw [List.flatMap_cons, List.length_append, List.length_cons]
              have h2 : (pbsS names outs a).length ≤ 15 := by
                unfold pbsS
                have h3 : ∀ ns : List Str, (ns.flatMap (pbsN outs a)).length ≤ ns.length * 5 := fun ns => by
                  induction ns with
                  | nil => exact Nat.zero_le _
                  | cons b ns ih =>
                    rw [List.flatMap_cons, List.length_append, List.length_cons]
                    have : (pbsN outs a b).length ≤ 5 := by
                      unfold pbsN
                      rw [List.length_cons, List.length_map]
                      omega
                    omega
                have := h3 names
                omega
              have := ih (by simp only [List.length_cons] at *; omega)
              omega
          have := h1 (stL.take i) (by rw [List.length_take]; omega)
          rw [List.length_append]
          rw [List.length_take] at this
          omega
        generalize hb1 : base0 ++ (stL.take i).flatMap (pbsS names outs) = base1 at S1 len1
        refine for_tup (a := Tn) (xs := names.map V.str) (fun j σ Hj => (∃ y4 y5, σ = [some (.ref Tn), some (.ref Lo), some (.ref L), some (.str st), y4, y5]) ∧ PbList H Hj L (base1 ++ (names.take j).flatMap (pbsN outs st))) ⟨⟨_, _, rfl⟩, by rw [List.take_zero, List.flatMap_nil, List.append_nil]; exact S1⟩ (fun j σ Hj _ Z => .inl (.inl (Z.2.off _ _ eN))) (fun j y σ Hj hy Z => ?_) (fun σ Hj Z => ?_)
        · rw [List.getElem?_map] at hy
          obtain ⟨x, hx, rfl⟩ := Option.map_eq_some_iff.mp hy
          obtain ⟨⟨y4, y5, rfl⟩, S2⟩ := Z
          have j3 : j < 3 := Nat.lt_of_lt_of_le (List.getElem?_eq_some_iff.mp hx).1 n3
          have len2 : (base1 ++ (names.take j).flatMap (pbsN outs st)).length ≤ 60 := by
            have h3 : ∀ ns : List Str, (ns.flatMap (pbsN outs st)).length ≤ ns.length * 5 := fun ns => by
              induction ns with
              | nil => exact Nat.zero_le _
              | cons b ns ih =>
                rw [List.flatMap_cons, List.length_append, List.length_cons]
                have : (pbsN outs st b).length ≤ 5 := by
                  unfold pbsN
                  rw [List.length_cons, List.length_map]
                  omega
                omega
            have := h3 (names.take j)
            rw [List.length_take] at this
            rw [List.length_append]
            omega
          rw [flat_take _ _ _ hx, ← List.append_assoc]
          generalize base1 ++ (names.take j).flatMap (pbsN outs st) = base2 at S2 len2
          refine c_name ?_
          obtain ⟨ts0, e0, p0⟩ := id S2.ex
          refine ⟨.ref L, rfl, .inl ⟨rfl, _, .inl (.inl e0)⟩, .str st, rfl, .str x, rfl, by show 3 ≤ sizeLine; decide, fun T nT => ?_⟩
          obtain ⟨ts, e, lt, B⟩ := S2.more (us := [T]) (qs := [(some st, none, some x)]) nL (same_upd (o := HO.tup [.str st, .non, .str x]) nT) (.cons upd_same .nil)
          refine ⟨L, _, _, rfl, rfl, e, small1000 (by rw [List.length_map, lt]; omega), ?_⟩
          have B : PbList H (upd (upd Hj T (.tup [.str st, .non, .str x])) L (.lst (ts.map V.ref ++ [V.ref T]))) L (base2 ++ [(some st, none, some x)]) := B
          revert B
          generalize upd (upd Hj T (.tup [.str st, .non, .str x])) L (.lst (ts.map V.ref ++ [V.ref T])) = H3
          intro B
          obtain ⟨ts1, e1, p1⟩ := id B.ex
          refine c_nx ?_
          refine ⟨.ref L, rfl, .inl ⟨rfl, _, .inl (.inl e1)⟩, ?_⟩
          refine c_lc ⟨.ref Lo, rfl, Lo, rfl, ⟨_, .inl (.inl (B.off _ _ eO))⟩, fun M nM => ?_⟩
          refine lc_list (a := Lo) (xs := outs.map V.str) (fun i Hi => PbList H3 Hi M ((outs.map fun o => ((some st, some o, some x) : Pb)).take i)) (PbList.nil nM) (fun i Hi _ S => .inl (.inl (S.off _ _ (B.off _ _ eO)))) (fun i y Hi hy S => ?_) (fun Hi S => ?_)
          · rw [List.getElem?_map] at hy
            obtain ⟨o, ho, rfl⟩ := Option.map_eq_some_iff.mp hy
            refine c_name ⟨wipe_one _ 5 _, .str st, rfl, .str o, rfl, .str x, rfl, by show 3 ≤ sizeLine; decide, fun T2 nT2 => ?_⟩
            obtain ⟨ts2, e2, lt2, B2⟩ := S.more (us := [T2]) (qs := [(some st, some o, some x)]) nM (same_upd (o := HO.tup [.str st, .str o, .str x]) nT2) (.cons upd_same .nil)
            rw [take_map _ _ _ ho]
            exact ⟨_, e2, small1000 (by rw [List.length_map, lt2, List.length_take, List.length_map]; omega), B2⟩
          · rw [List.length_map] at S
            rw [show (outs.map fun o => ((some st, some o, some x) : Pb)).take outs.length = outs.map fun o => ((some st, some o, some x) : Pb) from List.take_of_length_le (by rw [List.length_map]; exact Nat.le_refl _)] at S
            obtain ⟨us, eU, pU⟩ := id S.ex
            have lU := Paired.length pU
            rw [List.length_map] at lU
            have lT1 := Paired.length p1
            rw [List.length_append, List.length_singleton] at lT1
            have s3 : Same H3 Hi := S.off
            obtain ⟨ts3, e3, lt3, B3⟩ := B.more nL s3 pU
            refine ⟨L, M, _, _, rfl, rfl, e3, eU, Nat.le_of_lt (small1000 (by rw [List.length_map, List.length_map, lt3, List.length_append, List.length_singleton]; omega)), ⟨_, _, rfl⟩, ?_⟩
            have eq : base2 ++ pbsN outs st x = base2 ++ [(some st, none, some x)] ++ outs.map fun o => ((some st, some o, some x) : Pb) := by
              unfold pbsN
              rw [List.append_assoc]
              rfl
            rw [eq]
            exact B3
        · obtain ⟨⟨y4, y5, rfl⟩, S2⟩ := Z
          rw [List.length_map, List.take_length] at S2
          refine c_nx ⟨⟨_, _, _, rfl⟩, ?_⟩
          rw [flat_take _ _ _ hst, ← List.append_assoc, hb1]
          exact S2
      · obtain ⟨⟨y3, y4, y5, rfl⟩, S1⟩ := Z
        refine c_nx ⟨.ref L, rfl, q Hi L S1.off nL ?_⟩
        unfold pbsOf
        rw [hB]
        exact S1
end
end KF
end L2
end
/-! ### TD -/
section
namespace L2
namespace KF
open PySem PySem.Spec PyProof.Rows PySem.KD KE KC PySem.KA KM TL KS KH
/-! ## copied of an instance: itself -/
structure InsK (K : PySem.W.Frag) (C : Addr) : Prop where
  cl : Cls K C
  ha : PySem.W.findIn K (.ref C) "__class__" = some (some (.builtin "object.__class__"))
  hn : PySem.W.specialIn K (.builtin "object.__class__") "__get__" = some (some (.builtin "getset_descriptor.__get__"))
  htk : PySem.W.takesIn K (.builtin "object.__class__") = some true
  hm : PySem.W.mroIn K C (.type "object") = some true
  kd : PySem.W.kitOne K (.ref C) (.type "dict") = some false
  kl : PySem.W.kitOne K (.ref C) (.type "list") = some false
  kt : PySem.W.kitOne K (.ref C) (.type "tuple") = some false
def insB (x : Str) : FB := fun K => clsB' x K && (He.eqO (PySem.W.findIn K (.ref (He.ga K x)) "__class__") (some (some (.builtin "object.__class__"))) && (He.eqO (PySem.W.specialIn K (.builtin "object.__class__") "__get__") (some (some (.builtin "getset_descriptor.__get__"))) &&
  (decide (PySem.W.takesIn K (.builtin "object.__class__") = some true) && (decide (PySem.W.mroIn K (He.ga K x) (.type "object") = some true) && (decide (PySem.W.kitOne K (.ref (He.ga K x)) (.type "dict") = some false) && (decide (PySem.W.kitOne K (.ref (He.ga K x)) (.type "list") = some false) &&
  decide (PySem.W.kitOne K (.ref (He.ga K x)) (.type "tuple") = some false)))))))
theorem ins_k {K : PySem.W.Frag} {x : Str} (e : insB x K = true) : InsK K (He.ga K x) := by
  unfold insB at e
  obtain ⟨e1, e⟩ := He.ba e
  obtain ⟨e2, e⟩ := He.ba e
  obtain ⟨e3, e⟩ := He.ba e
  obtain ⟨e4, e⟩ := He.ba e
  obtain ⟨e5, e⟩ := He.ba e
  obtain ⟨e6, e⟩ := He.ba e
  obtain ⟨e7, e8⟩ := He.ba e
  exact ⟨He.cls_ok e1, He.eqO_ok e2, He.eqO_ok e3, of_decide_eq_true e4, of_decide_eq_true e5, of_decide_eq_true e6, of_decide_eq_true e7, of_decide_eq_true e8⟩
theorem InsK.ty {K : PySem.W.Frag} {C : Addr} (I : InsK K C) {H : Hp} {o dx : Addr} {fs : List (Str × V)} (e : H o = some (.ins C dx fs)) : TyX K H (.ref o) (.ref C) := .base (.ins e I.cl I.ha I.hn I.htk I.hm)
theorem InsK.lt {K : PySem.W.Frag} {C : Addr} (I : InsK K C) : PySem.W.kitAny K (.ref C) [.type "list", .type "tuple"] = some false := kitAny_cons I.kl (fun _ => kitAny_cons I.kt (fun _ => kitAny_nil) (fun z => nomatch z)) (fun z => nomatch z)
theorem InsK.ltd {K : PySem.W.Frag} {C : Addr} (I : InsK K C) : PySem.W.kitAny K (.ref C) [.type "list", .type "tuple", .type "dict"] = some false := kitAny_cons I.kl (fun _ => kitAny_cons I.kt (fun _ => kitAny_cons I.kd (fun _ => kitAny_nil) (fun z => nomatch z)) (fun z => nomatch z)) (fun z => nomatch z)
section
variable {P : Program} {w : World} {K : PySem.W.Frag} {mg : Str → Option Value} {base : Heap}
def spItemsI (C : Addr) : Sp := fun vs H Q _ => ∃ o dx fs, vs = [.ref o] ∧ H o = some (.ins C dx fs) ∧ ∀ H' p, Same H H' → H p = none → H' p = some (.lst []) → Q (.ref p) H'
theorem ok_itemsI {C f : Addr} {fd : FuncData} {k : Nat} (I : InsK K C) (F : Fun K "items_of" "items_of" sItems f fd) (B : Blt mg) : FnOk P w K mg base CX0 (k + 1) f fd ["value"] (spItemsI C) := by
  refine F.ok scItems (fun vs H Q E h => ?_) (fun cdv A outer s H vs Q E hr h => ?_)
  · obtain ⟨o, dx, fs, rfl, _⟩ := h
    rfl
  · obtain ⟨o, dx, fs, rfl, eo, q⟩ := h
    have hc : (cxOf CX0 P w K mg base ["value"] "items_of" (defScope sItems) f cdv A outer s H E).nox.calm = true := rfl
    refine ⟨_, pss_cons (ps_if (pt_val (pe_callB call_isi (by rfl) B.isi boot_isinstance (pa_cons (pv 0) (pa_cons (pe_bltn (v := .ty "dict") (by rfl) B.dict boot_dict rfl) pa_nil))))
          (pss_one (ps_ret (peListVals hc (pv 0) (by rfl) B.list boot_list))) pss_nil)
      (pss_cons (ps_if (pt_val (pe_callB call_isiT (by rfl) B.isi boot_isinstance (pa_cons (pv 0) (pa_cons (pe_tup (pa_cons (pe_bltn (v := .ty "list") (by rfl) B.list boot_list rfl) (pa_cons (pe_bltn (v := .ty "tuple") (by rfl) B.tuple boot_tuple rfl) pa_nil))) pa_nil))))
          (pss_one (ps_ret (pe_callTy call_list_of (by rfl) B.list boot_list (pa_cons (pv 0) pa_nil)))) pss_nil)
      (pss_one (ps_ret (pe_lst pa_nil)))), ?_⟩
    refine ⟨.ref o, rfl, .ref o, .ty "dict", .ref C, .type "dict", false, rfl, .ty _, I.ty eo, I.kd, false, rfl, iteF ?_⟩
    refine ⟨.ref o, rfl, by show 2 ≤ sizeLine; decide, fun t nt => ?_⟩
    have s1 := same_upd (o := HO.tup [.ty "list", .ty "tuple"]) nt
    refine ⟨.ref o, t, [.ty "list", .ty "tuple"], .ref C, [.type "list", .type "tuple"], false, rfl, upd_same, .cons (.ty _) (.cons (.ty _) .nil), I.ty (s1 _ _ eo), I.lt, false, rfl, iteF ⟨Nat.zero_le _, fun p np => ?_⟩⟩
    exact q _ p (s1.trans (same_upd np)) (s1.free np) upd_same
def spCopiedI (C : Addr) : Sp := fun vs H Q _ => ∃ o dx fs, vs = [.ref o] ∧ H o = some (.ins C dx fs) ∧ ∀ H', Same H H' → Q (.ref o) H'
theorem ok_copiedI {C f fI fR : Addr} {fd fdI fdR : FuncData} (I : InsK K C) (F : Fun K "copied" "copied" sCopied f fd) (FI : Fun K "items_of" "items_of" sItems fI fdI) (FR : Fun K "rebuilt" "rebuilt" sRebuilt fR fdR) (B : Blt mg)
    (gI : mg "items_of" = some (.ref fI)) (gR : mg "rebuilt" = some (.ref fR)) (bI : Binds K fdI ["value"] []) (bR : Binds K fdR ["value", "items"] []) : FnOk P w K mg base CX0 2 f fd ["value"] (spCopiedI C) := by
  have GI : FnOk P w K mg base CX0 1 fI fdI ["value"] (spItemsI C) := ok_itemsI I FI B
  have GR : FnOk P w K mg base CX0 1 fR fdR ["value", "items"] (spReb w) := ok_reb FR B
  refine F.ok scCopied (fun vs H Q E h => ?_) (fun cdv A outer s H vs Q E hr h => ?_)
  · obtain ⟨o, dx, fs, rfl, _⟩ := h
    rfl
  · obtain ⟨o, dx, fs, rfl, eo, q⟩ := h
    refine ⟨_, pss_cons (ps_set (i := 1) scCopied.nd rfl (.inl rfl) (pe_lst (pa_cons (pv 0) pa_nil)))
      (pss_cons (ps_set (i := 2) scCopied.nd rfl (.inl rfl) (pe_lst pa_nil))
      (pss_cons (ps_set (i := 3) scCopied.nd rfl (.inl rfl) pe_int)
      (pss_cons (ps_while PassesOwn.never (pt_cmpR op_lt (pv 3) (pe_callB call_len_seq (by rfl) B.len PySem.boot_len (pa_cons (pv 1) pa_nil)) (nomark _))
          (pss_cons (ps_expr (pe_bm PySem.F.plainAttrs_list PySem.F.slot_list_append PySem.F.type_list_append mt_append (pv 2) (pa_cons (pe_callB call_len_seq (by rfl) B.len PySem.boot_len (pa_cons (pv 1) pa_nil)) pa_nil)))
          (pss_cons (ps_expr (pe_bm PySem.F.plainAttrs_list PySem.F.slot_list_extend PySem.F.type_list_extend mt_extend (pv 1) (pa_cons (pe_call GI hr (by rfl) gI FI.kp bI .nil pass0 (pa_cons (pe_ix ix_list (pv 1) (pv 3) (fun _ _ => rfl)) pa_nil)) pa_nil)))
          (pss_one (ps_aug (i := 3) scCopied.nd rfl (.inl rfl) pe_int ip_add)))))
      (pss_cons (ps_set (i := 4) scCopied.nd rfl (.inl rfl) (pe_callTy call_list_of (by rfl) B.list boot_list (pa_cons (pv 1) pa_nil)))
      (pss_cons (ps_for PassesOwn.never rfl (pi_revR (by rfl) B.reversed (prg_1 (by rfl) B.range (pe_callB call_len_seq (by rfl) B.len PySem.boot_len (pa_cons (pv 1) pa_nil)))) (pg_name (i := 5) scCopied.nd rfl (.inl rfl))
          (pss_cons (ps_set (i := 6) scCopied.nd rfl (.inl rfl) (pe_ix ix_list (pv 1) (pv 5) (fun _ _ => rfl)))
          (pss_one (ps_if (pt_val (pe_callB call_isiT (by rfl) B.isi boot_isinstance (pa_cons (pv 6) (pa_cons (pe_tup (pa_cons (pe_bltn (v := .ty "list") (by rfl) B.list boot_list rfl) (pa_cons (pe_bltn (v := .ty "tuple") (by rfl) B.tuple boot_tuple rfl) (pa_cons (pe_bltn (v := .ty "dict") (by rfl) B.dict boot_dict rfl) pa_nil)))) pa_nil))))
              (pss_one (ps_asg (pe_call GR hr (by rfl) gR FR.kp bR .nil pass0 (pa_cons (pv 6) (pa_cons (pe_slice sl_list (pv 4) (po_some (pe_ix ix_list (pv 2) (pv 5) (fun _ _ => rfl)))
                  (po_some (pe_op op_add (pe_ix ix_list (pv 2) (pv 5) (fun _ _ => rfl)) (pe_callB callLenD (by rfl) B.len PySem.boot_len (pa_cons (pv 6) pa_nil))))) pa_nil)))
                (pg_sub (pv 4) (pv 5) set_list))) pss_nil))))
      (pss_one (ps_ret (pe_ix ix_list (pv 4) pe_int (fun _ _ => rfl))))))))), ?_⟩
    refine ⟨.ref o, rfl, by show 1 ≤ sizeLine; decide, fun pn nn => ⟨Nat.zero_le _, fun ps np => ?_⟩⟩
    have npn : ps ≠ pn := fun z => by
      rw [z, upd_same] at np
      cases np
    have s1 : Same H (upd H pn (.lst [.ref o])) := same_upd nn
    have s2 : Same H (upd (upd H pn (.lst [.ref o])) ps (.lst [])) := s1.trans (same_upd np)
    have nps : H ps = none := s1.free np
    refine while_by (fun σ H2 => ∃ (i : Nat) (ss : List V), ∃ y4 y5 y6, σ = [some (.ref o), some (.ref pn), some (.ref ps), some (.int (i : Nat)), y4, y5, y6] ∧ Same H H2 ∧ H2 pn = some (.lst [.ref o]) ∧ H2 ps = some (.lst ss) ∧ ss.length = i ∧ i ≤ 1)
      (fun σ H2 => match σ with
        | [_, _, _, some (.int i), _, _, _] => 1000 - i.toNat
        | _ => 0) ⟨0, [], none, none, none, rfl, s2, by rw [upd_ne (Ne.symm npn), upd_same], upd_same, rfl, Nat.zero_le _⟩ (fun σ H2 hP => ?_) (fun σ H2 Q1 Q2 mono hq => ?_)
    · obtain ⟨i, ss, y4, y5, y6, rfl, s02, ep, es, li, hi⟩ := hP
      refine ⟨.int (i : Nat), rfl, .ref pn, rfl, pn, [.ref o], rfl, .inl (.inl (.inl ep)), _, _, rfl, rfl, _, rfl, ite2 (fun lt => ?_) (fun ge => ?_)⟩
      · have i0 : i = 0 := by
          have z := of_decide_eq_true lt
          simp only [List.length_cons, List.length_nil] at z
          omega
        subst i0
        obtain rfl := List.length_eq_zero_iff.mp li
        refine ⟨.ref ps, rfl, .inl ⟨rfl, _, .inl (.inl es)⟩, .ref pn, rfl, pn, [.ref o], rfl, .inl (.inl (.inl ep)), ps, [], _, rfl, rfl, es, by show 0 < sizeLine; decide, ?_⟩
        have ep2 : (upd H2 ps (.lst ([] ++ [V.int (([V.ref o] : List V).length : Nat)]))) pn = some (.lst [.ref o]) := by
          rw [upd_ne (Ne.symm npn)]
          exact ep
        have s3 : Same H (upd H2 ps (.lst ([] ++ [V.int (([V.ref o] : List V).length : Nat)]))) := fun c u z => by
          rw [upd_ne (ne_of_none z nps)]
          exact s02 _ _ z
        refine ⟨.ref pn, rfl, .inl ⟨rfl, _, .inl (.inl ep2)⟩, .ref pn, rfl, .int 0, rfl, pn, [.ref o], _, .ref o, rfl, rfl, .inl (.inl ep2), atN (i := 0) rfl, o, dx, fs, rfl, s3 _ _ eo, fun H4 p s4 np4 ep4 => ?_⟩
        refine ⟨pn, p, [.ref o], [], rfl, rfl, s4 _ _ ep2, ep4, by show 1 ≤ sizeLine; decide, ?_⟩
        have e5 : upd H4 pn (.lst ([.ref o] ++ [])) = H4 := by
          funext b
          by_cases z : b = pn
          · rw [z, upd_same, s4 _ _ ep2]
            rfl
          · rw [upd_ne z]
        rw [e5]
        refine ⟨_, rfl, 0, 1, rfl, rfl, ⟨1, [V.int (([V.ref o] : List V).length : Nat)], y4, y5, y6, rfl, fun c u z => s4 _ _ (s3 _ _ z), s4 _ _ ep2, s4 _ _ upd_same, rfl, Nat.le_refl _⟩, ?_⟩
        show 1000 - ((0 : Int) + 1).toNat < 1000 - (0 : Int).toNat
        decide
      · have i1 : i = 1 := by
          have z : ¬ ((i : Nat) : Int) < (([V.ref o] : List V).length : Nat) := fun z => ge (decide_eq_true z)
          simp only [List.length_cons, List.length_nil] at z
          omega
        subst i1
        refine ⟨.ref pn, rfl, pn, [.ref o], rfl, .inl (.inl (.inl ep)), fun pm nm => ?_⟩
        have sm : Same H2 (upd H2 pm (.lst [.ref o])) := same_upd nm
        have hpn : (upd H2 pm (.lst [.ref o])) pn = some (.lst [.ref o]) := sm _ _ ep
        refine ⟨.ref pn, rfl, pn, [.ref o], rfl, .inl (.inl (.inl hpn)), 1, rfl, by decide, by decide, by decide, by decide, ?_⟩
        refine for_it (walk_rangeC (lo := _) (c := -1)) (fun t σ H3 => ∃ y5 y6, σ = [some (.ref o), some (.ref pn), some (.ref ps), some (.int ((1 : Nat) : Int)), some (.ref pm), y5, y6] ∧ Same (upd H2 pm (.lst [.ref o])) H3)
          ⟨y5, y6, rfl, fun _ _ z => z⟩ (fun _ _ _ _ _ => trivial) (fun t x σ H3 H4 ht hP hy => ?_) (fun σ H3 hP => ?_)
        · obtain ⟨z5, z6, rfl, D⟩ := hP
          obtain ⟨rfl, ex⟩ := hy
          have ht2 : t = 0 := by
            have z : t < (((1 : Nat) : Int) - 0).toNat := ht
            omega
          subst ht2
          have ex2 : x = .int ((0 : Nat) : Int) := ex.trans (congrArg V.int (by decide))
          subst ex2
          refine ⟨.ref pn, rfl, .int ((0 : Nat) : Int), rfl, pn, [.ref o], _, .ref o, rfl, rfl, .inl (.inl (D _ _ hpn)), atN (i := 0) rfl, ?_⟩
          refine ⟨.ref o, rfl, by show 3 ≤ sizeLine; decide, fun T nT => ?_⟩
          have sT : Same H4 (upd H4 T (.tup [.ty "list", .ty "tuple", .ty "dict"])) := same_upd nT
          refine ⟨.ref o, T, [.ty "list", .ty "tuple", .ty "dict"], .ref C, [.type "list", .type "tuple", .type "dict"], false, rfl, upd_same, .cons (.ty _) (.cons (.ty _) (.cons (.ty _) .nil)), I.ty (sT _ _ (D _ _ (sm _ _ (s02 _ _ eo)))), I.ltd, false, rfl, iteF ⟨_, _, rfl, D.trans sT⟩⟩
        · obtain ⟨z5, z6, rfl, D⟩ := hP
          refine ⟨.ref pm, rfl, pm, [.ref o], 0, .ref o, rfl, rfl, .inl (.inl (D _ _ upd_same)), atI_nat (j := 0) rfl, ?_⟩
          exact q H3 ((s02.trans sm).trans D)
    · obtain ⟨a1, e1, a2, e2, p, ys, e3, h3, i3, j3, e4, e5, b, e6, h6⟩ := hq
      exact ⟨a1, e1, a2, e2, p, ys, e3, h3, i3, j3, e4, e5, b, e6, mono _ _ h6⟩
end
end KF
end L2
end
/-! ### TE -/
section
namespace L2
namespace KF
open PySem PySem.Spec PyProof.Rows PySem.KD KE KC PySem.KA KM TL KS KH
/-! ## the errors -/
def spErrI (Co C : Addr) (f : Str) : Sp := fun vs H Q _ => ∃ (x o dx : Addr) (fs : List (Str × V)), vs = [.ref x, .ref o] ∧ H x = some (exo x C none) ∧ H o = some (.ins Co dx fs) ∧
  ∀ H' dd, SameBut x H H' → H' x = some (exo x C (some dd)) → H dd = none → H' dd = some (exd dd [(f, .ref o)]) → Q .non H'
section
variable {P : Program} {w : World} {K : PySem.W.Frag} {mg : Str → Option Value} {base : Heap}
abbrev sIS : Stmt := methOf 11 0
theorem ok_is {f1 C fI : Addr} {fd fdI : FuncData} (GC : FnOk P w K mg base CX0 2 f1 fd ["value"] (spCopied w)) (kC : PySem.W.keepIn K (.ref f1) = true) (bC : Binds K fd ["value"] []) (gC : mg "copied" = some (.ref f1))
    (mB : mg "ValueError" = none) (fi : PySem.W.findCls K (.type "ValueError") (.type "type") "__init__" = some (.val (.builtin "ValueError.__init__"))) (Er : ErrV K mg "InvalidStates" "value" C fI) (F : Fun K "__init__" "InvalidStates.__init__" sIS fI fdI) : FnOk P w K mg base CX0 3 fI fdI ["self", "value"] (spErr w C "value") := by
  have sc : FnScope ["self", "value"] ["self", "value"] (defScope sIS) := ⟨rfl, rfl, rfl, by decide +kernel, rfl, by decide +kernel, by decide +kernel⟩
  refine F.ok sc (fun vs H Q E h => ?_) (fun cdv A outer s H vs Q E hr h => ?_)
  · obtain ⟨x, v, d, fp, rfl, _⟩ := h
    rfl
  · obtain ⟨x, v, d, fp, rfl, hx, rp, hN, q⟩ := h
    refine ⟨_, pss_cons (ps_expr (peInitX Er.ox.toOX (by rfl) mB (by decide +kernel) (by rfl) (by decide +kernel) fi (by decide +kernel) (pa_cons (pv 0) (pa_cons pe_str pa_nil))))
      (pss_one (psSetX Er.ox (pv 0) (pe_call GC hr (by rfl) gC kC bC .nil pass0 (pa_cons (pv 1) pa_nil)))), ?_⟩
    refine ⟨.ref x, rfl, x, _, rfl, by show 1 ≤ 1000; decide, hx, v, rfl, v, d, fp, rfl, rp, hN, fun H2 v' f3 s2 r2 n2 => ?_⟩
    have z := err_end (C := C) hx q s2 r2 n2
    exact ⟨.ref x, rfl, x, rfl, z.1, z.2⟩
theorem ok_ipI {f1 Co C fI : Addr} {fd fdI : FuncData} (GC : FnOk P w K mg base CX0 2 f1 fd ["value"] (spCopiedI Co)) (kC : PySem.W.keepIn K (.ref f1) = true) (bC : Binds K fd ["value"] []) (gC : mg "copied" = some (.ref f1))
    (mB : mg "ValueError" = none) (fi : PySem.W.findCls K (.type "ValueError") (.type "type") "__init__" = some (.val (.builtin "ValueError.__init__"))) (Er : ErrV K mg "InvalidProfile" "value" C fI) (F : Fun K "__init__" "InvalidProfile.__init__" sIP fI fdI) : FnOk P w K mg base CX0 3 fI fdI ["self", "value"] (spErrI Co C "value") := by
  have sc : FnScope ["self", "value"] ["self", "value"] (defScope sIP) := ⟨rfl, rfl, rfl, by decide +kernel, rfl, by decide +kernel, by decide +kernel⟩
  refine F.ok sc (fun vs H Q E h => ?_) (fun cdv A outer s H vs Q E hr h => ?_)
  · obtain ⟨x, o, dx, fs, rfl, _⟩ := h
    rfl
  · obtain ⟨x, o, dx, fs, rfl, hx, ho, q⟩ := h
    refine ⟨_, pss_cons (ps_expr (peInitX Er.ox.toOX (by rfl) mB (by decide +kernel) (by rfl) (by decide +kernel) fi (by decide +kernel) (pa_cons (pv 0) (pa_cons pe_str pa_nil))))
      (pss_one (psSetX Er.ox (pv 0) (pe_call GC hr (by rfl) gC kC bC .nil pass0 (pa_cons (pv 1) pa_nil)))), ?_⟩
    refine ⟨.ref x, rfl, x, _, rfl, by show 1 ≤ 1000; decide, hx, .ref o, rfl, o, dx, fs, rfl, ho, fun H2 s2 => ?_⟩
    refine ⟨.ref x, rfl, x, rfl, s2 _ _ hx, fun dd nd ne => q _ dd (fun b u nb z => ?_) upd_same (s2.free nd) (by rw [upd_ne ne, upd_same])⟩
    rw [upd_ne nb, upd_ne (ne_of_none (s2 _ _ z) nd)]
    exact s2 _ _ z
theorem raisedI {Co C : Addr} {f : Str} {te : TE} {σ : St} {H : Hp} {o dx : Addr} {fs : List (Str × V)} {Q : XK} (hv : GivesR te σ H (Pure (.ref o))) (ho : H o = some (.ins Co dx fs))
    (q : ∀ H' dd, Same H H' → H' dd = some (.xd [(f, .ref o)]) → Q (.ref C) (some dd) H') : tMkO C (spErrI Co C f) [] (tCons te tNil) σ H Q := by
  refine hv H (same_refl _) _ fun u H1 s1 z => ?_
  obtain ⟨rfl, rfl⟩ := z
  refine ⟨by show 1 ≤ 1000; decide, fun a na => ?_⟩
  have sa := same_upd (o := exo a C none) na
  refine ⟨a, o, dx, fs, rfl, upd_same, sa _ _ ho, fun H' dd sb ex ndd edd => ⟨rfl, dd, [(f, .ref o)], ex, edd, sa.free ndd, ?_⟩⟩
  refine q _ dd (fun b u e => ?_) upd_same
  have n1 : b ≠ a := ne_of_none e na
  have n2 : b ≠ dd := fun z => by
    have y := sa b u e
    rw [z, ndd] at y
    cases y
  rw [upd_ne n2, del_ne n1]
  exact sb b u n1 (sa b u e)
end
/-! ## a profile as it is told -/
/-! ## probed -/
abbrev sPb : Stmt := topS 30
theorem scPb : FnScope ["profile", "probe"] ["profile", "probe"] (defScope sPb) := ⟨rfl, rfl, rfl, by decide +kernel, rfl, by decide +kernel, by decide +kernel⟩
section
variable {P : Program} {w : World} {K : PySem.W.Frag} {mg : Str → Option Value} {base : Heap}
def spProbed (w : World) (C CS : Addr) : Sp := fun vs H Q E => ∃ (x dx T D R : Addr) (gs : List Fin) (rs : List (Str × Str)) (names : List Str) (v : V) (d : PyData) (fp : List Addr), vs = [.ref x, v] ∧ PP w C H x dx T D R gs rs names ∧ RepA w H v d fp ∧ Nice 5 70 3000 d ∧
  ((∃ t p, v = .ref t ∧ H t = some (pbO p) ∧ PbOk names p ∧ probeD names d = true ∧ ∀ H', Same H H' → Q (.bl (toldC (prF gs) rs p)) H') ∨
   (probeD names d = false ∧ ∀ H' dd fs v' f', Same H H' → H' dd = some (.xd fs) → fs.lookup (Str.ofString "value") = some v' → Rep w H' v' d f' → E (.ref CS) (some dd) H'))
theorem ok_probed {C CS f fP fT fS fO fRd fN aO aR aN : Addr} {fd fdP fdT fdS fdO fdR fdN : FuncData} (F : Fun K "probed" "probed" sPb f fd)
    (GP : FnOk P w K mg base CX0 3 fP fdP ["value", "names"] (spIPb w)) (kP : PySem.W.keepIn K (.ref fP) = true) (gP : mg "is_probe" = some (.ref fP)) (bP : Binds K fdP ["value", "names"] [])
    (GT : FnOk P w K mg base CX0 1 fT fdT ["outcomes", "reads", "probe"] (spTold w)) (kT : PySem.W.keepIn K (.ref fT) = true) (gT : mg "told_of" = some (.ref fT)) (bT : Binds K fdT ["outcomes", "reads", "probe"] [])
    (Er : ErrV K mg "InvalidStates" "value" CS fS) (GS : FnOk P w K mg base CX0 3 fS fdS ["self", "value"] (spErr w CS "value")) (bS : Binds K fdS ["self", "value"] [])
    (cl : Cls K C) (pO : PropOf K C "outcomes" aO fO) (GO : FnOk P w K mg base CX0 1 fO fdO ["self"] (spOutS w C)) (bO : Binds K fdO ["self"] [])
    (pR : PropOf K C "reads" aR fRd) (GR : FnOk P w K mg base CX0 1 fRd fdR ["self"] (spRdsS w C)) (bR : Binds K fdR ["self"] [])
    (pN : PropOf K C "names" aN fN) (GN : FnOk P w K mg base CX0 1 fN fdN ["self"] (spNmsS w C)) (bN : Binds K fdN ["self"] []) : FnOk P w K mg base (L2.CX P w) 6 f fd ["profile", "probe"] (spProbed w C CS) := by
  refine F.okX scPb (fun vs H Q E h => ?_) (fun cdv A outer s H vs Q E hr h => ?_)
  · obtain ⟨_, _, _, _, _, _, _, _, _, _, _, rfl, _⟩ := h
    rfl
  · obtain ⟨x, dx, T, D, R, gs, rs, names, v, d, fp, rfl, PX, rp, nc, q⟩ := h
    refine ⟨_, pss_cons (ps_if (pt_not (pt_val (pe_call GP (hr.mono (by decide)) (by rfl) gP kP bP .nil pass0 (pa_cons (pv 1) (pa_cons (pe_prop (pv 0) cl pN GN (hr.mono (by decide)) bN .nil pass0 rfl) pa_nil))))) (pss_one (ps_raise rfl (takes_of rfl rfl rfl rfl) (pmk_oex Er.oex Er.iC Er.tI GS (hr.mono (by decide)) bS .nil pass0 (by rfl) Er.gC (pa_cons (pv 1) pa_nil)))) pss_nil)
      (pss_one (ps_ret (pe_call GT (hr.mono (by decide)) (by rfl) gT kT bT .nil pass0 (pa_cons (pe_prop (pv 0) cl pO GO (hr.mono (by decide)) bO .nil pass0 rfl) (pa_cons (pe_prop (pv 0) cl pR GR (hr.mono (by decide)) bR .nil pass0 rfl) (pa_cons (pv 1) pa_nil)))))), ?_⟩
    have gv : ∀ {σ : St} {i : Nat} {v : V} {H : Hp}, σ[i]? = some (some v) → GivesR (tVar i) σ H (Pure v) := fun hi H' _ Q q => ⟨_, hi, q _ H' (same_refl _) ⟨rfl, rfl⟩⟩
    refine ⟨v, rfl, .ref x, rfl, x, dx, _, rfl, PX.pa.hx, x, dx, T, D, R, gs, rs, rfl, PX.pa, v, d, fp, T, names, rfl, rp, PX.names, nc, fun H1 s1 => ⟨_, rfl, ?_⟩⟩
    rcases q with ⟨t, p, rfl, et, ok, hp, q⟩ | ⟨hp, q⟩
    · rw [hp]
      refine iteF ?_
      have P1 := PX.same s1
      refine ⟨.ref x, rfl, x, dx, _, rfl, P1.pa.hx, x, dx, T, D, R, gs, rs, rfl, P1.pa, fun H2 N gs2 s2 n2 e2 eg rg => ?_⟩
      have P2 := P1.same s2
      refine ⟨.ref x, rfl, x, dx, _, rfl, P2.pa.hx, x, dx, T, D, R, gs, rs, rfl, P2.pa, fun H3 M s3 n3 e3 => ?_⟩
      refine ⟨.ref t, rfl, N, M, t, gs2, rs, names, p, rfl, P1.two eg (s3 _ _ e2) (fun z hz => s3 _ _ (rg z hz).1) e3, s3 _ _ (s2 _ _ (s1 _ _ et)), ok, ?_⟩
      have eq : prF gs2 = prF gs := eg
      rw [eq]
      exact q H3 ((s1.trans s2).trans s3)
    · rw [hp]
      refine iteT (raised (C := CS) (f := "value") (gv rfl) (rp.rep.same s1) (Nat.le_trans nc.sz (by decide)) fun H' dd fs v' f3 s2 e l r' => q H' dd fs v' f3 (s1.trans s2) e l r')
end
end KF
end L2
end
/-! ### NN -/
section
namespace L2
namespace KF
open PySem PySem.Spec PyProof.Rows PySem.KD KE KC PySem.KA KM TL KS KH
/-! ## names of two profiles against each other -/
theorem tup_strs_eqv : ∀ a b : List Str, PyData.eqvAll (a.map PyData.str) (b.map PyData.str) = decide (a = b)
  | [], [] => by simp [PyData.eqvAll]
  | [], b :: bs => by simp [PyData.eqvAll]
  | a :: as, [] => by simp [PyData.eqvAll]
  | a :: as, b :: bs => by
    rw [List.map_cons, List.map_cons]
    simp only [PyData.eqvAll, PyData.eqv]
    rw [tup_strs_eqv as bs]
    by_cases h : a = b
    · subst h
      have : (a == a) = true := by simp
      rw [this, Bool.true_and]
      by_cases h2 : as = bs
      · rw [decide_eq_true h2, decide_eq_true (by rw [h2])]
      · rw [decide_eq_false h2, decide_eq_false fun z => h2 (List.cons.inj z).2]
    · have : (a == b) = false := by simpa using h
      rw [this, Bool.false_and, decide_eq_false fun z => h (List.cons.inj z).1]
theorem tup_shaped {xs : List Str} (h : ∀ x ∈ xs, PyData.strOk x = true) : SeqAt.shaped (.tuple (xs.map PyData.str)) = true := by
  unfold SeqAt.shaped
  have := strs_depth xs
  rw [Bool.and_eq_true]
  exact ⟨by simp only [PyData.canLay0, strs_lay h], decide_eq_true (by simp only [PyData.depth]; omega)⟩
theorem ne_names {K : PySem.W.Frag} {H : Hp} {L M : Addr} {xs ys : List Str} {Q : VK} (hx : ∀ x ∈ xs, PyData.strOk x = true) (hy : ∀ x ∈ ys, PyData.strOk x = true) (e : H L = some (.tup (xs.map V.str))) (e2 : H M = some (.tup (ys.map V.str))) (q : Q (.bl (!decide (xs = ys))) H) : rNeD K (.ref L) (.ref M) H Q :=
  ⟨_, _, .tup (.inl (.inl e)) (strs_dp xs), .tup (.inl (.inl e2)) (strs_dp ys), tup_shaped hx, tup_shaped hy, by
    have : PyData.eqv (.tuple (xs.map PyData.str)) (.tuple (ys.map PyData.str)) = decide (xs = ys) := by
      simp only [PyData.eqv]
      exact tup_strs_eqv xs ys
    rw [this]
    exact q⟩
end KF
end L2
end
/-! ### TF -/
section
namespace L2
namespace KF
open PySem PySem.Spec PyProof.Rows PySem.KD KE KC PySem.KA KM TL KS KH
/-! ## parting -/
/-- what tells the one from the other -/
def parts (c1 : Cs) (r1 : List (Str × Str)) (c2 : Cs) (r2 : List (Str × Str)) (p : Pb) : Bool := toldC c1 r1 p && !toldC c2 r2 p
abbrev sPt : Stmt := topS 28
abbrev ptN : List Str := ["one", "other", "mine", "others", "probe"]
theorem scPt : FnScope ptN ["one", "other"] (defScope sPt) := ⟨rfl, rfl, rfl, by decide +kernel, rfl, by decide +kernel, by decide +kernel⟩
theorem pbs_ok {names outs : List Str} : ∀ p ∈ pbsOf names outs, PbOk names p := fun p hp => by
  rcases List.mem_append.mp hp with h | h
  · obtain ⟨o, _, rfl⟩ := List.mem_map.mp h
    exact .out o
  · obtain ⟨s, hs, h⟩ := List.mem_flatMap.mp h
    obtain ⟨x, hx, h⟩ := List.mem_flatMap.mp h
    rcases List.mem_cons.mp h with rfl | h
    · exact .st s none x hs hx
    · obtain ⟨o, _, rfl⟩ := List.mem_map.mp h
      exact .st s (some o) x hs hx
section
variable {P : Program} {w : World} {K : PySem.W.Frag} {mg : Str → Option Value} {base : Heap}
def spPt (w : World) (C CV : Addr) : Sp := fun vs H Q E => ∃ (x dx T D R : Addr) (gs : List Fin) (rs : List (Str × Str)) (names : List Str) (x2 dx2 T2 D2 R2 : Addr) (gs2 : List Fin) (rs2 : List (Str × Str)) (names2 : List Str), vs = [.ref x, .ref x2] ∧ PP w C H x dx T D R gs rs names ∧ PP w C H x2 dx2 T2 D2 R2 gs2 rs2 names2 ∧
  (∀ y ∈ names, PyData.strOk y = true) ∧ (∀ y ∈ names2, PyData.strOk y = true) ∧
  ((names ≠ names2 ∧ ∀ H' dd, Same H H' → H' dd = some (.xd [("value", .ref x2)]) → E (.ref CV) (some dd) H') ∨
   (names = names2 ∧ ∀ H' v, Same H H' → (match (pbsOf names (gs.map (·.1))).find? (parts (prF gs) rs (prF gs2) rs2) with
      | none => v = .non
      | some p => ∃ t, v = .ref t ∧ H' t = some (pbO p)) → Q v H'))
theorem ok_pt {C CV f fPO fT fV fO fRd fN aO aR aN : Addr} {fd fdPO fdT fdV fdO fdR fdN : FuncData} (F : Fun K "parting" "parting" sPt f fd)
    (GP : FnOk P w K mg base CX0 1 fPO fdPO ["names", "outcomes"] spPO) (kP : PySem.W.keepIn K (.ref fPO) = true) (gP : mg "probes_of" = some (.ref fPO)) (bP : Binds K fdPO ["names", "outcomes"] [])
    (GT : FnOk P w K mg base CX0 1 fT fdT ["outcomes", "reads", "probe"] (spTold w)) (kT : PySem.W.keepIn K (.ref fT) = true) (gT : mg "told_of" = some (.ref fT)) (bT : Binds K fdT ["outcomes", "reads", "probe"] [])
    (Er : ErrV K mg "InvalidProfile" "value" CV fV) (GV : FnOk P w K mg base CX0 3 fV fdV ["self", "value"] (spErrI C CV "value")) (bV : Binds K fdV ["self", "value"] [])
    (cl : Cls K C) (pO : PropOf K C "outcomes" aO fO) (GO : FnOk P w K mg base CX0 1 fO fdO ["self"] (spOutS w C)) (bO : Binds K fdO ["self"] [])
    (pR : PropOf K C "reads" aR fRd) (GR : FnOk P w K mg base CX0 1 fRd fdR ["self"] (spRdsS w C)) (bR : Binds K fdR ["self"] [])
    (pN : PropOf K C "names" aN fN) (GN : FnOk P w K mg base CX0 1 fN fdN ["self"] (spNmsS w C)) (bN : Binds K fdN ["self"] []) (mL : mg "list" = none) : FnOk P w K mg base (L2.CX P w) 6 f fd ["one", "other"] (spPt w C CV) := by
  refine F.okX scPt (fun vs H Q E h => ?_) (fun cdv A outer s H vs Q E hr h => ?_)
  · obtain ⟨_, _, _, _, _, _, _, _, _, _, _, _, _, _, _, _, rfl, _⟩ := h
    rfl
  · obtain ⟨x, dx, T, D, R, gs, rs, names, x2, dx2, T2, D2, R2, gs2, rs2, names2, rfl, PX, PY, okx, oky, q⟩ := h
    have hc : (cxOf (L2.CX P w) P w K mg base ptN "parting" (defScope sPt) f cdv A outer s H E).calm = true := rfl
    have hu64 : (cxOf (L2.CX P w) P w K mg base ptN "parting" (defScope sPt) f cdv A outer s H E).A.units + 64 < cLine := by
      have := hr.un
      show (A.deeper _).units + 64 < cLine
      omega
    have hrN := hr.mono (show 1 ≤ 5 by decide)
    have hr2 := hr.mono (show 2 ≤ 5 by decide)
    refine ⟨_, pss_cons (ps_if (pt_cmpR (op_neD hu64) (pe_prop (pv 0) cl pN GN hr2 bN .nil pass0 rfl) (pe_prop (pv 1) cl pN GN hr2 bN .nil pass0 rfl) (nomark _)) (pss_one (ps_raise rfl (takes_of rfl rfl rfl rfl) (pmk_oex Er.oex Er.iC Er.tI GV (hr.mono (by decide)) bV .nil pass0 (by rfl) Er.gC (pa_cons (pv 1) pa_nil)))) pss_nil)
      (PSs.nox (pss_cons (ps_par (i := 2) (j := 3) hc scPt.nd rfl rfl (by decide) rfl rfl (pa_cons (pe_prop (pv 0) cl pO GO hr2 bO .nil pass0 rfl) (pa_cons (pe_prop (pv 1) cl pO GO hr2 bO .nil pass0 rfl) pa_nil)) (by rfl))
      (pss_cons (ps_for PassesOwn.never rfl (pi_list (pe_call GP hrN (by rfl) gP kP bP .nil pass0 (pa_cons (pe_prop (pv 0) cl pN GN hr2 bN .nil pass0 rfl) (pa_cons (pe_callTy (callListM hc) (by rfl) mL boot_list (pa_cons (pv 2) pa_nil)) pa_nil)))) (pg_name (i := 4) scPt.nd rfl (.inl rfl))
        (pss_one (ps_if (PW.pt (pw_and (pt_val (pe_call GT hrN (by rfl) gT kT bT .nil pass0 (pa_cons (pv 2) (pa_cons (pe_prop (pv 0) cl pR GR hr2 bR .nil pass0 rfl) (pa_cons (pv 4) pa_nil)))))
          (pw_and1 (pt_not (pt_val (pe_call GT hrN (by rfl) gT kT bT .nil pass0 (pa_cons (pv 3) (pa_cons (pe_prop (pv 1) cl pR GR hr2 bR .nil pass0 rfl) (pa_cons (pv 4) pa_nil))))))))) (pss_one (ps_ret (pv 4))) pss_nil)))
      (pss_one (ps_ret pe_non))))), ?_⟩
    have gv : ∀ {σ : St} {i : Nat} {v : V} {H : Hp}, σ[i]? = some (some v) → GivesR (tVar i) σ H (Pure v) := fun hi H' _ Q q => ⟨_, hi, q _ H' (same_refl _) ⟨rfl, rfl⟩⟩
    refine ⟨.ref x, rfl, x, dx, _, rfl, PX.pa.hx, x, dx, T, D, R, gs, rs, rfl, PX.pa, .ref x2, rfl, x2, dx2, _, rfl, PY.pa.hx, x2, dx2, T2, D2, R2, gs2, rs2, rfl, PY.pa, ne_names okx oky PX.names PY.names ⟨_, rfl, ?_⟩⟩
    rcases q with ⟨ne, q⟩ | ⟨rfl, q⟩
    · rw [decide_eq_false ne]
      exact iteT (raisedI (C := CV) (f := "value") (gv rfl) PY.pa.hx fun H' dd s e => q H' dd s e)
    · rw [decide_eq_true rfl]
      refine iteF ?_
      refine ⟨.ref x, rfl, x, dx, _, rfl, PX.pa.hx, x, dx, T, D, R, gs, rs, rfl, PX.pa, fun H1 N hs s1 n1 e1 eg1 rg1 => ?_⟩
      have PY1 := PY.same s1
      refine ⟨.ref x2, rfl, x2, dx2, _, rfl, PY1.pa.hx, x2, dx2, T2, D2, R2, gs2, rs2, rfl, PY1.pa, fun H2 N2 hs2 s2 n2 e2 eg2 rg2 => ⟨_, _, rfl, ?_⟩⟩
      have s02 := s1.trans s2
      have PX2 := PX.same s02
      have PY2 := PY.same s02
      have TA : ∀ {H' : Hp} {M : Addr}, Same H2 H' → H' M = some (mdo w M (rowsT rs)) → TwoD w H' N M hs rs names := fun s e => PX.two eg1 (s _ _ (s2 _ _ e1)) (fun z hz => s _ _ (s2 _ _ (rg1 z hz).1)) e
      have TB : ∀ {H' : Hp} {M : Addr}, Same H2 H' → H' M = some (mdo w M (rowsT rs2)) → TwoD w H' N2 M hs2 rs2 names := fun s e => PY.two eg2 (s _ _ e2) (fun z hz => s _ _ (rg2 z hz).1) e
      have k1 : hs.map (·.1) = gs.map (·.1) := (same_rows eg1).2
      have l1 : hs.length = gs.length := by
        have := congrArg List.length k1
        rwa [List.length_map, List.length_map] at this
      refine ⟨.ref x, rfl, x, dx, _, rfl, PX2.pa.hx, x, dx, T, D, R, gs, rs, rfl, PX2.pa, .ref N, rfl, N, rowsF hs, rfl, .inl (s2 _ _ e1), fun L nL => ?_⟩
      have sL := same_upd (o := HO.lst ((rowsF hs).map (·.2.1))) nL
      have eL : (upd H2 L (.lst ((rowsF hs).map (·.2.1)))) L = some (.lst ((gs.map (·.1)).map V.str)) := by
        rw [upd_same, ← k1]
        unfold rowsF
        rw [List.map_map, List.map_map]
        rfl
      have f4 := PX.few
      refine ⟨T, L, names, gs.map (·.1), rfl, sL _ _ PX2.names, eL, f4.2, by rw [List.length_map]; exact f4.1, fun H3 M s3 nM B => ?_⟩
      obtain ⟨ts, eM, pM⟩ := B.ex
      have s23 : Same H2 H3 := sL.trans s3
      refine ⟨M, rfl, ⟨_, .inl (.inl eM)⟩, ?_⟩
      have many : ts.length = (pbsOf names (gs.map (·.1))).length := Paired.length pM
      refine for_list (a := M) (xs := ts.map V.ref) (fun i σ Hi => (∃ y4, σ = [some (.ref x), some (.ref x2), some (.ref N), some (.ref N2), y4]) ∧ Same H3 Hi ∧ ∀ p ∈ (pbsOf names (gs.map (·.1))).take i, parts (prF gs) rs (prF gs2) rs2 p = false) ⟨⟨_, rfl⟩, Same.refl _, fun _ z => nomatch z⟩ (fun i σ Hi _ Z => .inl (.inl (Z.2.1 _ _ eM))) (fun i y σ Hi hy Z => ?_) (fun σ Hi Z => ?_)
      · rw [List.getElem?_map] at hy
        obtain ⟨t, ht, rfl⟩ := Option.map_eq_some_iff.mp hy
        obtain ⟨⟨y4, rfl⟩, sI, none_⟩ := Z
        obtain ⟨p, hp, et⟩ := paired_at pM ht
        have eti := sI _ _ et
        have okp : PbOk names p := pbs_ok p (List.mem_of_getElem? hp)
        have s2i := s23.trans sI
        have PXi := PX2.same s2i
        refine c_name ?_
        refine ⟨.ref N, rfl, .ref x, rfl, x, dx, _, rfl, PXi.pa.hx, x, dx, T, D, R, gs, rs, rfl, PXi.pa, fun H4 M4 s4 n4 e4 => ⟨.ref t, rfl, N, M4, t, hs, rs, names, p, rfl, TA (s2i.trans s4) e4, s4 _ _ eti, okp, ?_⟩⟩
        have p1 : toldC (prF hs) rs p = toldC (prF gs) rs p := by
          have e : prF hs = prF gs := eg1
          rw [e]
        rw [p1]
        refine ⟨_, rfl, ?_⟩
        have step : parts (prF gs) rs (prF gs2) rs2 p = false → ∀ q ∈ (pbsOf names (gs.map (·.1))).take (i + 1), parts (prF gs) rs (prF gs2) rs2 q = false := fun h q hq => by
          rw [List.take_add_one, hp] at hq
          rcases List.mem_append.mp hq with z | z
          · exact none_ q z
          · rw [List.mem_singleton.mp z]
            exact h
        cases c1 : toldC (prF gs) rs p with
        | false => exact iteF (iteF ⟨⟨_, rfl⟩, sI.trans s4, step (by unfold parts; rw [c1, Bool.false_and])⟩)
        | true =>
          have s2j := s2i.trans s4
          have PYj := PY2.same s2j
          refine iteT ⟨.ref N2, rfl, .ref x2, rfl, x2, dx2, _, rfl, PYj.pa.hx, x2, dx2, T2, D2, R2, gs2, rs2, rfl, PYj.pa, fun H5 M5 s5 n5 e5 => ⟨.ref t, rfl, N2, M5, t, hs2, rs2, names, p, rfl, TB (s2j.trans s5) e5, s5 _ _ (s4 _ _ eti), okp, ?_⟩⟩
          have p2 : toldC (prF hs2) rs2 p = toldC (prF gs2) rs2 p := by
            have e : prF hs2 = prF gs2 := eg2
            rw [e]
          rw [p2]
          refine ⟨_, rfl, ?_⟩
          cases c2 : toldC (prF gs2) rs2 p with
          | true => exact iteF ⟨⟨_, rfl⟩, (sI.trans s4).trans s5, step (by unfold parts; rw [c1, c2]; rfl)⟩
          | false =>
            refine iteT ⟨.ref t, rfl, q _ _ (s02.trans (s2j.trans s5)) ?_⟩
            have pp : parts (prF gs) rs (prF gs2) rs2 p = true := by unfold parts; rw [c1, c2]; rfl
            have fnd : (pbsOf names (gs.map (·.1))).find? (parts (prF gs) rs (prF gs2) rs2) = some p := by
              obtain ⟨hl, ep⟩ := List.getElem?_eq_some_iff.mp hp
              have sp : pbsOf names (gs.map (·.1)) = (pbsOf names (gs.map (·.1))).take i ++ p :: (pbsOf names (gs.map (·.1))).drop (i + 1) := by
                conv => lhs; rw [← List.take_append_drop i (pbsOf names (gs.map (·.1)))]
                rw [List.drop_eq_getElem_cons hl, ep]
              rw [sp, List.find?_append, List.find?_eq_none.mpr fun z hz => by rw [none_ z hz]; exact Bool.false_ne_true]
              rw [Option.none_or, List.find?_cons_of_pos pp]
            rw [fnd]
            exact ⟨t, rfl, s5 _ _ (s4 _ _ eti)⟩
      · obtain ⟨⟨y4, rfl⟩, sI, none_⟩ := Z
        rw [List.length_map, many, List.take_length] at none_
        refine q _ _ (s02.trans (s23.trans sI)) ?_
        rw [List.find?_eq_none.mpr fun z hz => by rw [none_ z hz]; exact Bool.false_ne_true]
end
end KF
end L2
end
/-! ### TG -/
section
namespace L2
namespace KF
open PySem PySem.Spec PyProof.Rows PySem.KD KE KC PySem.KA KM TL KS KH
/-! ## _law_can -/
abbrev sCan : Stmt := topS 44
abbrev canN : List Str := ["_law_plain", "_law_probe", "_law_state", "_law_outcome", "_law_word"]
theorem scCan : FnScope canN ["_law_plain", "_law_probe"] (defScope sCan) := ⟨rfl, rfl, rfl, by decide +kernel, rfl, by decide +kernel, by decide +kernel⟩
theorem rank_end {l s : Str} (hl : l ∈ endL) (hs : s ∈ stL) : decide (rankI l > (if decide (V.str s = V.str (Str.ofString "set")) = true then 1 else 0)) = badE l s := by
  simp only [List.mem_cons, List.not_mem_nil, or_false, stL] at hl hs
  rcases hl with rfl | rfl | rfl <;> rcases hs with rfl | rfl <;> decide +kernel
theorem rank_read {l s : Str} (hl : l ∈ readL) (hs : s ∈ stL) : decide (rankI l > (if decide (V.str s = V.str (Str.ofString "set")) = true then 1 else 0)) = badR l s := by
  simp only [List.mem_cons, List.not_mem_nil, or_false, stL] at hl hs
  rcases hl with rfl | rfl | rfl <;> rcases hs with rfl | rfl <;> decide +kernel
section
variable {P : Program} {w : World} {K : PySem.W.Frag} {mg : Str → Option Value} {base : Heap}
def spCan (w : World) : Sp := fun vs H Q _ => ∃ (T D R t : Addr) (words : List Str) (fs : List Fin) (rs : List (Str × Str)) (p : Pb), vs = [.ref T, .ref t] ∧ H T = some (.tup [.ref D, .ref R]) ∧ ProfAt w H D R words fs rs ∧ H t = some (pbO p) ∧ PbOk words p ∧ ∀ H', Same H H' → Q (.bl (toldC (prF fs) rs p)) H'
theorem ok_can {f fR : Addr} {fd fdR : FuncData} (F : Fun K "_law_can" "_law_can" sCan f fd) (FR : Fun K "_law_rank" "_law_rank" sRk fR fdR) (gR : mg "_law_rank" = some (.ref fR)) (bR : Binds K fdR ["_law_level"] []) (mI : mg "int" = none) : FnOk P w K mg base CX0 2 f fd ["_law_plain", "_law_probe"] (spCan w) := by
  have GR : FnOk P w K mg base CX0 1 fR fdR ["_law_level"] spRk := ok_rk FR
  refine F.ok scCan (fun vs H Q E h => ?_) (fun cdv A outer s H vs Q E hr h => ?_)
  · obtain ⟨_, _, _, _, _, _, _, _, rfl, _⟩ := h
    rfl
  · obtain ⟨T, D, R, t, words, fs, rs, p, rfl, eT, PA, et, ok, q⟩ := h
    have hu10 : (cxOf CX0 P w K mg base canN "_law_can" (defScope sCan) f cdv A outer s H E).nox.A.units + 10 < cLine := by
      have := hr.un
      show (A.deeper _).units + 10 < cLine
      omega
    refine ⟨_, pss_cons (ps_asg (pv 1) (pg_tup rfl (pgs_cons (pg_name (i := 2) scCan.nd rfl (.inl rfl)) (pgs_cons (pg_name (i := 3) scCan.nd rfl (.inl rfl)) (pgs_cons (pg_name (i := 4) scCan.nd rfl (.inl rfl)) pgs_nil)))))
      (pss_cons (ps_if (pt_cmpR op_isN (pv 2) pe_non (nomark _)) (pss_one (ps_ret (pe_cmpR (op_inM hu10) (pv 3) (pe_ix ix_seq (pv 0) pe_int (fun _ _ => rfl)) (by rfl)))) pss_nil)
      (pss_cons (ps_if (pt_cmpR op_isN (pv 3) pe_non (nomark _)) (pss_one (ps_ret (pe_cmpR op_gt (pe_call GR hr (by rfl) gR FR.kp bR .nil pass0 (pa_cons (pe_ix (ixM hu10) (pe_ix ix_seq (pv 0) pe_int (fun _ _ => rfl)) (pv 4) (fun _ _ => rfl)) pa_nil)) (pe_callTy call_int1 (by rfl) mI boot_int (pa_cons (pe_cmpR op_eq (pv 2) pe_str (nomark _)) pa_nil)) (nomark _)))) pss_nil)
      (pss_one (ps_ret (pe_and (pe_cmpR (op_inM hu10) (pv 3) (pe_ix ix_seq (pv 0) pe_int (fun _ _ => rfl)) (by rfl))
        (pe_one (pe_cmpR op_gt (pe_call GR hr (by rfl) gR FR.kp bR .nil pass0 (pa_cons (pe_ix (ixM hu10) (pe_ix (ixM hu10) (pe_ix ix_seq (pv 0) pe_int (fun _ _ => rfl)) (pv 3) (fun _ _ => rfl)) (pv 4) (fun _ _ => rfl)) pa_nil)) (pe_callTy call_int1 (by rfl) mI boot_int (pa_cons (pe_cmpR op_eq (pv 2) pe_str (nomark _)) pa_nil)) (nomark _)))))))), ?_⟩
    refine ⟨.ref t, rfl, t, _, rfl, .inl (.inl et), rfl, _, _, rfl, _, _, rfl, _, _, rfl, rfl, ?_⟩
    have rdR : Rd H R (mdo w R (rowsT rs)) := .inl PA.hR
    have rdD : Rd H D (mdo w D (rowsF fs)) := .inl PA.hD
    have e0 : ∀ {Q' : VK}, Q' (.ref D) H → tOp (rIx K) (tVar 0) (tC (.int 0)) [some (.ref T)] H Q' := fun q' => ⟨.ref T, rfl, .inr (.inl ⟨T, _, _, .ref D, rfl, rfl, .inl (.inl eT), atN (i := 0) rfl, q'⟩)⟩
    cases ok with
    | out o =>
      refine ⟨.non, rfl, rfl, _, rfl, ?_⟩
      rw [show decide (V.non = V.non) = true from rfl]
      refine iteT ⟨.str o, rfl, .ref T, rfl, .inr (.inl ⟨T, _, _, .ref D, rfl, rfl, .inl (.inl eT), atN (i := 0) rfl, D, rowsF fs, .text o, rfl, rdD, rowsF_all _ _, kAt.text _ _, ?_⟩)⟩
      rw [findF_at]
      have e : toldC (prF fs) rs (none, some o, none) = (findC (prF fs) o).isSome := rfl
      rw [e, findC_prF] at q
      have fin := q H (Same.refl H)
      cases h : findF fs o with
      | none =>
        rw [h] at fin
        exact fin
      | some z =>
        rw [h] at fin
        exact fin
    | st s o x hs hx =>
      refine ⟨.str s, rfl, rfl, _, rfl, ?_⟩
      rw [show decide (V.str s = V.non) = false from rfl]
      cases o with
      | none =>
        refine iteF ⟨.non, rfl, rfl, _, rfl, ?_⟩
        rw [show decide (V.non = V.non) = true from rfl]
        have mx : x ∈ rs.map (·.1) := by rw [PA.rk]; exact hx
        have lr : lookH (rowsT rs) (.text x) = some (.text x, .str x, .str (lookT rs x)) := lookT_at mx
        have ll := PA.rl _ (lookT_mem mx)
        refine iteT ⟨.ref T, rfl, .inr (.inl ⟨T, _, _, .ref R, rfl, rfl, .inl (.inl eT), atN (i := 1) rfl, .str x, rfl, R, rowsT rs, .text x, _, rfl, rdR, rowsT_all _ _, kAt.text _ _, lr, lookT rs x, rfl, List.mem_append_right _ ll, fun H' s' => ?_⟩)⟩
        refine ⟨.str s, rfl, rfl, .inr ⟨_, rfl, _, _, rfl, rfl, ?_⟩⟩
        have fin := q H' s'
        have e : toldC (prF fs) rs (some s, none, some x) = badR (lookT rs x) s := rfl
        rw [e, ← rank_read ll hs] at fin
        exact fin
      | some o =>
        refine iteF ⟨.str o, rfl, rfl, _, rfl, ?_⟩
        rw [show decide (V.str o = V.non) = false from rfl]
        refine iteF ⟨.str o, rfl, .ref T, rfl, .inr (.inl ⟨T, _, _, .ref D, rfl, rfl, .inl (.inl eT), atN (i := 0) rfl, D, rowsF fs, .text o, rfl, rdD, rowsF_all _ _, kAt.text _ _, ?_⟩)⟩
        rw [findF_at]
        have e : toldC (prF fs) rs (some s, some o, some x) = (match findC (prF fs) o with | none => false | some ls => badE (lookT ls x) s) := rfl
        rw [e, findC_prF] at q
        cases h : findF fs o with
        | none =>
          rw [h] at q
          exact ⟨_, rfl, iteF (q H (Same.refl H))⟩
        | some z =>
          rw [h] at q
          have q : ∀ H', Same H H' → Q (.bl (badE (lookT z.2.2 x) s)) H' := q
          obtain ⟨hz, ez⟩ := findF_mem h
          have mx : x ∈ z.2.2.map (·.1) := by rw [PA.rows.keys z hz]; exact hx
          have lz : lookH (rowsT z.2.2) (.text x) = some (.text x, .str x, .str (lookT z.2.2 x)) := lookT_at mx
          have ll := PA.rows.lev z hz _ (lookT_mem mx)
          refine ⟨_, rfl, iteT ⟨.ref T, rfl, .inr (.inl ⟨T, _, _, .ref D, rfl, rfl, .inl (.inl eT), atN (i := 0) rfl, .str o, rfl, D, rowsF fs, .text o, (.text z.1, .str z.1, .ref z.2.1), rfl, rdD, rowsF_all _ _, kAt.text _ _, by rw [findF_at, h]; rfl, .str x, rfl, z.2.1, rowsT z.2.2, .text x, _, rfl, .inl (PA.rows.at_ z hz), rowsT_all _ _, kAt.text _ _, lz, lookT z.2.2 x, rfl, List.mem_append_left _ ll, fun H' s' => ?_⟩)⟩⟩
          refine ⟨.str s, rfl, rfl, .inr ⟨_, rfl, _, _, rfl, rfl, ?_⟩⟩
          have fin := q H' s'
          rw [← rank_end ll hs] at fin
          exact fin
end
end KF
end L2
end
/-! ### TH -/
section
namespace L2
namespace KF
open PySem PySem.Spec PyProof.Rows PySem.KD KE KC PySem.KA KM TL KS KH
/-! ## _law_probes -/
abbrev sLPb : Stmt := topS 45
abbrev lpN : List Str := ["_law_words", "_law_finals", "_law_found", "_law_word", "_law_state", "_law_outcome"]
theorem scLPb : FnScope lpN ["_law_words", "_law_finals"] (defScope sLPb) := ⟨rfl, rfl, rfl, by decide +kernel, rfl, by decide +kernel, by decide +kernel⟩
def lpN_ (outs : List (Option Str)) (x s : Str) : List Pb := outs.map fun o => (some s, o, some x)
def lpW (outs : List (Option Str)) (x : Str) : List Pb := stL.flatMap (lpN_ outs x)
def lawPbs (words : List Str) (outs : List Str) : List Pb := (outs.map fun o => (none, some o, none)) ++ words.flatMap (lpW (outs.map some ++ [none]))
theorem optV_list (outs : List Str) : (outs.map some ++ [none]).map optV = outs.map V.str ++ [V.non] := by
  rw [List.map_append, List.map_map]
  rfl
/-- two lists of probes joined anew -/
theorem PbList.cat {H0 H H' : Hp} {L M : Addr} {ps qs : List Pb} {us : List Addr} (B : PbList H0 H L ps) (s : Same H H') (r : Paired (fun (t : Addr) (p : Pb) => H' t = some (pbO p)) us qs) (n : H' M = none) :
    ∃ ts : List Addr, H' L = some (.lst (ts.map V.ref)) ∧ ts.length = ps.length ∧ PbList H0 (upd H' M (.lst (ts.map V.ref ++ us.map V.ref))) M (ps ++ qs) := by
  obtain ⟨ts, e, p⟩ := B.ex
  have e' := s _ _ e
  have sM := same_upd (o := HO.lst (ts.map V.ref ++ us.map V.ref)) n
  exact ⟨ts, e', Paired.length p, fun b u eb => sM _ _ (s _ _ (B.off b u eb)), ts ++ us, by rw [upd_same, List.map_append], paired_append (paired_mono p fun t q h => sM _ _ (s _ _ h)) (paired_mono r fun t q h => sM _ _ h)⟩
theorem flat_len {α β : Type} {f : α → List β} {n : Nat} : ∀ {l : List α}, (∀ x ∈ l, (f x).length ≤ n) → (l.flatMap f).length ≤ l.length * n
  | [], _ => Nat.zero_le _
  | a :: l, h => by
    have h1 := h a List.mem_cons_self
    have h2 := flat_len (f := f) (n := n) (l := l) fun x hx => h x (List.mem_cons_of_mem _ hx)
    rw [List.flatMap_cons, List.length_append, List.length_cons]
    have : (l.length + 1) * n = l.length * n + n := Nat.succ_mul _ _
    omega
section
variable {P : Program} {w : World} {K : PySem.W.Frag} {mg : Str → Option Value} {base : Heap}
def spLPb : Sp := fun vs H Q _ => ∃ (b l : Addr) (words outs : List Str), vs = [.ref b, .ref l] ∧ H b = some (.lst (words.map V.str)) ∧ H l = some (.lst (outs.map V.str)) ∧ words.length ≤ 4 ∧ outs.length ≤ 6 ∧
  ∀ H' L, Same H H' → H L = none → PbList H H' L (lawPbs words outs) → Q (.ref L) H'
theorem ok_lPb {f : Addr} {fd : FuncData} {k : Nat} (F : Fun K "_law_probes" "_law_probes" sLPb f fd) : FnOk P w K mg base CX0 (k + 1) f fd ["_law_words", "_law_finals"] spLPb := by
  refine F.ok scLPb (fun vs H Q E h => ?_) (fun cdv A outer s H vs Q E hr h => ?_)
  · obtain ⟨_, _, _, _, rfl, _⟩ := h
    rfl
  · obtain ⟨b, l, words, outs, rfl, eb, el, n4, o6, q⟩ := h
    refine ⟨_, pss_cons (ps_setLc (i := 2) (own := [("_law_outcome", 5)]) (g := gName 5) (tt := tYes) rfl scLPb.nd rfl rfl rfl (pi_list (pv 1))
          (blkOk_by (N := lpN) (sc := defScope sLPb) (by decide +kernel)) (fun _ _ _ _ _ => pg_name (i := 5) scLPb.nd rfl (Or.inl rfl)) (fun _ _ _ _ _ => pts_nil)
          (fun _ _ _ _ _ => pe_tup (pa_cons pe_non (pa_cons (pv 5) (pa_cons pe_non pa_nil)))))
      (pss_cons (ps_for PassesOwn.never rfl (pi_list (pv 0)) (pg_name (i := 3) scLPb.nd rfl (.inr rfl))
        (pss_one (ps_for PassesOwn.never rfl (pi_list (pe_lst (pa_cons pe_str (pa_cons pe_str pa_nil)))) (pg_name (i := 4) scLPb.nd rfl (.inr rfl))
          (pss_one (ps_set (i := 2) scLPb.nd rfl (.inl rfl) (pe_op op_cat (pv 2) (pe_lc (own := [("_law_outcome", 5)]) (g := gName 5) (tt := tYes) rfl scLPb.nd (pi_list (pe_op op_cat (pv 1) (pe_lst (pa_cons pe_non pa_nil))))
            (blkOk_by (N := lpN) (sc := defScope sLPb) (by decide +kernel)) (fun _ _ _ _ _ => pg_name (i := 5) scLPb.nd rfl (Or.inl rfl)) (fun _ _ _ _ _ => pts_nil)
            (fun _ _ _ _ _ => pe_tup (pa_cons (pv 4) (pa_cons (pv 5) (pa_cons (pv 3) pa_nil)))))))))))
      (pss_one (ps_ret (pv 2)))), ?_⟩
    refine c_seq (c_asg (c_lc ⟨.ref l, rfl, l, rfl, ⟨_, .inl (.inl el)⟩, fun L nL => ?_⟩))
    refine lc_list (a := l) (xs := outs.map V.str) (fun i Hi => PbList H Hi L ((outs.map fun o => ((none, some o, none) : Pb)).take i)) (PbList.nil nL) (fun i Hi _ S => .inl (.inl (S.off _ _ el))) (fun i y Hi hy S => ?_) (fun Hi S => ?_)
    · rw [List.getElem?_map] at hy
      obtain ⟨o, ho, rfl⟩ := Option.map_eq_some_iff.mp hy
      refine c_name ⟨wipe_one _ 5 _, .str o, rfl, by show 3 ≤ sizeLine; decide, fun T nT => ?_⟩
      obtain ⟨ts, e, lt, B⟩ := S.more (us := [T]) (qs := [(none, some o, none)]) nL (same_upd (o := HO.tup [.non, .str o, .non]) nT) (.cons upd_same .nil)
      rw [take_map _ _ _ ho]
      exact ⟨_, e, small1000 (by rw [List.length_map, lt, List.length_take, List.length_map]; omega), B⟩
    · rw [List.length_map] at S
      rw [show (outs.map fun o => ((none, some o, none) : Pb)).take outs.length = outs.map fun o => ((none, some o, none) : Pb) from List.take_of_length_le (by rw [List.length_map]; exact Nat.le_refl _)] at S
      refine c_name (c_nx (c_seq ?_))
      have lo : (outs.map fun o => ((none, some o, none) : Pb)).length ≤ 6 := by rw [List.length_map]; exact o6
      generalize hB : (outs.map fun o => ((none, some o, none) : Pb)) = base0 at S lo
      generalize hO : outs.map some ++ [none] = os
      have los : os.length ≤ 7 := by rw [← hO, List.length_append, List.length_map]; exact Nat.succ_le_succ o6
      have osV : os.map optV = outs.map V.str ++ [V.non] := by rw [← hO]; exact optV_list outs
      have l1 : ∀ x s, (lpN_ os x s).length ≤ 7 := fun x s => by unfold lpN_; rw [List.length_map]; exact los
      have l2 : ∀ x, (lpW os x).length ≤ 14 := fun x => Nat.le_trans (flat_len (n := 7) fun s _ => l1 x s) (by decide)
      refine ⟨.ref b, rfl, b, rfl, ⟨_, .inl (.inl (S.off _ _ eb))⟩, ?_⟩
      refine for_list (a := b) (xs := words.map V.str) (fun i σ Hi => ∃ M, (∃ y3 y4 y5, σ = [some (.ref b), some (.ref l), some (.ref M), y3, y4, y5]) ∧ H M = none ∧ PbList H Hi M (base0 ++ (words.take i).flatMap (lpW os))) ⟨L, ⟨_, _, _, rfl⟩, nL, by rw [List.take_zero, List.flatMap_nil, List.append_nil]; exact S⟩
        (fun i σ Hi _ Z => by
          obtain ⟨M, _, _, S⟩ := Z
          exact .inl (.inl (S.off _ _ eb))) (fun i y σ Hi hy Z => ?_) (fun σ Hi Z => ?_)
      · rw [List.getElem?_map] at hy
        obtain ⟨x, hx, rfl⟩ := Option.map_eq_some_iff.mp hy
        obtain ⟨M, ⟨y3, y4, y5, rfl⟩, nM, S1⟩ := Z
        have i4 : i < 4 := Nat.lt_of_lt_of_le (List.getElem?_eq_some_iff.mp hx).1 n4
        refine c_name ⟨by show 2 ≤ sizeLine; decide, fun C nC => ?_⟩
        have sC := same_upd (o := HO.lst [.str (Str.ofString "set"), .str (Str.ofString "unset")]) nC
        refine ⟨C, rfl, ⟨_, .inl (.inl upd_same)⟩, ?_⟩
        have len1 : (base0 ++ (words.take i).flatMap (lpW os)).length ≤ 62 := by
          have := flat_len (f := lpW os) (n := 14) (l := words.take i) fun x _ => l2 x
          rw [List.length_take] at this
          rw [List.length_append]
          omega
        rw [flat_take _ _ _ hx, ← List.append_assoc]
        generalize base0 ++ (words.take i).flatMap (lpW os) = base1 at S1 len1
        have eC : ∀ {Hj : Hp}, Same (upd Hi C (.lst [.str (Str.ofString "set"), .str (Str.ofString "unset")])) Hj → Hj C = some (.lst (stL.map V.str)) := fun s => s _ _ upd_same
        refine for_list (a := C) (xs := stL.map V.str) (fun j σ Hj => Same (upd Hi C (.lst [.str (Str.ofString "set"), .str (Str.ofString "unset")])) Hj ∧ ∃ M, (∃ y4 y5, σ = [some (.ref b), some (.ref l), some (.ref M), some (.str x), y4, y5]) ∧ H M = none ∧ PbList H Hj M (base1 ++ (stL.take j).flatMap (lpN_ os x)))
          ⟨Same.refl _, M, ⟨_, _, rfl⟩, nM, fun b u e => sC _ _ (S1.off b u e), by
            obtain ⟨ts, e, p⟩ := S1.ex
            rw [List.take_zero, List.flatMap_nil, List.append_nil]
            exact ⟨ts, sC _ _ e, paired_mono p fun t q h => sC _ _ h⟩⟩
          (fun j σ Hj _ Z => .inl (.inl (eC Z.1))) (fun j y σ Hj hy Z => ?_) (fun σ Hj Z => ?_)
        · rw [List.getElem?_map] at hy
          obtain ⟨st, hst, rfl⟩ := Option.map_eq_some_iff.mp hy
          obtain ⟨sj, M1, ⟨y4, y5, rfl⟩, nM1, S2⟩ := Z
          have j2 : j < 2 := (List.getElem?_eq_some_iff.mp hst).1
          have len2 : (base1 ++ (stL.take j).flatMap (lpN_ os x)).length ≤ 80 := by
            have := flat_len (f := lpN_ os x) (n := 7) (l := stL.take j) fun s _ => l1 x s
            rw [List.length_take] at this
            rw [List.length_append]
            omega
          rw [flat_take _ _ _ hst, ← List.append_assoc]
          generalize base1 ++ (stL.take j).flatMap (lpN_ os x) = base2 at S2 len2
          refine c_name (c_asg (c_op ?_))
          refine ⟨.ref M1, rfl, ?_⟩
          refine c_lc ⟨.ref l, rfl, by show 1 ≤ sizeLine; decide, fun N nN => ?_⟩
          have sN := same_upd (o := HO.lst [V.non]) nN
          refine ⟨l, N, _, _, rfl, rfl, sN _ _ (S2.off _ _ el), upd_same, Nat.le_of_lt (small1000 (by rw [List.length_map]; show _ + 1 ≤ _; omega)), fun J nJ => ?_⟩
          have sJ := same_upd (o := HO.lst (outs.map V.str ++ [V.non])) nJ
          have eJ : (upd (upd Hj N (.lst [V.non])) J (.lst (outs.map V.str ++ [V.non]))) J = some (.lst (os.map optV)) := by rw [upd_same, osV]
          revert eJ sJ
          generalize upd (upd Hj N (.lst [V.non])) J (.lst (outs.map V.str ++ [V.non])) = H3
          intro sJ eJ
          have s3 : Same Hj H3 := sN.trans sJ
          refine ⟨J, rfl, ⟨_, .inl (.inl eJ)⟩, fun U nU => ?_⟩
          refine lc_list (a := J) (xs := os.map optV) (fun i Hi => PbList H3 Hi U ((lpN_ os x st).take i)) (PbList.nil nU) (fun i Hi _ S => .inl (.inl (S.off _ _ eJ))) (fun i y Hi hy S => ?_) (fun Hi S => ?_)
          · rw [List.getElem?_map] at hy
            obtain ⟨o, ho, rfl⟩ := Option.map_eq_some_iff.mp hy
            refine c_name ⟨wipe_one _ 5 _, .str st, rfl, optV o, rfl, .str x, rfl, by show 3 ≤ sizeLine; decide, fun T2 nT2 => ?_⟩
            obtain ⟨ts2, e2, lt2, B2⟩ := S.more (us := [T2]) (qs := [(some st, o, some x)]) nU (same_upd (o := HO.tup [.str st, optV o, .str x]) nT2) (.cons upd_same .nil)
            have tk : (lpN_ os x st).take (i + 1) = (lpN_ os x st).take i ++ [(some st, o, some x)] := take_map _ _ _ ho
            rw [tk]
            exact ⟨_, e2, small1000 (by rw [List.length_map, lt2, List.length_take]; have := l1 x st; omega), B2⟩
          · rw [List.length_map, show (lpN_ os x st).take os.length = lpN_ os x st from List.take_of_length_le (by unfold lpN_; rw [List.length_map]; exact Nat.le_refl _)] at S
            obtain ⟨us, eU, pU⟩ := id S.ex
            have lU := Paired.length pU
            have l1' := l1 x st
            have s4 : Same Hj Hi := fun b u e => S.off _ _ (s3 _ _ e)
            obtain ⟨ts0, e0, p0⟩ := id S2.ex
            refine ⟨M1, U, _, _, rfl, rfl, s4 _ _ e0, eU, Nat.le_of_lt (small1000 (by rw [List.length_map, List.length_map, Paired.length p0, lU]; omega)), fun Z nZ => ?_⟩
            obtain ⟨ts3, e3, lt3, B3⟩ := S2.cat s4 pU nZ
            have ets : ts3.map V.ref = ts0.map V.ref := by
              have := (s4 _ _ e0).symm.trans e3
              injection this with this
              injection this with this
              exact this.symm
            rw [ets] at B3
            have nZ0 : H Z = none := by
              cases e : H Z with
              | none => rfl
              | some u =>
                rw [s4 _ _ (S2.off _ _ e)] at nZ
                cases nZ
            exact c_name (c_nx ⟨fun b u e => same_upd nZ _ _ (s4 _ _ (sj _ _ e)), Z, ⟨_, _, rfl⟩, nZ0, B3⟩)
        · obtain ⟨sj, M1, ⟨y4, y5, rfl⟩, nM1, S2⟩ := Z
          rw [List.length_map, List.take_length] at S2
          exact c_nx ⟨M1, ⟨_, _, _, rfl⟩, nM1, S2⟩
      · obtain ⟨M, ⟨y3, y4, y5, rfl⟩, nM, S1⟩ := Z
        rw [List.length_map, List.take_length] at S1
        refine c_nx ⟨.ref M, rfl, q Hi M S1.off nM ?_⟩
        unfold lawPbs
        rw [hB, hO]
        exact S1
end
end KF
end L2
end
/-! ### TM -/
section
namespace L2
namespace KF
open PySem PySem.Spec PyProof.Rows PySem.KD KE KC PySem.KA KM TL KS KH
/-! ## what is ascending tells the same -/
theorem told_can {words : List Str} {cs : Cs} {rs : List (Str × Str)} (C : CsOk words cs rs) {p : Pb} (ok : PbOk words p) : toldC (canC cs) (ordT rs) p = toldC cs rs p := by
  cases ok with
  | out o =>
    show (findC (canC cs) o).isSome = (findC cs o).isSome
    rw [findC_can]
    cases findC cs o <;> rfl
  | st s o x hs hx =>
    cases o with
    | none =>
      show badR (lookT (ordT rs) x) s = badR (lookT rs x) s
      rw [look_ord (by rw [C.rk]; exact C.nd) (by rw [C.rk]; exact hx)]
    | some o =>
      show (match findC (canC cs) o with | none => false | some ls => badE (lookT ls x) s) = (match findC cs o with | none => false | some ls => badE (lookT ls x) s)
      rw [findC_can]
      cases h : findC cs o with
      | none => rfl
      | some ls =>
        have k := C.keys _ (findC_mem h)
        show badE (lookT (ordT ls) x) s = badE (lookT ls x) s
        rw [look_ord (by rw [k]; exact C.nd) (by rw [k]; exact hx)]
/-! ## at most: no probe tells them apart -/
/-- two levels: no state parts them just if the one is at most the other -/
theorem end_part {l1 l2 : Str} (h1 : l1 ∈ endL) (h2 : l2 ∈ endL) : (∀ s ∈ stL, (badE l1 s && !badE l2 s) = false) ↔ ¬ rankI l2 < rankI l1 := by
  rcases lev_cases h1 with rfl | rfl | rfl <;> rcases lev_cases h2 with rfl | rfl | rfl <;> decide +kernel
theorem read_part {l1 l2 : Str} (h1 : l1 ∈ readL) (h2 : l2 ∈ readL) : (∀ s ∈ stL, (badR l1 s && !badR l2 s) = false) ↔ ¬ rankI l2 < rankI l1 := by
  rcases read_cases h1 with rfl | rfl | rfl <;> rcases read_cases h2 with rfl | rfl | rfl <;> decide +kernel
theorem rowLow_iff {a b : List (Str × Str)} : rowLow a b = true ↔ ∀ q ∈ a, ¬ rankI (lookT b q.1) < rankI (lookT a q.1) := by
  unfold rowLow worse
  rw [List.isEmpty_iff, List.filter_eq_nil_iff]
  constructor
  · intro h q hq
    have := h q hq
    simpa using this
  · intro h q hq
    have := h q hq
    simpa using this
theorem low_parts {words outs : List Str} {fs fs2 : List Fin} {rs rs2 : List (Str × Str)} {names : List Str} (C1 : CsOk words (prF fs) rs) (C2 : CsOk words (prF fs2) rs2) (nm : ∀ x, x ∈ names ↔ x ∈ words) (om : ∀ o, o ∈ outs ↔ o ∈ fs.map (·.1)) :
    lowB fs rs fs2 rs2 = true ↔ ∀ p ∈ pbsOf names outs, parts (prF fs) rs (prF fs2) rs2 p = false := by
  have rd : rowLow rs rs2 = true ↔ ∀ x ∈ words, ∀ s ∈ stL, (badR (lookT rs x) s && !badR (lookT rs2 x) s) = false := by
    rw [rowLow_iff, row_all C1.rk (R := fun x => ¬ rankI (lookT rs2 x) < rankI (lookT rs x))]
    constructor
    · intro h x hx
      exact (read_part (key_lev C1.rk C1.rl hx) (key_lev C2.rk C2.rl hx)).mpr (h x hx)
    · intro h x hx
      exact (read_part (key_lev C1.rk C1.rl hx) (key_lev C2.rk C2.rl hx)).mp (h x hx)
  have en : ∀ q ∈ fs, finLow fs fs2 q = true ↔ ∃ ls, findC (prF fs2) q.1 = some ls ∧ ∀ x ∈ words, ∀ s ∈ stL, (badE (lookT q.2.2 x) s && !badE (lookT ls x) s) = false := fun q hq => by
    have mq : (q.1, q.2.2) ∈ prF fs := List.mem_map_of_mem (f := fun q : Fin => (q.1, q.2.2)) hq
    unfold finLow
    rw [findC_prF]
    cases h : findF fs2 q.1 with
    | none => simp
    | some q2 =>
      have mq2 : (q2.1, q2.2.2) ∈ prF fs2 := List.mem_map_of_mem (f := fun q : Fin => (q.1, q.2.2)) (findF_mem h).1
      show rowLow q.2.2 q2.2.2 = true ↔ _
      rw [rowLow_iff, row_all (C1.keys _ mq) (R := fun x => ¬ rankI (lookT q2.2.2 x) < rankI (lookT q.2.2 x))]
      constructor
      · intro h
        exact ⟨_, rfl, fun x hx => (end_part (key_lev (C1.keys _ mq) (C1.lev _ mq) hx) (key_lev (C2.keys _ mq2) (C2.lev _ mq2) hx)).mpr (h x hx)⟩
      · rintro ⟨ls, e, h⟩ x hx
        obtain rfl : q2.2.2 = ls := Option.some.inj e
        exact (end_part (key_lev (C1.keys _ mq) (C1.lev _ mq) hx) (key_lev (C2.keys _ mq2) (C2.lev _ mq2) hx)).mp (h x hx)
  have self : ∀ q ∈ fs, findC (prF fs) q.1 = some q.2.2 := fun q hq => by
    rw [findC_prF, self_at (by have := C1.ck; rwa [prF_keys] at this) hq]
    rfl
  unfold lowB
  rw [Bool.and_eq_true, List.all_eq_true, rd]
  constructor
  · rintro ⟨h1, h2⟩ p hp
    rcases List.mem_append.mp hp with hp | hp
    · obtain ⟨o, ho, rfl⟩ := List.mem_map.mp hp
      obtain ⟨q, hq, rfl⟩ := List.mem_map.mp ((om o).mp ho)
      obtain ⟨ls, e, _⟩ := (en q hq).mp (h1 q hq)
      show ((findC (prF fs) q.1).isSome && !(findC (prF fs2) q.1).isSome) = false
      rw [e]
      simp
    · obtain ⟨s, hs, hp⟩ := List.mem_flatMap.mp hp
      obtain ⟨x, hx, hp⟩ := List.mem_flatMap.mp hp
      have hx := (nm x).mp hx
      rcases List.mem_cons.mp hp with rfl | hp
      · exact h2 x hx s hs
      · obtain ⟨o, ho, rfl⟩ := List.mem_map.mp hp
        obtain ⟨q, hq, rfl⟩ := List.mem_map.mp ((om o).mp ho)
        obtain ⟨ls, e, h⟩ := (en q hq).mp (h1 q hq)
        show ((match findC (prF fs) q.1 with | none => false | some ls => badE (lookT ls x) s) && !(match findC (prF fs2) q.1 with | none => false | some ls => badE (lookT ls x) s)) = false
        rw [e, self q hq]
        exact h x hx s hs
  · intro h
    refine ⟨fun q hq => (en q hq).mpr ?_, fun x hx s hs => ?_⟩
    · have h1 := h (none, some q.1, none) (List.mem_append_left _ (List.mem_map_of_mem (f := fun o => ((none, some o, none) : Pb)) ((om _).mpr (List.mem_map_of_mem (f := fun q : Fin => q.1) hq))))
      have h1 : ((findC (prF fs) q.1).isSome && !(findC (prF fs2) q.1).isSome) = false := h1
      rw [self q hq] at h1
      cases e : findC (prF fs2) q.1 with
      | none =>
        rw [e] at h1
        cases h1
      | some ls =>
        refine ⟨ls, rfl, fun x hx s hs => ?_⟩
        have h2 := h (some s, some q.1, some x) (List.mem_append_right _ (List.mem_flatMap.mpr ⟨s, hs, List.mem_flatMap.mpr ⟨x, (nm x).mpr hx, List.mem_cons_of_mem _ (List.mem_map_of_mem (f := fun o => ((some s, some o, some x) : Pb)) ((om _).mpr (List.mem_map_of_mem (f := fun q : Fin => q.1) hq)))⟩⟩))
        have h2 : ((match findC (prF fs) q.1 with | none => false | some ls => badE (lookT ls x) s) && !(match findC (prF fs2) q.1 with | none => false | some ls => badE (lookT ls x) s)) = false := h2
        rw [e, self q hq] at h2
        exact h2
    · exact h (some s, none, some x) (List.mem_append_right _ (List.mem_flatMap.mpr ⟨s, hs, List.mem_flatMap.mpr ⟨x, (nm x).mpr hx, List.mem_cons_self⟩⟩))
/-! ## the law's probes -/
abbrev finL : List Str := [Str.ofString "done", Str.ofString "fail a", Str.ofString "fail b", Str.ofString "fail done", Str.ofString "fail zzzzzzzz"]
theorem law_ok {words : List Str} {p : Pb} (h : p ∈ lawPbs words finL) : PbOk words p ∧ ∀ o, p.2.1 = some o → o ∈ finL := by
  rcases List.mem_append.mp h with h | h
  · obtain ⟨o, ho, rfl⟩ := List.mem_map.mp h
    exact ⟨.out o, fun o' e => Option.some.inj e ▸ ho⟩
  · obtain ⟨x, hx, h⟩ := List.mem_flatMap.mp h
    obtain ⟨s, hs, h⟩ := List.mem_flatMap.mp h
    obtain ⟨o, ho, rfl⟩ := List.mem_map.mp h
    refine ⟨.st s o x hs hx, fun o' e => ?_⟩
    have e : o = some o' := e
    subst e
    rcases List.mem_append.mp ho with z | z
    · obtain ⟨y, hy, e⟩ := List.mem_map.mp z
      exact Option.some.inj e ▸ hy
    · cases List.mem_singleton.mp z
theorem in_law {words names outs : List Str} (nm : ∀ x, x ∈ names ↔ x ∈ words) (om : ∀ o ∈ outs, o ∈ finL) {p : Pb} (h : p ∈ pbsOf names outs) : p ∈ lawPbs words finL := by
  rcases List.mem_append.mp h with h | h
  · obtain ⟨o, ho, rfl⟩ := List.mem_map.mp h
    exact List.mem_append_left _ (List.mem_map_of_mem (f := fun o => ((none, some o, none) : Pb)) (om o ho))
  · obtain ⟨s, hs, h⟩ := List.mem_flatMap.mp h
    obtain ⟨x, hx, h⟩ := List.mem_flatMap.mp h
    have go : ∀ o : Option Str, o ∈ finL.map some ++ [none] → ((some s, o, some x) : Pb) ∈ lawPbs words finL := fun o ho => List.mem_append_right _ (List.mem_flatMap.mpr ⟨x, (nm x).mp hx, List.mem_flatMap.mpr ⟨s, hs, List.mem_map_of_mem (f := fun o => ((some s, o, some x) : Pb)) ho⟩⟩)
    rcases List.mem_cons.mp h with rfl | h
    · exact go none (List.mem_append_right _ List.mem_cons_self)
    · obtain ⟨o, ho, rfl⟩ := List.mem_map.mp h
      exact go (some o) (List.mem_append_left _ (List.mem_map_of_mem (om o ho)))
theorem pbok_of {names words : List Str} (nm : ∀ x, x ∈ names ↔ x ∈ words) {p : Pb} (h : PbOk names p) : PbOk words p := by
  cases h with
  | out o => exact .out o
  | st s o x hs hx => exact .st s o x hs ((nm x).mp hx)
theorem can_keys (cs : Cs) (o : Str) : o ∈ (canC cs).map (·.1) ↔ o ∈ cs.map (·.1) := by
  unfold canC
  rw [List.map_map]
  show o ∈ List.map id _ ↔ _
  rw [List.map_id]
  exact srt_mem
/-- what parting finds: none just if the one is at most the other -/
theorem find_low {words names outs : List Str} {fs fs2 : List Fin} {rs rs2 : List (Str × Str)} (C1 : CsOk words (prF fs) rs) (C2 : CsOk words (prF fs2) rs2) (nm : ∀ x, x ∈ names ↔ x ∈ words) (om : ∀ o, o ∈ outs ↔ o ∈ fs.map (·.1)) :
    match (pbsOf names outs).find? (parts (canC (prF fs)) (ordT rs) (canC (prF fs2)) (ordT rs2)) with
    | none => lowB fs rs fs2 rs2 = true
    | some p => lowB fs rs fs2 rs2 = false ∧ p ∈ pbsOf names outs ∧ toldC (prF fs) rs p = true ∧ toldC (prF fs2) rs2 p = false := by
  have same : ∀ p ∈ pbsOf names outs, parts (canC (prF fs)) (ordT rs) (canC (prF fs2)) (ordT rs2) p = parts (prF fs) rs (prF fs2) rs2 p := fun p hp => by
    have ok := pbok_of nm (pbs_ok p hp)
    unfold parts
    rw [told_can C1 ok, told_can C2 ok]
  cases h : (pbsOf names outs).find? (parts (canC (prF fs)) (ordT rs) (canC (prF fs2)) (ordT rs2)) with
  | none =>
    refine (low_parts C1 C2 nm om).mpr fun p hp => ?_
    have := List.find?_eq_none.mp h p hp
    rw [same p hp] at this
    simpa using this
  | some p =>
    have hp := List.mem_of_find?_eq_some h
    have h2 := List.find?_some h
    rw [same p hp] at h2
    refine ⟨?_, hp, ?_⟩
    · cases e : lowB fs rs fs2 rs2 with
      | false => rfl
      | true =>
        rw [(low_parts C1 C2 nm om).mp e p hp] at h2
        cases h2
    · unfold parts at h2
      rw [Bool.and_eq_true] at h2
      exact ⟨h2.1, by simpa using h2.2⟩
end KF
end L2
end
/-! ### RJ -/
section
namespace L2
namespace KF
open PySem PySem.Spec PyProof.Rows PySem.KD KE KC PySem.KA KM TL KS KH
/-! ## what the law wants of the class -/
theorem PX_keep {w : World} {C : Addr} {H H' : Hp} {x : Addr} {o r n : PyData} {S : Addr → Prop} (h : PX w C H x o r n S) (k : ∀ a u, S a → H a = some u → H' a = some u) (t : TupK H H') : PX w C H' x o r n S := by
  obtain ⟨dx, T, D, R, fs, rs, PA, rfl, rfl, rfl, rfl⟩ := h
  refine ⟨dx, T, D, R, fs, rs, ⟨k _ _ (.inl rfl) PA.hx, t _ _ PA.hT, k _ _ (.inr (.inl rfl)) PA.hD, k _ _ (.inr (.inr (.inl rfl))) PA.hR, fun q hq => ?_, PA.fnd, PA.rnd, PA.len⟩, rfl, rfl, rfl, rfl⟩
  obtain ⟨h1, h2, h3⟩ := PA.row q hq
  exact ⟨k _ _ (.inr (.inr (.inr (List.mem_map_of_mem (f := fun q : Fin => q.2.1) hq)))) h1, h2, h3⟩
theorem not_all {df dr : PyData} (h : finD df = false ∨ rowD readL dr = false ∨ allW df dr = false) : ¬ (finD df = true ∧ rowD readL dr = true ∧ allW df dr = true) := by
  rintro ⟨h1, h2, h3⟩
  rcases h with h | h | h
  · rw [h1] at h
    cases h
  · rw [h2] at h
    cases h
  · rw [h3] at h
    cases h
def profI (w : World) (C CV : Addr) : ProfI w C CV (spInit w C CV) (spOut w C) (spRds w C) (spNms w C) E0 E0 E0 where
  PX := PX w C
  ins := fun {H x o r n S} h => by
    obtain ⟨dx, T, D, R, fs, rs, PA, _⟩ := h
    exact ⟨dx, _, PA.hx⟩
  keep := fun h k t => PX_keep h k t
  init := fun {H x dx vf vr df dr ff fr Q E} hx hdx nx rf rr nf nr h1 h2 h3 q => ⟨x, dx, vf, vr, df, dr, ff, fr, rfl, hx, hdx, nx, rf, rr, nf, nr, fun _ H' S o r n k p fr' n1 n2 n3 _ => q H' S o r n (fun b u nb _ e => k b u nb e) p fr' n1 n2 n3, fun z => absurd ⟨h1, h2, h3⟩ z⟩
  bad := fun {H x dx vf vr df dr ff fr Q E} hx hdx nx rf rr nf nr h q => ⟨x, dx, vf, vr, df, dr, ff, fr, rfl, hx, hdx, nx, rf, rr, nf, nr, fun z => absurd z (not_all h), fun _ H' d fs v f s e l r => q H' d fs v f (fun b u _ _ e => s b u e) e l r⟩
  out := fun {H x o r n S Q} p q => ⟨x, o, r, n, S, rfl, p, q⟩
  rds := fun {H x o r n S Q} p q => ⟨x, o, r, n, S, rfl, p, q⟩
  nms := fun {H x o r n S Q} p q => ⟨x, o, r, n, S, rfl, p, q⟩
/-! ## a global tuple of texts -/
def isStrs : List Str → List Value → Bool
  | [], [] => true
  | x :: xs, .str y _ :: us => decide (y = x) && isStrs xs us
  | _, _ => false
theorem isStrs_ok : ∀ {xs : List Str} {us : List Value}, isStrs xs us = true → Vals (xs.map V.str) us
  | [], [], _ => .nil
  | [], _ :: _, h => by cases h
  | _ :: _, [], h => by cases h
  | x :: xs, u :: us, h => by
    cases u with
    | str y t =>
      have h : (decide (y = x) && isStrs xs us) = true := h
      obtain ⟨h1, h2⟩ := He.ba h
      have h1 := of_decide_eq_true h1
      subst h1
      exact .cons ⟨t, rfl⟩ (isStrs_ok h2)
    | _ => cases h
def tupB (x : Str) (xs : List Str) : FB := fun K => He.eqO (PySem.W.nsIn K mainGlobals x) (some (some (.ref (He.ga K x)))) && (match K.lookup (He.ga K x) with
  | some ⟨.type "tuple", _, .seq its _, _⟩ => decide (its.size ≤ 1000) && isStrs xs its.toList
  | _ => false)
theorem tup_ok {K : PySem.W.Frag} {h : Heap} {mg : Str → Option Value} {x : Str} {xs : List Str} (X : K.In h) (G : h.Ns mainGlobals mg) (c : tupB x xs K = true) : ∃ t, mg x = some (.ref t) ∧ ∀ H, SqT K H t (xs.map V.str) := by
  obtain ⟨c1, c2⟩ := He.ba c
  refine ⟨He.ga K x, PySem.W.mg_of X G (He.eqO_ok c1), fun H => .inr ?_⟩
  split at c2
  · rename_i d its n sl e
    obtain ⟨h1, h2⟩ := He.ba c2
    exact ⟨_, its, n, e, rfl, rfl, Nat.le_trans (of_decide_eq_true h1) (by decide), isStrs_ok h2⟩
  · cases c2
theorem baseB_ok {K : PySem.W.Frag} {B I : String} (c : baseB B I K = true) : PySem.W.findCls K (.type B) (.type "type") "__init__" = some (.val (.builtin I)) := by
  unfold baseB at c
  split at c
  · rename_i x e
    rw [of_decide_eq_true c] at e
    exact e
  · cases c
end KF
end L2
end
/-! ### CI -/
section
namespace L2
namespace KF
open PySem PySem.Spec PyProof.Rows PySem.KD KE KC PySem.KA KM TL KS KH
/-! ## a profile made of drawn rows -/
theorem made_pp {w : World} {C : Addr} {H : Hp} {x : Addr} {fs : List Fin} {rs : List (Str × Str)} {words : List Str} (m : Made w C H x (.dict (kvF fs)) (.dict (kvT rs))) (wnd : words.Nodup) (w3 : words.length ≤ 3) (f4 : fs.length ≤ 4) (keys : ∀ q ∈ fs, keysT q.2.2 = words) (rk : keysT rs = words) :
    ∃ dx T D R gs, PP w C H x dx T D R gs (ordT rs) (srt words) ∧ prF gs = canC (prF fs) := by
  obtain ⟨fs0, gs, rs0, dx, T, D, R, e1, e2, nd, wn, rn, OF, PA⟩ := m
  injection e1 with e1
  injection e2 with e2
  have e3 := kvF_inj e1
  have e4 := kvT_inj e2
  subst e4
  have eg : prF gs = canC (prF fs) := by
    rw [ordF_can OF, e3]
  have ek : ∀ q ∈ gs, keysT q.2.2 = srt words := fun q hq => by
    have mq : (q.1, q.2.2) ∈ canC (prF fs) := by
      rw [← eg]
      exact List.mem_map_of_mem (f := fun q : Fin => (q.1, q.2.2)) hq
    unfold canC at mq
    obtain ⟨o, ho, e⟩ := List.mem_map.mp mq
    have e5 : ordT ((findC (prF fs) o).getD []) = q.2.2 := congrArg (·.2) e
    rw [← e5, ordT_keys]
    obtain ⟨z, hz, ez⟩ := List.mem_map.mp (srt_mem.mp ho)
    obtain ⟨y, hy, rfl⟩ := List.mem_map.mp hz
    cases h : findC (prF fs) o with
    | none => exact absurd (srt_mem.mp ho) (findC_none h)
    | some ls =>
      obtain ⟨u, hu, eu⟩ := List.mem_map.mp (findC_mem h)
      have : ls = u.2.2 := (congrArg (·.2) eu).symm
      show srt (keysT ls) = _
      rw [this, keys u hu]
  have lg : gs.length = fs.length := by
    have h1 := congrArg List.length eg
    unfold prF canC at h1
    rw [List.length_map, List.length_map, (srt_perm _).length_eq, List.length_map, List.length_map] at h1
    exact h1
  refine ⟨dx, T, D, R, gs, ⟨PA, by rw [ordT_keys, rk], srt_of_perm (srt_perm _), ek, by rw [lg]; exact f4, by rw [(srt_perm _).length_eq]; exact w3⟩, eg⟩
theorem init_ok {w : World} {C CV : Addr} {H : Hp} {D R x dx : Addr} {words : List Str} {fs : List Fin} {rs : List (Str × Str)} {Q : VK} {E : XK} (PA : ProfAt w H D R words fs rs) (WT : WordsOk words) (lT : words.length ≤ 3) (nx : H x = none) (ndx : H dx = none) (ne : dx ≠ x)
    (q : ∀ H' dx' T D' R' gs, Same H H' → PP w C H' x dx' T D' R' gs (ordT rs) (srt words) → prF gs = canC (prF fs) → Q .non H') : spInit w C CV [.ref x, .ref D, .ref R] (upd (upd H dx (.own x)) x (.ins C dx [])) Q E := by
  have sX : Same H (upd (upd H dx (.own x)) x (.ins C dx [])) := fun b u e => by
    rw [upd_ne (ne_of_none e nx), upd_ne (ne_of_none e ndx)]
    exact e
  have FO := PA.finOk WT lT
  have RR := PA.rowR WT lT
  have finR := fin_right FO PA.rows
  have rowR := row_right RR
  have allR : allW (.dict (kvF fs)) (.dict (kvT rs)) = true := allW_right PA.rows fun x => by rw [PA.rk]
  have nF : Nice 5 70 3000 (.dict (kvF fs)) := fin_nice (kvF_nice FO PA.rows) (by rw [kvF_len]; have := FO.n3; omega)
  have nR : Nice 5 70 3000 (.dict (kvT rs)) := RR.self.mono (by decide) (by decide) (by decide)
  refine ⟨x, dx, .ref D, .ref R, _, _, _, _, rfl, upd_same, by rw [upd_ne ne]; exact upd_same, Ne.symm ne, profF (PA.same sX) WT lT, profR (PA.same sX) WT, nF, nR, fun _ H' S o r n kp _ _ _ _ _ m => ?_, fun z => absurd ⟨finR, rowR, allR⟩ z⟩
  obtain ⟨dx', T, D', R', gs, PX, eg⟩ := made_pp m WT.nd lT (by have := PA.few; omega) PA.rows.keys PA.rk
  exact q H' dx' T D' R' gs (fun b u e => kp b u (ne_of_none e nx) (sX b u e)) PX eg
theorem cs_ok {w : World} {H : Hp} {D R : Addr} {words : List Str} {fs : List Fin} {rs : List (Str × Str)} (PA : ProfAt w H D R words fs rs) (wnd : words.Nodup) : CsOk words (prF fs) rs := by
  refine ⟨fun q hq => ?_, fun q hq => ?_, PA.rk, PA.rl, wnd, by rw [prF_keys]; exact PA.fk⟩
  · obtain ⟨u, hu, rfl⟩ := List.mem_map.mp hq
    exact PA.rows.keys u hu
  · obtain ⟨u, hu, rfl⟩ := List.mem_map.mp hq
    exact PA.rows.lev u hu
end KF
end L2
end
/-! ### TI -/
section
namespace L2
namespace KF
open PySem PySem.Spec PyProof.Rows PySem.KD KE KC PySem.KA KM TL KS KH
/-! ## _law_no_probes -/
/-- just this data, all new -/
def GX (w : World) (t : TE) (σ : St) (H : Hp) (d : PyData) : Prop := ∀ H', Same H H' → ∀ Q : VK, (∀ v f H'', Same H' H'' → RepA w H'' v d f → (∀ a ∈ f, H' a = none) → Q v H'') → t σ H' Q
def GS (w : World) (t : TA) (σ : St) (H : Hp) (ds : List PyData) : Prop := ∀ H', Same H H' → ∀ Q : List V → Hp → Prop, (∀ vs f H'', Same H' H'' → RepAA w H'' vs ds f → (∀ a ∈ f, H' a = none) → Q vs H'') → t σ H' Q
theorem gx_c {w : World} {v : V} {d : PyData} {σ : St} {H : Hp} (r : ∀ H, RepA w H v d []) : GX w (tC v) σ H d := fun H' s Q q => q v [] H' (same_refl _) (r H') fun _ z => nomatch z
theorem gx_v {w : World} {i : Nat} {x : Str} {σ : St} {H : Hp} (e : σ[i]? = some (some (.str x))) : GX w (tVar i) σ H (.str x) := fun H' s Q q => ⟨_, e, q (.str x) [] H' (same_refl _) (.str x) fun _ z => nomatch z⟩
theorem gs_nil {w : World} {σ : St} {H : Hp} : GS w tNil σ H [] := fun H' s Q q => q [] [] H' (same_refl _) .nil fun _ z => nomatch z
theorem gs_cons {w : World} {ta : TE} {tr : TA} {σ : St} {H : Hp} {d : PyData} {ds : List PyData} (h : GX w ta σ H d) (hr : GS w tr σ H ds) : GS w (tCons ta tr) σ H (d :: ds) := fun H' s Q q => h H' s _ fun v f H1 s1 r lo =>
  hr H1 (s.trans s1) _ fun vs f2 H2 s2 rs lo2 => q (v :: vs) (f ++ f2) H2 (s1.trans s2) (.cons (r.same s2) rs) fun a ha => (List.mem_append.mp ha).elim (lo a) fun z => s1.free (lo2 a z)
theorem gx_lst {w : World} {t : TA} {σ : St} {H : Hp} {ds : List PyData} (h : GS w t σ H ds) (hn : ds.length ≤ 1000) : GX w (tLst t) σ H (.list ds) := fun H' s Q q =>
  h H' s _ fun vs f H1 s1 r lo => ⟨by rw [r.length]; exact Nat.le_of_lt (small1000 hn), fun L nL => q _ (L :: f) _ (s1.trans (same_upd nL)) (.lst upd_same (r.same (same_upd nL)) fun z => r.dom L z nL) fun a ha => by
    rcases List.mem_cons.mp ha with rfl | z
    · exact s1.free nL
    · exact lo a z⟩
theorem gx_tup {w : World} {t : TA} {σ : St} {H : Hp} {ds : List PyData} (h : GS w t σ H ds) (hn : ds.length ≤ 1000) : GX w (tTup t) σ H (.tuple ds) := fun H' s Q q =>
  h H' s _ fun vs f H1 s1 r lo => ⟨by rw [r.length]; exact Nat.le_of_lt (small1000 hn), fun L nL => q _ f _ (s1.trans (same_upd nL)) (.tup upd_same (r.same (same_upd nL))) lo⟩
/-- {} -/
abbrev tDict0 (w : World) : TE := fun σ H Q => tDNewK σ H fun v H1 => ∃ d kvs, H1 d = some (.dK kvs) ∧ kvs.length ≤ 1000 ∧ Q v (upd H1 d (mdo w d (toM kvs)))
theorem gx_dict {w : World} {σ : St} {H : Hp} : GX w (tDict0 w) σ H (.dict []) := fun H' s Q q => fun p np => ⟨p, [], upd_same, Nat.zero_le _, q _ [p] _ (fun b u e => by
  rw [upd_ne (ne_of_none e np), upd_ne (ne_of_none e np)]
  exact e) (.dct (es := []) (kvs := []) upd_same (fun _ z => nomatch z) List.nodup_nil .nil .nil fun z => nomatch z) fun a ha => by
  rw [List.mem_singleton.mp ha]
  exact np⟩
/-- a list of data that is made, with all that it holds new since H0 -/
structure NewL (w : World) (H0 H : Hp) (L : Addr) (ds : List PyData) : Prop where
  ex : ∃ vs f, H L = some (.lst vs) ∧ RepAA w H vs ds f ∧ (∀ a ∈ f, H0 a = none ∧ a ≠ L)
  new : H0 L = none
theorem NewL.on {w : World} {H0 H H' : Hp} {L : Addr} {ds : List PyData} (n : NewL w H0 H L ds) (s : Same H H') : NewL w H0 H' L ds := by
  obtain ⟨⟨vs, f, e, r, h⟩, nw⟩ := n
  exact ⟨⟨vs, f, s _ _ e, r.same s, h⟩, nw⟩
theorem NewL.but {w : World} {H0 H H' : Hp} {L p : Addr} {ds : List PyData} {rows : List (Key × V)} (n : NewL w H0 H L ds) (sb : SameBut p H H') (hp : H p = some (.dK rows)) (h0 : H0 p ≠ none) : NewL w H0 H' L ds := by
  obtain ⟨⟨vs, f, e, r, h⟩, nw⟩ := n
  refine ⟨⟨vs, f, sb _ _ (fun z => h0 (z ▸ nw)) e, repA_but sb hp r fun a ha z => h0 (z ▸ (h a ha).1), h⟩, nw⟩
theorem new_lst {w : World} {t : TA} {σ : St} {H0 H : Hp} {ds : List PyData} {Q : VK} (h : GS w t σ H ds) (s0 : Same H0 H) (hn : ds.length ≤ 1000) (q : ∀ H' L, Same H H' → NewL w H0 H' L ds → Q (.ref L) H') : tLst t σ H Q :=
  h H (same_refl _) _ fun vs f H1 s1 r lo => ⟨by rw [r.length]; exact Nat.le_of_lt (small1000 hn), fun L nL => q _ L (s1.trans (same_upd nL)) ⟨⟨vs, f, upd_same, r.same (same_upd nL), fun a ha => ⟨s0.free (lo a ha), fun z => r.dom a ha (z ▸ nL)⟩⟩, (s0.trans s1).free nL⟩⟩
theorem new_cat {w : World} {t : TA} {i : Nat} {σ : St} {H0 H : Hp} {L : Addr} {as ds : List PyData} {Q : VK} (e : σ[i]? = some (some (.ref L))) (B : NewL w H0 H L as) (h : GS w t σ H ds) (s0 : Same H0 H) (hn : as.length + ds.length ≤ 900) (q : ∀ H' M, Same H H' → NewL w H0 H' M (as ++ ds) → Q (.ref M) H') : tOp rCat (tVar i) (tLst t) σ H Q :=
  ⟨_, e, h H (same_refl _) _ fun us g H1 s1 r lo => ⟨by rw [r.length]; exact Nat.le_of_lt (small1000 (by omega)), fun N nN => by
    obtain ⟨⟨vs, f, eL, rL, hL⟩, nw⟩ := B
    have sN := same_upd (o := HO.lst us) nN
    refine ⟨L, N, vs, us, rfl, rfl, sN _ _ (s1 _ _ eL), upd_same, Nat.le_of_lt (small1000 (by rw [r.length, rL.length]; omega)), fun M nM => ?_⟩
    have sM := same_upd (o := HO.lst (vs ++ us)) nM
    have s2 := s1.trans (sN.trans sM)
    refine q _ M s2 ⟨⟨vs ++ us, f ++ g, upd_same, repAll_app (rL.same s2) (r.same (sN.trans sM)), fun a ha => ?_⟩, (s0.trans (s1.trans sN)).free nM⟩
    rcases List.mem_append.mp ha with z | z
    · exact ⟨(hL a z).1, fun y => (rL.same (s1.trans sN)).dom a z (y ▸ nM)⟩
    · exact ⟨s0.free (lo a z), fun y => (r.same sN).dom a z (y ▸ nM)⟩⟩⟩
/-! ### they are no probes -/
abbrev zz9 : Str := Str.ofString "zzzzzzzzz"
abbrev five : List Str := [Str.ofString "x", Str.ofString "y", Str.ofString "zz", Str.ofString "qq", Str.ofString "ab"]
def no1 : List PyData := [(.none : PyData), (.tuple [] : PyData), (.tuple [.str (Str.ofString "set"), .str (Str.ofString "done")] : PyData), (.tuple [.str (Str.ofString "keep"), .none, .str (Str.ofString "a")] : PyData), (.tuple [.none, .none, .none] : PyData), (.tuple [.none, .str (Str.ofString "done"), .str (Str.ofString "a")] : PyData), (.str (Str.ofString "unset") : PyData)]
def no2 : List PyData := [(.list [.str (Str.ofString "unset"), .none, .str (Str.ofString "a")] : PyData), (.tuple [.str (Str.ofString "unset"), .str (Str.ofString "fail"), .str (Str.ofString "a")] : PyData), (.tuple [.str (Str.ofString "unset"), .str (Str.ofString "fail "), .str (Str.ofString "a")] : PyData), (.tuple [.str (Str.ofString "unset"), .str (Str.ofString "back"), .str (Str.ofString "a")] : PyData)]
def no3 : List PyData := [(.tuple [.str (Str.ofString "unset"), .none, .none] : PyData), (.tuple [.str (Str.ofString "unset"), .str (Str.ofString "done"), .str (Str.ofString "zzzzzzzzz")] : PyData), (.tuple [.none, .str (Str.ofString "fail A"), .none] : PyData), (.tuple [.none, .int 0, .none] : PyData)]
def no4 (o : Str) : List PyData := [(.tuple [.str (Str.ofString "set"), .none, .str o] : PyData), (.tuple [.str (Str.ofString "unset"), .str (Str.ofString "done"), .str o] : PyData), (.tuple [.str (Str.ofString "unset"), .list [], .str o] : PyData), (.tuple [.bool true, .str (Str.ofString "done"), .none] : PyData)]
def no5 (o : Str) : List PyData := [(.tuple [.list [], .str (Str.ofString "done"), .str o] : PyData), (.tuple [.none, .dict [], .none] : PyData)]
def noDs (o : Str) : List PyData := no1 ++ no2 ++ no3 ++ no4 o ++ no5 o
def hitD (o : Str) : PyData → Bool
  | .str x => decide (x = o) || decide (x = zz9)
  | _ => true
def badB (o : Str) : PyData → Bool
  | .tuple [a, b, c] => if isNoneD a then !(outD b && isNoneD c) else !(inD stL a) || hitD o c || !(isNoneD b || outD b)
  | _ => true
theorem bad_ok {o : Str} {names : List Str} {d : PyData} (h : badB o d = true) (ho : o ∉ names) (hz : zz9 ∉ names) : probeD names d = false := by
  cases d with
  | tuple ds =>
    match ds, h with
    | [], _ => rfl
    | [_], _ => rfl
    | [_, _], _ => rfl
    | [a, b, c], h =>
      have h : (if isNoneD a then !(outD b && isNoneD c) else !(inD stL a) || hitD o c || !(isNoneD b || outD b)) = true := h
      show (if isNoneD a then outD b && isNoneD c else inD stL a && inD names c && (isNoneD b || outD b)) = false
      cases ha : isNoneD a with
      | true =>
        rw [ha, if_pos rfl] at h
        rw [if_pos rfl]
        revert h
        cases outD b <;> cases isNoneD c <;> simp
      | false =>
        rw [ha, if_neg Bool.false_ne_true] at h
        rw [if_neg Bool.false_ne_true]
        rw [Bool.or_eq_true, Bool.or_eq_true] at h
        rcases h with (h | h) | h
        · rw [show inD stL a = false by simpa using h]
          rfl
        · have : inD names c = false := by
            cases c with
            | str x =>
              have h : (decide (x = o) || decide (x = zz9)) = true := h
              rw [Bool.or_eq_true, decide_eq_true_eq, decide_eq_true_eq] at h
              refine decide_eq_false ?_
              rcases h with rfl | rfl
              · exact ho
              · exact hz
            | _ => rfl
          rw [this, Bool.and_false, Bool.false_and]
        · rw [show (isNoneD b || outD b) = false by simpa using h, Bool.and_false]
    | _ :: _ :: _ :: _ :: _, _ => rfl
  | _ => rfl
theorem no_bad : ∀ o ∈ five, ∀ d ∈ noDs o, badB o d = true := by decide +kernel
theorem no_nice : ∀ o ∈ five, ∀ d ∈ noDs o, Nice 5 70 3000 d := fun o ho d hd => by
  have h : ∀ o ∈ five, ∀ d ∈ noDs o, d.showable = true ∧ d.leavesShort 13 = true ∧ d.depth ≤ 5 ∧ sz d ≤ 70 ∧ d.weight ≤ 3000 := by decide +kernel
  obtain ⟨h1, h2, h3, h4, h5⟩ := h o ho d hd
  exact ⟨h1, h2, h3, h4, h5⟩
theorem zz9_no {names : List Str} (h : ∀ x ∈ names, isWordL (tl x) = true) : zz9 ∉ names := fun z => by
  have := h _ z
  revert this
  decide +kernel
abbrev sNoP : Stmt := topS 47
abbrev npN : List Str := ["_law_pen", "_law_words", "_law_found", "_law_other", "_law_word", "_law_k"]
theorem scNoP : FnScope npN ["_law_pen", "_law_words"] (defScope sNoP) := ⟨rfl, rfl, rfl, by decide +kernel, rfl, by decide +kernel, by decide +kernel⟩
section
variable {P : Program} {w : World} {K : PySem.W.Frag} {mg : Str → Option Value} {base : Heap}
def spNoP (w : World) : Sp := fun vs H Q _ => ∃ (p c b : Addr) (ns : List Int) (a : Int) (words names : List Str), vs = [.ref p, .ref b] ∧ Pn H p c ns a ∧ a ≤ 800000 ∧ H b = some (.lst (words.map V.str)) ∧ words.length ≤ 4 ∧ WordsOk words ∧ (∀ x, x ∈ names ↔ x ∈ words) ∧
  ∀ H' L ds a', SameBut p H H' → Pn H' p c ns a' → a' ≤ a + 6 → NewL w H H' L ds → ds.length = 6 → (∀ d ∈ ds, Nice 5 70 3000 d ∧ probeD names d = false) → Q (.ref L) H'
theorem ok_noP {f fD fP : Addr} {fd fdD fdP : FuncData} (F : Fun K "_law_no_probes" "_law_no_probes" sNoP f fd) (FD : Fun K "_law_draw" "_law_draw" sDraw fD fdD) (gD : mg "_law_draw" = some (.ref fD)) (bD : Binds K fdD ["_law_pen", "_law_many"] [])
    (FP : Fun K "_law_pick" "_law_pick" sPick fP fdP) (gP : mg "_law_pick" = some (.ref fP)) (bP : Binds K fdP ["_law_pen", "_law_items"] []) (B : BltD mg) (mR : mg "range" = none) : FnOk P w K mg base CX0 3 f fd ["_law_pen", "_law_words"] (spNoP w) := by
  have GP : FnOk P w K mg base CX0 2 fP fdP ["_law_pen", "_law_items"] (spPick K) := ok_pick FP FD gD bD B
  refine F.ok scNoP (fun vs H Q E h => ?_) (fun cdv A outer s H vs Q E hr h => ?_)
  · obtain ⟨_, _, _, _, _, _, _, rfl, _⟩ := h
    rfl
  · obtain ⟨p, c, b, ns, a, words, names, rfl, pn, ha, eb, w4, WO, nw, q⟩ := h
    refine ⟨_, pss_cons (ps_set (i := 2) scNoP.nd rfl (.inr rfl) (pe_lst (pa_cons pe_non (pa_cons (pe_tup pa_nil) (pa_cons (pe_tup (pa_cons pe_str (pa_cons pe_str pa_nil))) (pa_cons (pe_tup (pa_cons pe_str (pa_cons pe_non (pa_cons pe_str pa_nil)))) (pa_cons (pe_tup (pa_cons pe_non (pa_cons pe_non (pa_cons pe_non pa_nil)))) (pa_cons (pe_tup (pa_cons pe_non (pa_cons pe_str (pa_cons pe_str pa_nil)))) (pa_cons pe_str pa_nil)))))))))
      (pss_cons (ps_set (i := 2) scNoP.nd rfl (.inr rfl) (pe_op op_cat (pv 2) (pe_lst (pa_cons (pe_lst (pa_cons pe_str (pa_cons pe_non (pa_cons pe_str pa_nil)))) (pa_cons (pe_tup (pa_cons pe_str (pa_cons pe_str (pa_cons pe_str pa_nil)))) (pa_cons (pe_tup (pa_cons pe_str (pa_cons pe_str (pa_cons pe_str pa_nil)))) (pa_cons (pe_tup (pa_cons pe_str (pa_cons pe_str (pa_cons pe_str pa_nil)))) pa_nil)))))))
      (pss_cons (ps_set (i := 2) scNoP.nd rfl (.inr rfl) (pe_op op_cat (pv 2) (pe_lst (pa_cons (pe_tup (pa_cons pe_str (pa_cons pe_non (pa_cons pe_non pa_nil)))) (pa_cons (pe_tup (pa_cons pe_str (pa_cons pe_str (pa_cons pe_str pa_nil)))) (pa_cons (pe_tup (pa_cons pe_non (pa_cons pe_str (pa_cons pe_non pa_nil)))) (pa_cons (pe_tup (pa_cons pe_non (pa_cons pe_int (pa_cons pe_non pa_nil)))) pa_nil)))))))
      (pss_cons (ps_set (i := 3) scNoP.nd rfl (.inl rfl) (pe_ix ix_seq (pe_lc (own := [("_law_word", 4)]) (g := gName 4) rfl scNoP.nd (pi_list (pe_lst (pa_cons pe_str (pa_cons pe_str (pa_cons pe_str (pa_cons pe_str (pa_cons pe_str pa_nil)))))))
          (blkOk_by (N := npN) (sc := defScope sNoP) (by decide +kernel)) (fun _ _ _ _ _ => pg_name (i := 4) scNoP.nd rfl (Or.inl rfl))
          (fun _ _ _ _ _ => pts_one (pt_cmpR (r := rIn K true) op_notIn_seq (pv 4) (pv 1) (by rfl)))
          (fun _ _ _ _ _ => pv 4)) pe_int (fun _ _ => rfl)))
      (pss_cons (ps_set (i := 2) scNoP.nd rfl (.inr rfl) (pe_op op_cat (pv 2) (pe_lst (pa_cons (pe_tup (pa_cons pe_str (pa_cons pe_non (pa_cons (pv 3) pa_nil)))) (pa_cons (pe_tup (pa_cons pe_str (pa_cons pe_str (pa_cons (pv 3) pa_nil)))) (pa_cons (pe_tup (pa_cons pe_str (pa_cons (pe_lst pa_nil) (pa_cons (pv 3) pa_nil)))) (pa_cons (pe_tup (pa_cons pe_bl (pa_cons pe_str (pa_cons pe_non pa_nil)))) pa_nil)))))))
      (pss_cons (ps_set (i := 2) scNoP.nd rfl (.inr rfl) (pe_op op_cat (pv 2) (pe_lst (pa_cons (pe_tup (pa_cons (pe_lst pa_nil) (pa_cons pe_str (pa_cons (pv 3) pa_nil)))) (pa_cons (pe_tup (pa_cons pe_non (pa_cons (pe_mdoR pe_dnewK) (pa_cons pe_non pa_nil)))) pa_nil)))))
      (pss_one (ps_ret (pe_lc (own := [("_law_k", 5)]) (g := gName 5) (tt := tYes) rfl scNoP.nd (pi_range1 (by rfl) mR (pa_cons pe_int pa_nil))
          (blkOk_by (N := npN) (sc := defScope sNoP) (by decide +kernel)) (fun _ _ _ _ _ => pg_name (i := 5) scNoP.nd rfl (Or.inl rfl)) (fun _ _ _ _ _ => pts_nil)
          (fun _ _ _ _ _ => pe_call GP hr (by rfl) gP FP.kp bP .nil pass0 (pa_cons (pv 0) (pa_cons (pv 2) pa_nil))))))))))), ?_⟩
    rw [show (cxOf CX0 P w K mg base npN "_law_no_probes" (defScope sNoP) f cdv A outer s H E).nox.w = w from rfl]
    obtain ⟨lp, pen, _⟩ := pn.at_
    have hp0 : H p ≠ none := pn.some.1
    refine c_seq (c_asg ?_)
    refine new_lst (w := w) (H0 := H) (ds := no1) ((gs_cons (gx_c fun _ => .none) (gs_cons (gx_tup gs_nil (Nat.le_of_ble_eq_true rfl)) (gs_cons (gx_tup (gs_cons (gx_c fun _ => .str _) (gs_cons (gx_c fun _ => .str _) gs_nil)) (Nat.le_of_ble_eq_true rfl)) (gs_cons (gx_tup (gs_cons (gx_c fun _ => .str _) (gs_cons (gx_c fun _ => .none) (gs_cons (gx_c fun _ => .str _) gs_nil))) (Nat.le_of_ble_eq_true rfl)) (gs_cons (gx_tup (gs_cons (gx_c fun _ => .none) (gs_cons (gx_c fun _ => .none) (gs_cons (gx_c fun _ => .none) gs_nil))) (Nat.le_of_ble_eq_true rfl)) (gs_cons (gx_tup (gs_cons (gx_c fun _ => .none) (gs_cons (gx_c fun _ => .str _) (gs_cons (gx_c fun _ => .str _) gs_nil))) (Nat.le_of_ble_eq_true rfl)) (gs_cons (gx_c fun _ => .str _) gs_nil)))))))) (same_refl _) (by decide) fun H1 L1 s1 n1 => c_name (c_nx (c_seq (c_asg ?_)))
    refine new_cat (w := w) (H0 := H) (i := 2) (L := L1) (ds := no2) rfl n1 ((gs_cons (gx_lst (gs_cons (gx_c fun _ => .str _) (gs_cons (gx_c fun _ => .none) (gs_cons (gx_c fun _ => .str _) gs_nil))) (Nat.le_of_ble_eq_true rfl)) (gs_cons (gx_tup (gs_cons (gx_c fun _ => .str _) (gs_cons (gx_c fun _ => .str _) (gs_cons (gx_c fun _ => .str _) gs_nil))) (Nat.le_of_ble_eq_true rfl)) (gs_cons (gx_tup (gs_cons (gx_c fun _ => .str _) (gs_cons (gx_c fun _ => .str _) (gs_cons (gx_c fun _ => .str _) gs_nil))) (Nat.le_of_ble_eq_true rfl)) (gs_cons (gx_tup (gs_cons (gx_c fun _ => .str _) (gs_cons (gx_c fun _ => .str _) (gs_cons (gx_c fun _ => .str _) gs_nil))) (Nat.le_of_ble_eq_true rfl)) gs_nil))))) s1 (by decide) fun H2 L2 s2 n2 => c_name (c_nx (c_seq (c_asg ?_)))
    have s12 := s1.trans s2
    refine new_cat (w := w) (H0 := H) (i := 2) (L := L2) (ds := no3) rfl n2 ((gs_cons (gx_tup (gs_cons (gx_c fun _ => .str _) (gs_cons (gx_c fun _ => .none) (gs_cons (gx_c fun _ => .none) gs_nil))) (Nat.le_of_ble_eq_true rfl)) (gs_cons (gx_tup (gs_cons (gx_c fun _ => .str _) (gs_cons (gx_c fun _ => .str _) (gs_cons (gx_c fun _ => .str _) gs_nil))) (Nat.le_of_ble_eq_true rfl)) (gs_cons (gx_tup (gs_cons (gx_c fun _ => .none) (gs_cons (gx_c fun _ => .str _) (gs_cons (gx_c fun _ => .none) gs_nil))) (Nat.le_of_ble_eq_true rfl)) (gs_cons (gx_tup (gs_cons (gx_c fun _ => .none) (gs_cons (gx_c fun _ => .int 0) (gs_cons (gx_c fun _ => .none) gs_nil))) (Nat.le_of_ble_eq_true rfl)) gs_nil))))) s12 (by decide) fun H3 L3 s3 n3 => c_name (c_nx (c_seq (c_asg ?_)))
    have s13 := s12.trans s3
    -- the other word
    refine c_op (c_lc ⟨by show 5 ≤ sizeLine; decide, fun M nM => ⟨M, rfl, ⟨_, .inl (.inl upd_same)⟩, fun N nN => ?_⟩⟩)
    have eM : (upd H3 M (.lst [V.str "x", V.str "y", V.str "zz", V.str "qq", V.str "ab"])) M = some (.lst (five.map V.str)) := upd_same
    have sM := same_upd (o := HO.lst [V.str "x", V.str "y", V.str "zz", V.str "qq", V.str "ab"]) nM
    revert sM eM nN
    generalize upd H3 M (.lst [V.str "x", V.str "y", V.str "zz", V.str "qq", V.str "ab"]) = H4
    intro nN eM sM
    have s14 := s13.trans sM
    refine lc_list (a := M) (xs := five.map V.str) (fun i Hi => (∀ b u, H4 b = some u → Hi b = some u) ∧ Hi N = some (.lst (((five.take i).filter fun x => !decide (x ∈ words)).map V.str))) ⟨same_upd nN, upd_same⟩ (fun i Hi _ S => .inl (.inl (S.1 _ _ eM))) (fun i y Hi hy S => ?_) (fun Hi S => ?_)
    · rw [List.getElem?_map] at hy
      obtain ⟨x, hx, rfl⟩ := Option.map_eq_some_iff.mp hy
      obtain ⟨st, eN⟩ := S
      refine c_name ⟨wipe_one _ 4 _, .str x, rfl, .ref b, rfl, b, words.map V.str, rfl, .inl (.inl (.inl (st _ _ (s14 _ _ eb)))), rfl, by rw [List.all_map]; exact List.all_eq_true.mpr fun _ _ => rfl, _, rfl, ?_⟩
      rw [if_pos rfl, inV_strs]
      have tk : five.take (i + 1) = five.take i ++ [x] := by rw [List.take_add_one, hx]; rfl
      by_cases hw : x ∈ words
      · rw [decide_eq_true hw]
        refine iteF ⟨st, ?_⟩
        rw [tk, List.filter_append, List.filter_cons_of_neg (by simpa using hw), List.filter_nil, List.append_nil]
        exact eN
      · rw [decide_eq_false hw]
        refine iteT ⟨.str x, rfl, _, eN, small1000 ?_, fun b u e => ?_, ?_⟩
        · rw [List.length_map]
          refine Nat.le_trans (List.length_filter_le _ _) ?_
          rw [List.length_take]
          exact Nat.le_trans (Nat.min_le_right _ _) (by decide)
        · rw [upd_ne (ne_of_none e nN)]
          exact st b u e
        · rw [upd_same, tk, List.filter_append, List.filter_cons_of_pos (by simpa using hw), List.filter_nil, List.map_append]
          rfl
    · obtain ⟨st, eN⟩ := S
      rw [List.length_map, List.take_length] at eN
      have qq : Str.ofString "qq" ∉ words := fun z => (WO.ok _ z).2 (by decide +kernel)
      have mem : Str.ofString "qq" ∈ five.filter fun x => !decide (x ∈ words) := List.mem_filter.mpr ⟨by decide, by simpa using qq⟩
      obtain ⟨o, os, eo⟩ : ∃ o os, (five.filter fun x => !decide (x ∈ words)) = o :: os := by
        cases h : five.filter fun x => !decide (x ∈ words) with
        | nil => rw [h] at mem; cases mem
        | cons o os => exact ⟨o, os, rfl⟩
      have ho : o ∈ five ∧ o ∉ words := by
        have : o ∈ five.filter fun x => !decide (x ∈ words) := by rw [eo]; exact List.mem_cons_self
        obtain ⟨h1, h2⟩ := List.mem_filter.mp this
        exact ⟨h1, by simpa using h2⟩
      rw [eo] at eN
      refine .inl ⟨N, _, _, .str o, rfl, rfl, .inl (.inl eN), atN (i := 0) rfl, c_name (c_nx (c_seq (c_asg ?_)))⟩
      have s4 : Same H3 Hi := fun b u e => st _ _ (sM _ _ e)
      have s15 := s13.trans s4
      have e3 : ∀ {v : V}, ([some (V.ref p), some (.ref b), some (.ref L3), some v, none, none] : St)[3]? = some (some v) := rfl
      refine new_cat (w := w) (H0 := H) (i := 2) (L := L3) (ds := no4 o) rfl (n3.on s4) ((gs_cons (gx_tup (gs_cons (gx_c fun _ => .str _) (gs_cons (gx_c fun _ => .none) (gs_cons (gx_v e3) gs_nil))) (Nat.le_of_ble_eq_true rfl)) (gs_cons (gx_tup (gs_cons (gx_c fun _ => .str _) (gs_cons (gx_c fun _ => .str _) (gs_cons (gx_v e3) gs_nil))) (Nat.le_of_ble_eq_true rfl)) (gs_cons (gx_tup (gs_cons (gx_c fun _ => .str _) (gs_cons (gx_lst gs_nil (Nat.le_of_ble_eq_true rfl)) (gs_cons (gx_v e3) gs_nil))) (Nat.le_of_ble_eq_true rfl)) (gs_cons (gx_tup (gs_cons (gx_c fun _ => .bool true) (gs_cons (gx_c fun _ => .str _) (gs_cons (gx_c fun _ => .none) gs_nil))) (Nat.le_of_ble_eq_true rfl)) gs_nil))))) s15 (by show _ + 4 ≤ _; exact Nat.le_of_ble_eq_true rfl) fun H5 L5 s5 n5 => c_name (c_nx (c_seq (c_asg ?_)))
      have s16 := s15.trans s5
      refine new_cat (w := w) (H0 := H) (i := 2) (L := L5) (ds := no5 o) rfl n5 ((gs_cons (gx_tup (gs_cons (gx_lst gs_nil (Nat.le_of_ble_eq_true rfl)) (gs_cons (gx_c fun _ => .str _) (gs_cons (gx_v e3) gs_nil))) (Nat.le_of_ble_eq_true rfl)) (gs_cons (gx_tup (gs_cons (gx_c fun _ => .none) (gs_cons gx_dict (gs_cons (gx_c fun _ => .none) gs_nil))) (Nat.le_of_ble_eq_true rfl)) gs_nil))) s16 (Nat.le_of_ble_eq_true rfl) fun H6 L6 s6 n6 => c_name (c_nx (c_ret ?_))
      have s17 := s16.trans s6
      have n6 : NewL w H H6 L6 (noDs o) := n6
      have pn6 := pn.same s17
      refine c_lc ⟨6, rfl, by decide, by decide, fun D nD => ?_⟩
      obtain ⟨ws, g, eL, r6, fL⟩ := n6.ex
      have nLD : L6 ≠ D := fun z => by
        rw [z, nD] at eL
        cases eL
      have lenN : (noDs o).length = 21 := rfl
      have sD0 := same_upd (o := HO.lst []) nD
      have nDp : D ≠ p := fun z => by
        rw [z] at nD
        exact pn6.some.1 nD
      have nLp : L6 ≠ p := fun z => hp0 (z ▸ n6.new)
      have gD : ∀ a ∈ g, H a = none ∧ a ≠ D := fun a ha => ⟨(fL a ha).1, fun z => r6.dom a ha (z ▸ nD)⟩
      have nD0 : H D = none := s17.free nD
      refine lc_range (lo := 0) (n := (6 : Int).toNat) (fun i Hi => SameBut p H Hi ∧ Hi L6 = some (.lst ws) ∧ RepAA w Hi ws (noDs o) g ∧ (∃ a', Pn Hi p c ns a' ∧ a' ≤ a + i) ∧ ∃ vs ds f, Hi D = some (.lst vs) ∧ RepAA w Hi vs ds f ∧ ds.length = i ∧ (∀ d ∈ ds, d ∈ noDs o) ∧ ∀ a ∈ f, H a = none ∧ a ≠ D)
        ⟨Same.but (s17.trans sD0) p, sD0 _ _ eL, r6.same sD0, ⟨a, pn6.same sD0, by omega⟩, [], [], [], upd_same, .nil, rfl, (fun _ z => nomatch z), fun _ z => nomatch z⟩ (fun i Hi hi S => ?_) (fun Hi S => ?_)
      · obtain ⟨sb, eLi, rL, ⟨a', pn', la⟩, vs, ds, f, eD, rD, ld, md, fD⟩ := S
        have hi6 : i < 6 := hi
        refine ⟨rfl, .ref p, rfl, .ref L6, rfl, p, c, ns, a', .ref L6, rfl, pn', by omega, .inl ⟨L6, ws, rfl, eLi, by rw [rL.length, lenN]; decide, by rw [rL.length, lenN]; decide, fun H7 y a7 sb7 pn7 l7 my => ?_⟩⟩
        obtain ⟨l', pen', _⟩ := pn'.at_
        obtain ⟨d, g2, ry, hd, sub⟩ := repAll_mem rL my
        have hp' : Hi p = some (.dK _) := pen'.row
        have keep7 : ∀ {vs : List V} {ds : List PyData} {f : List Addr}, RepAA w Hi vs ds f → (∀ a ∈ f, H a = none) → RepAA w H7 vs ds f := fun r h => repA_but sb7 hp' r fun a ha z => hp0 (z ▸ h a ha)
        have eD7 := sb7 D _ nDp eD
        have ry7 : RepAA w H7 [y] [d] (g2 ++ []) := keep7 (.cons ry .nil) fun a ha => by
          rw [List.append_nil] at ha
          exact (gD a (sub a ha)).1
        have rD7 := keep7 rD fun a ha => (fD a ha).1
        have all := repAll_app rD7 ry7
        have fAll : ∀ a ∈ f ++ (g2 ++ []), H a = none ∧ a ≠ D := fun a ha => by
          rw [List.append_nil] at ha
          rcases List.mem_append.mp ha with z | z
          · exact fD a z
          · exact gD a (sub a z)
        have ncD : c ≠ D := fun z => by
          have := pn.some.2
          rw [z] at this
          exact this nD0
        refine ⟨_, eD7, small1000 (by rw [rD.length, ld]; omega), fun b u nb e => ?_, ?_, repA_updL eD7 (keep7 rL fun a ha => (gD a ha).1) fun a ha => (gD a ha).2, ⟨a7, pn7.off (upd_ne (Ne.symm nDp)) (upd_ne ncD), by omega⟩, _, ds ++ [d], f ++ (g2 ++ []), upd_same, repA_updL eD7 all fun a ha => (fAll a ha).2, by rw [List.length_append, ld]; rfl, fun x hx => ?_, fAll⟩
        · rw [upd_ne (ne_of_none e nD0)]
          exact sb7 b u nb (sb b u nb e)
        · rw [upd_ne nLD]
          exact sb7 _ _ nLp eLi
        · rcases List.mem_append.mp hx with z | z
          · exact md x z
          · rw [List.mem_singleton.mp z]
            exact hd
      · obtain ⟨sb, _, _, ⟨a', pn', la⟩, vs, ds, f, eD, rD, ld, md, fD⟩ := S
        refine q Hi D ds a' sb pn' (by have : (6 : Int).toNat = 6 := rfl; omega) ⟨⟨vs, f, eD, rD, fD⟩, nD0⟩ (by rw [ld]; rfl) fun d hd => ⟨no_nice o ho.1 d (md d hd), bad_ok (no_bad o ho.1 d (md d hd)) (fun z => ho.2 ((nw o).mp z)) (zz9_no fun x hx => (WO.ok x ((nw x).mp hx)).1)⟩
end
end KF
end L2
end
/-! ### TryAs -/
section
/-! several except clauses, each with the same name behind its as -/
namespace L2
open PySem PySem.Spec PyProof.Rows
abbrev Suit := Addr → Value → Option Addr → TS
/-- ends behind which slot i is empty -/
def Ends.bare (D : Ends) (i : Nat) : Ends := ⟨fun τ G => D.nx (τ.set i none) G, D.rt, fun τ G => D.bk (τ.set i none) G, fun τ G => D.ct (τ.set i none) G⟩
/-- the wish of clauses, tried one behind the other, in a def of so many names -/
def wAsM (K : PySem.W.Frag) (i many : Nat) (out : WX) (D : Ends) : List (Value × Suit) → WX
  | [] => out
  | cl :: more => fun kind own τ G => ∃ hit : Bool, PySem.W.exmOne K kind cl.1 = some hit ∧ (hit = true → ∀ e, G e = none → τ.length = many → cl.2 e kind own (D.bare i) (τ.set i (some (.ref e))) G) ∧ (hit = false → wAsM K i many out D more kind own τ G)
/-- clauses of the form: except x as n, with what their suites read -/
inductive HdsAs (X : Cx) (n : Str) : List ExceptHandler → List (Value × Suit) → Prop
  | nil : HdsAs X n [] []
  | cons {x : Str} {c : Value} {su : Suit} {one : Stmt} {rest : List Stmt} {p1 p2 : Pos} {more : List ExceptHandler} {tells : List (Value × Suit)} (named : Names X x c)
      (reads : ∀ (e : Addr) (ob : Obj) (kind : Value) (own : Option Addr) (pn : List (Addr × Obj)), Zc kind own ob → (∃ vs, ob.data = .fields vs) → PSs (X.suite e ((e, ob) :: pn)) (one :: rest) (su e kind own)) (tail : HdsAs X n more tells) :
      HdsAs X n (.ExceptHandler (some (.Name x p1)) (some n) (one :: rest) p2 :: more) ((c, su) :: tells)
section
variable {X : Cx} {n : Str} {i : Nat} {pins : List (Addr × Obj)} {out : WX} {τ : St} {G : Hp} {s : Shared} {B : Heap} {e : Addr} {kind : Value} {own : Option Addr} {D : Ends}
/-- the exception at e is caught in the state s: the state as it was, whatever is noted at e from here on -/
structure Caught (X : Cx) (out : WX) (pins : List (Addr × Obj)) (τ : St) (G : Hp) (s : Shared) (B : Heap) (e : Addr) (kind : Value) (own : Option Addr) : Prop where
  ok : X.Ok
  fly : HandSPX.FlyingZ B (X.env :: X.outer) e (Zc kind own) s.heap
  inv : ∀ g, HandSPX.FlyingZ B (X.env :: X.outer) e (Zc kind own) g → s.heap.UpToSlots g → Inv X pins τ G { s with heap := g }
  free : G e = none
  off : e ≠ X.env.locals ∧ e ∉ X.fs
  on : X.env.frame = some X.env.locals
  thru : out kind own τ G → ∀ g, HandSPX.HeldZ B (X.env :: X.outer) e (Zc kind own) X.env.locals g → s.heap.UpToSlots g → X.xe (.ref e) { s with heap := g }
/-- where it flies it can be pinned: the suite's state -/
theorem Caught.pinned (C : Caught X out pins τ G s B e kind own) {g : Heap} (fl : HandSPX.FlyingZ B (X.env :: X.outer) e (Zc kind own) g) (up : s.heap.UpToSlots g) :
    ∃ ob vs, g.get? e = some ob ∧ Zc kind own ob ∧ ob.data = .fields vs ∧ Inv (X.suite e ((e, ob) :: (X.pn ++ pins))) [] τ G { s with heap := g } := by
  have J := C.inv g fl up
  obtain ⟨ob, vs, at_, z, dat⟩ := fl.there
  exact ⟨ob, vs, at_, z, dat, J.suite at_ dat C.free C.off.1 C.off.2⟩
/-- no clause is left: it flies on -/
theorem Caught.on_ (C : Caught X out pins τ G s B e kind own) (w : out kind own τ G) : wpAny (model X.prog X.w) X.A (handleBy (.ref e) X.env []) (SP X pins D) X.xe s := by
  refine wpAny_handleBy_nil ?_
  have told := C.fly
  obtain ⟨_, _, _, ob, vs, T, _, _, at_, _, dat, first, _⟩ := told
  have last : wpAny (model X.prog X.w) X.A (setFlight (.ref e) X.env.frame) (fun _ t => wpAny (model X.prog X.w) X.A (throw (.ref e) : Sem Flow) (SP X pins D) X.xe t) X.xe s := by
    rw [C.on]
    exact HandSPX.setFlight_upZ C.fly fun g held up => wpAny_throw (C.thru w g held up)
  unfold PySem.passOn
  refine wpAny_bind (wpAny_field at_ dat first ?_)
  have live : ¬ (Value.ref T == Value.none) = true := by simp
  rw [if_neg live]
  first
    | exact wpAny_bind (wpAny_pure (wpAny_bind last))
    | exact wpAny_bind last
/-- its clause: the suite runs with the name, which is gone behind it -/
theorem Caught.run (C : Caught X out pins τ G s B e kind own) (hN : X.N.Nodup) (hi : X.N[i]? = some n) (loc : X.env.kindOf n = some .local) {su : Suit} {one : Stmt} {rest : List Stmt} {p2 : Pos}
    (reads : ∀ (e : Addr) (ob : Obj) (kind : Value) (own : Option Addr) (pn : List (Addr × Obj)), Zc kind own ob → (∃ vs, ob.data = .fields vs) → PSs (X.suite e ((e, ob) :: pn)) (one :: rest) (su e kind own)) (w : τ.length = X.N.length → su e kind own (D.bare i) (τ.set i (some (.ref e))) G)
    {g : Heap} (fl : HandSPX.FlyingZ B (X.env :: X.outer) e (Zc kind own) g) (up : s.heap.UpToSlots g) :
    ∃ ob, Inv (X.suite e ((e, ob) :: (X.pn ++ pins))) [] τ G { s with heap := g } ∧ ∀ t, Inv (X.suite e ((e, ob) :: (X.pn ++ pins))) [] (τ.set i (some (.ref e))) G t →
      wpAny (model X.prog X.w) (X.A.mark (some (.ref e))) (execs (one :: rest) X.env) (fun fl t' => wpAny (model X.prog X.w) X.A (do bindName X.env n .none; unbindBehindTheSuite X.env n p2) (fun _ t2 => SP X pins D fl t2) X.xe t') (fun _ _ => False) t := by
  obtain ⟨ob, vs, at_, z, dat, S⟩ := C.pinned fl up
  refine ⟨ob, S, fun t St => ?_⟩
  refine wpAny_mono ((reads e ob kind own (X.pn ++ pins) z ⟨vs, dat⟩).run [] t _ G _ St (w (C.inv g fl up).len)) (fun flow t' ends => ?_) fun _ _ x => x
  cases flow with
  | ret u =>
    obtain ⟨v, τ', G', S', rv, q⟩ := ends
    exact gone_ok (S'.unsuite C.ok) hN hi loc fun t2 J => ⟨v, _, G', J, rv, q⟩
  | next =>
    obtain ⟨τ', G', S', q⟩ := ends
    exact gone_ok (S'.unsuite C.ok) hN hi loc fun t2 J => ⟨_, G', J, q⟩
  | brk =>
    obtain ⟨τ', G', S', q⟩ := ends
    exact gone_ok (S'.unsuite C.ok) hN hi loc fun t2 J => ⟨_, G', J, q⟩
  | cont =>
    obtain ⟨τ', G', S', q⟩ := ends
    exact gone_ok (S'.unsuite C.ok) hN hi loc fun t2 J => ⟨_, G', J, q⟩
/-- the clauses, one behind the other -/
theorem Caught.all (C : Caught X out pins τ G s B e kind own) (hN : X.N.Nodup) (hi : X.N[i]? = some n) (loc : X.env.kindOf n = some .local) {hs : List ExceptHandler} {ts : List (Value × Suit)} (ho : HdsAs X n hs ts) :
    wAsM X.K i X.N.length out D ts kind own τ G → wpAny (model X.prog X.w) X.A (handleBy (.ref e) X.env hs) (SP X pins D) X.xe s := by
  induction ho with
  | nil => exact C.on_
  | @cons x c su one rest p1 p2 more tells named reads tail ih =>
    rintro ⟨hit, is, yes, no⟩
    obtain ⟨ob, vs, at_, z, dat, S⟩ := C.pinned C.fly (Heap.UpToSlots.refl _)
    have S : Inv (X.suite e ((e, ob) :: (X.pn ++ pins))) [] τ G s := S
    refine wpAny_handleBy_cons (codeAny_handlers_test ?_) (by intro q; cases q)
    have look : PySem.W.Looks (model X.prog X.w) s.heap (typeOf (.ref e)) kind := fun A Q E t k q => wpAny_typeOf_ref (k _ _ at_) (by rw [z.1]; exact q)
    have ask := PySem.W.exm_one (M := model X.prog X.w) (C.inv s.heap C.fly (Heap.UpToSlots.refl _)).kIn look is
    have name : ∀ {Q : Value → Shared → Prop} {E : Value → Shared → Prop}, Q c s → wpAny (model X.prog X.w) (X.A.mark (some (.ref e))) (eval (.Name x p1) X.env) Q E s := fun q => by
      obtain ⟨gl, nd, m | ⟨m, blt, nn⟩⟩ := named
      · exact ld_glob (X := X.suite e ((e, ob) :: (X.pn ++ pins))) S gl m q nd
      · exact ld_blt (X := X.suite e ((e, ob) :: (X.pn ++ pins))) S gl m blt q nn nd
    refine name (ask.here ?_)
    cases hit with
    | false => exact ih (no rfl)
    | true =>
      refine codeAny_handlers_suite_as (HandSPX.lands_againZ C.fly fun g fl up => ?_)
      obtain ⟨ob2, S2, go⟩ := C.run (D := D) (p2 := p2) hN hi loc reads (yes rfl e C.free) fl up
      exact store_ok (X := X.suite e ((e, ob2) :: (X.pn ++ pins))) (v := .ref e) S2 hN hi (.inl loc) rfl (fun t St => wpAny_mono (go t St) (fun _ _ q => q) fun _ _ z => z.elim) (.inr loc)
/-- try: body / except A as n: .. / except B as n: .. -/
theorem ps_try_asM {body : List Stmt} {h₀ : ExceptHandler} {hds : List ExceptHandler} {l : List (Value × Suit)} {pos : Pos} {tb : WX → TS} (hs : X.stack = X.env :: X.outer) (hf : X.env.frame = some X.env.locals) (hN : X.N.Nodup) (hi : X.N[i]? = some n) (loc : X.env.kindOf n = some .local) (tk : Takes X out)
    (hb : ∀ (W : WX) (pn : List (Addr × Obj)) (xe : Value → Shared → Prop), Takes (X.tr pn xe) W → PassesOwn (model X.prog X.w) X.A X.env xe → PSs (X.tr pn xe) body (tb W))
    (hh : HdsAs X n (h₀ :: hds) l) : PS X (.Try body (h₀ :: hds) [] [] pos) (fun D σ H => tb (wAsM X.K i X.N.length out D l) D σ H) := by
  constructor
  intro pins s σ H D I asks
  have ok := I.ok
  have frames : X.A.frames = some (X.env :: X.outer) := ok.frames.trans (by rw [hs])
  let after : Value → Shared → Prop := fun u t => wpAny (model X.prog X.w) X.A (noteFrame u X.env) (fun _ t1 => wpAny (model X.prog X.w) X.A (setFlight u none) (fun _ t2 => wpAny (model X.prog X.w) X.A (handleBy u X.env (h₀ :: hds)) (SP X pins D) X.xe t2) X.xe t1) X.xe t
  have inner := (hb (wAsM X.K i X.N.length out D l) (X.pn ++ pins) after (fun u t air => ?_) PassesOwn.looking).run [] s σ H D (I.toTry _) asks
  · refine wpAny_Try_except (wpAny_mono inner (fun flow t ends => ?_) fun _ _ x => x)
    cases flow with
    | next =>
      obtain ⟨σ', H', J, q⟩ := ends
      exact wpAny_execs_nil ⟨σ', H', J.ofTry ok, q⟩
    | ret u =>
      obtain ⟨v, σ', H', J, r, q⟩ := ends
      exact ⟨v, σ', H', J.ofTry ok, r, q⟩
    | brk =>
      obtain ⟨σ', H', J, q⟩ := ends
      exact ⟨σ', H', J.ofTry ok, q⟩
    | cont =>
      obtain ⟨σ', H', J, q⟩ := ends
      exact ⟨σ', H', J.ofTry ok, q⟩
  · obtain ⟨e, B, sI, pins', τ, G, kind, own, rfl, J', nb, up, sky, na, os, ag, wish⟩ := air
    have J : Inv X pins τ G sI := J'.ofTry ok
    have sky : Sky B (X.env :: X.outer) e (Zc kind own) X.env.locals t.heap := hs ▸ sky
    refine Sky.land Zc.steady frames hf sky fun g fl up1 => ?_
    have notF : e ∉ frs (X.env :: X.outer) := fun m => by
      obtain ⟨_, _, at_, _, dat⟩ := fl.there
      obtain ⟨_, o, at2, nd⟩ := fl.2.2.1.mem m
      rw [at_] at at2
      cases at2
      exact nd _ dat
    refine Caught.all (s := { t with heap := g }) (B := B) (kind := kind) (own := own) (τ := τ) (G := G) ⟨ok, fl, fun g2 fl2 up2 => J.landed nb fl2.1 ((up.trans up1).trans up2) os ag, na, ⟨fun z => ?_, fun m => ?_⟩, hf, fun w g2 held up2 => tk _ _ ?_⟩ hN hi loc hh wish
    · exact notF (List.mem_filterMap.mpr ⟨X.env, List.mem_cons_self, hf.trans (by rw [z])⟩)
    · obtain ⟨v, hv, q⟩ := List.mem_filterMap.mp m
      exact notF (List.mem_filterMap.mpr ⟨v, List.mem_cons_of_mem _ hv, q⟩)
    · exact ⟨e, B, sI, pins, τ, G, kind, own, rfl, J, nb, (up.trans up1).trans up2, .inr (.inr (hs.symm ▸ held)), na, os, ag, w⟩
end
end L2
end
/-! ### NeSame -/
section
namespace L2
open PySem PySem.Spec PyProof.Rows
/-! ## tuples of the same things -/
def plainV : V → Bool
  | .non => true
  | .bl _ => true
  | .int _ => true
  | .str _ => true
  | .ref _ => true
  | _ => false
theorem eqAt_alike {A : Around} {s : Shared} {v : V} {u u' : Value} (r : RelV v u) (r' : RelV v u') (p : plainV v = true) : SeqAt.EqAt A s u u' true := by
  cases v with
  | non => cases r; cases r'; exact SeqAt.EqAt.same _
  | bl b => cases r; cases r'; exact SeqAt.EqAt.same _
  | ref a => cases r; cases r'; exact SeqAt.EqAt.same _
  | int i =>
    obtain ⟨t, rfl⟩ := r
    obtain ⟨t', rfl⟩ := r'
    have := SeqAt.EqAt.int_int (A := A) (s := s) i t i t'
    rwa [show (i == i) = true by simp] at this
  | str x =>
    obtain ⟨t, rfl⟩ := r
    obtain ⟨t', rfl⟩ := r'
    have := SeqAt.EqAt.str_str (A := A) (s := s) x t x t'
    rwa [show (x == x) = true by simp] at this
  | _ => cases p
def rNeSame (K : PySem.W.Frag) : R2 := fun x y H Q => ∃ p q vs, x = .ref p ∧ y = .ref q ∧ SqT K H p vs ∧ SqT K H q vs ∧ vs.all plainV = true ∧ Q (.bl false) H
theorem vals_nth : ∀ {vs : List V} {us : List Value} {j : Nat} (h : j < us.length), Vals vs us → ∃ h2 : j < vs.length, RelV vs[j] us[j]
  | _, _, 0, _, .cons r _ => ⟨Nat.zero_lt_succ _, r⟩
  | _, _, j + 1, h, .cons _ t => by
    obtain ⟨h2, r⟩ := vals_nth (Nat.lt_of_succ_lt_succ h) t
    exact ⟨Nat.succ_lt_succ h2, r⟩
theorem op_neSame {X : Cx} (hu : X.A.units < cLine) : OpR X (compareOp .NotEq) (rNeSame X.K) := by
  intro pins s σ H x y v u Q I rx ry h
  obtain ⟨p, q, vs, rfl, rfl, hp, hq, pl, q0⟩ := h
  cases (show v = Value.ref p from rx)
  cases (show u = Value.ref q from ry)
  obtain ⟨its, rv, pt, _⟩ := I.tuple hp
  obtain ⟨its2, rv2, pt2, _⟩ := I.tuple hq
  have l1 := rv.length
  have l2 := rv2.length
  have key := SeqAt.RcNeAt.tuples (A := X.A) (s := s) (e := fun _ => true) pt pt2 hu (fun j h1 h2 => by
    have h1' : j < its.length := by simpa using h1
    have h2' : j < its2.length := by simpa using h2
    obtain ⟨hv, r1⟩ := vals_nth h1' rv
    obtain ⟨_, r2⟩ := vals_nth h2' rv2
    have := eqAt_alike (A := X.A.in1) (s := s) r1 r2 (List.all_eq_true.mp pl _ (List.getElem_mem hv))
    simpa using this)
  refine key X.prog X.w X.xe _ ?_
  have e : (List.range (min its.toArray.size its2.toArray.size)).all (fun _ => true) = true := List.all_eq_true.mpr fun _ _ => rfl
  have e2 : (its.toArray.size == its2.toArray.size) = true := by
    rw [List.size_toArray, List.size_toArray, beq_iff_eq]
    omega
  simp only [e, e2, Bool.and_self, Bool.not_true]
  exact ⟨.bl false, H, I, rfl, q0⟩
end L2
end
/-! ### TJ -/
section
namespace L2
namespace KF
open PySem PySem.Spec PyProof.Rows PySem.KD KE KC PySem.KA KM TL KS KH
/-! ## _law_wrong -/
abbrev sLW : Stmt := topS 46
abbrev lwN : List Str := ["_law_call", "e"]
theorem scLW : FnScope lwN ["_law_call"] (defScope sLW) := ⟨rfl, rfl, rfl, by decide +kernel, rfl, by decide +kernel, by decide +kernel⟩
/-- what is told of the call's errors -/
def TTW (w : World) (K : PySem.W.Frag) (CS CV : Addr) : (XK → Hp → VK → Prop) → Hp → VK → Prop := fun tl H Q =>
  tl (fun cls d H' => ∃ b, PySem.W.exmOne K cls (.ref CS) = some b ∧
    (b = true → cls = .ref CS ∧ ∃ dd fs v' dta f', d = some dd ∧ H' dd = some (.xd fs) ∧ fs.lookup (Str.ofString "value") = some v' ∧ Rep w H' v' dta f' ∧ Nice 5 70 3000 dta ∧ ∀ H2 t, Same H' H2 → H2 t = some (.tup [.str (Str.ofString "states"), .str dta.shown, .bl true]) → Q (.ref t) H2) ∧
    (b = false → PySem.W.exmOne K cls (.ref CV) = some true ∧ cls = .ref CV ∧ ∃ dd fs v', d = some dd ∧ H' dd = some (.xd fs) ∧ fs.lookup (Str.ofString "value") = some v' ∧ ∀ H2 t, Same H' H2 → H2 t = some (.tup [.str (Str.ofString "profile"), v', .bl true]) → Q (.ref t) H2)) H fun _ H' => Q .non H'
structure BltW2 (mg : Str → Option Value) : Prop where
  repr : mg "repr" = none
  isi : mg "isinstance" = none
  v : mg "ValueError" = none
/-- an error class that a clause names -/
structure CatchV (K : PySem.W.Frag) (mg : Str → Option Value) (nm : Str) (C : Addr) : Prop where
  g : mg nm = some (.ref C)
  e : L2.ExcC K C
  x : XfC K C
  n : PySem.W.findIn K (.ref C) "value" = some none
  k : PySem.W.kitOne K (.ref C) (.type "ValueError") = some true
theorem lw_gives {X : Cx} {k : Nat} {g CS CV : Addr} {cdg : Value} {q : Str} (quiet : X.A.guards = some []) (hr : Room (k + 1) X.A) (ES : CatchV X.K X.mg "InvalidStates" CS) (EV : CatchV X.K X.mg "InvalidProfile" CV) (B : BltW2 X.mg) :
    LamX.GivesTo X lwN "_law_wrong" (defScope sLW) g cdg (defBody sLW) "_law_call" q (TTW X.w X.K CS CV) := by
  intro f c' s H Q tl act hc h
  have hr' := hr.deeper (envOfC "_law_wrong" (defScope sLW) s.heap.objs.size g cdg)
  have hgX : (cxOf C8.CX0 X.prog X.w X.K X.mg X.base lwN "_law_wrong" (defScope sLW) g cdg X.A X.stack s H C8.E0).nox.A.guards = some [] := quiet
  have hu40 : (cxOf C8.CX0 X.prog X.w X.K X.mg X.base lwN "_law_wrong" (defScope sLW) g cdg X.A X.stack s H C8.E0).nox.A.units + 40 < cLine := by
    have := hr'.un
    show (X.A.deeper _).units + 40 < cLine
    omega
  refine ⟨_, pss_cons (ps_try_asM (X := (cxOf C8.CX0 X.prog X.w X.K X.mg X.base lwN "_law_wrong" (defScope sLW) g cdg X.A X.stack s H C8.E0).nox) (n := "e") (i := 1)
      (tb := fun W D σ H => ∃ Ech : XK, (∀ cls d σ' H', Ech cls d H' → W cls d σ' H') ∧ σ[0]? = some (some (.ref f)) ∧ H c' = some (LamX.CodeO c' q) ∧ tl Ech H fun _ H' => D.nx σ H')
      rfl rfl scLW.nd rfl rfl LamX.takes0 (fun W pn xe tk _ => ?_)
      (.cons ⟨rfl, by decide, .inl ES.g⟩ (fun a oe cls d pn hz hf => pss_one (ps_ret (pe_tup (pa_cons pe_str (pa_cons (pe_callB (show CallR ((cxOf C8.CX0 X.prog X.w X.K X.mg X.base lwN "_law_wrong" (defScope sLW) g cdg X.A X.stack s H C8.E0).nox.suite a ((a, oe) :: pn)) (.builtin "repr") (rReprD X.w) from callReprD hgX hu40) (by rfl) B.repr boot_repr (pa_cons (pe_xf ES.x ES.n hz hf (pv 1)) pa_nil))
          (pa_cons (pe_callB (show CallR ((cxOf C8.CX0 X.prog X.w X.K X.mg X.base lwN "_law_wrong" (defScope sLW) g cdg X.A X.stack s H C8.E0).nox.suite a ((a, oe) :: pn)) (.builtin "isinstance") (rIsED X.K CS a cls d) from call_isED ES.e hz hf) (by rfl) B.isi boot_isinstance (pa_cons (pv 1) (pa_cons (pe_bltn (v := .ty "ValueError") (by rfl) B.v (by decide +kernel) rfl) pa_nil))) pa_nil))))))
      (.cons ⟨rfl, by decide, .inl EV.g⟩ (fun a oe cls d pn hz hf => pss_one (ps_ret (pe_tup (pa_cons pe_str (pa_cons (pe_xf EV.x EV.n hz hf (pv 1))
          (pa_cons (pe_callB (show CallR ((cxOf C8.CX0 X.prog X.w X.K X.mg X.base lwN "_law_wrong" (defScope sLW) g cdg X.A X.stack s H C8.E0).nox.suite a ((a, oe) :: pn)) (.builtin "isinstance") (rIsED X.K CV a cls d) from call_isED EV.e hz hf) (by rfl) B.isi boot_isinstance (pa_cons (pv 1) (pa_cons (pe_bltn (v := .ty "ValueError") (by rfl) B.v (by decide +kernel) rfl) pa_nil))) pa_nil)))))) .nil)))
    (pss_one (ps_ret pe_non)), ?_⟩
  · refine ⟨fun pins s' σ H' D I h' => ?_⟩
    obtain ⟨Ech, hW, h1, h2, h3⟩ := h'
    exact (pss_one (ps_expr (act W pn xe Ech _ _ tk hW))).run pins s' σ H' D I ⟨h1, h2, h3⟩
  · refine ⟨_, fun cls d σ' H' z => ?_, rfl, hc, h⟩
    obtain ⟨b, e1, hy, hn⟩ := z
    refine ⟨b, e1, fun hb a na ls => ?_, fun hb => ?_⟩
    · obtain ⟨rfl, dd, fs, v', dta, f', rfl, ed, el, rv, nc, q2⟩ := hy hb
      have e1s : (σ'.set 1 (some (V.ref a)))[1]? = some (some (V.ref a)) := List.getElem?_set_self (by rw [show σ'.length = 2 from ls]; decide)
      refine ⟨.ref a, e1s, rfl, rfl, dd, fs, v', rfl, ed, el, v', dta, f', rfl, rv, nc.show_, nc.len (by decide), Nat.le_trans nc.dep (by decide), ?_⟩
      refine ⟨.ref a, e1s, rfl, dd, fs, _, _, true, rfl, ed, rfl, (fun u r => r), ES.k, ?_⟩
      exact ⟨by show 3 ≤ sizeLine; decide, fun t nt => q2 _ t (same_upd nt) upd_same⟩
    · obtain ⟨e2, rfl, dd, fs, v', rfl, ed, el, q2⟩ := hn hb
      refine ⟨true, e2, fun _ a na ls => ?_, fun z => nomatch z⟩
      have e1s : (σ'.set 1 (some (V.ref a)))[1]? = some (some (V.ref a)) := List.getElem?_set_self (by rw [show σ'.length = 2 from ls]; decide)
      refine ⟨.ref a, e1s, rfl, rfl, dd, fs, v', rfl, ed, el, ?_⟩
      refine ⟨.ref a, e1s, rfl, dd, fs, _, _, true, rfl, ed, rfl, (fun u r => r), EV.k, ?_⟩
      exact ⟨by show 3 ≤ sizeLine; decide, fun t nt => q2 _ t (same_upd nt) upd_same⟩
end KF
end L2
end
/-! ### HHT -/
section
namespace L2
namespace KH
open PySem PySem.Spec PyProof.Rows
/-! ## a head by facts, where the law makes lambdas -/
def lawD : He.Defn := ("law", none)
/-- the law's code object and its table -/
abbrev lawC (K : PySem.W.Frag) : Addr := He.codeOf K lawD
abbrev lawP (K : PySem.W.Frag) : Addr := He.tabOf K (lawC K)
structure LawTab (K : PySem.W.Frag) (h : Heap) : Prop where
  hd : PySem.W.CodeHd h (lawC K) (lawP K)
  out : K.lookup (lawP K) = none
  empty : h.get? (lawP K) = some { cls := .none, data := .fields #[] }
def frY (g : Addr → Option Obj) (n : Nat) (xs : List Str) : PySem.W.Frag := He.frT g (mainGlobals :: itG g n (seeds g xs))
abbrev AlY : Type := AlX × Bool
def obsY (n : Nat) (xs : List Str) (fb : List FB) (fn : List DefX) (g : Addr → Option Obj) : AlY := (obsX fb fn (frY g n xs), He.tabsB g [lawD] (frY g n xs))
theorem tab_of {K : PySem.W.Frag} {h : Heap} (live : K.In h) (none_ : ∀ a o, h.get? a = some o → He.emptyTab o = true → K.lookup a = none) (e : He.tabsB h.get? [lawD] K = true) : LawTab K h := by
  have e := List.all_eq_true.mp e lawD List.mem_cons_self
  obtain ⟨e1, e2⟩ := He.ba e
  have e1 : PySem.W.codeHdIn K (lawC K) (lawP K) = true := e1
  have e2 : (match h.get? (lawP K) with | some o => He.emptyTab o | none => false) = true := e2
  cases q : h.get? (lawP K) with
  | none =>
    rw [q] at e2
    cases e2
  | some o =>
    rw [q] at e2
    exact ⟨PySem.W.codeHd_of_K live e1, none_ _ o q e2, by rw [q, He.emptyTab_eq e2]⟩
def hookY (n : Nat) (xs : List Str) (fb : List FB) (fn : List DefX) : PySem.W.Hook where
  α := AlY
  obs := fun s => obsY n xs fb fn s.heap.get?
  val := fun _ => (valX fn, true)
  says := fun _ h => ∃ K : PySem.W.Frag, K.In h ∧ SaysX fb fn K ∧ LawTab K h
  of := fun _ s e => ⟨frY s.heap.get? n xs, He.frT_in, congrArg (fun z : AlY => z.1) e, tab_of He.frT_in (fun _ _ h1 h2 => He.frT_none h1 h2) (congrArg (fun z : AlY => z.2) e)⟩
  keeps := fun _ _ _ ⟨K, live, c, t⟩ k => ⟨K, PySem.W.Frag.In.keeps live k, c, t.hd.keeps k, t.out, k _ _ t.empty⟩
theorem obsY_eq {n : Nat} {xs : List Str} {fb : List FB} {fn : List DefX} {g : Addr → Option Obj} {s : Shared} (h : ∀ a, g a = s.heap.get? a) : obsY n xs fb fn g = (hookY n xs fb fn).obs s := by
  have e : g = s.heap.get? := funext h
  rw [e] <;> rfl
end KH
namespace KF
open PySem PySem.Spec PyProof.Rows PySem.KD KE KC PySem.KA KH
/-- a def of no default whose code object is known -/
theorem _root_.L2.Fun.okGT {P : Program} {w : World} {K : PySem.W.Frag} {mg : Str → Option Value} {base : Heap} {st : Stmt} {f : Addr} {fd : FuncData} {N ps : List Str} {k : Nat} {sp : Sp} (F : Fun K "law" "law" st f fd) (at_ : f = He.ga K "law") (scope : FnScope N ps (defScope st)) (count : ∀ vs H Q E, sp vs H Q E → vs.length = ps.length)
    (keeps : ∀ (A : Around) (outer : List Env) (s : Shared) (H : Hp) (vs : List V) (Q : VK) (E : XK), A.guards = some [] → Room k (A.deeper (envOfC "law" (defScope st) s.heap.objs.size f (.ref (lawC K)))) → sp vs H Q E →
      ∃ t, PSs (cxOf CX0 P w K mg base N "law" (defScope st) f (.ref (lawC K)) A outer s H E).nox (defBody st) t ∧ t { nx := fun _ H' => Q .non H', rt := Q } (start N vs) H) : FnOkG P w K mg base CX0 (k + 1) f fd ps sp := by
  obtain ⟨_, _, _, _, _, _, cdv, _, _, rfl, lk, code⟩ := F.ex
  obtain ⟨c, rfl⟩ := He.codeIn_ref code
  obtain rfl : c = lawC K := (He.codeOf_eq (p := lawD) (by subst at_; exact lk) rfl).symm
  constructor
  · exact count
  intro A outer s H args us vs Q E quiet room here bound rel asks
  have stay : ∀ b o, base.get? b = some o → s.heap.get? b = some o := fun b o e => (here.bs b o e).1
  have live : K.In s.heap := here.mod.kin.keeps stay
  have free : s.heap.NoLimit := here.mod.nolimit.keeps stay
  have kinds : ∀ y ∈ ps.zip us, (defScope st).names.lookup y.1 = some .local ∨ ((defScope st).names.lookup y.1 = some .cell ∧ ((cellsFrom (s.heap.objs.size + 1) (defScope st).names []).lookup y.1).isSome = true) := by
    rintro ⟨n, v⟩ hy
    cases scope.par n (List.of_mem_zip hy).1 with
    | inl z => exact .inl z
    | inr z => exact .inr ⟨z, PySem.W.cellsFrom_some _ _ _ (.inl z)⟩
  refine codeAny_call_function room.depth (live _ _ lk) rfl scope.co scope.gen rfl (PySem.W.codeRec_of live code) (bound _ _ _ _ ?_)
  refine wpAny_newFunctionEnv_cells scope.kind kinds fun env env_eq s1 x => ?_
  subst env_eq
  refine ⟨free.keeps x.toInCall.keep, codeAny_func ?_⟩
  obtain ⟨t, body, meets⟩ := keeps A outer s H vs Q E quiet (room.deeper _) asks
  have begin_ : Inv (cxOf CX0 P w K mg base N "law" (defScope st) f (.ref (lawC K)) A outer s H E) [] (start N vs) H s1 := inv_start scope room.hd here (count _ _ _ _ asks) rel x
  refine wpAny_mono (body.nox.run [] s1 (start N vs) H _ begin_ meets) (fun fl s' told => ?_) fun _ _ e => e
  cases fl with
  | ret u => exact let ⟨v, _, H', J, rv, q⟩ := told; ⟨v, H', J.os, J.bare, J.base, J.hok, rv, q⟩
  | next => exact let ⟨_, H', J, q⟩ := told; ⟨V.non, H', J.os, J.bare, J.base, J.hok, rfl, q⟩
  | brk => exact (told.elim fun _ z => z.elim fun _ y => y.2).elim
  | cont => exact (told.elim fun _ z => z.elim fun _ y => y.2).elim
/-! ## the law's call, its table known to be empty -/
section
variable {P : Program} {w : World} {K : PySem.W.Frag} {mg mb : Str → Option Value}
def spLawT (K : PySem.W.Frag) (T : Addr) : Sp := fun vs H Q _ => ∃ a ns, vs = [.ref a] ∧ SqL K H a (List.map V.int ns) ∧ ns.length ≤ 63 ∧ H T = some (.tbl #[]) ∧ ∀ H', Q (.bl true) H'
theorem told_tab {k : Nat} {f a c T : Addr} {fd : FuncData} {s₁ : Shared} {vs : List Value} {ns : List Int} (hk : k ≤ 12) (F : ∀ base : Heap, K.In base → base.Ns mainGlobals mg → LamX.TabB base mg c T → FnOkG P w K mg base CX0 k f fd ["_law_script"] (spLawT K T)) (binds : ∀ (s : Shared) (u : Value), BindsTo s fd ⟨[u], []⟩ [("_law_script", u)])
    (live : K.In s₁.heap) (glob : s₁.heap.Ns mainGlobals mg) (blt : s₁.heap.Ns builtinsNs mb) (boot : ∀ x : Str, x ≠ "__name__" → mb x = bootBuiltins x)
    (free : s₁.heap.NoLimit) (nogen : s₁.gens = #[]) (script : s₁.heap.get? a = some { cls := .type "list", data := .seq vs.toArray }) (intsA : IntsAre vs ns) (short : ns.length ≤ 63)
    (empty : s₁.heap.get? T = some { cls := .none, data := .fields #[] }) (outK : K.lookup T = none) (hd : PySem.W.CodeHd s₁.heap c T)
    (bmain : ∃ (bm : Addr) (ob : Obj), mg "__builtins__" = some (.ref bm) ∧ bm ≠ builtinsNs ∧ s₁.heap.get? bm = some ob ∧ ob.cls = .type "module" ∧ ob.dict = some builtinsNs ∧ ob.data = .plain) :
    codeAny (model P w) callerA (.call (.ref f) ⟨[.ref a], []⟩) (fun r s' => r = .ok (.ret (.bool true)) ∧ OldK s₁.heap s'.heap ∧ s'.os = s₁.os ∧ AllBare s'.gens) s₁ := by
  have rv := vals_ints intsA
  have lenV := intsA.length
  have fits : ns.length ≤ sizeLine := Nat.le_trans short (by decide)
  have room : Room k callerA := Room.mono (k := 12) ⟨rfl, by decide, by decide⟩ hk
  have aT : a ≠ T := fun z => by
    rw [z, empty] at script
    cases script
  have go : ∀ H : Hp, SqL K H a (ns.map V.int) → H T = some (.tbl #[]) → HOk P w H s₁.heap → (∀ b, H b ≠ none → b = T ∨ (b = a ∧ K.lookup a = none)) → (∀ b o, b ≠ T → H b = some o → ∃ ob xs, o = .frz ob (.lst xs)) →
      codeAny (model P w) callerA (.call (.ref f) ⟨[.ref a], []⟩) (fun r s' => r = .ok (.ret (.bool true)) ∧ OldK s₁.heap s'.heap ∧ s'.os = s₁.os ∧ AllBare s'.gens) s₁ := by
    intro H seq tab ok only frz
    -- what is neither the script nor the table stands in the base
    have seen : ∀ {b : Addr} {o : Obj}, s₁.heap.get? b = some o → o.data ≠ .seq vs.toArray → o.data ≠ .fields #[] → (hidT s₁.heap H).get? b = some o := fun {b o} e n1 n2 => hidT_get e (by
      cases q : H b with
      | none => rfl
      | some u =>
        rcases only b (by rw [q]; exact fun z => nomatch z) with rfl | ⟨rfl, _⟩
        · rw [empty] at e
          cases e
          exact absurd rfl n2
        · rw [script] at e
          cases e
          exact absurd rfl n1)
    have hidden : ∀ {b : Addr} {m : Str → Option Value}, s₁.heap.Ns b m → (hidT s₁.heap H).Ns b m := by
      rintro b m ⟨o, es, ep, e, d, more⟩
      exact ⟨o, es, ep, seen e (by rw [d]; exact fun z => nomatch z) (by rw [d]; exact fun z => nomatch z), d, more⟩
    have kept : K.In (hidT s₁.heap H) := fun b o e => hidT_get (live b o e) (by
      cases q : H b with
      | none => rfl
      | some u =>
        rcases only b (by rw [q]; exact fun z => nomatch z) with rfl | ⟨rfl, z⟩
        · rw [outK] at e
          cases e
        · rw [z] at e
          cases e)
    have mod : Mod K mg (hidT s₁.heap H) := ⟨kept, hidden glob, ⟨mb, hidden blt, boot⟩, by
      obtain ⟨mc, h1, h2⟩ := free
      exact ⟨mc, hidden h1, h2⟩⟩
    have env0 : Env0 P w K mg (hidT s₁.heap H) callerA [] s₁ H :=
      { frames := rfl, mod := mod, bs := fun b o e => of_hidT e, bsz := Nat.le_of_eq (hidT_size _ _), funs := trivial, frf := (fun b hb => nomatch hb), hok := ok, bare := .of_eq nogen }
    have tb : LamX.TabB (hidT s₁.heap H) mg c T := by
      constructor
      · obtain ⟨o, us, file, tf, flags, tg, inF, text, tt, e1, r1, r2, r3, rest⟩ := hd
        refine ⟨o, us, file, tf, flags, tg, inF, text, tt, seen e1 (by rw [r2]; exact fun z => nomatch z) (fun z => ?_), r1, r2, r3, rest⟩
        rw [r2] at z
        cases z
        cases r3
      · obtain ⟨bm, ob, b1, b2, b3, b4, b5, b6⟩ := bmain
        refine ⟨bm, ob, b1, b2, fun z => ?_, fun z => ?_, seen b3 (by rw [b6]; exact fun z => nomatch z) (by rw [b6]; exact fun z => nomatch z), b4, b5, b6⟩
        · obtain ⟨o, es, ep, e, d, _⟩ := glob
          rw [z, e] at b3
          cases b3
          rw [d] at b6
          cases b6
        · rw [z, empty] at b3
          cases b3
          cases b6
      · intro z
        obtain ⟨o, es, ep, e, d, _⟩ := glob
        rw [z, empty] at e
        cases e
        cases d
    refine codeAny_mono ((F _ kept (hidden glob) tb).run callerA [] s₁ H ⟨[.ref a], []⟩ [.ref a] [.ref a] (fun v _ => v = .bl true) E0 rfl room env0 (binds s₁ (.ref a)) (show Vals [V.ref a] [Value.ref a] from .cons rfl .nil) ⟨a, ns, rfl, seq, short, tab, fun _ => rfl⟩) fun r s' told => ?_
    cases r with
    | error e => exact False.elim told
    | ok fl =>
      cases fl with
      | next => exact False.elim told
      | brk => exact False.elim told
      | cont => exact False.elim told
      | ret u =>
        obtain ⟨v, H', os, bare, un, ok', rel, rfl⟩ := told
        obtain rfl : u = Value.bool true := rel
        obtain ⟨more, grown⟩ := un.tbls T #[] tab
        have now : s'.heap.get? T = some { cls := .none, data := .fields (#[] ++ more) } := ok' T _ grown
        have stays : ∀ b o, b ≠ T → s₁.heap.get? b = some o → s'.heap.get? b = some o := fun b o nb e => by
          cases q : H b with
          | none => exact un.keep b o e q (fun z => nomatch z) (by simp)
          | some u =>
            obtain ⟨ob, xs, rfl⟩ := frz b u nb q
            have e1 := (ok b _ q).1
            have e2 := (ok' b _ (un.frzs b ob _ q)).1
            rw [e] at e1
            cases e1
            exact e2
        refine ⟨rfl, ⟨fun b o e => ?_, fun b o e => ?_⟩, os, bare⟩
        · by_cases hb : b = T
          · subst hb
            rw [empty] at e
            cases e
            exact .inr (.inl ⟨(hd.tab empty).isCodeTable, rfl, #[], #[] ++ more, rfl, by rw [Array.empty_append (xs := #[] ++ more)]; exact now⟩)
          · exact .inl (stays b o hb e)
        · by_cases hb : b = T
          · exact ⟨_, hb ▸ now⟩
          · exact ⟨o, stays b o hb e⟩
  cases inK : K.lookup a with
  | some o =>
    have e := live a o inK
    rw [script] at e
    cases e
    refine go (fun b => if b = T then some (.tbl #[]) else none) (.inr ⟨_, vs.toArray, _, inK, rfl, rfl, rfl, by rw [List.size_toArray, lenV]; exact fits, by simpa using rv⟩) (if_pos rfl) (fun b u z => ?_) (fun b z => ?_) fun b o nb z => ?_
    · dsimp only at z
      split at z
      · rename_i hb
        cases z
        rw [hb]
        exact empty
      · cases z
    · split at z
      · exact .inl (by assumption)
      · exact absurd rfl z
    · rw [if_neg nb] at z
      cases z
  | none =>
    refine go (fun b => if b = a then some (.frz { cls := .type "list", data := .seq vs.toArray } (.lst (ns.map V.int))) else if b = T then some (.tbl #[]) else none) (.inl (.inr ⟨_, if_pos rfl⟩)) ?_ (fun b u z => ?_) (fun b z => ?_) fun b o nb z => ?_
    · show (if T = a then _ else _) = _
      rw [if_neg (Ne.symm aT), if_pos rfl]
    · dsimp only at z
      split at z
      · rename_i hb
        cases z
        subst hb
        exact ⟨script, by rw [List.length_map]; exact fits, vs, _, rv, script⟩
      · split at z
        · rename_i hb
          cases z
          rw [hb]
          exact empty
        · cases z
    · split at z
      · exact .inr ⟨by assumption, inK⟩
      · split at z
        · exact .inl (by assumption)
        · exact absurd rfl z
    · split at z
      · cases z
        exact ⟨_, _, rfl⟩
      · first
          | (rw [if_neg nb] at z; cases z)
          | cases z
          | (split at z <;> first | contradiction | cases z)
end
end KF
end L2
end
/-! ### PK3 -/
section
namespace PySem
namespace KD
open PySem PySem.SeqAt
section
variable {prog : Program} {w : World} {A : Around} {E : Value → Shared → Prop} {s : Shared} {d : Addr} {xs : List Row} {k : NestedKey} {key : Value} {j : Nat} {p : Value × Value}
theorem erase_map {α β : Type} (f : α → β) : ∀ (l : List α) (j : Nat), (l.eraseIdx j).map f = (l.map f).eraseIdx j
  | [], _ => rfl
  | _ :: _, 0 => rfl
  | _ :: l, j + 1 => congrArg (_ :: ·) (erase_map f l j)
/-- an entry taken out -/
theorem take_m {Q : Option DictEntry → Shared → Prop} (hu : A.units + 9 < cLine) (hk : NestedIs s.heap k key) (h8 : k.depth ≤ 8) (D : DM w s.heap d xs) (ok : KeysOk s.heap xs) (len : xs.length ≤ sizeLine) (hj : xs[j]? = some (k, p))
    (z : ∀ h' tk, DM w h' d (xs.eraseIdx j) → Heap.SameBut d s.heap h' → Q (some (rowE w (k, p))) { s with heap := h', toks := tk }) : wpAny (model prog w) A (Builtin.Dict.takeOut d key) Q E s := by
  obtain ⟨⟨o, es, ep, ho, hc, hd, he⟩, hn⟩ := D
  unfold Builtin.Dict.takeOut
  try with_reducible refine wpAny_holding ?_
  refine wpAny_bind (pyHash_key k key A s _ hk (by omega) (wpAny_bind (find_m (s := { s with toks := s.toks + k.draws }) hu hk h8 ho hd he ok hn (fun no => absurd hj (no j p)) (fun i q hi => ?_))))
  have eij : i = j := row_one hn hi hj
  subst eij
  refine wpAny_bind (wpAny_dictEntries (s := { s with toks := s.toks + k.draws }) ho hd ?_)
  rw [row_at he i, hj]
  refine wpAny_bind (wpAny_updateDictKeys (hz := by
    have e := row_size he
    omega) (s := { s with toks := s.toks + k.draws }) ho hd (wpAny_pure (z _ _ ⟨⟨_, _, ep + 1, Heap.get?_update_self _ ho (Obj.isFreed_of_dict (Obj.data_mapDictKeys hd _)), hc.mapDictKeys _, Obj.data_mapDictKeys hd _, ?_⟩, ?_⟩ (Heap.SameBut.update ..))))
  · rw [erase_map, ← he]
    obtain ⟨l⟩ := es
    simp
  · rw [erase_map]
    exact List.Pairwise.sublist (List.eraseIdx_sublist _ _) hn
/-- d.pop(x), x a text that is a key -/
theorem meets_pop_m (hd : (d == sysModules) = false) (hp : (keyPart key).isSome = true) : MeetsIn prog w (Builtin.«dict.pop» ⟨[.ref d, key], []⟩) (fun A R s => A.in1.units + 9 < cLine ∧ ∃ xs k j p, NestedIs s.heap k key ∧ k.depth ≤ 8 ∧ DM w s.heap d xs ∧ KeysOk s.heap xs ∧ xs.length ≤ sizeLine ∧ xs[j]? = some (k, p) ∧
    ∀ h' tk, DM w h' d (xs.eraseIdx j) → Heap.SameBut d s.heap h' → R (.ok (.ret p.2)) { s with heap := h', toks := tk }) := .of_wp fun A R s ⟨hu, xs, k, j, p, hk, h8, D, ok, len, hj, z⟩ => by
  unfold Builtin.«dict.pop»
  refine wpAny_bind ?_
  unfold Builtin.Dict.keyAndDefault
  refine wpAny_bind (wpAny_notOrdered_dict D.typeIs ?_)
  show wpAny _ _ (pure (d, key, none)) _ _ s
  refine wpAny_pure ?_
  simp only [hp, if_true]
  refine wpAny_bind (wpAny_pure ?_)
  simp only [Bool.false_eq_true, if_false]
  refine wpAny_bind (take_m hu hk h8 D ok len hj fun h' tk D' hs => ?_)
  simp only [Option.isNone_some, Bool.false_eq_true, if_false]
  exact wpAny_bind (wpAny_letGo (wpAny_pure ⟨p.2, rfl, z h' tk D' hs⟩))
end
end KD
end PySem
namespace L2
namespace KE
open PySem PySem.Spec PyProof.Rows PySem.KD
section
variable {X : Cx} {pins : List (Addr × Obj)} {σ : St} {H : Hp} {s : Shared} {d : Addr} {xs : List MRow}
/-- d.pop(x) of a dict with keys of several sorts, x a text -/
def tPopM (w : World) (td ty : TE) : TE := fun σ H Q => td σ H fun x H1 => ∃ a es0, x = .ref a ∧ H1 a = some (mdo w a es0) ∧ ty σ H1 fun y H2 => ∃ es j x v, y = .str x ∧ H2 a = some (mdo w a es) ∧ KAll H2 es ∧ es[j]? = some (.text x, .str x, v) ∧ Q v (upd H2 a (mdo w a (es.eraseIdx j)))
theorem paired_erase {α β : Type} {R : α → β → Prop} : ∀ {xs : List α} {ys : List β} (j : Nat), Paired R xs ys → Paired R (xs.eraseIdx j) (ys.eraseIdx j)
  | _, _, _, .nil => .nil
  | _, _, 0, .cons _ t => t
  | _, _, j + 1, .cons h t => .cons h (paired_erase j t)
theorem paired_get {α β : Type} {R : α → β → Prop} : ∀ {xs : List α} {ys : List β} {j : Nat} {x : α}, Paired R xs ys → xs[j]? = some x → ∃ y, ys[j]? = some y ∧ R x y
  | _, _, 0, _, .cons h _, e => ⟨_, rfl, by rw [← Option.some.inj e]; exact h⟩
  | _, _, j + 1, _, .cons _ t, e => paired_get (j := j) t e
theorem pe_popM {o e : Expr} {td ty : TE} {apos cpos : Pos} (hu : X.A.units + 11 < cLine) (ho : PE X o td) (he : PE X e ty) (m : M1 X o "pop" apos e cpos) : PE X (.Call (.Attribute o "pop" apos) [e] [] cpos) (tPopM X.w td ty) := by
  refine ⟨fun pins s σ H Q I h => ?_⟩
  refine wpAny_Call_method m.base m.few m.line PySem.F.plainAttrs_dict PySem.F.slot_dict_pop PySem.F.type_dict_pop (thn (ho.run pins s σ H _ I h) fun u s1 ⟨x, H1, I1, rx, a, es0, ex, ha0, q1⟩ => ?_)
  subst ex
  obtain rfl : u = Value.ref a := rx
  obtain ⟨l0, sy, rows0, rr0, D0⟩ := mdo_rd I1.hok (.inl ha0)
  obtain ⟨ens, ep, raw, _⟩ := D0.raw
  refine ⟨raw.typeIs, fun b eb => ?_, ?_⟩
  · cases eb
    obtain ⟨o, ho, ex, _⟩ := raw
    exact ⟨o, ho, ex.2.1⟩
  rw [m.trees]
  refine Calls.callWith_builtin rfl (Calls.evalArgs_plain (Calls.spliced_cons (thn (he.run pins s1 σ H1 _ I1 q1) fun iv s2 ⟨y, H2, I2, ry, es, j, x, v, ey, ha, ka, ej, q⟩ => Calls.spliced_nil ?_)))
  subst ey
  obtain ⟨tk, rfl⟩ := ry
  obtain ⟨l, _, rows, rr, D⟩ := mdo_rd I2.hok (.inl ha)
  obtain ⟨r, hr, rk, rkey, rv⟩ := paired_get rr ej
  obtain ⟨rk', rp⟩ := r
  obtain rfl : NestedKey.text x = rk' := rk
  have len : rows.length ≤ 1000 := by
    rw [← Paired.length rr]
    exact l
  refine call_meetsIn PySem.F.slot_dict_pop D.typeIs PySem.F.entry_dict_pop (PySem.F.args_dict_pop_2 _ _) (meets_pop_m sy rfl) ⟨by rw [Around.in1_units]; omega, rows, .text x, j, rp, .text x tk, Nat.zero_le _, D, keysOk ka I2.hok rr, Nat.le_of_lt (small1000 len), hr, fun h' tk' D' hs => ?_⟩
  refine ⟨v, _, wrM (tk := tk') (es := es.eraseIdx j) I2 ha ?_ sy (paired_erase j rr) D' hs, rv, q⟩
  exact Nat.le_trans (List.length_eraseIdx_le _ _) l
end
end KE
end L2
end
/-! ### QC -/
section
namespace L2
namespace KF
open PySem PySem.Spec PyProof.Rows PySem.KD KE KC PySem.KA KM TL
/-! ## _law_near -/
abbrev sNr : Stmt := topS 41
abbrev nrN : List Str := ["_law_pen", "_law_plain", "_law_finals", "_law_reads", "_law_kind", "_law_words", "_law_outcome", "_law_more"]
theorem scNr : FnScope nrN ["_law_pen", "_law_plain"] (defScope sNr) := ⟨rfl, rfl, rfl, by decide +kernel, rfl, by decide +kernel, by decide +kernel⟩
/-- rows as the library has them -/
theorem rowsT_toMC (ls : List (Str × Str)) : rowsT ls = toM (ls.map fun q => (.inr q.1, .str q.2)) := by
  unfold rowsT toM
  rw [List.map_map]
  rfl
theorem rowsF_toM (fs : List Fin) : rowsF fs = toM (fs.map fun q => (.inr q.1, .ref q.2.1)) := by
  unfold rowsF toM
  rw [List.map_map]
  rfl
theorem allT_t (ls : List (Str × Str)) : AllT (ls.map fun q => ((.inr q.1, .str q.2) : Key × V)) := fun p hp => by
  obtain ⟨q, _, rfl⟩ := List.mem_map.mp hp
  exact ⟨_, rfl⟩
theorem allT_f (fs : List Fin) : AllT (fs.map fun q => ((.inr q.1, .ref q.2.1) : Key × V)) := fun p hp => by
  obtain ⟨q, _, rfl⟩ := List.mem_map.mp hp
  exact ⟨_, rfl⟩
/-- a level exchanged -/
def setT (ls : List (Str × Str)) (x v : Str) : List (Str × Str) := ls.map fun q => if q.1 = x then (q.1, v) else q
theorem setT_keys (ls : List (Str × Str)) (x v : Str) : (setT ls x v).map (·.1) = ls.map (·.1) := by
  unfold setT
  rw [List.map_map]
  refine List.map_congr_left fun q _ => ?_
  show (if q.1 = x then (q.1, v) else q).1 = q.1
  split <;> rfl
theorem setT_mem {ls : List (Str × Str)} {x v : Str} {lv : List Str} (h : ∀ q ∈ ls, q.2 ∈ lv) (hv : v ∈ lv) : ∀ q ∈ setT ls x v, q.2 ∈ lv := fun q hq => by
  obtain ⟨q0, m, rfl⟩ := List.mem_map.mp hq
  show (if q0.1 = x then (q0.1, v) else q0).2 ∈ lv
  split
  · exact hv
  · exact h q0 m
theorem text_beq (a b : Str) : NestedKey.beq (.text a) (.text b) = decide (a = b) := by simp only [NestedKey.beq]
theorem putT {ls : List (Str × Str)} {x v : Str} (h : x ∈ ls.map (·.1)) : putH (rowsT ls) (.text x) (.str x) (.str v) = rowsT (setT ls x v) := by
  unfold putH
  have any : (rowsT ls).any (fun r => NestedKey.beq r.1 (.text x)) = true := by
    obtain ⟨q, hq, e⟩ := List.mem_map.mp h
    refine List.any_eq_true.mpr ⟨_, List.mem_map_of_mem hq, ?_⟩
    show NestedKey.beq (.text q.1) (.text x) = true
    rw [text_beq]
    exact decide_eq_true e
  rw [if_pos any]
  unfold rowsT setT
  rw [List.map_map, List.map_map]
  refine List.map_congr_left fun q _ => ?_
  show (if NestedKey.beq (.text q.1) (.text x) = true then _ else _) = (NestedKey.text (if q.1 = x then (q.1, v) else q).1, V.str (if q.1 = x then (q.1, v) else q).1, V.str (if q.1 = x then (q.1, v) else q).2)
  rw [text_beq]
  by_cases c : q.1 = x
  · rw [if_pos (decide_eq_true c), if_pos c]
  · rw [if_neg (by rw [decide_eq_false c]; exact Bool.false_ne_true), if_neg c]
/-- an outcome's row exchanged -/
def setF (fs : List Fin) (x : Str) (E : Addr) (ls : List (Str × Str)) : List Fin := fs.map fun q => if q.1 = x then (q.1, E, ls) else q
theorem setF_keys (fs : List Fin) (x : Str) (E : Addr) (ls : List (Str × Str)) : (setF fs x E ls).map (·.1) = fs.map (·.1) := by
  unfold setF
  rw [List.map_map]
  refine List.map_congr_left fun q _ => ?_
  show (if q.1 = x then (q.1, E, ls) else q).1 = q.1
  split <;> rfl
theorem putFn {fs : List Fin} {x : Str} {E : Addr} {ls : List (Str × Str)} (h : x ∈ fs.map (·.1)) : putH (rowsF fs) (.text x) (.str x) (.ref E) = rowsF (setF fs x E ls) := by
  unfold putH
  have any : (rowsF fs).any (fun r => NestedKey.beq r.1 (.text x)) = true := by
    obtain ⟨q, hq, e⟩ := List.mem_map.mp h
    refine List.any_eq_true.mpr ⟨_, List.mem_map_of_mem hq, ?_⟩
    show NestedKey.beq (.text q.1) (.text x) = true
    rw [text_beq]
    exact decide_eq_true e
  rw [if_pos any]
  unfold rowsF setF
  rw [List.map_map, List.map_map]
  refine List.map_congr_left fun q _ => ?_
  show (if NestedKey.beq (.text q.1) (.text x) = true then _ else _) = (NestedKey.text (if q.1 = x then (q.1, E, ls) else q).1, V.str (if q.1 = x then (q.1, E, ls) else q).1, V.ref (if q.1 = x then (q.1, E, ls) else q).2.1)
  rw [text_beq]
  by_cases c : q.1 = x
  · rw [if_pos (decide_eq_true c), if_pos c]
  · rw [if_neg (by rw [decide_eq_false c]; exact Bool.false_ne_true), if_neg c]
theorem setF_mem {fs : List Fin} {x : Str} {E : Addr} {ls : List (Str × Str)} {q : Fin} (h : q ∈ setF fs x E ls) : q ∈ fs ∨ (q = (x, E, ls)) := by
  obtain ⟨q0, m, rfl⟩ := List.mem_map.mp h
  by_cases c : q0.1 = x
  · right
    show (if q0.1 = x then (q0.1, E, ls) else q0) = _
    rw [if_pos c, c]
  · left
    show (if q0.1 = x then (q0.1, E, ls) else q0) ∈ fs
    rw [if_neg c]
    exact m
theorem setF_nodup {fs : List Fin} {x : Str} {E : Addr} {ls : List (Str × Str)} (fk : (fs.map (·.1)).Nodup) (nd : (fs.map (·.2.1)).Nodup) (nE : E ∉ fs.map (·.2.1)) : ((setF fs x E ls).map (·.2.1)).Nodup := by
  induction fs with
  | nil => exact List.nodup_nil
  | cons q fs ih =>
    obtain ⟨f1, f2⟩ := List.nodup_cons.mp fk
    obtain ⟨n1, n2⟩ := List.nodup_cons.mp nd
    have nE2 : E ∉ fs.map (·.2.1) := fun z => nE (List.mem_cons_of_mem _ z)
    have nEq : E ≠ q.2.1 := fun z => nE (z ▸ List.mem_cons_self)
    show (((if q.1 = x then (q.1, E, ls) else q) : Fin).2.1 :: (setF fs x E ls).map (·.2.1)).Nodup
    refine List.nodup_cons.mpr ⟨fun z => ?_, ih f2 n2 nE2⟩
    obtain ⟨r, hr, er⟩ := List.mem_map.mp z
    by_cases c : q.1 = x
    · rw [if_pos c] at er
      obtain ⟨r0, m0, e0⟩ := List.mem_map.mp hr
      by_cases c0 : r0.1 = x
      · exact f1 (List.mem_map.mpr ⟨r0, m0, c0.trans c.symm⟩)
      · rw [if_neg c0] at e0
        subst e0
        exact nE2 (List.mem_map.mpr ⟨r0, m0, er⟩)
    · rw [if_neg c] at er
      rcases setF_mem hr with m | rfl
      · exact n1 (List.mem_map.mpr ⟨r, m, er⟩)
      · exact nEq er
theorem ProfAt.fins {w : World} {H : Hp} {D R : Addr} {words : List Str} {fs fs' : List Fin} {rs : List (Str × Str)} (PA : ProfAt w H D R words fs rs) (rows : ∀ q ∈ fs', H q.2.1 = some (mdo w q.2.1 (rowsT q.2.2)) ∧ q.2.2.map (·.1) = words ∧ ∀ z ∈ q.2.2, z.2 ∈ endL) (nd : (D :: R :: fs'.map (·.2.1)).Nodup) (fk : (fs'.map (·.1)).Nodup) (fo : ∀ q ∈ fs', q.1 ∈ outL) (few : fs'.length ≤ 3) :
    ProfAt w (upd H D (mdo w D (rowsF fs'))) D R words fs' rs := by
  obtain ⟨n1, _⟩ := List.nodup_cons.mp nd
  have nRD : R ≠ D := fun z => n1 (z ▸ List.mem_cons_self)
  exact ⟨upd_same, (upd_ne nRD).trans PA.hR, ⟨fun q hq => (upd_ne fun z => n1 (List.mem_cons_of_mem _ (List.mem_map.mpr ⟨q, hq, z⟩))).trans (rows q hq).1, fun q hq => (rows q hq).2.1, fun q hq => (rows q hq).2.2⟩, PA.rk, PA.rl, nd, fk, fo, few⟩
theorem ProfAt.reads {w : World} {H : Hp} {D R : Addr} {words : List Str} {fs : List Fin} {rs rs' : List (Str × Str)} (PA : ProfAt w H D R words fs rs) (rk : rs'.map (·.1) = words) (rl : ∀ q ∈ rs', q.2 ∈ readL) : ProfAt w (upd H R (mdo w R (rowsT rs'))) D R words fs rs' := by
  obtain ⟨n1, n2⟩ := List.nodup_cons.mp PA.nd
  have nDR : D ≠ R := fun z => n1 (z ▸ List.mem_cons_self)
  exact ⟨(upd_ne nDR).trans PA.hD, upd_same, ⟨fun q hq => (upd_ne fun z => (List.nodup_cons.mp n2).1 (List.mem_map.mpr ⟨q, hq, z⟩)).trans (PA.rows.at_ q hq), PA.rows.keys, PA.rows.lev⟩, rk, rl, PA.nd, PA.fk, PA.fo, PA.few⟩
/-- what stands between the steps -/
structure NrAt (w : World) (H Hn : Hp) (p c : Addr) (ns : List Int) (am : Int) (D R W : Addr) (words : List Str) (fs : List Fin) (rs : List (Str × Str)) : Prop where
  sb : SameBut p H Hn
  pn : Pn Hn p c ns am
  hW : Hn W = some (.lst (words.map V.str))
  pr : ProfAt w Hn D R words fs rs
  nD : H D = none
  nR : H R = none
section
variable {w : World} {H Hn Hm : Hp} {p c : Addr} {ns : List Int} {am a2 : Int} {D R W : Addr} {words : List Str} {fs : List Fin} {rs : List (Str × Str)}
theorem NrAt.but (N : NrAt w H Hn p c ns am D R W words fs rs) (s : SameBut p Hn Hm) (pn : Pn Hm p c ns a2) : NrAt w H Hm p c ns a2 D R W words fs rs := by
  obtain ⟨l, pen, _⟩ := N.pn.at_
  exact ⟨N.sb.trans s, pn, s _ _ (N.pn.ne N.hW) N.hW, N.pr.but s pen.row, N.nD, N.nR⟩
theorem NrAt.same (N : NrAt w H Hn p c ns am D R W words fs rs) (s : Same Hn Hm) : NrAt w H Hm p c ns am D R W words fs rs := N.but (Same.but s p) (N.pn.same s)
/-- something else at D or R -/
theorem NrAt.off (N : NrAt w H Hn p c ns am D R W words fs rs) {x : Addr} {o : HO} {es : List MRow} (hx : Hn x = some (mdo w x es)) (nx : H x = none) : SameBut p H (upd Hn x o) ∧ Pn (upd Hn x o) p c ns am ∧ (upd Hn x o) W = some (.lst (words.map V.str)) := by
  obtain ⟨l, pen, hl⟩ := N.pn.at_
  have nxp : p ≠ x := fun z => by
    rw [← z, pen.row] at hx
    cases hx
  have nxc : c ≠ x := fun z => by
    rw [← z, pen.cells] at hx
    cases hx
  have nxW : W ≠ x := fun z => by
    rw [← z, N.hW] at hx
    cases hx
  refine ⟨fun b u nb e => ?_, N.pn.off (upd_ne nxp) (upd_ne nxc), (upd_ne nxW).trans N.hW⟩
  rw [upd_ne fun z => by rw [z, nx] at e; cases e]
  exact N.sb b u nb e
end
section
variable {P : Program} {w : World} {K : PySem.W.Frag} {mg : Str → Option Value} {base : Heap}
def spNear (w : World) : Sp := fun vs H Q _ => ∃ (p c T D R : Addr) (ns : List Int) (a : Int) (words : List Str) (fs : List Fin) (rs : List (Str × Str)), vs = [.ref p, .ref T] ∧ Pn H p c ns a ∧ a ≤ 800000 ∧ H T = some (.tup [.ref D, .ref R]) ∧ ProfAt w H D R words fs rs ∧ words.length ≤ 60 ∧ words.Nodup ∧ (∀ x ∈ words, PyData.strOk x = true) ∧
  ∀ H' T2 D2 R2 fs2 rs2 a', SameBut p H H' → Pn H' p c ns a' → a' ≤ a + 10 → H' T2 = some (.tup [.ref D2, .ref R2]) → H T2 = none → ProfAt w H' D2 R2 words fs2 rs2 → H D2 = none → H R2 = none → Q (.ref T2) H'
theorem ok_near {f fD fP : Addr} {fd fdD fdP : FuncData} (F : Fun K "_law_near" "_law_near" sNr f fd) (FD : Fun K "_law_draw" "_law_draw" sDraw fD fdD) (gD : mg "_law_draw" = some (.ref fD)) (bD : Binds K fdD ["_law_pen", "_law_many"] [])
    (FP : Fun K "_law_pick" "_law_pick" sPick fP fdP) (gP : mg "_law_pick" = some (.ref fP)) (bP : Binds K fdP ["_law_pen", "_law_items"] []) (B : BltD mg) (L : BltL mg) : FnOk P w K mg base CX0 4 f fd ["_law_pen", "_law_plain"] (spNear w) := by
  have GD : FnOk P w K mg base CX0 1 fD fdD ["_law_pen", "_law_many"] spDraw := ok_draw FD B
  have GP : FnOk P w K mg base CX0 2 fP fdP ["_law_pen", "_law_items"] (spPick K) := ok_pick FP FD gD bD B
  refine F.ok scNr (fun vs H Q E h => ?_) (fun cdv A outer s H vs Q E hr h => ?_)
  · obtain ⟨p, c, T, _, _, _, _, _, _, _, rfl, _⟩ := h
    rfl
  · obtain ⟨p, c, T, D, R, ns, a, words, fs, rs, rfl, pn, ha, eT, PA, w60, wnd0, wok, q⟩ := h
    have hr1 := hr.mono (show 1 ≤ 3 by decide)
    have hr2 := hr.mono (show 2 ≤ 3 by decide)
    have hc : (cxOf CX0 P w K mg base nrN "_law_near" (defScope sNr) f cdv A outer s H E).nox.calm = true := rfl
    have hu1 : (cxOf CX0 P w K mg base nrN "_law_near" (defScope sNr) f cdv A outer s H E).nox.A.units < cLine := by
      have := hr.un
      show (A.deeper _).units < cLine
      omega
    have hu10 : (cxOf CX0 P w K mg base nrN "_law_near" (defScope sNr) f cdv A outer s H E).nox.A.units + 10 < cLine := by
      have := hr.un
      show (A.deeper _).units + 10 < cLine
      omega
    have hu11 : (cxOf CX0 P w K mg base nrN "_law_near" (defScope sNr) f cdv A outer s H E).nox.A.units + 11 < cLine := by
      have := hr.un
      show (A.deeper _).units + 11 < cLine
      omega
    have hu20 : (cxOf CX0 P w K mg base nrN "_law_near" (defScope sNr) f cdv A outer s H E).nox.A.units + 20 < cLine := by
      have := hr.un
      show (A.deeper _).units + 20 < cLine
      omega
    have hu64 : (cxOf CX0 P w K mg base nrN "_law_near" (defScope sNr) f cdv A outer s H E).nox.A.units + 64 < cLine := by
      have := hr.un
      show (A.deeper _).units + 64 < cLine
      omega
    refine ⟨_, pss_cons (ps_par (i := 2) (j := 3) hc scNr.nd rfl rfl (by decide) rfl rfl (pa_cons (pe_callTy callCopyM (by rfl) L.dict boot_dict (pa_cons (pe_ix ix_seq (pv 1) pe_int (fun _ _ => rfl)) pa_nil)) (pa_cons (pe_callTy callCopyM (by rfl) L.dict boot_dict (pa_cons (pe_ix ix_seq (pv 1) pe_int (fun _ _ => rfl)) pa_nil)) pa_nil)) (by rfl))
      (pss_cons (ps_par (i := 4) (j := 5) hc scNr.nd rfl rfl (by decide) rfl rfl (pa_cons (pe_call GD hr1 (by rfl) gD FD.kp bD .nil pass0 (pa_cons (pv 0) (pa_cons pe_int pa_nil))) (pa_cons (pe_callTy (callListM hc) (by rfl) L.list boot_list (pa_cons (pv 3) pa_nil)) pa_nil)) (by rfl))
      (pss_cons (ps_if (PW.pt (pw_and (pt_cmpR op_eq (pv 4) pe_int (nomark _)) (pw_and1 (pt_cmpR (op_neM hu1) (pv 2) pe_dnewK (nomark _)))))
        (pss_one (ps_expr (pe_popM hu11 (pv 2) (pe_call GP hr2 (by rfl) gP FP.kp bP .nil pass0 (pa_cons (pv 0) (pa_cons (pe_callTy (callListM hc) (by rfl) L.list boot_list (pa_cons (pv 2) pa_nil)) pa_nil))) ⟨rfl, rfl, rfl, rfl⟩))) pss_nil)
      (pss_cons (ps_if (PW.pt (pw_and (pt_cmpR op_eq (pv 4) pe_int (nomark _)) (pw_and1 (pt_cmpR (op_neD hu64) (pv 5) (pe_lst pa_nil) (nomark _)))))
        (pss_one (ps_asg (pe_call GP hr2 (by rfl) gP FP.kp bP .nil pass0 (pa_cons (pv 0) (pa_cons (pe_lst (pa_cons pe_str (pa_cons pe_str (pa_cons pe_str pa_nil)))) pa_nil))) (pg_sub (pv 3) (pe_call GP hr2 (by rfl) gP FP.kp bP .nil pass0 (pa_cons (pv 0) (pa_cons (pv 5) pa_nil))) (setM hu10)))) pss_nil)
      (pss_cons (ps_if (PW.pt (pw_and (pt_cmpR op_gt (pv 4) pe_int (nomark _)) (pw_and (pt_cmpR (op_neD hu64) (pv 5) (pe_lst pa_nil) (nomark _)) (pw_and1 (pt_cmpR (op_neM hu1) (pv 2) pe_dnewK (nomark _))))))
        (pss_cons (ps_set (i := 6) scNr.nd rfl (.inl rfl) (pe_call GP hr2 (by rfl) gP FP.kp bP .nil pass0 (pa_cons (pv 0) (pa_cons (pe_callTy (callListM hc) (by rfl) L.list boot_list (pa_cons (pv 2) pa_nil)) pa_nil))))
        (pss_cons (ps_set (i := 7) scNr.nd rfl (.inl rfl) (pe_lst (pa_cons (pe_tup (pa_cons (pe_call GP hr2 (by rfl) gP FP.kp bP .nil pass0 (pa_cons (pv 0) (pa_cons (pv 5) pa_nil))) (pa_cons (pe_call GP hr2 (by rfl) gP FP.kp bP .nil pass0 (pa_cons (pv 0) (pa_cons (pe_lst (pa_cons pe_str (pa_cons pe_str (pa_cons pe_str pa_nil)))) pa_nil))) pa_nil))) pa_nil)))
        (pss_one (ps_asg (pe_callTy (callDictM hu20 hc) (by rfl) L.dict boot_dict (pa_cons (pe_op op_cat (peItemsM hc (pe_ix (ixM hu10) (pv 2) (pv 6) (fun _ _ => rfl)) (by rfl) L.list boot_list) (pv 7)) pa_nil)) (pg_sub (pv 2) (pv 6) (setM hu10)))))) pss_nil)
      (pss_one (ps_ret (pe_tup (pa_cons (pv 2) (pa_cons (pv 3) pa_nil))))))))), ?_⟩
    have hw : (cxOf CX0 P w K mg base nrN "_law_near" (defScope sNr) f cdv A outer s H E).nox.w = w := rfl
    -- the copies
    refine c_seq ⟨.ref T, rfl, .inr (.inl ⟨T, _, _, .ref D, rfl, rfl, .inl (.inl eT), atN (i := 0) rfl, D, fs.map fun q => (.inr q.1, .ref q.2.1), rfl, .inl ?_, allT_f fs, fun D2 nD2 => ?_⟩)⟩
    · rw [← rowsF_toM]
      exact PA.hD
    rw [← rowsF_toM]
    have s1 := same_upd (o := mdo w D2 (rowsF fs)) nD2
    refine ⟨.ref T, rfl, .inr (.inl ⟨T, _, _, .ref R, rfl, rfl, .inl (.inl (s1 _ _ eT)), atN (i := 1) rfl, R, rs.map fun q => (.inr q.1, .str q.2), rfl, .inl ?_, allT_t rs, fun R2 nR2 => ⟨_, _, rfl, ?_⟩⟩)⟩
    · rw [← rowsT_toMC]
      exact s1 _ _ PA.hR
    rw [← rowsT_toMC]
    have nR2 : (upd H D2 (mdo w D2 (rowsF fs))) R2 = none := nR2
    have s2 := same_upd (o := mdo w R2 (rowsT rs)) nR2
    have nRD : R2 ≠ D2 := fun z => by
      rw [z, upd_same] at nR2
      cases nR2
    have nR2H : H R2 = none := s1.free nR2
    obtain ⟨nd1, nd2⟩ := List.nodup_cons.mp PA.nd
    obtain ⟨nd3, nd4⟩ := List.nodup_cons.mp nd2
    have PA2 : ProfAt w (upd (upd H D2 (mdo w D2 (rowsF fs))) R2 (mdo w R2 (rowsT rs))) D2 R2 words fs rs := by
      have rowsNone : ∀ q ∈ fs, ∀ y, H y = none → q.2.1 ≠ y := fun q hq y hy z => by
        have e := PA.rows.at_ q hq
        rw [z, hy] at e
        cases e
      refine ⟨s2 _ _ upd_same, upd_same, ⟨fun q hq => s2 _ _ (s1 _ _ (PA.rows.at_ q hq)), PA.rows.keys, PA.rows.lev⟩, PA.rk, PA.rl, List.nodup_cons.mpr ⟨fun z => ?_, List.nodup_cons.mpr ⟨fun z => ?_, nd4⟩⟩, PA.fk, PA.fo, PA.few⟩
      · rcases List.mem_cons.mp z with z | z
        · exact nRD z.symm
        · obtain ⟨q, hq, e⟩ := List.mem_map.mp z
          exact rowsNone q hq D2 nD2 e
      · obtain ⟨q, hq, e⟩ := List.mem_map.mp z
        exact rowsNone q hq R2 nR2H e
    have sbA : SameBut p H (upd (upd H D2 (mdo w D2 (rowsF fs))) R2 (mdo w R2 (rowsT rs))) := Same.but (s1.trans s2) p
    have pnA := pn.same (s1.trans s2)
    rw [hw]
    generalize upd (upd H D2 (mdo w D2 (rowsF fs))) R2 (mdo w R2 (rowsT rs)) = H2 at PA2 sbA pnA ⊢
    -- the kind, the words
    obtain ⟨l2, pen2, hl2⟩ := pnA.at_
    refine c_nx (c_seq ⟨.ref p, rfl, p, c, ns, a, l2, 4, rfl, pen2, pnA.few, pnA.lo, by omega, hl2, by decide, by decide, fun H3 kd a3 l3 sb3 pen3 j1 j2 j3 k0 k4 => ?_⟩)
    have pn3 : Pn H3 p c ns a3 := ⟨⟨l3, pen3, j3⟩, pnA.few, Int.le_trans pnA.lo j1⟩
    have PA3 := PA2.but sb3 pen2.row
    refine ⟨.ref R2, rfl, R2, rowsT rs, rfl, .inl PA3.hR, fun W nW => ⟨_, _, rfl, ?_⟩⟩
    have ew : (rowsT rs).map (fun r => r.2.1) = words.map V.str := by
      unfold rowsT
      rw [List.map_map, ← PA.rk, List.map_map]
      rfl
    rw [ew]
    have sW := same_upd (o := HO.lst (words.map V.str)) nW
    have N0 : NrAt w H (upd H3 W (.lst (words.map V.str))) p c ns a3 D2 R2 W words fs rs := ⟨(sbA.trans sb3).trans (Same.but sW p), pn3.same sW, upd_same, PA3.same sW, nD2, nR2H⟩
    generalize upd H3 W (.lst (words.map V.str)) = H4 at N0 ⊢
    clear sW nW ew sb3 pen2 pen3 PA2 PA3 pnA sbA s1 s2 nR2
    let Pm : Int → St → Hp → Prop := fun m σ Hm => ∃ y6 y7 fs rs am, σ = [some (.ref p), some (.ref T), some (.ref D2), some (.ref R2), some (.int kd), some (.ref W), y6, y7] ∧ NrAt w H Hm p c ns am D2 R2 W words fs rs ∧ am ≤ a3 + m
    -- the test against {}
    have nonE : ∀ {σ : St} {Hm : Hp} {am : Int} {fs : List Fin} {rs : List (Str × Str)} {Q : Bool → Hp → Prop}, σ[2]? = some (some (.ref D2)) → NrAt w H Hm p c ns am D2 R2 W words fs rs → (∀ Hn, NrAt w H Hn p c ns am D2 R2 W words fs rs → Q (!fs.isEmpty) Hn) → tTest (tOp (rNeM w) (tVar 2) tDNewK) σ Hm Q := by
      intro σ Hm am fs rs Q e N z
      refine ⟨.ref D2, e, fun o no => ⟨D2, o, rowsF fs, rfl, rfl, same_upd no _ _ N.pr.hD, rowsF_txts fs, upd_same, _, rfl, ?_⟩⟩
      have y := z _ (N.same (same_upd (o := HO.dK []) no))
      have em : (rowsF fs).isEmpty = fs.isEmpty := by
        unfold rowsF
        rw [List.isEmpty_map]
      rw [em]
      exact y
    have nonW : ∀ {σ : St} {Hm : Hp} {am : Int} {fs : List Fin} {rs : List (Str × Str)} {Q : Bool → Hp → Prop}, σ[5]? = some (some (.ref W)) → NrAt w H Hm p c ns am D2 R2 W words fs rs → (∀ Hn, NrAt w H Hn p c ns am D2 R2 W words fs rs → Q (!words.isEmpty) Hn) → tTest (tOp (rNeD K) (tVar 5) (tLst tNil)) σ Hm Q := by
      intro σ Hm am fs rs Q e N z
      refine ⟨.ref W, e, by show 0 ≤ sizeLine; exact Nat.zero_le _, fun M nM => ne_nil wok (same_upd nM _ _ N.hW) upd_same ⟨_, rfl, z _ (N.same (same_upd (o := HO.lst []) nM))⟩⟩
    have pickW : ∀ {σ : St} {Hm : Hp} {am : Int} {fs : List Fin} {rs : List (Str × Str)} {Q : VK}, σ[0]? = some (some (.ref p)) → σ[5]? = some (some (.ref W)) → words.isEmpty = false → NrAt w H Hm p c ns am D2 R2 W words fs rs → am ≤ a + 9 → (∀ Hn x a', NrAt w H Hn p c ns a' D2 R2 W words fs rs → a' ≤ am + 1 → x ∈ words → Q (.str x) Hn) → tCall (spPick K) [] E0 (tCons (tVar 0) (tCons (tVar 5) tNil)) σ Hm Q := by
      intro σ Hm am fs rs Q e0 e5 nw N lm z
      have l1 : 1 ≤ words.length := by
        cases words with
        | nil => cases nw
        | cons _ _ => exact Nat.succ_le_succ (Nat.zero_le _)
      refine ⟨.ref p, e0, .ref W, e5, p, c, ns, am, .ref W, rfl, N.pn, by omega, .inl ⟨W, _, rfl, N.hW, by rw [List.length_map]; exact l1, by rw [List.length_map]; omega, fun H' y a' sb pn' ha' hy => ?_⟩⟩
      obtain ⟨x, hx, rfl⟩ := List.mem_map.mp hy
      exact z H' x a' (N.but sb pn') ha' hx
    have pickF : ∀ {σ : St} {Hm : Hp} {am : Int} {fs : List Fin} {rs : List (Str × Str)} {Q : VK}, σ[0]? = some (some (.ref p)) → σ[2]? = some (some (.ref D2)) → fs.isEmpty = false → NrAt w H Hm p c ns am D2 R2 W words fs rs → am ≤ a + 9 → (∀ Hn x a', NrAt w H Hn p c ns a' D2 R2 W words fs rs → a' ≤ am + 1 → x ∈ fs.map (·.1) → Q (.str x) Hn) →
        tCall (spPick K) [] E0 (tCons (tVar 0) (tCons (tCB (fun ys H Q => ∃ a es, ys = [V.ref a] ∧ Rd H a (mdo w a es) ∧ ∀ l, H l = none → Q (.ref l) (upd H l (.lst (es.map (·.2.1))))) (tCons (tVar 2) tNil)) tNil)) σ Hm Q := by
      intro σ Hm am fs rs Q e0 e2 nf N lm z
      have l1 : 1 ≤ fs.length := by
        cases fs with
        | nil => cases nf
        | cons _ _ => exact Nat.succ_le_succ (Nat.zero_le _)
      have few := N.pr.few
      refine ⟨.ref p, e0, .ref D2, e2, D2, rowsF fs, rfl, .inl N.pr.hD, fun M nM => ?_⟩
      have sM := same_upd (o := HO.lst ((rowsF fs).map (·.2.1))) nM
      refine ⟨p, c, ns, am, .ref M, rfl, N.pn.same sM, by omega, .inl ⟨M, _, rfl, upd_same, by rw [List.length_map, rowsF_len]; exact l1, by rw [List.length_map, rowsF_len]; omega, fun H' y a' sb pn' ha' hy => ?_⟩⟩
      obtain ⟨r, hr, rfl⟩ := List.mem_map.mp hy
      obtain ⟨q, hq, rfl⟩ := List.mem_map.mp hr
      exact z H' q.1 a' ((N.same sM).but sb pn') ha' (List.mem_map_of_mem hq)
    have lvl : ∀ {lv : List Str} {y : V}, y ∈ lv.map V.str → ∃ v, y = .str v ∧ v ∈ lv := fun hy => by
      obtain ⟨v, hv, e⟩ := List.mem_map.mp hy
      exact ⟨v, e.symm, hv⟩
    refine c_nx (c_cut (Pm 2) (fun σ1 Hm hm => ?_) (fun tail1 => ?_))
    · obtain ⟨y6, y7, fs, rs, am, rfl, N, la⟩ := hm
      refine c_cut (Pm 4) (fun σ2 Hm hm => ?_) (fun tail2 => ?_)
      · obtain ⟨y6, y7, fs, rs, am, rfl, N, la⟩ := hm
        refine c_cut (Pm 8) (fun σ3 Hm hm => ?_) (fun tail3 => ?_)
        · obtain ⟨y6, y7, fs, rs, am, rfl, N, la⟩ := hm
          refine c_ret ⟨.ref D2, rfl, .ref R2, rfl, by show 2 ≤ sizeLine; decide, fun X nX => ?_⟩
          have sX := same_upd (o := HO.tup [.ref D2, .ref R2]) nX
          have NX := N.same sX
          exact q _ X D2 R2 fs rs am NX.sb NX.pn (by omega) upd_same (free_but N.sb N.pn.some.1 nX) NX.pr nD2 nR2H
        · refine ⟨.int kd, rfl, kd, 1, rfl, rfl, _, rfl, ite2 (fun k1 => nonW rfl N fun Hn Nn => ?_) (fun _ => iteF (c_next (c_nx (tail3 _ _ ⟨y6, y7, fs, rs, am, rfl, N, by omega⟩))))⟩
          cases ew : words.isEmpty with
          | true => exact iteF (iteF (c_next (c_nx (tail3 _ _ ⟨y6, y7, fs, rs, am, rfl, Nn, by omega⟩))))
          | false =>
            refine iteT (nonE rfl Nn fun Ho No => ?_)
            cases ef : fs.isEmpty with
            | true => exact iteF (c_next (c_nx (tail3 _ _ ⟨y6, y7, fs, rs, am, rfl, No, by omega⟩)))
            | false =>
              refine iteT (c_seq (c_asg (pickF rfl rfl ef No (by omega) fun H5 o a5 N5 h5 ho => c_name (c_nx (c_seq (c_asg (c_lst (c_cons (pickW rfl rfl ew N5 (by omega) fun H6 x a6 N6 h6 hx => ?_)))))))))
              refine ⟨.ref p, rfl, by show 3 ≤ sizeLine; decide, fun M nM => ?_⟩
              have sM := same_upd (o := HO.lst [.str "set", .str "keep", .str "unset"]) nM
              refine ⟨p, c, ns, a6, .ref M, rfl, N6.pn.same sM, by omega, .inl ⟨M, _, rfl, upd_same, by decide, by decide, fun H7 y a7 sb7 pn7 h7 hy => ?_⟩⟩
              obtain ⟨v, rfl, hv⟩ := lvl (lv := endL) hy
              have N7 := (N6.same sM).but sb7 pn7
              refine ⟨by show 2 ≤ sizeLine; decide, fun T1 nT1 => ⟨by show 1 ≤ sizeLine; decide, fun L1 nL1 => c_name (c_nx (c_asg ?_))⟩⟩
              have sT1 := same_upd (o := HO.tup [.str x, .str v]) nT1
              have sL1 := same_upd (o := HO.lst [.ref T1]) nL1
              have N8 := (N7.same sT1).same sL1
              have eT1 := sL1 _ _ (upd_same (H := H7) (a := T1) (o := HO.tup [.str x, .str v]))
              have eL1 : (upd (upd H7 T1 (.tup [.str x, .str v])) L1 (.lst [.ref T1])) L1 = some (.lst [.ref T1]) := upd_same
              generalize upd (upd H7 T1 (.tup [.str x, .str v])) L1 (.lst [.ref T1]) = H8 at N8 eT1 eL1 ⊢
              obtain ⟨z, hz, rfl⟩ := List.mem_map.mp ho
              have eE := N8.pr.rows.at_ z hz
              have kz := N8.pr.rows.keys z hz
              have lz : z.2.2.length ≤ 60 := by
                rw [← kz, List.length_map] at w60
                exact w60
              have lf := N8.pr.few
              refine ⟨.ref D2, rfl, .str z.1, rfl, D2, rowsF fs, .text z.1, (.text z.1, .str z.1, .ref z.2.1), rfl, .inl N8.pr.hD, rowsF_all _ _, kAt.text _ _, by rw [findF_at, self_at N8.pr.fk hz]; rfl, z.2.1, rowsT z.2.2, rfl, .inl eE, fun H9 pL ts k1 n1 n2 n3 e1 pr => ?_⟩
              have s9 : Same H8 H9 := k1
              refine ⟨.ref L1, rfl, pL, L1, _, _, rfl, rfl, e1, s9 _ _ eL1, ?_, fun C nC => ?_⟩
              · have h1 := Paired.length pr
                rw [rowsT_len] at h1
                rw [List.length_map]
                show _ + 1 ≤ sizeLine
                have := small1000 (n := ts.length + 1) (by omega)
                omega
              have sC := same_upd (o := HO.lst (ts.map V.ref ++ [.ref T1])) nC
              have N9 := (N8.same s9).same sC
              refine ⟨C, ts ++ [T1], rowsT z.2.2 ++ [(.text x, .str x, .str v)], rfl, by rw [upd_same, List.map_append]; rfl, paired_append (paired_mono pr fun t q h => sC _ _ h) (.cons (sC _ _ (s9 _ _ eT1)) .nil), fun r hr => ?_, by rw [List.length_append, rowsT_len]; show _ + 1 ≤ 900; omega, fun E nE => ?_⟩
              · rcases List.mem_append.mp hr with m | m
                · exact rowsT_all _ _ r m
                · rw [List.mem_singleton.mp m]
                  exact kAt.text _ _
              have wnd : (z.2.2.map (·.1)).Nodup := by
                rw [kz]
                exact wnd0
              have hxz : x ∈ z.2.2.map (·.1) := by
                rw [kz]
                exact hx
              have em : mergeH [] (rowsT z.2.2 ++ [(.text x, .str x, .str v)]) = rowsT (setT z.2.2 x v) := by
                have y : mergeH [] (rowsT z.2.2 ++ [(.text x, .str x, .str v)]) = putH (mergeH [] (rowsT z.2.2)) (.text x) (.str x) (.str v) := by
                  unfold mergeH
                  rw [List.foldl_append]
                  rfl
                rw [y, merge_id (by rw [rowsT_keys]; exact nd_text wnd), putT hxz]
              rw [em]
              have sE := same_upd (o := mdo w E (rowsT (setT z.2.2 x v))) nE
              have N10 := N9.same sE
              have eEE : (upd (upd H9 C (.lst (ts.map V.ref ++ [.ref T1]))) E (mdo w E (rowsT (setT z.2.2 x v)))) E = some (mdo w E (rowsT (setT z.2.2 x v))) := upd_same
              have nEp : ∀ b u, (upd H9 C (.lst (ts.map V.ref ++ [.ref T1]))) b = some u → b ≠ E := fun b u e y => by
                rw [y, nE] at e
                cases e
              have nED := nEp _ _ N9.pr.hD
              have nER := nEp _ _ N9.pr.hR
              have nEF : ∀ r ∈ fs, r.2.1 ≠ E := fun r hr => nEp _ _ (N9.pr.rows.at_ r hr)
              generalize upd (upd H9 C (.lst (ts.map V.ref ++ [.ref T1]))) E (mdo w E (rowsT (setT z.2.2 x v))) = H10 at N10 eEE ⊢
              refine ⟨.ref D2, rfl, .str z.1, rfl, D2, rowsF fs, .text z.1, rfl, N10.pr.hD, by rw [rowsF_len]; omega, rowsF_all _ _, kAt.text _ _, ?_⟩
              rw [putFn (ls := setT z.2.2 x v) (List.mem_map_of_mem hz)]
              obtain ⟨o1, o2, o3⟩ := N10.off N10.pr.hD nD2 (o := mdo w D2 (rowsF (setF fs z.1 E (setT z.2.2 x v))))
              obtain ⟨m1, m2⟩ := List.nodup_cons.mp N10.pr.nd
              obtain ⟨m3, m4⟩ := List.nodup_cons.mp m2
              refine c_nx (tail3 _ _ ⟨_, _, setF fs z.1 E (setT z.2.2 x v), rs, a7, rfl, ⟨o1, o2, o3, N10.pr.fins (fun r hr => ?_) ?_ (by rw [setF_keys]; exact N10.pr.fk) (fun r hr => ?_) (by unfold setF; rw [List.length_map]; exact lf), nD2, nR2H⟩, by omega⟩)
              · rcases setF_mem hr with m | rfl
                · exact ⟨N10.pr.rows.at_ r m, N10.pr.rows.keys r m, N10.pr.rows.lev r m⟩
                · exact ⟨eEE, by rw [setT_keys]; exact kz, setT_mem (N10.pr.rows.lev z hz) hv⟩
              · refine List.nodup_cons.mpr ⟨fun y => ?_, List.nodup_cons.mpr ⟨fun y => ?_, setF_nodup N10.pr.fk m4 fun y => ?_⟩⟩
                · rcases List.mem_cons.mp y with y | y
                  · exact m1 (y ▸ List.mem_cons_self)
                  · obtain ⟨r, hr, er⟩ := List.mem_map.mp y
                    rcases setF_mem hr with m | rfl
                    · exact m1 (List.mem_cons_of_mem _ (List.mem_map.mpr ⟨r, m, er⟩))
                    · exact nED er.symm
                · obtain ⟨r, hr, er⟩ := List.mem_map.mp y
                  rcases setF_mem hr with m | rfl
                  · exact m3 (List.mem_map.mpr ⟨r, m, er⟩)
                  · exact nER er.symm
                · obtain ⟨r, hr, er⟩ := List.mem_map.mp y
                  exact nEF r hr er
              · rcases setF_mem hr with m | rfl
                · exact N10.pr.fo r m
                · exact N10.pr.fo z hz
      · refine ⟨.int kd, rfl, rfl, _, rfl, ite2 (fun k1 => nonW rfl N fun Hn Nn => ?_) (fun _ => iteF (c_next (c_nx (tail2 _ _ ⟨y6, y7, fs, rs, am, rfl, N, by omega⟩))))⟩
        cases ew : words.isEmpty with
        | true => exact iteF (c_next (c_nx (tail2 _ _ ⟨y6, y7, fs, rs, am, rfl, Nn, by omega⟩)))
        | false =>
          refine iteT (c_asg ?_)
          refine ⟨.ref p, rfl, by show 3 ≤ sizeLine; decide, fun M nM => ?_⟩
          have sM := same_upd (o := HO.lst [.str "none", .str "entry", .str "always"]) nM
          refine ⟨p, c, ns, am, .ref M, rfl, Nn.pn.same sM, by omega, .inl ⟨M, _, rfl, upd_same, by decide, by decide, fun H7 y a7 sb7 pn7 h7 hy => ?_⟩⟩
          obtain ⟨v, rfl, hv⟩ := lvl (lv := readL) hy
          have N7 := (Nn.same sM).but sb7 pn7
          refine ⟨.ref R2, rfl, pickW rfl rfl ew N7 (by omega) fun H8 x a8 N8 h8 hx => ?_⟩
          have l2 : rs.length ≤ 60 := by
            rw [← N8.pr.rk, List.length_map] at w60
            exact w60
          refine ⟨R2, rowsT rs, .text x, rfl, N8.pr.hR, by rw [rowsT_len]; omega, rowsT_all _ _, kAt.text _ _, ?_⟩
          rw [putT (by rw [N8.pr.rk]; exact hx)]
          obtain ⟨o1, o2, o3⟩ := N8.off N8.pr.hR nR2H (o := mdo w R2 (rowsT (setT rs x v)))
          exact c_nx (tail2 _ _ ⟨_, _, fs, setT rs x v, a8, rfl, ⟨o1, o2, o3, N8.pr.reads (by rw [setT_keys]; exact N8.pr.rk) (setT_mem N8.pr.rl hv), nD2, nR2H⟩, by omega⟩)
    · refine ⟨.int kd, rfl, rfl, _, rfl, ite2 (fun k1 => nonE rfl N0 fun Hn Nn => ?_) (fun _ => iteF (c_next (c_nx (tail1 _ _ ⟨none, none, fs, rs, a3, rfl, N0, by omega⟩))))⟩
      cases ef : fs.isEmpty with
      | true => exact iteF (c_next (c_nx (tail1 _ _ ⟨none, none, fs, rs, a3, rfl, Nn, by omega⟩)))
      | false =>
        refine iteT ?_
        refine ⟨.ref D2, rfl, D2, rowsF fs, rfl, Nn.pr.hD, pickF rfl rfl ef Nn (by omega) fun Ho x a4 No h4 hx => ?_⟩
        obtain ⟨z, hz, rfl⟩ := List.mem_map.mp hx
        obtain ⟨j, lj, ej⟩ := List.getElem_of_mem hz
        have gj : fs[j]? = some z := by rw [List.getElem?_eq_getElem lj, ej]
        refine ⟨rowsF fs, j, z.1, .ref z.2.1, rfl, No.pr.hD, rowsF_all _ _, by unfold rowsF; rw [List.getElem?_map, gj]; rfl, ?_⟩
        have er : (rowsF fs).eraseIdx j = rowsF (fs.eraseIdx j) := (PySem.KD.erase_map _ _ _).symm
        rw [er]
        obtain ⟨o1, o2, o3⟩ := No.off No.pr.hD nD2 (o := mdo w D2 (rowsF (fs.eraseIdx j)))
        have sub : ∀ {r : Fin}, r ∈ fs.eraseIdx j → r ∈ fs := fun hr => (List.eraseIdx_sublist _ _).subset hr
        refine c_nx (tail1 _ _ ⟨none, none, fs.eraseIdx j, rs, a4, rfl, ⟨o1, o2, o3, No.pr.fins (fun r hr => ⟨No.pr.rows.at_ r (sub hr), No.pr.rows.keys r (sub hr), No.pr.rows.lev r (sub hr)⟩) ?_ ?_ (fun r hr => No.pr.fo r (sub hr)) (Nat.le_trans (List.length_eraseIdx_le _ _) No.pr.few), nD2, nR2H⟩, by omega⟩)
        · exact List.Sublist.nodup (((List.eraseIdx_sublist fs j).map _).cons₂ _ |>.cons₂ _) No.pr.nd
        · exact List.Sublist.nodup ((List.eraseIdx_sublist fs j).map _) No.pr.fk
end
end KF
end L2
end
/-! ### TL -/
section
namespace L2
namespace KF
open PySem PySem.Spec PyProof.Rows PySem.KD KE KC PySem.KA KM TL KS KH
/-! ## the law of probes -/
theorem opt_rep {w : World} {H : Hp} (o : Option Str) : RepA w H (optV o) (optD o) [] := by
  cases o with
  | none => exact .none
  | some x => exact .str x
theorem pb_rep {w : World} {H : Hp} {t : Addr} {p : Pb} (e : H t = some (pbO p)) : RepA w H (.ref t) (pbD p) [] := .tup e (.cons (f1 := []) (opt_rep _) (.cons (f1 := []) (opt_rep _) (.cons (f1 := []) (opt_rep _) .nil)))
theorem opt_nice {o : Option Str} (h : ∀ x, o = some x → Nice 1 1 20 (.str x)) : Nice 1 1 20 (optD o) := by
  cases o with
  | none => exact nice_none
  | some x => exact h x rfl
/-- a probe of the law is one for these names, and small -/
theorem law_probe {words names : List Str} (WT : ∀ x ∈ words, isWordL (tl x) = true) (nm : ∀ x, x ∈ names ↔ x ∈ words) {p : Pb} (h : p ∈ lawPbs words finL) : PbOk names p ∧ probeD names (pbD p) = true ∧ Nice 5 70 3000 (pbD p) := by
  obtain ⟨ok, fin⟩ := law_ok h
  have so : ∀ o ∈ finL, outD (.str o) = true ∧ Nice 1 1 20 (.str o) := fun o ho => by
    have h1 : ∀ o ∈ finL, outD (.str o) = true ∧ (tl o).all (fun c => decide (c < 16 ^ 8)) = true ∧ (tl o).length ≤ 20 := by decide +kernel
    obtain ⟨a, b, c⟩ := h1 o ho
    exact ⟨a, nice_str b c⟩
  have ss : ∀ s ∈ stL, Nice 1 1 20 (.str s) := fun s hs => by
    have h1 : ∀ s ∈ stL, (tl s).all (fun c => decide (c < 16 ^ 8)) = true ∧ (tl s).length ≤ 20 := by decide +kernel
    obtain ⟨b, c⟩ := h1 s hs
    exact nice_str b c
  have nc : ∀ {a b c : PyData}, Nice 1 1 20 a → Nice 1 1 20 b → Nice 1 1 20 c → Nice 5 70 3000 (.tuple [a, b, c]) := fun {a b c} ha hb hc => (Nice.tuple (D := 1) (N := 1) (W := 20) (k := 3) (fun d hd => by
    simp only [List.mem_cons, List.not_mem_nil, or_false] at hd
    rcases hd with rfl | rfl | rfl
    · exact ha
    · exact hb
    · exact hc) (Nat.le_refl _)).mono (by decide) (by decide) (by decide)
  cases ok with
  | out o =>
    have ho := fin o rfl
    refine ⟨.out o, ?_, nc nice_none (so o ho).2 nice_none⟩
    show (if isNoneD .none then outD (.str o) && isNoneD .none else inD stL .none && inD names .none && (isNoneD (.str o) || outD (.str o))) = true
    rw [if_pos (show isNoneD .none = true from rfl), (so o ho).1]
    rfl
  | st s o x hs hx =>
    refine ⟨.st s o x hs ((nm x).mpr hx), ?_, nc (ss s hs) (opt_nice fun y e => (so y (fin y e)).2) (nice_word (WT x hx))⟩
    show (if isNoneD (.str s) then outD (optD o) && isNoneD (.str x) else inD stL (.str s) && inD names (.str x) && (isNoneD (optD o) || outD (optD o))) = true
    rw [if_neg (show ¬ isNoneD (.str s) = true from Bool.false_ne_true)]
    have h1 : inD stL (.str s) = true := decide_eq_true hs
    have h2 : inD names (.str x) = true := decide_eq_true ((nm x).mpr hx)
    rw [h1, h2]
    cases o with
    | none => rfl
    | some y =>
      have : outD (optD (some y)) = true := (so y (fin y rfl)).1
      rw [this, Bool.or_true]
      rfl
end KF
end L2
end
/-! ### TN -/
section
namespace L2
namespace KF
open PySem PySem.Spec PyProof.Rows PySem.KD KE KC PySem.KA KM TL KS KH
/-! ## the law's body -/
abbrev sJ77 : Stmt := topS 48
abbrev j77 : List Str := ["_law_script", "_law_pen", "_law_finals", "_law_turn", "_law_words", "_law_names", "_law_plain", "_law_second", "_law_one", "_law_other", "_law_told", "_law_probes_here", "_law_value", "_law_third", "_law_probe"]
theorem scJ77 : FnScope j77 ["_law_script"] (defScope sJ77) := ⟨rfl, rfl, rfl, by decide +kernel, rfl, by decide +kernel, by decide +kernel⟩
structure Blt77 (mg : Str → Option Value) : Prop where
  int : mg "int" = none
  len : mg "len" = none
  list : mg "list" = none
  dict : mg "dict" = none
  range : mg "range" = none
  repr : mg "repr" = none
  min : mg "min" = none
abbrev qL : Str := (envOfC "law" (defScope sJ77) 0 0 (.ref 0)).qual ++ "<lambda>"
/-- the table of the law's lambdas -/
abbrev tL (K : PySem.W.Frag) : List (Addr × Str) := [(lawP K, qL)]
theorem mdo_tbl {w : World} {a : Addr} {es : List MRow} (ps : Array Value) : mdo w a es ≠ .tbl ps := fun z => by
  unfold mdo at z
  cases z
mutual
theorem RepA.extN {w : World} {H H' : Hp} (x : LamX.ExtN H H') : ∀ {v : V} {d : PyData} {f : List Addr}, RepA w H v d f → RepA w H' v d f
  | _, _, _, .none => .none
  | _, _, _, .bool b => .bool b
  | _, _, _, .int i => .int i
  | _, _, _, .str y => .str y
  | _, _, _, .lst e r na => .lst (x _ _ e fun _ z => nomatch z) (RepAA.extN x r) na
  | _, _, _, .tup e r => .tup (x _ _ e fun _ z => nomatch z) (RepAA.extN x r)
  | _, _, _, .dct e ka nd rk rv na => .dct (x _ _ e mdo_tbl) (KAll.keep ka fun a xs e => x _ _ e fun _ z => nomatch z) nd (RepAA.extN x rk) (RepAA.extN x rv) na
theorem RepAA.extN {w : World} {H H' : Hp} (x : LamX.ExtN H H') : ∀ {vs : List V} {ds : List PyData} {f : List Addr}, RepAA w H vs ds f → RepAA w H' vs ds f
  | _, _, _, .nil => .nil
  | _, _, _, .cons h t => .cons (RepA.extN x h) (RepAA.extN x t)
end
theorem PP.extN {w : World} {C : Addr} {H H' : Hp} {x dx T D R : Addr} {gs : List Fin} {rs : List (Str × Str)} {names : List Str} (p : PP w C H x dx T D R gs rs names) (s : LamX.ExtN H H') : PP w C H' x dx T D R gs rs names :=
  ⟨⟨s _ _ p.pa.hx fun _ z => (nomatch z), s _ _ p.pa.hT fun _ z => (nomatch z), s _ _ p.pa.hD mdo_tbl, s _ _ p.pa.hR mdo_tbl, fun q hq => ⟨s _ _ (p.pa.row q hq).1 mdo_tbl, (p.pa.row q hq).2⟩, p.pa.fnd, p.pa.rnd, p.pa.len⟩, p.rk, p.nm, p.keys, p.few⟩
theorem Pn.extN {H H' : Hp} {p c : Addr} {ns : List Int} {a : Int} (e : Pn H p c ns a) (s : LamX.ExtN H H') : Pn H' p c ns a := by
  obtain ⟨l, pen, _⟩ := e.at_
  exact e.off ((s _ _ pen.row fun _ z => nomatch z).trans pen.row.symm) ((s _ _ pen.cells fun _ z => nomatch z).trans pen.cells.symm)
theorem repAA_nth {w : World} {H : Hp} : ∀ {vs : List V} {ds : List PyData} {f : List Addr} {j : Nat} {v : V}, RepAA w H vs ds f → vs[j]? = some v → ∃ d g, ds[j]? = some d ∧ RepA w H v d g
  | _, _, _, 0, _, .cons h _, e => by
    cases e
    exact ⟨_, _, rfl, h⟩
  | _, _, _, j + 1, _, .cons _ t, e => by
    obtain ⟨d, g, h1, h2⟩ := repAA_nth (j := j) t e
    exact ⟨d, g, h1, h2⟩
theorem nd_one {α : Type} (x : α) : [x].Nodup := List.nodup_cons.mpr ⟨(fun z => nomatch z), List.nodup_nil⟩
theorem c_ifcut {t : TT} {ta tb : TE} {σ : St} {H : Hp} {Q : VK} (P : V → Hp → Prop) (rest : ∀ v H', P v H' → Q v H') (h : (∀ v H', P v H' → Q v H') → tIf t ta tb σ H Q) : tIf t ta tb σ H Q := h rest
theorem tabs_but {T : List (Addr × Str)} {p : Addr} {H H' : Hp} {rows : List (Key × V)} (t : LamX.Tabs T H) (sb : SameBut p H H') (hp : H p = some (.dK rows)) : LamX.Tabs T H' := fun q hq => by
  obtain ⟨ps, h1, h2, h3⟩ := t q hq
  refine ⟨ps, sb _ _ (fun z => ?_) h1, h2, fun pos cv hc => ?_⟩
  · rw [z, hp] at h1
    cases h1
  · obtain ⟨c, e1, e2⟩ := h3 pos cv hc
    refine ⟨c, e1, sb _ _ (fun z => ?_) e2⟩
    rw [z, hp] at e2
    cases e2
section
variable {P : Program} {w : World} {K : PySem.W.Frag} {mg : Str → Option Value} {base : Heap}
theorem ok_law77 {C CS CV f fSrc fD fP fL fS fWL fDP fNr fRk fLow fCan fLPb fNoP fW fI fPb fPt : Addr} {fd fdSrc fdD fdP fdL fdS fdWL fdDP fdNr fdRk fdLow fdCan fdLPb fdNoP fdW fdI fdPb fdPt : FuncData}
    (F : Fun K "law" "law" sJ77 f fd) (at_ : f = He.ga K "law") (TB : LamX.TabB base mg (lawC K) (lawP K)) (FSrc : Fun K "_law_source" "_law_source" sPen fSrc fdSrc) (gSrc : mg "_law_source" = some (.ref fSrc)) (bSrc : Binds K fdSrc ["_law_script"] [])
    (FD : Fun K "_law_draw" "_law_draw" sDraw fD fdD) (gD : mg "_law_draw" = some (.ref fD)) (bD : Binds K fdD ["_law_pen", "_law_many"] [])
    (FP : Fun K "_law_pick" "_law_pick" sPick fP fdP) (gP : mg "_law_pick" = some (.ref fP)) (bP : Binds K fdP ["_law_pen", "_law_items"] [])
    (FL : Fun K "_law_levels" "_law_levels" sLv fL fdL) (gL : mg "_law_levels" = some (.ref fL)) (bL : Binds K fdL ["_law_pen", "_law_words", "_law_levels_here"] [])
    (FS : Fun K "_law_shuffled" "_law_shuffled" sShuf fS fdS) (gS : mg "_law_shuffled" = some (.ref fS)) (bS : Binds K fdS ["_law_pen", "_law_items"] [])
    (FWL : Fun K "_law_word_list" "_law_word_list" sWL fWL fdWL) (gWL : mg "_law_word_list" = some (.ref fWL)) (bWL : Binds K fdWL ["_law_pen", "_law_many"] [])
    (FDP : Fun K "_law_drawn_profile" "_law_drawn_profile" sDp fDP fdDP) (gDP : mg "_law_drawn_profile" = some (.ref fDP)) (bDP : Binds K fdDP ["_law_pen", "_law_words"] [])
    (FNr : Fun K "_law_near" "_law_near" sNr fNr fdNr) (gNr : mg "_law_near" = some (.ref fNr)) (bNr : Binds K fdNr ["_law_pen", "_law_plain"] [])
    (FRk : Fun K "_law_rank" "_law_rank" sRk fRk fdRk) (gRk : mg "_law_rank" = some (.ref fRk)) (bRk : Binds K fdRk ["_law_level"] [])
    (FLow : Fun K "_law_is_low" "_law_is_low" sLow fLow fdLow) (gLow : mg "_law_is_low" = some (.ref fLow)) (bLow : Binds K fdLow ["_law_one", "_law_other"] [])
    (FCan : Fun K "_law_can" "_law_can" sCan fCan fdCan) (gCan : mg "_law_can" = some (.ref fCan)) (bCan : Binds K fdCan ["_law_plain", "_law_probe"] [])
    (FLPb : Fun K "_law_probes" "_law_probes" sLPb fLPb fdLPb) (gLPb : mg "_law_probes" = some (.ref fLPb)) (bLPb : Binds K fdLPb ["_law_words", "_law_finals"] [])
    (FNoP : Fun K "_law_no_probes" "_law_no_probes" sNoP fNoP fdNoP) (gNoP : mg "_law_no_probes" = some (.ref fNoP)) (bNoP : Binds K fdNoP ["_law_pen", "_law_words"] [])
    (FW : Fun K "_law_wrong" "_law_wrong" sLW fW fdW) (gW : mg "_law_wrong" = some (.ref fW)) (bW : Binds K fdW ["_law_call"] [])
    (MK : Mk K C fI) (gC : mg "Profile" = some (.ref C)) (GI : FnOk P w K mg base (L2.CX P w) 6 fI fdI ["self", "outcomes", "reads"] (spInit w C CV)) (bI : Binds K fdI ["self", "outcomes", "reads"] [])
    (GPb : FnOk P w K mg base (L2.CX P w) 6 fPb fdPb ["profile", "probe"] (spProbed w C CS)) (kPb : PySem.W.keepIn K (.ref fPb) = true) (gPb : mg "probed" = some (.ref fPb)) (bPb : Binds K fdPb ["profile", "probe"] [])
    (GPt : FnOk P w K mg base (L2.CX P w) 6 fPt fdPt ["one", "other"] (spPt w C CV)) (kPt : PySem.W.keepIn K (.ref fPt) = true) (gPt : mg "parting" = some (.ref fPt)) (bPt : Binds K fdPt ["one", "other"] [])
    (ES : CatchV K mg "InvalidStates" CS) (EV : CatchV K mg "InvalidProfile" CV) (xSS : PySem.W.exmOne K (.ref CS) (.ref CS) = some true) (xVS : PySem.W.exmOne K (.ref CV) (.ref CS) = some false) (xVV : PySem.W.exmOne K (.ref CV) (.ref CV) = some true)
    (BW2 : BltW2 mg) (B : Blt77 mg) : FnOkG P w K mg base CX0 12 f fd ["_law_script"] (spLawT K (lawP K)) := by
  have BD : BltD mg := ⟨B.int, B.len, B.list⟩
  have BL : BltL mg := ⟨B.dict, B.list⟩
  have BWd : BltW mg := ⟨B.int, B.len, B.range⟩
  have GSrc : FnOk P w K mg base CX0 1 fSrc fdSrc ["_law_script"] (spPen K) := ok_pen FSrc BD
  have GD : FnOk P w K mg base CX0 1 fD fdD ["_law_pen", "_law_many"] spDraw := ok_draw FD BD
  have GWL : FnOk P w K mg base CX0 3 fWL fdWL ["_law_pen", "_law_many"] spWL := ok_wl FWL FD gD bD FP gP bP BD BWd
  have GL : FnOk P w K mg base CX0 3 fL fdL ["_law_pen", "_law_words", "_law_levels_here"] (spLv K w) := ok_lv FL FD gD bD FP gP bP BD BL
  have GDP : FnOk P w K mg base CX0 4 fDP fdDP ["_law_pen", "_law_words"] (spDP K w) := ok_dp FDP FD gD bD FP gP bP FL gL bL FS gS bS BD BL
  have GNr : FnOk P w K mg base CX0 4 fNr fdNr ["_law_pen", "_law_plain"] (spNear w) := ok_near FNr FD gD bD FP gP bP BD BL
  have GLow : FnOk P w K mg base CX0 3 fLow fdLow ["_law_one", "_law_other"] (spLow w) := ok_low FLow FRk gRk bRk
  have GCan : FnOk P w K mg base CX0 2 fCan fdCan ["_law_plain", "_law_probe"] (spCan w) := ok_can FCan FRk gRk bRk B.int
  have GLPb : FnOk P w K mg base CX0 1 fLPb fdLPb ["_law_words", "_law_finals"] spLPb := ok_lPb FLPb
  have GNoP : FnOk P w K mg base CX0 3 fNoP fdNoP ["_law_pen", "_law_words"] (spNoP w) := ok_noP FNoP FD gD bD FP gP bP BD B.range
  obtain ⟨oc, od, kV, doc, pm, an, cdvW, ct, oslW, rfl, lkW, cdW⟩ := FW.ex
  refine F.okGT at_ scJ77 (fun vs H Q E h => ?_) (fun A outer s H vs Q E quiet hr h => ?_)
  · obtain ⟨a, ns, rfl, _⟩ := h
    rfl
  · obtain ⟨a, ns, rfl, hS, hl, eT0, q⟩ := h
    have hr1 := hr.mono (show 1 ≤ 11 by decide)
    have hr2 := hr.mono (show 2 ≤ 11 by decide)
    have hr3 := hr.mono (show 3 ≤ 11 by decide)
    have hr4 := hr.mono (show 4 ≤ 11 by decide)
    have hr6 := hr.mono (show 6 ≤ 11 by decide)
    have hr7 := hr.mono (show 7 ≤ 11 by decide)
    have hr9 := hr.mono (show 9 ≤ 11 by decide)
    have hc : (cxOf CX0 P w K mg base j77 "law" (defScope sJ77) f (.ref (lawC K)) A outer s H E).nox.calm = true := rfl
    have hgX : (cxOf CX0 P w K mg base j77 "law" (defScope sJ77) f (.ref (lawC K)) A outer s H E).nox.A.guards = some [] := quiet
    have hu1 : (cxOf CX0 P w K mg base j77 "law" (defScope sJ77) f (.ref (lawC K)) A outer s H E).nox.A.units < cLine := by
      have := hr.un
      show (A.deeper _).units < cLine
      omega
    have hu40 : (cxOf CX0 P w K mg base j77 "law" (defScope sJ77) f (.ref (lawC K)) A outer s H E).nox.A.units + 40 < cLine := by
      have := hr.un
      show (A.deeper _).units + 40 < cLine
      omega
    have hu64 : (cxOf CX0 P w K mg base j77 "law" (defScope sJ77) f (.ref (lawC K)) A outer s H E).nox.A.units + 64 < cLine := by
      have := hr.un
      show (A.deeper _).units + 64 < cLine
      omega
    have gives : LamX.GivesTo (cxOf CX0 P w K mg base j77 "law" (defScope sJ77) f (.ref (lawC K)) A outer s H E).nox lwN "_law_wrong" (defScope sLW) fW cdvW (defBody sLW) "_law_call" ((cxOf CX0 P w K mg base j77 "law" (defScope sJ77) f (.ref (lawC K)) A outer s H E).nox.env.qual ++ "<lambda>") (TTW w K CS CV) :=
      lw_gives (X := (cxOf CX0 P w K mg base j77 "law" (defScope sJ77) f (.ref (lawC K)) A outer s H E).nox) (k := 8) hgX hr9 ES EV BW2
    refine ⟨_, (pss_cons (ps_set (i := 1) scJ77.nd rfl (.inl rfl) (pe_call GSrc hr1 (by rfl) gSrc FSrc.kp bSrc .nil pass0 (pa_cons (pv 0) pa_nil)))
      (pss_cons (ps_set (i := 2) scJ77.nd rfl (.inl rfl) (pe_lst (pa_cons pe_str (pa_cons pe_str (pa_cons pe_str (pa_cons pe_str (pa_cons pe_str pa_nil)))))))
      (pss_cons (ps_for PassesOwn.never rfl (pi_range1 (by rfl) B.range (pa_cons (pe_op op_add pe_int (pe_callB (call_min2 hc) (by rfl) B.min (by decide +kernel) (pa_cons pe_int (pa_cons (pe_callB call_len_seq (by rfl) B.len PySem.boot_len (pa_cons (pv 0) pa_nil)) pa_nil)))) pa_nil)) (pg_name (i := 3) scJ77.nd rfl (.inl rfl))
        (pss_cons (ps_set (i := 4) scJ77.nd rfl (.inl rfl) (pe_call GWL hr3 (by rfl) gWL FWL.kp bWL .nil pass0 (pa_cons (pv 1) (pa_cons pe_int pa_nil))))
        (pss_cons (ps_set (i := 5) scJ77.nd rfl (.inl rfl) (pe_slice sl_list (pv 4) po_none (po_some (pe_call GD hr1 (by rfl) gD FD.kp bD .nil pass0 (pa_cons (pv 1) (pa_cons pe_int pa_nil))))))
        (pss_cons (ps_set (i := 6) scJ77.nd rfl (.inr rfl) (pe_call GDP hr4 (by rfl) gDP FDP.kp bDP .nil pass0 (pa_cons (pv 1) (pa_cons (pv 5) pa_nil))))
        (pss_cons (ps_set (i := 7) scJ77.nd rfl (.inl rfl) (pe_ifExp (pt_cmpR op_gt (pe_call GD hr1 (by rfl) gD FD.kp bD .nil pass0 (pa_cons (pv 1) (pa_cons pe_int pa_nil))) pe_int (nomark _)) (pe_call GNr hr4 (by rfl) gNr FNr.kp bNr .nil pass0 (pa_cons (pv 1) (pa_cons (pv 6) pa_nil))) (pe_call GDP hr4 (by rfl) gDP FDP.kp bDP .nil pass0 (pa_cons (pv 1) (pa_cons (pv 5) pa_nil)))))
        (pss_cons (ps_asg (pe_tup (pa_cons (pe_make MK GI hr7 (by rfl) gC bI .nil passL (pa_cons (pe_ix ix_seq (pv 6) pe_int (fun _ _ => rfl)) (pa_cons (pe_ix ix_seq (pv 6) pe_int (fun _ _ => rfl)) pa_nil))) (pa_cons (pe_make MK GI hr7 (by rfl) gC bI .nil passL (pa_cons (pe_ix ix_seq (pv 7) pe_int (fun _ _ => rfl)) (pa_cons (pe_ix ix_seq (pv 7) pe_int (fun _ _ => rfl)) pa_nil))) pa_nil)))
            (pg_tup rfl (pgs_cons (pg_name (i := 8) scJ77.nd rfl (.inr rfl)) (pgs_cons (pg_name (i := 9) scJ77.nd rfl (.inl rfl)) pgs_nil))))
        (pss_cons (ps_par (i := 10) (j := 11) hc scJ77.nd rfl rfl (by decide) rfl rfl (pa_cons (pe_call GPt hr6 (by rfl) gPt kPt bPt .nil passL (pa_cons (pv 8) (pa_cons (pv 9) pa_nil))) (pa_cons (pe_call GLPb hr1 (by rfl) gLPb FLPb.kp bLPb .nil pass0 (pa_cons (pv 5) (pa_cons (pv 2) pa_nil))) pa_nil)) (by rfl))
        (pss_cons (ps_if (pt_cmpR op_ne (pe_cmpR op_isN (pv 10) pe_non (nomark _)) (pe_call GLow hr3 (by rfl) gLow FLow.kp bLow .nil pass0 (pa_cons (pv 6) (pa_cons (pv 7) pa_nil))) (nomark _)) (pss_one (ps_ret pe_bl)) pss_nil)
        (pss_cons (ps_if (PW.pt (pw_and (pt_cmpR op_notN (pv 10) pe_non (nomark _)) (pw_and1 (pt_cmpR (r := rIn K true) op_notIn_seq (pe_callB (callReprD hgX hu40) (by rfl) B.repr boot_repr (pa_cons (pv 10) pa_nil)) (pe_lc (own := [("_law_probe", 14)]) (g := gName 14) (tt := tYes) rfl scJ77.nd (pi_list (pv 11))
            (blkOk_by (N := j77) (sc := defScope sJ77) (by decide +kernel)) (fun _ _ _ _ _ => pg_name (i := 14) scJ77.nd rfl (Or.inl rfl)) (fun _ _ _ _ _ => pts_nil)
            (fun _ _ _ _ _ => pe_callB (r := rReprD w) (callReprD (by exact hgX) (by exact hu40)) (by rfl) B.repr boot_repr (pa_cons (pv 14) pa_nil))) (by rfl))))) (pss_one (ps_ret pe_bl)) pss_nil)
        (pss_cons (ps_if (PW.pt (pw_and (pt_cmpR op_notN (pv 10) pe_non (nomark _)) (pw_and1 (PW.pt (pw_or (pt_not (pt_val (pe_call GCan hr2 (by rfl) gCan FCan.kp bCan .nil pass0 (pa_cons (pv 6) (pa_cons (pv 10) pa_nil))))) (pw_or1 (pt_val (pe_call GCan hr2 (by rfl) gCan FCan.kp bCan .nil pass0 (pa_cons (pv 7) (pa_cons (pv 10) pa_nil)))))))))) (pss_one (ps_ret pe_bl)) pss_nil)
        (pss_cons (ps_if (pt_cmpR (op_neD hu64) (pe_lc (own := [("_law_probe", 14)]) (g := gName 14) rfl scJ77.nd (pi_list (pv 11))
            (blkOk_by (N := j77) (sc := defScope sJ77) (by decide +kernel)) (fun _ _ _ _ _ => pg_name (i := 14) scJ77.nd rfl (Or.inl rfl))
            (fun _ _ _ _ _ => pts_one (pt_cmpR op_ne (pe_callB (r := rReprD w) (callReprD (by exact hgX) (by exact hu40)) (by rfl) B.repr boot_repr (pa_cons (pe_call GPb hr6 (by rfl) gPb kPb bPb .nil passL (pa_cons (pv 8) (pa_cons (pv 14) pa_nil))) pa_nil)) (pe_callB (r := rReprD w) (callReprD (by exact hgX) (by exact hu40)) (by rfl) B.repr boot_repr (pa_cons (pe_call GCan hr2 (by rfl) gCan FCan.kp bCan .nil pass0 (pa_cons (pv 6) (pa_cons (pv 14) pa_nil))) pa_nil)) (nomark _)))
            (fun _ _ _ _ _ => pv 14)) (pe_lst pa_nil) (nomark _)) (pss_one (ps_ret pe_bl)) pss_nil)
        (pss_cons (ps_for PassesOwn.never rfl (pi_list (pe_call GNoP hr3 (by rfl) gNoP FNoP.kp bNoP .nil pass0 (pa_cons (pv 1) (pa_cons (pv 5) pa_nil)))) (pg_name (i := 12) scJ77.nd rfl (.inr rfl))
          (pss_one (ps_if (pt_cmpR (op_neSame hu1) (LamX.pe_lamcall (T := [(lawP K, (cxOf CX0 P w K mg base j77 "law" (defScope sJ77) f (.ref (lawC K)) A outer s H E).nox.env.qual ++ "<lambda>")]) (k := 7) (by rfl) gW FW.kp lkW cdW bW scLW rfl (.inl rfl) gives TB rfl List.mem_cons_self (fun p hp _ => by rw [List.mem_singleton.mp hp]) hr9 (LamX.lamS_by (show LamX.lamSB (defScope sJ77) _ = true by decide +kernel)) rfl (fun _ _ _ _ _ => rfl)
              (fun A' outer' s' H' E' f' c' hr' => pe_call GPb (hr'.mono (by decide)) (by rfl) gPb kPb bPb .nil (passes_call (takes_of rfl rfl rfl rfl) fun _ _ _ _ h => h) (pa_cons (pv 8) (pa_cons (pv 12) pa_nil))))
            (pe_tup (pa_cons pe_str (pa_cons (pe_callB (callReprD hgX hu40) (by rfl) B.repr boot_repr (pa_cons (pv 12) pa_nil)) (pa_cons pe_bl pa_nil)))) (nomark _)) (pss_one (ps_ret pe_bl)) pss_nil)))
        (pss_cons (ps_set (i := 13) scJ77.nd rfl (.inr rfl) (pe_make MK GI hr7 (by rfl) gC bI .nil passL (pa_cons (pe_mdoR pe_dnewK) (pa_cons (pe_call GL hr3 (by rfl) gL FL.kp bL .nil pass0 (pa_cons (pv 1) (pa_cons (pe_slice sl_list (pv 4) (po_some pe_int) po_none) (pa_cons (pe_lst (pa_cons pe_str (pa_cons pe_str pa_nil))) pa_nil)))) pa_nil))))
        (pss_one (ps_if (pt_cmpR (op_neSame hu1) (LamX.pe_lamcall (T := [(lawP K, (cxOf CX0 P w K mg base j77 "law" (defScope sJ77) f (.ref (lawC K)) A outer s H E).nox.env.qual ++ "<lambda>")]) (k := 7) (by rfl) gW FW.kp lkW cdW bW scLW rfl (.inl rfl) gives TB rfl List.mem_cons_self (fun p hp _ => by rw [List.mem_singleton.mp hp]) hr9 (LamX.lamS_by (show LamX.lamSB (defScope sJ77) _ = true by decide +kernel)) rfl (fun _ _ _ _ _ => rfl)
              (fun A' outer' s' H' E' f' c' hr' => pe_call GPt (hr'.mono (by decide)) (by rfl) gPt kPt bPt .nil (passes_call (takes_of rfl rfl rfl rfl) fun _ _ _ _ h => h) (pa_cons (pv 8) (pa_cons (pv 13) pa_nil))))
            (pe_tup (pa_cons pe_str (pa_cons (pv 13) (pa_cons pe_bl pa_nil)))) (nomark _)) (pss_one (ps_ret pe_bl)) pss_nil)))))))))))))))
      (pss_one (ps_ret pe_bl))))), ?_⟩
    have hw : (cxOf CX0 P w K mg base j77 "law" (defScope sJ77) f (.ref (lawC K)) A outer s H E).nox.w = w := rfl
    -- the pen, the finals
    refine ⟨.ref a, rfl, a, ns, rfl, hS, hl, fun H1 p c ns' s1 np nc hns' pen1 => ⟨by show 5 ≤ sizeLine; decide, fun Fl nFl => ?_⟩⟩
    have sF := same_upd (o := HO.lst [V.str "done", V.str "fail a", V.str "fail b", V.str "fail done", V.str "fail zzzzzzzz"]) nFl
    have eFl : (upd H1 Fl (.lst [V.str "done", V.str "fail a", V.str "fail b", V.str "fail done", V.str "fail zzzzzzzz"])) Fl = some (.lst (finL.map V.str)) := upd_same
    have pen2 := pen1.same sF
    have eT1 := sF _ _ (s1 _ _ eT0)
    have hS2 := (s1.trans sF).seq hS
    revert sF eFl pen2 eT1 hS2
    generalize upd H1 Fl (.lst [V.str "done", V.str "fail a", V.str "fail b", V.str "fail done", V.str "fail zzzzzzzz"]) = H2
    intro sF eFl pen2 eT1 hS2
    refine ⟨.ref a, rfl, a, _, rfl, .inl hS2, _, _, rfl, 6, _, rfl, rfl, _, rfl, ?_, ?_, ?_⟩
    · split <;> omega
    · split <;> omega
    refine for_range (lo := 0) (fun i σ Hi => ∃ y3 y4 y5 y6 y7 y8 y9 y10 y11 y12 y13 y14, σ = [some (.ref a), some (.ref p), some (.ref Fl), y3, y4, y5, y6, y7, y8, y9, y10, y11, y12, y13, y14] ∧ (∃ a0, Pn Hi p c ns' a0 ∧ a0 ≤ 100 * i) ∧ Hi Fl = some (.lst (finL.map V.str)) ∧ LamX.Tabs (tL K) Hi)
      ⟨none, none, none, none, none, none, none, none, none, none, none, none, rfl, ⟨0, ⟨⟨0, pen2, Int.le_refl _⟩, hns', Int.le_refl _⟩, by omega⟩, eFl, fun q hq => by rw [List.mem_singleton.mp hq]; exact LamX.TabS.nil eT1⟩ (fun i σ Hi hi hp => ?_) (fun σ Hi hp => ?_)
    · obtain ⟨y3, y4, y5, y6, y7, y8, y9, y10, y11, y12, y13, y14, rfl, ⟨a0, pn0, ha0⟩, eF0, tb0⟩ := hp
      have hi8 : i < 13 := by
        have z : i < (6 + (if ((ns.map V.int).length : Int) < 6 then ((ns.map V.int).length : Int) else 6)).toNat := hi
        revert z
        split <;> omega
      have lo0 := pn0.lo
      obtain ⟨l0, pen0, hl0⟩ := pn0.at_
      have nFp := pn0.ne eF0
      -- words
      refine c_name (c_seq (c_asg ?_))
      refine ⟨.ref p, rfl, p, c, ns', a0, 4, rfl, pn0, by omega, by decide, fun H3 b ws a2 sb2 pn2 ha2 nb eb WO lw => ?_⟩
      have l4 : ws.length = 4 := lw.2 (by decide)
      obtain ⟨l2, pen3, hl2⟩ := pn2.at_
      have lo2 := pn2.lo
      have eF3 := sb2 Fl _ nFp eF0
      have tb3 := tabs_but tb0 sb2 pen0.row
      -- names
      refine c_name (c_nx (c_seq (c_asg ⟨.ref b, rfl, .ref p, rfl, p, c, ns', a2, l2, 4, rfl, pen3, hns', lo2, by omega, hl2, by decide, by decide, fun H4 d a3 l3 sb3 pen4 g1 g2 g3 d0 d4 => ?_⟩)))
      obtain ⟨n, rfl⟩ := Int.eq_ofNat_of_zero_le d0
      have pn4 : Pn H4 p c ns' a3 := ⟨⟨l3, pen4, g3⟩, hns', by omega⟩
      have eb4 := sb3 b _ (pn2.ne eb) eb
      have eF4 := sb3 Fl _ nFp eF3
      have tb4 := tabs_but tb3 sb3 pen3.row
      refine ⟨_, rfl, b, _, rfl, .inl (.inl eb4), fun N nN => ?_⟩
      have ec : cutV (List.map V.str ws) none (some ((n : Nat) : Int)) = (ws.take n).map V.str := by rw [cut_take, List.map_take]
      rw [ec]
      have WT : WordsOk (ws.take n) := ⟨nd_take WO.nd n, fun x hx => WO.ok x (List.mem_of_mem_take hx)⟩
      have n3 : n ≤ 3 := by omega
      have lT : (ws.take n).length ≤ 3 := by
        rw [List.length_take]
        omega
      have last : ∃ y, ws.drop 3 = [y] ∧ y ∉ ws.take n := by
        match ws, l4, WO.nd with
        | [w0, w1, w2, w3], _, nd =>
          refine ⟨w3, rfl, fun z => ?_⟩
          have m3 : w3 ∈ [w0, w1, w2] := by
            have : [w0, w1, w2, w3].take n = [w0, w1, w2].take n := by
              have e : [w0, w1, w2, w3] = [w0, w1, w2] ++ [w3] := rfl
              rw [e, List.take_append_of_le_length (by simpa using n3)]
            rw [this] at z
            exact List.mem_of_mem_take z
          simp only [List.nodup_cons, List.mem_cons, List.not_mem_nil, or_false] at nd m3
          rcases m3 with rfl | rfl | rfl
          · exact nd.1 (.inr (.inr rfl))
          · exact nd.2.1 (.inr rfl)
          · exact nd.2.2.1 rfl
      obtain ⟨w3, eD3, nw3⟩ := last
      generalize hwords : ws.take n = words at WT lT nw3 ⊢
      have sN := same_upd (o := HO.lst (words.map V.str)) nN
      have eN : (upd H4 N (.lst (words.map V.str))) N = some (.lst (words.map V.str)) := upd_same
      have pn5 := pn4.same sN
      have eb5 := sN _ _ eb4
      have eF5 := sN _ _ eF4
      have tb5 := tb4.ext sN
      generalize upd H4 N (.lst (words.map V.str)) = H5 at eN pn5 eb5 eF5 tb5 ⊢
      have wok : ∀ x ∈ words, PyData.strOk x = true := fun x hx => strOk_word (WT.ok x hx).1
      have nNp := pn5.ne eN
      have nbp := pn5.ne eb5
      obtain ⟨l5, pen5, hl5⟩ := pn5.at_
      -- plain
      refine c_name (c_nx (c_seq (c_asg ⟨.ref p, rfl, .ref N, rfl, p, c, N, ns', a3, words, rfl, pn5, by omega, eN, WT.nd, by omega, fun H6 T D R fs rs a5 sb5 pn6 ha5 eT nT PA fr => ?_⟩)))
      obtain ⟨l6, pen6, hl6⟩ := pn6.at_
      have lo6 := pn6.lo
      have eN6 := sb5 N _ nNp eN
      have eb6 := sb5 b _ nbp eb5
      have eF6 := sb5 Fl _ nFp eF5
      have tb6 := tabs_but tb5 sb5 pen5.row
      have tupp : ∀ {Hx : Hp} {z lx ax : Int} {t : Addr} {xs : List V}, PenAt Hx p c ns' ax lx → Hx t = some (.tup xs) → t ≠ p := fun {Hx z lx ax t xs} pe e y => by
        have := pe.row
        rw [← y, e] at this
        cases this
      have nTp : T ≠ p := tupp (z := 0) pen6 eT
      -- second
      refine c_name (c_nx (c_seq (c_asg (c_ifcut (fun v H8 => ∃ T2 D2 R2 fs2 rs2 a8, v = .ref T2 ∧ SameBut p H6 H8 ∧ Pn H8 p c ns' a8 ∧ a8 ≤ a5 + 20 ∧ H8 T2 = some (.tup [.ref D2, .ref R2]) ∧ ProfAt w H8 D2 R2 words fs2 rs2) (fun v H8 Z => ?_) (fun rest => ?_)))))
      · obtain ⟨T2, D2, R2, fs2, rs2, a8, rfl, sb8, pn8, ha8, eT2, PB⟩ := Z
        have lo8 := pn8.lo
        obtain ⟨l8, pen8, hl8⟩ := pn8.at_
        have eN8 := sb8 N _ nNp eN6
        have eb8 := sb8 b _ nbp eb6
        have eF8 := sb8 Fl _ nFp eF6
        have tb8 := tabs_but tb6 sb8 pen6.row
        have eT8 := sb8 T _ nTp eT
        have PA8 := PA.but sb8 pen6.row
        clear eT PA
        refine c_name (c_nx (c_seq (c_asg ?_)))
        -- the two profiles
        refine ⟨.ref T, rfl, .inr (.inl ⟨T, _, _, .ref D, rfl, rfl, .inl (.inl eT8), atN (i := 0) rfl, .ref T, rfl, .inr (.inl ⟨T, _, _, .ref R, rfl, rfl, .inl (.inl eT8), atN (i := 1) rfl, fun x dx nx ndx ne => ?_⟩)⟩)⟩
        refine init_ok PA8 WT lT nx ndx ne fun H9 dx1 U1 E1 V1 gs s9 PX eg => ⟨rfl, ?_⟩
        have eT29 := s9 _ _ eT2
        refine ⟨.ref T2, rfl, .inr (.inl ⟨T2, _, _, .ref D2, rfl, rfl, .inl (.inl eT29), atN (i := 0) rfl, .ref T2, rfl, .inr (.inl ⟨T2, _, _, .ref R2, rfl, rfl, .inl (.inl eT29), atN (i := 1) rfl, fun x2 dx2 nx2 ndx2 ne2 => ?_⟩)⟩)⟩
        refine init_ok (PB.same s9) WT lT nx2 ndx2 ne2 fun HA dx3 U2 E2 V2 gs2 sA PY eg2 => ⟨rfl, ⟨by show 2 ≤ sizeLine; decide, fun U nU => ?_⟩⟩
        have sU := same_upd (o := HO.tup [.ref x, .ref x2]) nU
        refine ⟨U, _, rfl, .inl (.inl upd_same), rfl, _, _, rfl, _, _, rfl, rfl, ?_⟩
        have s8B := (s9.trans sA).trans sU
        have PXB := (PX.same sA).same sU
        have PYB := PY.same sU
        have PAB := PA8.same s8B
        have PBB := PB.same s8B
        have eTB := s8B _ _ eT8
        have eT2B := s8B _ _ eT2
        have eNB := s8B _ _ eN8
        have ebB := s8B _ _ eb8
        have eFB := s8B _ _ eF8
        have tbB := tb8.ext s8B
        have pnB := pn8.same s8B
        generalize upd HA U (.tup [.ref x, .ref x2]) = HB at PXB PYB PAB PBB eTB eT2B eNB ebB eFB tbB pnB ⊢
        have nm : ∀ y, y ∈ srt words ↔ y ∈ words := fun y => srt_mem
        have wokS : ∀ y ∈ srt words, PyData.strOk y = true := fun y hy => wok y ((nm y).mp hy)
        have C1 := cs_ok PAB WT.nd
        have C2 := cs_ok PBB WT.nd
        have om : ∀ o, o ∈ gs.map (·.1) ↔ o ∈ fs.map (·.1) := fun o => by
          have e : gs.map (·.1) = (canC (prF fs)).map (·.1) := by rw [← eg, prF_keys]
          rw [e, can_keys, prF_keys]
        have FL := find_low (names := srt words) (outs := gs.map (·.1)) C1 C2 nm om
        -- parting, the probes
        refine c_nx (c_seq ?_)
        refine ⟨.ref x, rfl, .ref x2, rfl, x, dx1, U1, E1, V1, gs, ordT rs, srt words, x2, dx3, U2, E2, V2, gs2, ordT rs2, srt words, rfl, PXB, PYB, wokS, wokS, .inr ⟨rfl, fun HC v sC hv => ?_⟩⟩
        rw [eg, eg2] at hv
        refine ⟨.ref N, rfl, .ref Fl, rfl, N, Fl, words, finL, rfl, sC _ _ eNB, sC _ _ eFB, by omega, by decide, fun HD LP sD nLP PL => ⟨_, _, rfl, ?_⟩⟩
        have sBD := sC.trans sD
        have PXD := PXB.same sBD
        have PAD := PAB.same sBD
        have PBD := PBB.same sBD
        have eTD := sBD _ _ eTB
        have eT2D := sBD _ _ eT2B
        have eND := sBD _ _ eNB
        have ebD := sBD _ _ ebB
        have eFD := sBD _ _ eFB
        have tbD := tbB.ext sBD
        have pnD := pnB.same sBD
        obtain ⟨ts, eLP, pLP⟩ := PL.ex
        have lenP : ts.length = (lawPbs words finL).length := Paired.length pLP
        have lenP2 : (lawPbs words finL).length ≤ 60 := by
          unfold lawPbs
          have := flat_len (f := lpW (finL.map some ++ [none])) (n := 12) (l := words) fun y _ => Nat.le_trans (flat_len (n := 6) fun s _ => by unfold lpN_; rw [List.length_map]; decide) (by decide)
          rw [List.length_append, List.length_map]
          have l5 : finL.length = 5 := rfl
          omega
        -- what was told
        have told : (v = .non ∧ lowB fs rs fs2 rs2 = true) ∨ ∃ t pb, v = .ref t ∧ HD t = some (pbO pb) ∧ lowB fs rs fs2 rs2 = false ∧ pb ∈ lawPbs words finL ∧ toldC (prF fs) rs pb = true ∧ toldC (prF fs2) rs2 pb = false := by
          cases hf : (pbsOf (srt words) (gs.map (·.1))).find? (parts (canC (prF fs)) (ordT rs) (canC (prF fs2)) (ordT rs2)) with
          | none =>
            rw [hf] at hv FL
            exact .inl ⟨hv, FL⟩
          | some pb =>
            rw [hf] at hv FL
            obtain ⟨t, rfl, et⟩ := hv
            obtain ⟨h1, h2, h3, h4⟩ := FL
            refine .inr ⟨t, pb, rfl, sD _ _ et, h1, in_law nm (fun o ho => ?_) h2, h3, h4⟩
            obtain ⟨q, hq, rfl⟩ := List.mem_map.mp ((om o).mp ho)
            have := PAD.fo q hq
            have sub : ∀ o ∈ outL, o ∈ finL := by decide
            exact sub _ this
        clear hv FL sC sD nLP
        refine c_nx (c_seq ?_)
        refine ⟨v, rfl, rfl, .ref T, rfl, .ref T2, rfl, T, T2, D, R, D2, R2, words, fs, fs2, rs, rs2, rfl, eTD, eT2D, PAD, PBD, by omega, wok, fun HE sE => ⟨rfl, _, rfl, ?_⟩⟩
        have lowV : decide (v = V.non) = lowB fs rs fs2 rs2 := by
          rcases told with ⟨rfl, e⟩ | ⟨t, pb, rfl, _, e, _⟩
          · rw [e]
            rfl
          · rw [e]
            rfl
        rw [lowV, decide_eq_true rfl]
        refine iteF (c_next (c_nx ?_))
        have PXE := PXD.same sE
        have PAE := PAD.same sE
        have PBE := PBD.same sE
        have eTE := sE _ _ eTD
        have eT2E := sE _ _ eT2D
        have eNE := sE _ _ eND
        have ebE := sE _ _ ebD
        have eFE := sE _ _ eFD
        have tbE := tbD.ext sE
        have pnE := pnD.same sE
        have eLPE := sE _ _ eLP
        have pLPE : Paired (fun (t : Addr) (p : Pb) => HE t = some (pbO p)) ts (lawPbs words finL) := paired_mono pLP fun t q h => sE _ _ h
        have wordL : ∀ y ∈ words, isWordL (tl y) = true := fun y hy => (WT.ok y hy).1
        have lawOk : ∀ pb ∈ lawPbs words finL, PbOk (srt words) pb ∧ probeD (srt words) (pbD pb) = true ∧ Nice 5 70 3000 (pbD pb) := fun pb h => law_probe wordL nm h
        have told2 : (v = .non ∧ lowB fs rs fs2 rs2 = true) ∨ ∃ t pb, v = .ref t ∧ HE t = some (pbO pb) ∧ pb ∈ lawPbs words finL ∧ toldC (prF fs) rs pb = true ∧ toldC (prF fs2) rs2 pb = false := by
          rcases told with h | ⟨t, pb, h1, h2, _, h3, h4, h5⟩
          · exact .inl h
          · exact .inr ⟨t, pb, h1, sE _ _ h2, h3, h4, h5⟩
        clear told sE sBD
        -- it is one of them
        refine c_cut (fun σ H' => σ = [some (.ref a), some (.ref p), some (.ref Fl), some (.int (0 + ((i : Nat) : Int))), some (.ref b), some (.ref N), some (.ref T), some (.ref T2), some (.ref x), some (.ref x2), some v, some (.ref LP), y12, y13, y14] ∧ Same HE H') (fun σ HG Z => ?_) (fun tail => ?_)
        · obtain ⟨rfl, sG⟩ := Z
          have PXG := PXE.same sG
          have PAG := PAE.same sG
          have PBG := PBE.same sG
          have eTG := sG _ _ eTE
          have eT2G := sG _ _ eT2E
          have eNG := sG _ _ eNE
          have ebG := sG _ _ ebE
          have eFG := sG _ _ eFE
          have tbG := tbE.ext sG
          have pnG := pnE.same sG
          have eLPG := sG _ _ eLPE
          have pLPG : Paired (fun (t : Addr) (p : Pb) => HG t = some (pbO p)) ts (lawPbs words finL) := paired_mono pLPE fun t q h => sG _ _ h
          have told3 : v = .non ∨ ∃ t pb, v = .ref t ∧ HG t = some (pbO pb) ∧ pb ∈ lawPbs words finL ∧ toldC (prF fs) rs pb = true ∧ toldC (prF fs2) rs2 pb = false := by
            rcases told2 with h | ⟨t, pb, h1, h2, h3⟩
            · exact .inl h.1
            · exact .inr ⟨t, pb, h1, sG _ _ h2, h3⟩
          clear told2 sG
          -- the one can it, the other cannot
          refine c_cut (fun σ H' => σ = [some (.ref a), some (.ref p), some (.ref Fl), some (.int (0 + ((i : Nat) : Int))), some (.ref b), some (.ref N), some (.ref T), some (.ref T2), some (.ref x), some (.ref x2), some v, some (.ref LP), y12, y13, y14] ∧ Same HG H') (fun σ HI Z => ?_) (fun tail => ?_)
          · obtain ⟨rfl, sI⟩ := Z
            have PXI := PXG.same sI
            have PAI := PAG.same sI
            have eTI := sI _ _ eTG
            have eNI := sI _ _ eNG
            have ebI := sI _ _ ebG
            have eFI := sI _ _ eFG
            have tbI := tbG.ext sI
            have pnI := pnG.same sI
            have eLPI := sI _ _ eLPG
            have pLPI : Paired (fun (t : Addr) (p : Pb) => HI t = some (pbO p)) ts (lawPbs words finL) := paired_mono pLPG fun t q h => sI _ _ h
            clear told3 sI PBG eT2G
            -- probed tells what can tells
            refine c_seq ?_
            have niceB : ∀ k : Bool, Nice 1 1 20 (.bool k) := fun k => by
              cases k
              · exact ⟨by decide +kernel, by decide +kernel, by decide +kernel, by decide +kernel, by decide +kernel⟩
              · exact nice_true
            refine c_op (c_lc ⟨.ref LP, rfl, LP, rfl, ⟨_, .inl (.inl eLPI)⟩, fun M nM => ?_⟩)
            refine lc_list (a := LP) (xs := ts.map V.ref) (fun j Hj => (∀ b u, HI b = some u → Hj b = some u) ∧ Hj M = some (.lst [])) ⟨same_upd nM, upd_same⟩ (fun j Hj _ S => .inl (.inl (S.1 _ _ eLPI))) (fun j y Hj hy S => ?_) (fun Hj S => ?_)
            · rw [List.getElem?_map] at hy
              obtain ⟨tj, htj, rfl⟩ := Option.map_eq_some_iff.mp hy
              obtain ⟨pj, hpj, ej⟩ := paired_at pLPI htj
              have mj := List.mem_of_getElem? hpj
              obtain ⟨okS, prj, nj⟩ := lawOk pj mj
              have okw := (law_ok mj).1
              obtain ⟨sj, eM⟩ := S
              have PXj := PXI.same sj
              have ejj := sj _ _ ej
              have eqv : toldC (prF gs) (ordT rs) pj = toldC (prF fs) rs pj := by rw [eg, told_can C1 okw]
              refine c_name ⟨wipe_one _ 14 _, .ref x, rfl, .ref tj, rfl, x, dx1, U1, E1, V1, gs, ordT rs, srt words, .ref tj, pbD pj, [], rfl, PXj, pb_rep ejj, nj, .inl ⟨tj, pj, rfl, ejj, okS, prj, fun HK sK => ?_⟩⟩
              rw [eqv]
              have nb := niceB (toldC (prF fs) rs pj)
              refine ⟨.bl _, .bool _, [], rfl, .bool _, nb.show_, nb.len (by decide), Nat.le_trans nb.dep (by decide), ?_⟩
              refine ⟨.ref T, rfl, .ref tj, rfl, T, D, R, tj, words, fs, rs, pj, rfl, sK _ _ (sj _ _ eTI), (PAI.same sj).same sK, sK _ _ ejj, okw, fun HL sL => ?_⟩
              refine ⟨.bl _, .bool _, [], rfl, .bool _, nb.show_, nb.len (by decide), Nat.le_trans nb.dep (by decide), rfl, _, rfl, ?_⟩
              rw [decide_eq_true rfl]
              exact iteF ⟨fun b u e => sL _ _ (sK _ _ (sj b u e)), sL _ _ (sK _ _ eM)⟩
            · obtain ⟨sj, eM⟩ := S
              refine ⟨by show 0 ≤ sizeLine; exact Nat.zero_le _, fun M2 nM2 => ?_⟩
              have sM2 := same_upd (o := HO.lst []) nM2
              refine ne_nil (xs := []) (fun _ z => nomatch z) (sM2 _ _ eM) upd_same ⟨_, rfl, ?_⟩
              refine iteF (c_next (c_nx (c_seq ?_)))
              have sIJ : Same HI (upd Hj M2 (.lst [])) := fun b u e => sM2 _ _ (sj b u e)
              have PXJ := PXI.same sIJ
              have eNJ := sIJ _ _ eNI
              have ebJ := sIJ _ _ ebI
              have eFJ := sIJ _ _ eFI
              have tbJ := tbI.ext sIJ
              have pnJ := pnI.same sIJ
              generalize upd Hj M2 (.lst []) = HJ at PXJ eNJ ebJ eFJ tbJ pnJ ⊢
              obtain ⟨lJ, penJ, _⟩ := pnJ.at_
              -- values that are no probes
              refine ⟨.ref p, rfl, .ref N, rfl, p, c, N, ns', a8, words, srt words, rfl, pnJ, by omega, eNJ, by omega, WT, nm, fun HK LN ds a9 sbK pnK ha9 NL ld dsok => ?_⟩
              obtain ⟨vs, fv, eLN, rLN, _⟩ := NL.ex
              have PXK : PP w C HK x dx1 U1 E1 V1 gs (ordT rs) (srt words) := PXJ.but sbK penJ.row
              have ebK := sbK b _ nbp ebJ
              have eFK := sbK Fl _ nFp eFJ
              have tbK := tabs_but tbJ sbK penJ.row
              have lo9 := pnK.lo
              refine ⟨LN, rfl, ⟨_, .inl (.inl eLN)⟩, ?_⟩
              refine for_list (a := LN) (xs := vs) (fun j σ Hj => (∃ y12, σ = [some (.ref a), some (.ref p), some (.ref Fl), some (.int (0 + ((i : Nat) : Int))), some (.ref b), some (.ref N), some (.ref T), some (.ref T2), some (.ref x), some (.ref x2), some v, some (.ref LP), y12, y13, y14]) ∧ LamX.ExtN HK Hj ∧ LamX.Tabs (tL K) Hj)
                ⟨⟨_, rfl⟩, LamX.ExtN.refl _, tbK⟩ (fun j σ Hj _ Z => .inl (.inl (Z.2.1 _ _ eLN fun _ z => nomatch z))) (fun j y σ Hj hy Z => ?_) (fun σ Hj Z => ?_)
              · obtain ⟨⟨y12', rfl⟩, xj, tbj⟩ := Z
                obtain ⟨dj, gj, hdj, rj⟩ := repAA_nth rLN hy
                obtain ⟨nj, badj⟩ := dsok dj (List.mem_of_getElem? hdj)
                refine c_name ⟨tbj, fun HM xM tbM => ?_⟩
                have xKM := xj.trans xM
                have PXM := PXK.extN xKM
                have rM := RepA.extN xKM rj
                refine ⟨.ref x, rfl, y, rfl, x, dx1, U1, E1, V1, gs, ordT rs, srt words, y, dj, gj, rfl, PXM, rM, nj, .inr ⟨badj, fun HO' dd fss v' f' sO ed el rv' => ⟨true, xSS, fun _ => ⟨rfl, dd, fss, v', dj, f', rfl, ed, el, rv', nj, fun HQ t sQ et => ?_⟩, fun z => nomatch z⟩⟩⟩
                have sMQ := sO.trans sQ
                refine ⟨y, rfl, y, dj, gj, rfl, (rM.same sMQ).rep, nj.show_, nj.len (by decide), Nat.le_trans nj.dep (by decide), by show 3 ≤ sizeLine; decide, fun t2 nt2 => ?_⟩
                have s2 := same_upd (o := HO.tup [.str (Str.ofString "states"), .str dj.shown, .bl true]) nt2
                refine ⟨t, t2, [.str (Str.ofString "states"), .str dj.shown, .bl true], rfl, rfl, .inl (.inl (s2 _ _ et)), .inl (.inl upd_same), rfl, _, rfl, iteF (c_next ⟨⟨_, rfl⟩, xKM.trans (LamX.ExtN.of fun b o e => s2 _ _ (sMQ _ _ e)), tbM.ext fun b o e => s2 _ _ (sMQ _ _ e)⟩)⟩
              · obtain ⟨⟨y12', rfl⟩, xj, tbj⟩ := Z
                have PXj := PXK.extN xj
                have pnj := pnK.extN xj
                have ebj := xj _ _ ebK fun _ z => nomatch z
                have eFj := xj _ _ eFK fun _ z => nomatch z
                clear xj PXK pnK ebK eFK tbK
                -- a profile of another name
                refine c_nx (c_seq (c_asg ?_))
                intro D0 nD0
                refine ⟨D0, [], upd_same, Nat.zero_le _, ?_⟩
                have sD0 : Same Hj (upd (upd Hj D0 (.dK [])) D0 (mdo w D0 (toM []))) := fun b u e => by
                  rw [upd_ne (ne_of_none e nD0), upd_ne (ne_of_none e nD0)]
                  exact e
                have eD0 : (upd (upd Hj D0 (.dK [])) D0 (mdo w D0 (toM []))) D0 = some (mdo w D0 (rowsF [])) := upd_same
                have PX0 := PXj.same sD0
                have pn0' := pnj.same sD0
                have eb0 := sD0 _ _ ebj
                have eF0' := sD0 _ _ eFj
                have tb0' := tbj.ext sD0
                rw [hw]
                generalize upd (upd Hj D0 (.dK [])) D0 (mdo w D0 (toM [])) = HR at eD0 PX0 pn0' eb0 eF0' tb0' ⊢
                refine ⟨.ref p, rfl, .ref b, rfl, 3, rfl, b, ws.map V.str, rfl, .inl (.inl eb0), fun N3 nN3 => ?_⟩
                have ec3 : cutV (ws.map V.str) (some 3) none = ([w3] : List Str).map V.str := by
                  rw [← eD3]
                  match ws, l4 with
                  | [_, _, _, _], _ => rfl
                rw [ec3]
                have sN3 := same_upd (o := HO.lst (([w3] : List Str).map V.str)) nN3
                refine ⟨by show 2 ≤ sizeLine; decide, fun L3 nL3 => ?_⟩
                have sL3 := same_upd (o := HO.lst [.str (Str.ofString "none"), .str (Str.ofString "entry")]) nL3
                have s3 := sN3.trans sL3
                have pn3' := pn0'.same s3
                obtain ⟨lR, penR, _⟩ := pn3'.at_
                have eN3 : (upd (upd HR N3 (.lst (([w3] : List Str).map V.str))) L3 (.lst [.str (Str.ofString "none"), .str (Str.ofString "entry")])) N3 = some (.lst (([w3] : List Str).map V.str)) := sL3 _ _ upd_same
                have eL3 : (upd (upd HR N3 (.lst (([w3] : List Str).map V.str))) L3 (.lst [.str (Str.ofString "none"), .str (Str.ofString "entry")])) L3 = some (.lst (([Str.ofString "none", Str.ofString "entry"] : List Str).map V.str)) := upd_same
                refine ⟨p, c, N3, L3, ns', a9, [w3], [Str.ofString "none", Str.ofString "entry"], rfl, pn3', by omega, .inl (.inl eN3), pn3'.ne eN3, nd_one _, Nat.le_of_ble_eq_true rfl, .inl (.inl eL3), pn3'.ne eL3, eL3, by decide, by decide, eN3, fun HS R3 ls3 a10 sbS pnS ha10 nR3 eR3 lk3 ll3 => ?_⟩
                have mem3 : w3 ∈ ws := by
                  have : w3 ∈ ws.drop 3 := by rw [eD3]; exact List.mem_cons_self
                  exact List.mem_of_mem_drop this
                have WT3 : WordsOk [w3] := ⟨nd_one _, fun y hy => by
                  rw [List.mem_singleton.mp hy]
                  exact WO.ok _ mem3⟩
                have mNe : ∀ {z : Addr} {es : List MRow} {Hx : Hp}, Hx z = some (mdo w z es) → ∀ {rows : List (Key × V)}, Hx p = some (.dK rows) → z ≠ p := fun {z es Hx} e {rows} e2 y => by
                  rw [y, e2] at e
                  have e := Option.some.inj e
                  unfold mdo at e
                  cases e
                have eD3' := s3 _ _ eD0
                have eDS := sbS D0 _ (mNe eD3' penR.row) eD3'
                have ne0R : D0 ≠ R3 := fun z => by
                  rw [← z, eD3'] at nR3
                  cases nR3
                have PA3 : ProfAt w HS D0 R3 [w3] [] ls3 := ⟨eDS, eR3, ⟨(fun _ z => nomatch z), (fun _ z => nomatch z), fun _ z => nomatch z⟩, lk3, fun q hq => by
                  have := ll3 q hq
                  have sub : ∀ z ∈ ([Str.ofString "none", Str.ofString "entry"] : List Str), z ∈ readL := by decide
                  exact sub _ this, by
                  show [D0, R3].Nodup
                  exact List.nodup_cons.mpr ⟨by simpa using ne0R, nd_one _⟩, List.nodup_nil, (fun _ z => nomatch z), Nat.zero_le _⟩
                have PXS : PP w C HS x dx1 U1 E1 V1 gs (ordT rs) (srt words) := (PX0.same s3).but sbS penR.row
                have tbS := tabs_but (tb0'.ext s3) sbS penR.row
                have nbp3 : b ≠ p := nbp
                have ebS := sbS b _ nbp3 (s3 _ _ eb0)
                have eFS := sbS Fl _ nFp (s3 _ _ eF0')
                intro x3 dx3' nx3 ndx3 ne3
                refine init_ok PA3 WT3 (Nat.le_of_ble_eq_true rfl) nx3 ndx3 ne3 fun HT dx4 U3 E3 V3 gs3 sT PZ eg3 => ⟨rfl, ?_⟩
                refine c_name (c_nx ⟨tbS.ext sT, fun HU xU tbU => ?_⟩)
                have PXU := (PXS.same sT).extN xU
                have PZU := PZ.extN xU
                have w3w : w3 ∉ words := nw3
                have sne : srt words ≠ srt [w3] := fun z => by
                  have : w3 ∈ srt words := by rw [z]; exact srt_mem.mpr List.mem_cons_self
                  exact w3w (srt_mem.mp this)
                refine ⟨.ref x, rfl, .ref x3, rfl, x, dx1, U1, E1, V1, gs, ordT rs, srt words, x3, dx4, U3, E3, V3, gs3, ordT ls3, srt [w3], rfl, PXU, PZU, wokS, fun y hy => strOk_word (WT3.ok y (srt_mem.mp hy)).1, .inl ⟨sne, fun HV dd sV ed => ⟨false, xVS, (fun z => nomatch z), fun _ => ⟨xVV, rfl, dd, _, .ref x3, rfl, ed, rfl, fun HW t sW et => ?_⟩⟩⟩⟩
                refine ⟨.ref x3, rfl, by show 3 ≤ sizeLine; decide, fun t2 nt2 => ?_⟩
                have s2 := same_upd (o := HO.tup [.str (Str.ofString "profile"), .ref x3, .bl true]) nt2
                refine ⟨t, t2, [.str (Str.ofString "profile"), .ref x3, .bl true], rfl, rfl, .inl (.inl (s2 _ _ et)), .inl (.inl upd_same), rfl, _, rfl, iteF (c_next ?_)⟩
                have sF := (sV.trans sW).trans s2
                refine ⟨_, _, _, _, _, _, _, _, _, _, _, _, rfl, ⟨a10, ((pnS.same sT).extN xU).same sF, ?_⟩, sF _ _ (xU _ _ (sT _ _ eFS) fun _ z => nomatch z), tbU.ext sF⟩
                have l1 : ([w3] : List Str).length = 1 := rfl
                omega
          · rcases told3 with rfl | ⟨t, pb, rfl, et, mem, b1, b2⟩
            · exact ⟨.non, rfl, rfl, _, rfl, iteF (iteF (c_next (tail _ _ ⟨rfl, same_refl _⟩)))⟩
            · have okw := (law_ok mem).1
              refine ⟨.ref t, rfl, rfl, _, rfl, iteT ?_⟩
              refine ⟨.ref T, rfl, .ref t, rfl, T, D, R, t, words, fs, rs, pb, rfl, eTG, PAG, et, okw, fun HH sH => ⟨_, rfl, ?_⟩⟩
              rw [b1]
              refine iteF ⟨.ref T2, rfl, .ref t, rfl, T2, D2, R2, t, words, fs2, rs2, pb, rfl, sH _ _ eT2G, PBG.same sH, sH _ _ et, okw, fun HI sI => ⟨_, rfl, ?_⟩⟩
              rw [b2]
              exact iteF (c_next (tail _ _ ⟨rfl, sH.trans sI⟩))
        · rcases told2 with ⟨rfl, _⟩ | ⟨t, pb, rfl, et, mem, _, _⟩
          · exact ⟨.non, rfl, rfl, _, rfl, iteF (iteF (c_next (tail _ _ ⟨rfl, same_refl _⟩)))⟩
          · refine ⟨.ref t, rfl, rfl, _, rfl, iteT ?_⟩
            obtain ⟨_, _, nb⟩ := lawOk pb mem
            refine ⟨.ref t, rfl, .ref t, pbD pb, [], rfl, (pb_rep et).rep, nb.show_, nb.len (by decide), Nat.le_trans nb.dep (by decide), ?_⟩
            refine c_lc ⟨.ref LP, rfl, LP, rfl, ⟨_, .inl (.inl eLPE)⟩, fun M nM => ?_⟩
            refine lc_list (a := LP) (xs := ts.map V.ref) (fun j Hj => (∀ b u, HE b = some u → Hj b = some u) ∧ Hj M = some (.lst ((((lawPbs words finL).map fun p => (pbD p).shown).take j).map V.str))) ⟨same_upd nM, upd_same⟩ (fun j Hj _ S => .inl (.inl (S.1 _ _ eLPE))) (fun j y Hj hy S => ?_) (fun Hj S => ?_)
            · rw [List.getElem?_map] at hy
              obtain ⟨tj, htj, rfl⟩ := Option.map_eq_some_iff.mp hy
              obtain ⟨pj, hpj, ej⟩ := paired_at pLPE htj
              obtain ⟨_, _, nj⟩ := lawOk pj (List.mem_of_getElem? hpj)
              refine c_name ⟨wipe_one _ 14 _, .ref tj, rfl, .ref tj, pbD pj, [], rfl, (pb_rep (S.1 _ _ ej)).rep, nj.show_, nj.len (by decide), Nat.le_trans nj.dep (by decide), ?_⟩
              have tk : ((lawPbs words finL).map fun p => (pbD p).shown).take (j + 1) = ((lawPbs words finL).map fun p => (pbD p).shown).take j ++ [(pbD pj).shown] := take_map _ _ _ hpj
              refine ⟨_, S.2, small1000 (by rw [List.length_map, List.length_take, List.length_map]; omega), fun b u e => ?_, ?_⟩
              · rw [upd_ne (ne_of_none e nM)]
                exact S.1 b u e
              · rw [upd_same, tk, List.map_append]
                rfl
            · obtain ⟨st, eM⟩ := S
              rw [List.length_map, lenP, List.take_of_length_le (by rw [List.length_map]; exact Nat.le_refl _)] at eM
              refine ⟨M, _, rfl, .inl (.inl (.inl eM)), rfl, by rw [List.all_map]; exact List.all_eq_true.mpr fun _ _ => rfl, _, rfl, ?_⟩
              rw [if_pos rfl, inV_strs, decide_eq_true (List.mem_map_of_mem (f := fun p => (pbD p).shown) mem)]
              exact iteF (c_next (tail _ _ ⟨rfl, st⟩))
      · refine ⟨.ref p, rfl, p, c, ns', a5, l6, 3, rfl, pen6, hns', lo6, by omega, hl6, by decide, by decide, fun H7 d7 a7 l7 sb7 pen7 j1 j2 j3 k0 k3 => ⟨_, _, rfl, rfl, _, rfl, ?_⟩⟩
        have pn7 : Pn H7 p c ns' a7 := ⟨⟨l7, pen7, j3⟩, hns', by omega⟩
        have eT7 := sb7 T _ nTp eT
        have eN7 := sb7 N _ nNp eN6
        have PA7 := PA.but sb7 pen6.row
        refine ite2 (fun _ => ?_) (fun _ => ?_)
        · exact ⟨.ref p, rfl, .ref T, rfl, p, c, T, D, R, ns', a7, words, fs, rs, rfl, pn7, by omega, eT7, PA7, by omega, WT.nd, wok, fun H8 T2 D2 R2 fs2 rs2 a8 sb8 pn8 ha8 eT2 _ PB _ _ => rest _ _ ⟨T2, D2, R2, fs2, rs2, a8, rfl, fun b u nb e => sb8 b u nb (sb7 b u nb e), pn8, by omega, eT2, PB⟩⟩
        · exact ⟨.ref p, rfl, .ref N, rfl, p, c, N, ns', a7, words, rfl, pn7, by omega, eN7, WT.nd, by omega, fun H8 T2 D2 R2 fs2 rs2 a8 sb8 pn8 ha8 eT2 _ PB _ => rest _ _ ⟨T2, D2, R2, fs2, rs2, a8, rfl, fun b u nb e => sb8 b u nb (sb7 b u nb e), pn8, by omega, eT2, PB⟩⟩
    · obtain ⟨y3, y4, y5, y6, y7, y8, y9, y10, y11, y12, y13, y14, rfl, _⟩ := hp
      exact c_nx (c_ret (c_const (q _)))
end
end KF
end L2
end
/-! ### HT77 -/
section
namespace L2
namespace KF
open PySem PySem.Spec PyProof.Rows KH
abbrev R77 : PySem.W.OpenRow := PySem.W.OpenLaw.row PySem.Challenge.rw_surelyset_k77_probes
abbrev q77 : Program := PySem.W.view R77.prog [48]
def names77 : List PySem.Str := List.map PySem.Str.ofString (["LETTERS", "MAX_LETTERS", "has_word_form", "is_outcome", "is_tuple_of", "copied", "items_of", "rebuilt", "InvalidProfile", "InvalidStates", "END_LEVELS", "READ_LEVELS", "lesser_level", "greater_level", "is_at_most", "lesser", "greater", "STATES", "Profile", "ordered", "are_outcomes", "are_reads", "is_table", "is_profile_at_most", "parting", "probes_of", "probed", "is_probe", "told_of", "_law_source", "_law_draw", "_law_pick", "_law_shuffled", "_law_word_list", "_law_levels", "_law_drawn_profile", "_law_near", "_law_rank", "_law_is_low", "_law_can", "_law_probes", "_law_wrong", "_law_no_probes"] : List String)
def seeds77 : List PySem.Str := List.map PySem.Str.ofString (["has_word_form", "is_outcome", "is_tuple_of", "copied", "items_of", "rebuilt", "ordered", "are_outcomes", "are_reads", "is_table", "parting", "probes_of", "probed", "is_probe", "told_of", "_law_source", "_law_draw", "_law_pick", "_law_shuffled", "_law_word_list", "_law_levels", "_law_drawn_profile", "_law_near", "_law_rank", "_law_is_low", "_law_can", "_law_probes", "_law_wrong", "_law_no_probes", "law", "InvalidProfile", "InvalidStates", "Profile", "END_LEVELS", "READ_LEVELS", "STATES"] : List String)
def fb77 : List FB := ([gloB "has_word_form", gloB "is_outcome", gloB "is_tuple_of", gloB "copied", gloB "items_of", gloB "rebuilt", gloB "ordered", gloB "are_outcomes", gloB "are_reads", gloB "is_table", gloB "parting", gloB "probes_of"] : List FB) ++ ([gloB "probed", gloB "is_probe", gloB "told_of", gloB "_law_source", gloB "_law_draw", gloB "_law_pick", gloB "_law_shuffled", gloB "_law_word_list", gloB "_law_levels", gloB "_law_drawn_profile", gloB "_law_near", gloB "_law_rank"] : List FB) ++ ([gloB "_law_is_low", gloB "_law_can", gloB "_law_probes", gloB "_law_wrong", gloB "_law_no_probes", gloB "law", freeB "len", freeB "list", freeB "tuple", freeB "dict", freeB "isinstance", freeB "zip"] : List FB) ++ ([freeB "range", freeB "reversed", freeB "int", freeB "str", freeB "bool", freeB "all", freeB "min", freeB "repr", freeB "set", freeB "sorted", freeB "ValueError", strB "LETTERS" "abcdefghijklmnopqrstuvwxyz"] : List FB) ++ ([intB "MAX_LETTERS" 8, baseB "ValueError" "ValueError.__init__", errB "InvalidProfile" "value", errB "InvalidStates" "value", oexB "InvalidProfile", oexB "InvalidStates", exmB "InvalidStates" "InvalidStates" true, exmB "InvalidProfile" "InvalidStates" false, exmB "InvalidProfile" "InvalidProfile" true, gloB "Profile", clsB' "Profile", mkrB "Profile"] : List FB) ++ ([noatB "Profile" "_names", noatB "Profile" "_outcomes", noatB "Profile" "_reads", propB "Profile" "outcomes", propB "Profile" "reads", propB "Profile" "names", insB "Profile", tupB "END_LEVELS" endL, tupB "READ_LEVELS" readL, tupB "STATES" stL] : List FB)
def fn77 : List DefX := ([dOf "has_word_form" (topS 3), dOf "is_outcome" (topS 4), dOf "is_tuple_of" (topS 5), dOf "copied" (topS 6), dOf "items_of" (topS 7), dOf "rebuilt" (topS 8), dOf "ordered" (topS 23), dOf "are_outcomes" (topS 24), dOf "are_reads" (topS 25), dOf "is_table" (topS 26), dOf "parting" (topS 28), dOf "probes_of" (topS 29)] : List DefX) ++ ([dOf "probed" (topS 30), dOf "is_probe" (topS 31), dOf "told_of" (topS 32), dOf "_law_source" (topS 34), dOf "_law_draw" (topS 35), dOf "_law_pick" (topS 36), dOf "_law_shuffled" (topS 37), dOf "_law_word_list" (topS 38), dOf "_law_levels" (topS 39), dOf "_law_drawn_profile" (topS 40), dOf "_law_near" (topS 41), dOf "_law_rank" (topS 42)] : List DefX) ++ ([dOf "_law_is_low" (topS 43), dOf "_law_can" (topS 44), dOf "_law_probes" (topS 45), dOf "_law_wrong" (topS 46), dOf "_law_no_probes" (topS 47), dOf "law" (topS 48), mOf "InvalidProfile" "__init__" "InvalidProfile.__init__" (methOf 10 0), mOf "InvalidStates" "__init__" "InvalidStates.__init__" (methOf 11 0), mOf "Profile" "__init__" "Profile.__init__" (methOf 22 0), pOf "Profile" "outcomes" "Profile.outcomes" (methOf 22 1), pOf "Profile" "reads" "Profile.reads" (methOf 22 2), pOf "Profile" "names" "Profile.names" (methOf 22 3)] : List DefX)
noncomputable def ob77 (s : PySem.W.SharedT) : AlY := obsY 4 seeds77 fb77 fn77 (HandSHeadRun.getT s)
theorem ob77_eq (s : PySem.W.SharedT) : ob77 s = (hookY 4 seeds77 fb77 fn77).obs s.abs := obsY_eq (HandSHeadRun.getT_eq s)
end KF
end L2
end
/-! ### HRun77 -/
section
set_option maxHeartbeats 0
namespace L2
namespace KF
open PySem PySem.Spec PyProof.Rows KH
theorem run77 (w : World) : HandSHeadRun.RunEq R77 q77 (hookY 4 seeds77 fb77 fn77) ob77 12000 names77 w :=
  PySem.W.byRow2 "special-get-raises" (P := fun w => HandSHeadRun.RunEq R77 q77 (hookY 4 seeds77 fb77 fn77) ob77 12000 names77 w) (fun w => by
    intro os
    kernel_rfl) (fun w => by
    intro os
    kernel_rfl) w
end KF
end L2
end
/-! ### PEnd77 -/
section
namespace L2
namespace KF
open PySem PySem.Spec PyProof.Rows PySem.KD KE KC PySem.KA KM TL KS KH
theorem prop_okY {K : PySem.W.Frag} {C f : Str} (c : propB C f K = true) : PropOf K (He.ga K C) f (prA K C f) (prG K C f) := by
  unfold propB at c
  obtain ⟨c1, c⟩ := He.ba c
  obtain ⟨c2, c⟩ := He.ba c
  obtain ⟨c3, c4⟩ := He.ba c
  refine ⟨He.eqO_ok c1, He.eqO_ok c2, of_decide_eq_true c3, ?_⟩
  split at c4
  · rename_i g rest e
    have z := of_decide_eq_true c4
    subst z
    exact ⟨rest, e⟩
  · cases c4
theorem facts77 {P : Program} {w : World} {K : PySem.W.Frag} {h : Heap} {mg : Str → Option Value} {f : Addr} (X : K.In h) (G : h.Ns mainGlobals mg) (hfa : mg ("law" : Str) = some (.ref f)) (S : SaysX fb77 fn77 K) :
    ∃ fd : FuncData, (∀ (s : Shared) (v : Value), BindsTo s fd ⟨[v], []⟩ [("_law_script", v)]) ∧ ∀ base : Heap, K.In base → base.Ns mainGlobals mg → LamX.TabB base mg (lawC K) (lawP K) → FnOkG P w K mg base CX0 12 f fd ["_law_script"] (spLawT K (lawP K)) := by
  obtain ⟨fd_has_word_form, F_has_word_form⟩ := S.def_ 0
  have g_has_word_form := He.glo_ok X G (S.at_ 0 (f := gloB "has_word_form"))
  have b_has_word_form := F_has_word_form.binds (ps := ["value"]) fun _ _ _ _ _ _ us hl => match us, hl with | [_], _ => rfl
  obtain ⟨fd_is_outcome, F_is_outcome⟩ := S.def_ 1
  have g_is_outcome := He.glo_ok X G (S.at_ 1 (f := gloB "is_outcome"))
  have b_is_outcome := F_is_outcome.binds (ps := ["value"]) fun _ _ _ _ _ _ us hl => match us, hl with | [_], _ => rfl
  obtain ⟨fd_is_tuple_of, F_is_tuple_of⟩ := S.def_ 2
  have g_is_tuple_of := He.glo_ok X G (S.at_ 2 (f := gloB "is_tuple_of"))
  have b_is_tuple_of := F_is_tuple_of.binds (ps := ["value", "many"]) fun _ _ _ _ _ _ us hl => match us, hl with | [_, _], _ => rfl
  obtain ⟨fd_copied, F_copied⟩ := S.def_ 3
  have g_copied := He.glo_ok X G (S.at_ 3 (f := gloB "copied"))
  have b_copied := F_copied.binds (ps := ["value"]) fun _ _ _ _ _ _ us hl => match us, hl with | [_], _ => rfl
  obtain ⟨fd_items_of, F_items_of⟩ := S.def_ 4
  have g_items_of := He.glo_ok X G (S.at_ 4 (f := gloB "items_of"))
  have b_items_of := F_items_of.binds (ps := ["value"]) fun _ _ _ _ _ _ us hl => match us, hl with | [_], _ => rfl
  obtain ⟨fd_rebuilt, F_rebuilt⟩ := S.def_ 5
  have g_rebuilt := He.glo_ok X G (S.at_ 5 (f := gloB "rebuilt"))
  have b_rebuilt := F_rebuilt.binds (ps := ["value", "items"]) fun _ _ _ _ _ _ us hl => match us, hl with | [_, _], _ => rfl
  obtain ⟨fd_ordered, F_ordered⟩ := S.def_ 6
  have g_ordered := He.glo_ok X G (S.at_ 6 (f := gloB "ordered"))
  have b_ordered := F_ordered.binds (ps := ["table"]) fun _ _ _ _ _ _ us hl => match us, hl with | [_], _ => rfl
  obtain ⟨fd_are_outcomes, F_are_outcomes⟩ := S.def_ 7
  have g_are_outcomes := He.glo_ok X G (S.at_ 7 (f := gloB "are_outcomes"))
  have b_are_outcomes := F_are_outcomes.binds (ps := ["value"]) fun _ _ _ _ _ _ us hl => match us, hl with | [_], _ => rfl
  obtain ⟨fd_are_reads, F_are_reads⟩ := S.def_ 8
  have g_are_reads := He.glo_ok X G (S.at_ 8 (f := gloB "are_reads"))
  have b_are_reads := F_are_reads.binds (ps := ["value", "outcomes"]) fun _ _ _ _ _ _ us hl => match us, hl with | [_, _], _ => rfl
  obtain ⟨fd_is_table, F_is_table⟩ := S.def_ 9
  have g_is_table := He.glo_ok X G (S.at_ 9 (f := gloB "is_table"))
  have b_is_table := F_is_table.binds (ps := ["value", "levels"]) fun _ _ _ _ _ _ us hl => match us, hl with | [_, _], _ => rfl
  obtain ⟨fd_parting, F_parting⟩ := S.def_ 10
  have g_parting := He.glo_ok X G (S.at_ 10 (f := gloB "parting"))
  have b_parting := F_parting.binds (ps := ["one", "other"]) fun _ _ _ _ _ _ us hl => match us, hl with | [_, _], _ => rfl
  obtain ⟨fd_probes_of, F_probes_of⟩ := S.def_ 11
  have g_probes_of := He.glo_ok X G (S.at_ 11 (f := gloB "probes_of"))
  have b_probes_of := F_probes_of.binds (ps := ["names", "outcomes"]) fun _ _ _ _ _ _ us hl => match us, hl with | [_, _], _ => rfl
  obtain ⟨fd_probed, F_probed⟩ := S.def_ 12
  have g_probed := He.glo_ok X G (S.at_ 12 (f := gloB "probed"))
  have b_probed := F_probed.binds (ps := ["profile", "probe"]) fun _ _ _ _ _ _ us hl => match us, hl with | [_, _], _ => rfl
  obtain ⟨fd_is_probe, F_is_probe⟩ := S.def_ 13
  have g_is_probe := He.glo_ok X G (S.at_ 13 (f := gloB "is_probe"))
  have b_is_probe := F_is_probe.binds (ps := ["value", "names"]) fun _ _ _ _ _ _ us hl => match us, hl with | [_, _], _ => rfl
  obtain ⟨fd_told_of, F_told_of⟩ := S.def_ 14
  have g_told_of := He.glo_ok X G (S.at_ 14 (f := gloB "told_of"))
  have b_told_of := F_told_of.binds (ps := ["outcomes", "reads", "probe"]) fun _ _ _ _ _ _ us hl => match us, hl with | [_, _, _], _ => rfl
  obtain ⟨fd_l_source, F_l_source⟩ := S.def_ 15
  have g_l_source := He.glo_ok X G (S.at_ 15 (f := gloB "_law_source"))
  have b_l_source := F_l_source.binds (ps := ["_law_script"]) fun _ _ _ _ _ _ us hl => match us, hl with | [_], _ => rfl
  obtain ⟨fd_l_draw, F_l_draw⟩ := S.def_ 16
  have g_l_draw := He.glo_ok X G (S.at_ 16 (f := gloB "_law_draw"))
  have b_l_draw := F_l_draw.binds (ps := ["_law_pen", "_law_many"]) fun _ _ _ _ _ _ us hl => match us, hl with | [_, _], _ => rfl
  obtain ⟨fd_l_pick, F_l_pick⟩ := S.def_ 17
  have g_l_pick := He.glo_ok X G (S.at_ 17 (f := gloB "_law_pick"))
  have b_l_pick := F_l_pick.binds (ps := ["_law_pen", "_law_items"]) fun _ _ _ _ _ _ us hl => match us, hl with | [_, _], _ => rfl
  obtain ⟨fd_l_shuffled, F_l_shuffled⟩ := S.def_ 18
  have g_l_shuffled := He.glo_ok X G (S.at_ 18 (f := gloB "_law_shuffled"))
  have b_l_shuffled := F_l_shuffled.binds (ps := ["_law_pen", "_law_items"]) fun _ _ _ _ _ _ us hl => match us, hl with | [_, _], _ => rfl
  obtain ⟨fd_l_word_list, F_l_word_list⟩ := S.def_ 19
  have g_l_word_list := He.glo_ok X G (S.at_ 19 (f := gloB "_law_word_list"))
  have b_l_word_list := F_l_word_list.binds (ps := ["_law_pen", "_law_many"]) fun _ _ _ _ _ _ us hl => match us, hl with | [_, _], _ => rfl
  obtain ⟨fd_l_levels, F_l_levels⟩ := S.def_ 20
  have g_l_levels := He.glo_ok X G (S.at_ 20 (f := gloB "_law_levels"))
  have b_l_levels := F_l_levels.binds (ps := ["_law_pen", "_law_words", "_law_levels_here"]) fun _ _ _ _ _ _ us hl => match us, hl with | [_, _, _], _ => rfl
  obtain ⟨fd_l_drawn_profile, F_l_drawn_profile⟩ := S.def_ 21
  have g_l_drawn_profile := He.glo_ok X G (S.at_ 21 (f := gloB "_law_drawn_profile"))
  have b_l_drawn_profile := F_l_drawn_profile.binds (ps := ["_law_pen", "_law_words"]) fun _ _ _ _ _ _ us hl => match us, hl with | [_, _], _ => rfl
  obtain ⟨fd_l_near, F_l_near⟩ := S.def_ 22
  have g_l_near := He.glo_ok X G (S.at_ 22 (f := gloB "_law_near"))
  have b_l_near := F_l_near.binds (ps := ["_law_pen", "_law_plain"]) fun _ _ _ _ _ _ us hl => match us, hl with | [_, _], _ => rfl
  obtain ⟨fd_l_rank, F_l_rank⟩ := S.def_ 23
  have g_l_rank := He.glo_ok X G (S.at_ 23 (f := gloB "_law_rank"))
  have b_l_rank := F_l_rank.binds (ps := ["_law_level"]) fun _ _ _ _ _ _ us hl => match us, hl with | [_], _ => rfl
  obtain ⟨fd_l_is_low, F_l_is_low⟩ := S.def_ 24
  have g_l_is_low := He.glo_ok X G (S.at_ 24 (f := gloB "_law_is_low"))
  have b_l_is_low := F_l_is_low.binds (ps := ["_law_one", "_law_other"]) fun _ _ _ _ _ _ us hl => match us, hl with | [_, _], _ => rfl
  obtain ⟨fd_l_can, F_l_can⟩ := S.def_ 25
  have g_l_can := He.glo_ok X G (S.at_ 25 (f := gloB "_law_can"))
  have b_l_can := F_l_can.binds (ps := ["_law_plain", "_law_probe"]) fun _ _ _ _ _ _ us hl => match us, hl with | [_, _], _ => rfl
  obtain ⟨fd_l_probes, F_l_probes⟩ := S.def_ 26
  have g_l_probes := He.glo_ok X G (S.at_ 26 (f := gloB "_law_probes"))
  have b_l_probes := F_l_probes.binds (ps := ["_law_words", "_law_finals"]) fun _ _ _ _ _ _ us hl => match us, hl with | [_, _], _ => rfl
  obtain ⟨fd_l_wrong, F_l_wrong⟩ := S.def_ 27
  have g_l_wrong := He.glo_ok X G (S.at_ 27 (f := gloB "_law_wrong"))
  have b_l_wrong := F_l_wrong.binds (ps := ["_law_call"]) fun _ _ _ _ _ _ us hl => match us, hl with | [_], _ => rfl
  obtain ⟨fd_l_no_probes, F_l_no_probes⟩ := S.def_ 28
  have g_l_no_probes := He.glo_ok X G (S.at_ 28 (f := gloB "_law_no_probes"))
  have b_l_no_probes := F_l_no_probes.binds (ps := ["_law_pen", "_law_words"]) fun _ _ _ _ _ _ us hl => match us, hl with | [_, _], _ => rfl
  obtain ⟨fd_law, F_law⟩ := S.def_ 29
  have b_law := F_law.binds (ps := ["_law_script"]) fun _ _ _ _ _ _ us hl => match us, hl with | [_], _ => rfl
  obtain ⟨fd_ip, F_ip⟩ := S.def_ 30
  have b_ip := F_ip.binds (ps := ["self", "value"]) fun _ _ _ _ _ _ us hl => match us, hl with | [_, _], _ => rfl
  obtain ⟨fd_is, F_is⟩ := S.def_ 31
  have b_is := F_is.binds (ps := ["self", "value"]) fun _ _ _ _ _ _ us hl => match us, hl with | [_, _], _ => rfl
  obtain ⟨fd_in, F_in⟩ := S.def_ 32
  have b_in := F_in.binds (ps := ["self", "outcomes", "reads"]) fun _ _ _ _ _ _ us hl => match us, hl with | [_, _, _], _ => rfl
  obtain ⟨fd_out, F_out⟩ := S.def_ 33
  have b_out := F_out.binds (ps := ["self"]) fun _ _ _ _ _ _ us hl => match us, hl with | [_], _ => rfl
  obtain ⟨fd_rds, F_rds⟩ := S.def_ 34
  have b_rds := F_rds.binds (ps := ["self"]) fun _ _ _ _ _ _ us hl => match us, hl with | [_], _ => rfl
  obtain ⟨fd_nms, F_nms⟩ := S.def_ 35
  have b_nms := F_nms.binds (ps := ["self"]) fun _ _ _ _ _ _ us hl => match us, hl with | [_], _ => rfl
  have Er := err_v X G (S.at_ 50 (f := errB "InvalidProfile" "value")) (S.at_ 52 (f := oexB "InvalidProfile"))
  have Es := err_v X G (S.at_ 51 (f := errB "InvalidStates" "value")) (S.at_ 53 (f := oexB "InvalidStates"))
  have cl := He.cls_ok (S.at_ 58 (f := clsB' "Profile"))
  have n_names := He.noat_ok (S.at_ 60 (f := noatB "Profile" "_names"))
  have n_outcomes := He.noat_ok (S.at_ 61 (f := noatB "Profile" "_outcomes"))
  have n_reads := He.noat_ok (S.at_ 62 (f := noatB "Profile" "_reads"))
  have B0 : Blt mg := ⟨He.free_ok X G (S.at_ 30 (f := freeB "len")), He.free_ok X G (S.at_ 31 (f := freeB "list")), He.free_ok X G (S.at_ 32 (f := freeB "tuple")), He.free_ok X G (S.at_ 33 (f := freeB "dict")), He.free_ok X G (S.at_ 34 (f := freeB "isinstance")), He.free_ok X G (S.at_ 35 (f := freeB "zip")), He.free_ok X G (S.at_ 36 (f := freeB "range")), He.free_ok X G (S.at_ 37 (f := freeB "reversed"))⟩
  have BI : BltI mg := ⟨He.free_ok X G (S.at_ 34 (f := freeB "isinstance")), He.free_ok X G (S.at_ 38 (f := freeB "int")), He.free_ok X G (S.at_ 40 (f := freeB "bool")), He.free_ok X G (S.at_ 39 (f := freeB "str")), He.free_ok X G (S.at_ 31 (f := freeB "list")), He.free_ok X G (S.at_ 32 (f := freeB "tuple")), He.free_ok X G (S.at_ 30 (f := freeB "len")), He.free_ok X G (S.at_ 41 (f := freeB "all")), He.str_ok X G (S.at_ 47 (f := strB "LETTERS" "abcdefghijklmnopqrstuvwxyz")), He.int_ok X G (S.at_ 48 (f := intB "MAX_LETTERS" 8))⟩
  have BC : BltC mg := ⟨BI, He.free_ok X G (S.at_ 33 (f := freeB "dict"))⟩
  have BO : BltO K mg := ⟨BC, He.free_ok X G (S.at_ 44 (f := freeB "set")), tup_ok X G (S.at_ 67 (f := tupB "END_LEVELS" endL))⟩
  have BA : BltA K mg := ⟨BO, tup_ok X G (S.at_ 68 (f := tupB "READ_LEVELS" readL))⟩
  have BS : BltS mg := ⟨He.free_ok X G (S.at_ 44 (f := freeB "set")), He.free_ok X G (S.at_ 45 (f := freeB "sorted"))⟩
  have BP : BltP mg := ⟨BS, He.free_ok X G (S.at_ 32 (f := freeB "tuple"))⟩
  have BT : BltT mg := ⟨He.free_ok X G (S.at_ 34 (f := freeB "isinstance")), He.free_ok X G (S.at_ 32 (f := freeB "tuple")), He.free_ok X G (S.at_ 39 (f := freeB "str")), He.free_ok X G (S.at_ 30 (f := freeB "len"))⟩
  have ST := tup_ok X G (S.at_ 69 (f := tupB "STATES" stL))
  have IK := ins_k (S.at_ 66 (f := insB "Profile"))
  have BR : BltW2 mg := ⟨He.free_ok X G (S.at_ 43 (f := freeB "repr")), He.free_ok X G (S.at_ 34 (f := freeB "isinstance")), He.free_ok X G (S.at_ 46 (f := freeB "ValueError"))⟩
  have BJ : Blt77 mg := ⟨He.free_ok X G (S.at_ 38 (f := freeB "int")), He.free_ok X G (S.at_ 30 (f := freeB "len")), He.free_ok X G (S.at_ 31 (f := freeB "list")), He.free_ok X G (S.at_ 33 (f := freeB "dict")), He.free_ok X G (S.at_ 36 (f := freeB "range")), He.free_ok X G (S.at_ 43 (f := freeB "repr")), He.free_ok X G (S.at_ 42 (f := freeB "min"))⟩
  have gC := He.glo_ok X G (S.at_ 57 (f := gloB "Profile"))
  have MK := He.mkr_ok (S.at_ 59 (f := mkrB "Profile"))
  have pO := prop_okY (S.at_ 63 (f := propB "Profile" "outcomes"))
  have pR := prop_okY (S.at_ 64 (f := propB "Profile" "reads"))
  have pN := prop_okY (S.at_ 65 (f := propB "Profile" "names"))
  have e := hfa.symm.trans (He.glo_ok X G (S.at_ 29 (f := gloB "law")))
  cases e
  refine ⟨fd_law, fun s v => ?_, fun base kin ns TB => ?_⟩
  · obtain ⟨oc, od, kV, doc, pm, an, cdv, ct, osl, e, lk, hcd⟩ := F_law.ex
    rw [e]
    exact .of_eq rfl
  have GC : FnOk P w K mg base CX0 2 _ fd_copied ["value"] (spCopied w) := ok_copied F_copied F_items_of F_rebuilt B0 g_items_of g_rebuilt b_items_of b_rebuilt
  have GCI : FnOk P w K mg base CX0 2 _ fd_copied ["value"] (spCopiedI (He.ga K "Profile")) := ok_copiedI (w := w) IK F_copied F_items_of F_rebuilt B0 g_items_of g_rebuilt b_items_of b_rebuilt
  have vI := baseB_ok (S.at_ 49 (f := baseB "ValueError" "ValueError.__init__"))
  have GIP : FnOk P w K mg base CX0 3 _ fd_ip ["self", "value"] (spErr w (He.ga K "InvalidProfile") "value") := ok_ip GC F_copied.kp b_copied g_copied (He.free_ok X G (S.at_ 46 (f := freeB "ValueError"))) vI Er F_ip
  have GIPI : FnOk P w K mg base CX0 3 _ fd_ip ["self", "value"] (spErrI (He.ga K "Profile") (He.ga K "InvalidProfile") "value") := ok_ipI GCI F_copied.kp b_copied g_copied (He.free_ok X G (S.at_ 46 (f := freeB "ValueError"))) vI Er F_ip
  have GIS : FnOk P w K mg base CX0 3 _ fd_is ["self", "value"] (spErr w (He.ga K "InvalidStates") "value") := ok_is GC F_copied.kp b_copied g_copied (He.free_ok X G (S.at_ 46 (f := freeB "ValueError"))) vI Es F_is
  have GAO : FnOk P w K mg base CX0 3 _ fd_are_outcomes ["value"] (spData w finD) := ok_ao F_are_outcomes F_has_word_form g_has_word_form b_has_word_form F_is_outcome g_is_outcome b_is_outcome F_is_table g_is_table b_is_table BO
  have GAR : FnOk P w K mg base CX0 3 _ fd_are_reads ["value", "outcomes"] (spAR w) := ok_ar F_are_reads F_has_word_form g_has_word_form b_has_word_form F_is_table g_is_table b_is_table BA
  have GOR : FnOk P w K mg base CX0 1 _ fd_ordered ["table"] (spOrd w) := ok_ord F_ordered BS
  have GI : FnOk P w K mg base (L2.CX P w) 6 _ fd_in ["self", "outcomes", "reads"] (spInit w (He.ga K "Profile") (He.ga K "InvalidProfile")) := ok_init F_in GAO F_are_outcomes.kp g_are_outcomes b_are_outcomes GAR F_are_reads.kp g_are_reads b_are_reads GOR F_ordered.kp g_ordered b_ordered Er GIP b_ip cl n_names n_outcomes n_reads BP
  have GO : FnOk P w K mg base CX0 1 _ fd_out ["self"] (spOutS w (He.ga K "Profile")) := ok_outS F_out cl n_outcomes (He.free_ok X G (S.at_ 33 (f := freeB "dict")))
  have GR : FnOk P w K mg base CX0 1 _ fd_rds ["self"] (spRdsS w (He.ga K "Profile")) := ok_rdsS F_rds cl n_reads (He.free_ok X G (S.at_ 33 (f := freeB "dict")))
  have GN : FnOk P w K mg base CX0 1 _ fd_nms ["self"] (spNmsS w (He.ga K "Profile")) := ok_nmsS F_nms cl n_names
  have GIPb : FnOk P w K mg base CX0 3 _ fd_is_probe ["value", "names"] (spIPb w) := ok_iPb F_is_probe F_is_tuple_of g_is_tuple_of b_is_tuple_of F_is_outcome g_is_outcome b_is_outcome F_has_word_form g_has_word_form b_has_word_form BT BI ST
  have GT : FnOk P w K mg base CX0 1 _ fd_told_of ["outcomes", "reads", "probe"] (spTold w) := ok_told F_told_of
  have GPO : FnOk P w K mg base CX0 1 _ fd_probes_of ["names", "outcomes"] spPO := ok_po F_probes_of ST
  have GPb : FnOk P w K mg base (L2.CX P w) 6 _ fd_probed ["profile", "probe"] (spProbed w (He.ga K "Profile") (He.ga K "InvalidStates")) := ok_probed F_probed GIPb F_is_probe.kp g_is_probe b_is_probe GT F_told_of.kp g_told_of b_told_of Es GIS b_is cl pO GO b_out pR GR b_rds pN GN b_nms
  have GPt : FnOk P w K mg base (L2.CX P w) 6 _ fd_parting ["one", "other"] (spPt w (He.ga K "Profile") (He.ga K "InvalidProfile")) := ok_pt F_parting GPO F_probes_of.kp g_probes_of b_probes_of GT F_told_of.kp g_told_of b_told_of Er GIPI b_ip cl pO GO b_out pR GR b_rds pN GN b_nms (He.free_ok X G (S.at_ 31 (f := freeB "list")))
  exact ok_law77 F_law rfl TB F_l_source g_l_source b_l_source F_l_draw g_l_draw b_l_draw F_l_pick g_l_pick b_l_pick F_l_levels g_l_levels b_l_levels F_l_shuffled g_l_shuffled b_l_shuffled F_l_word_list g_l_word_list b_l_word_list F_l_drawn_profile g_l_drawn_profile b_l_drawn_profile F_l_near g_l_near b_l_near F_l_rank g_l_rank b_l_rank
    F_l_is_low g_l_is_low b_l_is_low F_l_can g_l_can b_l_can F_l_probes g_l_probes b_l_probes F_l_no_probes g_l_no_probes b_l_no_probes F_l_wrong g_l_wrong b_l_wrong MK gC GI b_in GPb F_probed.kp g_probed b_probed GPt F_parting.kp g_parting b_parting
    ⟨Es.gC, Es.ox.xc, Es.xf, Es.no, Es.kit⟩ ⟨Er.gC, Er.ox.xc, Er.xf, Er.no, Er.kit⟩ (of_decide_eq_true (S.at_ 54 (f := exmB "InvalidStates" "InvalidStates" true))) (of_decide_eq_true (S.at_ 55 (f := exmB "InvalidProfile" "InvalidStates" false))) (of_decide_eq_true (S.at_ 56 (f := exmB "InvalidProfile" "InvalidProfile" true))) BR BJ
theorem walk77 {q : Program} {loose : List Str} {d : DefRec} (hdf : d.params.defaults = []) (hn : d.name = ("law" : Str)) :
    PySem.W.WalkO q loose (PySem.W.XL q []) (hookY 4 seeds77 fb77 fn77).says PySem.Challenge.rw_surelyset_k77_probes.row.toRowW d [] (fun f vs => PySem.call f vs) := by
  refine _root_.Att.attach_call (n := 63) rfl hdf fun w s₀ s₁ mg mb fa o pm cd doc a vs ns G Y ho hd hcd hmg hobj hints hlen hg => ?_
  obtain ⟨K, KX, S, LT⟩ := Y
  rw [hn] at hmg
  obtain ⟨fd, hb, hF⟩ := facts77 (P := PySem.Challenge.rw_surelyset_k77_probes.prog) (w := w) KX G.T.g hmg S
  exact told_tab (by decide) hF hb KX G.T.g G.T.b G.T.builtins G.T.nolimit hg hobj hints hlen LT.empty LT.out LT.hd G.T.bmain
end KF
end L2
end
/-! ### PFin77 -/
section
set_option maxHeartbeats 0
open PySem PySem.W PySem.Calls PyProof.Rows
theorem PySem.Challenge.cw_surelyset_k77_probes_holds : PySem.Challenge.rw_surelyset_k77_probes.Holds := by
  w_on; o_law
  refine HandSHeadRun.head_any (r := L2.KF.R77) (q := L2.KF.q77) (H := L2.KH.hookY 4 L2.KF.seeds77 L2.KF.fb77 L2.KF.fn77) (ob := L2.KF.ob77) (M := 12000) (loose := L2.KF.names77) (d := HandSHeadRun.topDef L2.KF.R77.prog 48) (kwd := []) L2.KF.ob77_eq
    (by kernel_rfl) (fun s => by kernel_rfl) L2.KF.run77 (by kernel_rfl) (by kernel_rfl) (by kernel_rfl) (by rfl) (by first | assumption | decide +kernel) (by decide +kernel) ⟨rfl, rfl, rfl, rfl, rfl, by decide +kernel⟩ ?hw ?hc
  case hw => w_witness2
  case hc => exact L2.KF.walk77 (by kernel_rfl) (by kernel_rfl)
end
