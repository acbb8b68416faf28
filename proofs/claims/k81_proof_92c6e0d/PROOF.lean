import PyProof.Rows.All
import Wide.All
import OpenK.AllK
import Wide.FinOn
import PySem.Challenge.RW_surelyset_k81_profiles_refused
import HandS.ForMost
import HandS.ExcInit
import HandS.MakeKw
import HandS.Defaults
import HandS.ExcIs
import KE.KExcInit
import KE.KeyNested
import KE.KDictCopyH
import KE.KDictPairs
import KE.KDictWalk
import HandS.Walk
import HandS.Conv
import HandS.ListItems
import HandS.DictComp
import PyProof.ReprRoads
import HandS.IsInst
import HandS.WordsExc
import HandS.RevRange
import PyProof.ReprLen
import PyProof.StrOps2
import HandS.Text
import HandS.ReplaceLit
import HandS.ReplaceList
import HandS.Finally
import KE.KDictItemsList
import KE.KEqDict
import HandS.Ends
import HandS.EndBits
import HandS.Property
import HandS.Style
import HandS.ExcField
import HandS.Head0
import HandS.Head1
import HandS.Head2
import HandS.HeadEnd
import HandS.HeadHook1
import HandS.HeadHook2
import HandS.Set
import HandS.SetFor
import HandS.TupSets
import PyProof.SeqIndex
import PyProof.Rows.SetFrom
import KE.SortData
import KE.SortLaws
set_option Elab.async false
set_option linter.all false
set_option maxRecDepth 100000
set_option maxHeartbeats 4000000
/-! ### KA -/
section
namespace PySem
namespace KA
open PySem.W
/-! ## own exception classes over any built-in base: what is asked of the base -/
structure EB (nB newId iB initId : String) (bm : List Value) : Prop where
  neu : ∃ iN bmN, ExcBaseFacts nB newId iN bmN
  hasN : bm.contains (.type nB) = true
  noA : bm.contains (.type "AttributeError") = false
  noN : bm.contains (.type "NameError") = false
  hasI : bm.contains (.type iB) = true
  hasX : bm.contains (.type "BaseException") = true
  iKind : builtinKind initId = some .slot
  iSplit : splitId initId = some (iB, "__init__")
  iRow : Manifest.signature? initId = some ⟨.positional, "*", iB, .self, [⟨"args", .varPos, false⟩]⟩
  iStar : (iB != "*") = true
  iEntry : entryFor table initId = some Builtin.«BaseException.__init__»
  iPlain : plainId initId = true
section
variable {prog : Program} {w : World} {M : Model} {A : Around} {E : Value → Shared → Prop} {R : Result → Shared → Prop} {h : Heap} {g : Array GenState} {d : Drawn} {t : Nat} {os : OsState}
variable {kw : List (Str × Value)} {nm q : Str} {C N : Addr} {bs bc bm : List Value} {hdct : Bool} {sn : List Str} {sub : List Value} {ab : Bool} {col : Option Bool} {dd : Option Addr} {k0 k1 k2 k3 k5 : Option Value} {nB newId iB initId : String}
theorem chkNew (hk : kw = [] ∨ ∃ kn kv, kw = [(kn, kv)]) (F : EB nB newId iB initId bm) (same : ∀ T : String, bc.contains (.type T) = bm.contains (.type T))
    {more : List Value} {Q : Unit → Shared → Prop} (cl : h.get? C = some (excClassObj nm q C N bs bc hdct sn sub ab col dd k0 k1 k2 k3 k5 newId)) (z : Q () ⟨h, g, d, t, os⟩) :
    wpAny M A (checkBuiltinCall newId ⟨.ref C :: more, kw⟩) Q E ⟨h, g, d, t, os⟩ := by
  obtain ⟨iN, bmN, G⟩ := F.neu
  have own : (Value.ref C :: bc).contains (.type nB) = true := by
    rw [List.contains_cons, same, F.hasN, Bool.or_true]
  have st := G.noStar
  rcases hk with rfl | ⟨kn, kv, rfl⟩
  all_goals
   simp only [checkBuiltinCall, G.newKind, G.newSplit, G.newRow]
   repeat (first | refine wpAny_loadPart_at cl ?_ | (refine wpAny_isSubtype_exc cl ?_; rw [own]) | refine wpAny_staticBase_exc cl ?_ | refine wpAny_madeBy_exc cl ?_ | simp only [bne_self_eq_false, Bool.false_eq_true, if_false] | wp_step)
   exact z
theorem chkInit (F : EB nB newId iB initId bm) (same : ∀ T : String, bc.contains (.type T) = bm.contains (.type T)) {x : Addr} {ox : Obj}
    {more : List Value} {Q : Unit → Shared → Prop} (cl : h.get? C = some (excClassObj nm q C N bs bc hdct sn sub ab col dd k0 k1 k2 k3 k5 newId)) (hx : h.get? x = some ox) (hc : ox.cls = .ref C) (z : Q () ⟨h, g, d, t, os⟩) :
    wpAny M A (checkBuiltinCall initId ⟨.ref x :: more, []⟩) Q E ⟨h, g, d, t, os⟩ := by
  have own : (Value.ref C :: bc).contains (.type iB) = true := by
    rw [List.contains_cons, same, F.hasI, Bool.or_true]
  have st := F.iStar
  simp only [checkBuiltinCall, F.iKind, F.iSplit, F.iRow]
  repeat (first | (with_reducible refine wpAny_loadPart_at hx ?_; rw [hc]) | with_reducible refine wpAny_loadPart_at cl ?_ | (with_reducible refine wpAny_isSubtype_exc cl ?_; rw [own]) | wp_step)
  refine wpAny_onRaise ?_
  rw [show ∀ (u v : String) (n : Nat), Bind.check ⟨.positional, "*", iB, .self, [⟨"args", .varPos, false⟩]⟩ u v n (List.map (fun y => y.fst) ({ pos := Value.ref x :: more } : Args).kw) = pure () from
    fun u v n => check_star_args _ _ _ _ _ _]
  exact wpAny_pure z
theorem newAt (F : EB nB newId iB initId bm) (same : ∀ T : String, bc.contains (.type T) = bm.contains (.type T)) {more : List Value}
    (cl : h.get? C = some (excClassObj nm q C N bs bc hdct sn sub ab col dd k0 k1 k2 k3 k5 newId)) (len : more.length ≤ sizeLine)
    (z : R (.ok (.ret (.ref (h.objs.size + 1)))) ⟨(h.push { cls := .type "tuple", data := .seq more.toArray }).push { cls := .ref C, data := .fields #[.ref h.objs.size, .none, .none, .none, .bool false, .none] }, g, d, t, os⟩) :
    codeAny (model prog w) A (.builtin newId ⟨.ref C :: more, kw⟩) R ⟨h, g, d, t, os⟩ := by
  obtain ⟨iN, bmN, G⟩ := F.neu
  have he := G.ends
  have c1 : (Value.ref C :: bc).contains (.type nB) = true := by
    rw [List.contains_cons, same, F.hasN, Bool.or_true]
  have c2 : (Value.ref C :: bc).contains (.type "AttributeError") = false := by
    rw [List.contains_cons, same, F.noA]
    rfl
  have c3 : (Value.ref C :: bc).contains (.type "NameError") = false := by
    rw [List.contains_cons, same, F.noN]
    rfl
  refine codeAny_builtinAt G.entry ?_
  unfold Builtin.«BaseException.__new__»
  refine wpAt_bind ?_
  show wpAt _ _ _ (stack >>= _) _ _ _
  refine wpAt_bind (wpAt_stack fun _ _ => wpAt_of_wpAny ?_)
  wp_walk
  refine wpAt_of_wpAny ?_
  rw [G.owner]
  repeat (first | with_reducible refine wpAny_madeHere_exc G.canon cl ?_ | with_reducible refine wpAny_loadPart_at cl ?_ | (with_reducible refine wpAny_isSubtype_exc cl ?_; first | rw [c1] | rw [c2] | rw [c3]) | wp_step)
  show R _ _
  rw [Heap.size_push]
  exact z
theorem typeCall (hk : kw = [] ∨ ∃ kn kv, kw = [(kn, kv)]) (F : EB nB newId iB initId bm) (same : ∀ T : String, bc.contains (.type T) = bm.contains (.type T)) {more : List Value} {fI : Addr} {Q : Fin → Shared → Prop}
    (cl : h.get? C = some (excClassObj nm q C N bs bc hdct sn sub ab col dd k0 k1 k2 k3 k5 newId)) (len : more.length ≤ sizeLine)
    (hi : Looks (model prog w) h (typeLookup (.ref C) "__init__") (some (.ref fI))) (hb : ∀ self, Looks (model prog w) h (bindSpecial (.ref fI) self) (.ref fI, [self]))
    (z : codeAny (model prog w) A (.call (.ref fI) ⟨.ref (h.objs.size + 1) :: more, kw⟩)
      (fun r s' => match r with
        | .ok (.ret v) => v = .none ∧ Q (.done (.ret (.ref (h.objs.size + 1)))) s'
        | .ok _ => False
        | .error e => E e s')
      ⟨(h.push (kdv_tup more)).push (PySem.HandSPX.excO C h.objs.size), g, d, t, os⟩) :
    wpAny (model prog w) A (Builtin.«type.__call__» ⟨.ref C :: more, kw⟩) Q E ⟨h, g, d, t, os⟩ := by
  obtain ⟨iN, bmN, G⟩ := F.neu
  repeat (first | with_reducible refine wpAny_loadPart_at cl ?_ | with_reducible refine wpAny_madeBy_exc cl ?_ | wp_step)
  refine codeAny_call_builtin_code (Code.quiet_builtin _ G.quiet) (chkNew hk F same cl ?_)
  refine newAt F same cl len ?_
  show wpAny _ _ _ _ _ _
  have kp : ∀ b o, h.get? b = some o → ((h.push (kdv_tup more)).push (PySem.HandSPX.excO C h.objs.size)).get? b = some o := fun _ _ e => Heap.get?_push_of_some _ (Heap.get?_push_of_some _ e)
  have cl2 := kp _ _ cl
  have hx : ((h.push (kdv_tup more)).push (PySem.HandSPX.excO C h.objs.size)).get? (h.objs.size + 1) = some (PySem.HandSPX.excO C h.objs.size) := by heap_get
  have own : (Value.ref C :: bc).contains (.ref C) = true := by simp
  have hi2 := hi.keeps kp
  have hb2 := (hb (.ref (h.objs.size + 1))).keeps kp
  unfold isInstance
  repeat (first | with_reducible refine wpAny_loadPart_at hx ?_ | (with_reducible refine wpAny_isSubtype_exc cl2 ?_; rw [own]) | wp_step)
  show wpAny _ _ (typeLookup (.ref C) _) _ _ _
  refine hi2.at (wpAny_holding (wpAny_bind (hb2.at ?_)))
  refine wpAny_bind (wpAny_call (codeAny_mono z fun r s' y => ?_))
  rcases r with e | (v | _ | _ | _) <;> first | exact y | exact y.elim | skip
  obtain ⟨rfl, y⟩ := y
  first
    | exact wpAny_pure (wpAny_pure y)
    | (wp_walk; exact y)
theorem callOwn (hk : kw = [] ∨ ∃ kn kv, kw = [(kn, kv)]) (F : EB nB newId iB initId bm) (same : ∀ T : String, bc.contains (.type T) = bm.contains (.type T)) {more : List Value} {fI : Addr}
    (cl : h.get? C = some (excClassObj nm q C N bs bc hdct sn sub ab col dd k0 k1 k2 k3 k5 newId)) (len : more.length ≤ sizeLine)
    (hi : Looks (model prog w) h (typeLookup (.ref C) "__init__") (some (.ref fI))) (hb : ∀ self, Looks (model prog w) h (bindSpecial (.ref fI) self) (.ref fI, [self]))
    (z : codeAny (model prog w) (A.under (.builtin "type.__call__" ⟨.ref C :: more, kw⟩)) (.call (.ref fI) ⟨.ref (h.objs.size + 1) :: more, kw⟩) (InitBack (h.objs.size + 1) R)
      ⟨(h.push (kdv_tup more)).push (PySem.HandSPX.excO C h.objs.size), g, d, t, os⟩) :
    codeAny (model prog w) A (.call (.ref C) ⟨more, kw⟩) R ⟨h, g, d, t, os⟩ := by
  have f1 := tc_lookup
  have f2 := tc_bind (.ref C)
  have ty : (⟨h, g, d, t, os⟩ : Shared).TypeIs (.ref C) "type" := ⟨_, cl, rfl⟩
  refine codeAny_of_tree ?_
  show wpAny _ _ (callAny (.ref C) _) _ _ _
  repeat (any_goals (first | assumption | with_reducible refine wpAny_loadPart_at cl ?_ | wp_step))
  refine ⟨rfl, ?_⟩
  refine codeAny_call_builtin_at (Code.quiet_builtin _ (by decide +kernel)) entry_typeCall (wpAny_check_type_call_sub cl (typeCall hk F same cl len hi hb ?_))
  refine codeAny_mono z fun r s' y => ?_
  rcases r with e | (v | _ | _ | _) <;> exact y
theorem initAt (F : EB nB newId iB initId bm) (same : ∀ T : String, bc.contains (.type T) = bm.contains (.type T)) {x t0 : Addr} {more : List Value}
    (cl : h.get? C = some (excClassObj nm q C N bs bc hdct sn sub ab col dd k0 k1 k2 k3 k5 newId)) (hx : h.get? x = some (PySem.HandSPX.excO C t0)) (len : more.length ≤ sizeLine)
    (z : ∀ h' t1, (∀ b o, b ≠ x → h.get? b = some o → h'.get? b = some o) → h'.get? x = some (PySem.HandSPX.excO C t1) → R (.ok (.ret .none)) ⟨h', g, d, t, os⟩) :
    codeAny (model prog w) A (.call (.builtin initId) ⟨.ref x :: more, []⟩) R ⟨h, g, d, t, os⟩ := by
  refine codeAny_call_builtin F.iPlain F.iEntry (chkInit F same cl hx rfl ?_)
  wp_walk
  refine z _ h.objs.size (fun b o ne ho => ?_) ?_
  · rw [Heap.get?_update_other _ _ (Ne.symm ne)]
    exact Heap.get?_push_of_some _ ho
  · rw [Heap.get?_update_self _ (Heap.get?_push_of_some _ hx) rfl]
    rfl
end
end KA
end PySem
end
/-! ### KB -/
section
namespace PySem
namespace KA
open PySem.W PyProof.Rows
theorem storeKey : StoreFacts "KeyError" [.type "KeyError", .type "LookupError", .type "Exception", .type "BaseException", .type "object"] "object.__setattr__" "object" where
  mro := by kernel_rfl
  slot := .of (owner := "object") (n := "__setattr__") (by
      rw [typeLookup_type, builtinLookup_eq_fast]
      kernel_rfl) (by decide +kernel) (by decide +kernel) (by decide +kernel)
    (by first
        | exact .inl (by decide +kernel)
        | exact .inr (by decide +kernel)) (by
      rw [isSubtype_type]
      kernel_rfl)
  entry := F.store_ValueError.entry
  kind := F.store_ValueError.kind
  split := F.store_ValueError.split
  hasOwner := by decide +kernel
  args := F.store_ValueError.args
  passes := fun _ => by kernel_rfl
abbrev vTail : List Value := [.type "ValueError", .type "Exception", .type "BaseException", .type "object"]
abbrev kTail : List Value := [.type "KeyError", .type "LookupError", .type "Exception", .type "BaseException", .type "object"]
abbrev iTail : List Value := [.type "IndexError", .type "LookupError", .type "Exception", .type "BaseException", .type "object"]
abbrev oTail : List Value := [.type "OverflowError", .type "ArithmeticError", .type "Exception", .type "BaseException", .type "object"]
abbrev rTail : List Value := [.type "RuntimeError", .type "Exception", .type "BaseException", .type "object"]
theorem EB.of {B newId initId : String} {bm : List Value} (F : ExcBaseFacts B newId initId bm) : EB B newId B initId bm where
  neu := ⟨_, _, F⟩
  hasN := F.hasB
  noA := F.noAttr
  noN := F.noName
  hasI := F.hasB
  hasX := F.hasBase
  iKind := F.initKind
  iSplit := F.initSplit
  iRow := F.initRow
  iStar := F.noStar
  iEntry := F.initEntry
  iPlain := F.init.plain
theorem ebV : EB "ValueError" "ValueError.__new__" "ValueError" "ValueError.__init__" vTail := .of F.excBase_ValueError
theorem ebI : EB "IndexError" "IndexError.__new__" "IndexError" "IndexError.__init__" iTail := .of F.excBase_IndexError
theorem ebO : EB "OverflowError" "OverflowError.__new__" "OverflowError" "OverflowError.__init__" oTail := .of F.excBase_OverflowError
theorem ebR : EB "RuntimeError" "RuntimeError.__new__" "RuntimeError" "RuntimeError.__init__" rTail := .of F.excBase_RuntimeError
theorem ebK : EB "LookupError" "LookupError.__new__" "KeyError" "KeyError.__init__" kTail where
  neu := ⟨_, _, F.excBase_LookupError⟩
  hasN := by decide +kernel
  noA := by decide +kernel
  noN := by decide +kernel
  hasI := by decide +kernel
  hasX := by decide +kernel
  iKind := excClass_KeyError.initKind
  iSplit := excClass_KeyError.initSplit
  iRow := excClass_KeyError.initSig
  iStar := excClass_KeyError.notStar
  iEntry := excClass_KeyError.initEntry
  iPlain := excClass_KeyError.init.plain
theorem stR : StoreFacts "RuntimeError" rTail "object.__setattr__" "object" := F.store_RuntimeError
theorem stV : StoreFacts "ValueError" vTail "object.__setattr__" "object" := F.store_ValueError
theorem stI : StoreFacts "IndexError" iTail "object.__setattr__" "object" := F.store_IndexError
theorem stO : StoreFacts "OverflowError" oTail "object.__setattr__" "object" := F.store_OverflowError

/-! ### isinstance of such an exception, with its own dict or without -/
section
open Builtin Builtin.ObjectAttr
variable {prog : Program} {w : World} {A : Around} {E : Value → Shared → Prop} {s : Shared} {K : Frag} {x D : Addr} {ox : Obj} {od : Option Obj}
theorem dataFound {C : Addr} {name : Str} {a g : Value} (hc : (clsIn K C).isSome = true) (ha : findIn K (.ref C) name = some (some a)) (hg : specialIn K a "__get__" = some (some g)) (ht : takesIn K a = some true) :
    findObj K C od name = some (.bind g a) := by
  obtain ⟨cd, hcd⟩ := Option.isSome_iff_exists.mp hc
  simp [findObj, hcd, ha, hg, ht]
theorem classOf {Q : Option Value → Shared → Prop} (C : L2.ExcC K D) (X : K.In s.heap) (I : InstAt s.heap x ox D od) (z : Q (some (.ref D)) { s with toks := s.toks + 1 }) :
    wpAny (model prog w) A (getAttr? (.ref x) "__class__") Q E s := by
  have fnd : findObj K D od "__class__" = some (.bind (.builtin "getset_descriptor.__get__") (.builtin "object.__class__")) := by
    refine dataFound ?_ C.ha C.hn C.ht
    obtain ⟨cd, hc, _⟩ := any_some C.hd
    rw [hc]
    rfl
  obtain ⟨hp, g, d, t, os⟩ := s
  have a0 := I.type (M := model prog w)
  have a1 := looks_findIn (M := model prog w) X C.hg
  have a2 := looks_findIn (M := model prog w) X C.hk
  have a3 := looks_find (M := model prog w) X I fnd
  have isB : Looks (model prog w) hp (isInstance (.ref x) (.type "BaseException")) true := a0.andThen (looks_subIn X C.hs)
  have e2 : (Value.builtin "BaseException.__getattribute__" == Value.builtin "object.__getattribute__") = false := by decide +kernel
  have e1 : (onTheHeap (Value.ref D) && Value.builtin "BaseException.__getattribute__" == Value.builtin "object.__getattribute__") = false := by
    rw [e2]
    rfl
  have e0 : (false && onTheHeap (Value.builtin "BaseException.__getattribute__")) = false := rfl
  unfold getAttr? getAttrBy? getAttrBy
  refine wpAny_bind (wpAny_mkText (wpAny_bind (wpAny_attempt (wpAny_holding (wpAny_bind (a0.at (wpAny_bind (a1.at ?_))))))))
  show wpAny _ _ (if (onTheHeap (Value.ref D) && Value.builtin "BaseException.__getattribute__" == Value.builtin "object.__getattribute__") = true then _ else _) _ _ _
  rw [e1, if_neg Bool.false_ne_true]
  unfold getAttrByItsOwn hookBefore
  refine wpAny_bind ?_
  rw [if_pos (show onTheHeap (Value.ref D) = true from rfl)]
  refine a2.at (wpAny_bind (wpAny_attempt (wpAny_holding ?_)))
  unfold callGetattribute
  rw [e0, if_neg Bool.false_ne_true]
  unfold boundAndCalled
  rw [F.excAttr_ValueError.ga.bind (.ref x)]
  refine wpAny_bind (wpAny_pure ?_)
  show wpAny _ _ (call (.builtin "BaseException.__getattribute__") [.ref x, .str "__class__" t]) _ _ _
  refine wpAny_call (codeAny_call_builtin F.excAttr_ValueError.ga.plain F.entry_bexc_ga ?_)
  refine @check_slot (model prog w) _ _ ⟨hp, g, d, t + 1, os⟩ "BaseException.__getattribute__" "BaseException" "__getattribute__" (.ref x) [.str "__class__" t] [] _ (by decide +kernel) (by decide +kernel) isB (F.args_bexc_ga (.ref x) (.str "__class__" t)) ?_
  unfold Builtin.«object.__getattribute__»
  refine wpAny_bind (wpAny_of_eq (a := ((Value.ref x : Value), [Value.str "__class__" t])) (by first
    | rfl
    | (simp only [slotArgs]; rfl)) ?_)
  refine wpAny_bind (wpAny_pure (wpAny_bind (a0.at (wpAny_bind (a3.at ?_)))))
  show wpAny _ _ (holding [Value.builtin "object.__class__"] (call (.builtin "getset_descriptor.__get__") [.builtin "object.__class__", .ref x, .ref D]) >>= ret) _ _ _
  refine wpAny_bind (wpAny_holding (wpAny_call (class_get (s := ⟨hp, g, d, t + 1, os⟩) (ox := ox) (od := od) X I C.hm ?_)))
  refine wpAny_pure ?_
  show wpAny _ _ (handedOut (.ref D)) _ _ _
  rw [handedOut_of (v := .ref D) rfl]
  first
    | exact wpAny_pure (wpAny_pure z)
    | exact wpAny_pure z
    | exact wpAny_pure (wpAny_bind (wpAny_pure (wpAny_pure z)))
theorem kitE (C : L2.ExcC K D) : KitX K (.ref x) (.ref D) (fun h => InstAt h x ox D od) where
  ty := fun _ _ _ I => I.type
  it := fun _ _ X _ => by
    obtain ⟨cd, hc, _⟩ := any_some C.hd
    unfold clsIn at hc
    split at hc
    · rename_i c1 d1 cd1 sl1 lk
      intro A1 Q1 E1 s1 kp z
      unfold isType loadHead
      exact wpAny_bind (wpAny_loadPart (kp _ _ (X _ _ lk)) (wpAny_pure z))
    · cases hc
  ne := fun _ tp _ _ _ _ X htp => by
    obtain ⟨cd, hc, _⟩ := any_some C.hd
    cases hq : (Value.ref D == Value.ref tp) with
    | false => rfl
    | true =>
      obtain rfl : D = tp := Value.ref.inj (beq_iff_eq.mp hq)
      unfold clsIn at hc
      split at hc
      · rename_i c1 d1 cd1 sl1 lk
        exact nomatch (X _ _ lk).symm.trans htp
      · cases hc
  ca := fun X I z => classOf C X I z
end
end KA
end PySem
end
/-! ### KC -/
section
namespace L2
namespace KC
open PySem PySem.Spec PyProof.Rows PySem.KA Builtin Builtin.ObjectAttr
/-! ## own exceptions in the hand layer -/
/-- what is asked of an own exception class -/
structure OX (K : PySem.W.Frag) (C : Addr) (newId initId : String) (bm : List Value) : Prop where
  eb : ∃ nB iB, EB nB newId iB initId bm
  ins : PySem.W.excInitIn K C bm newId = true
  ov : PySem.W.excOver K C bm = true
  sa : PySem.W.findIn K (.ref C) "__setattr__" = some (some (.builtin "object.__setattr__"))
  xc : ExcC K C
  kp : PySem.W.keepIn K (.ref C) = true
structure OXS (K : PySem.W.Frag) (C : Addr) (newId initId : String) (bm : List Value) (f : Str) : Prop extends OX K C newId initId bm where
  st : ∃ Bx, StoreFacts Bx bm "object.__setattr__" "object"
  no : PySem.W.findIn K (.ref C) f = some none
section
variable {X : Cx} {pins : List (Addr × Obj)} {σ : St} {H : Hp} {s : Shared} {a C dx : Addr} {f : Str} {y : V} {u : Value} {fs : List (Str × V)} {E : Value → Shared → Prop} {A : Around} {newId initId : String} {bm : List Value}
theorem inv_dict (I : Inv X pins σ H s) (e : H a = some (exo a C none)) {h' : Heap} {tk dx : Nat} {t1 : Addr} {m : Str → Option Value} (kp : ∀ b o, b ≠ a → s.heap.get? b = some o → h'.get? b = some o) (dn : s.heap.objs.size ≤ dx) (ne : dx ≠ a)
    (hx : h'.get? a = some { cls := .ref C, dict := some dx, data := .fields #[.ref t1, .none, .none, .none, .bool false, .none] }) (hn : h'.Ns1 dx m) (rel : ∀ g, RelO (fs.lookup g) (m g)) :
    Inv X pins σ (upd (upd H dx (exd dx fs)) a (exo a C (some dx))) { s with heap := h', toks := tk } := by
  have free : H dx = none := I.hok.fresh dn
  have apart : ∀ {b : Addr} {o : Obj}, s.heap.get? b = some o → b ≠ dx := fun z => Nat.ne_of_lt (Nat.lt_of_lt_of_le (Heap.lt_size z) dn)
  have na : ∀ {b : Addr}, H b = none → b ≠ a := fun z w => by
    rw [w, e] at z
    cases z
  have U : Un X.fs [] H (upd (upd H dx (exd dx fs)) a (exo a C (some dx))) s.heap h' := by
    refine ⟨?_, ?_, ?_, ?_, ?_, ?_, ?_⟩
    · exact fun b o z n _ _ => kp b o (na n) z
    · exact fun b o z n _ _ => ⟨o.slots, kp b o (na n) z⟩
    · intro b o z n _
      rw [upd_ne (na n), upd_ne (apart z)]
      exact n
    · intro b o z _
      by_cases hb : b = a
      · exact ⟨_, hb ▸ hx⟩
      · exact ⟨o, kp b o hb z⟩
    · intro b xs z
      rw [upd_ne (at_ne e z exo_tup), upd_ne (ne_of_none z free)]
      exact z
    · intro b o v z
      rw [upd_ne (at_ne e z exo_frz), upd_ne (ne_of_none z free)]
      exact z
    · intro b ps z
      refine ⟨#[], ?_⟩
      rw [upd_ne (at_ne e z exo_tbl), upd_ne (ne_of_none z free), z]
      simp
  refine I.un (t' := tk) U fun b o z => ?_
  by_cases hb : b = a
  · subst hb
    rw [upd_same] at z
    cases z
    exact exo_ok hx
  rw [upd_ne hb] at z
  by_cases hd : b = dx
  · subst hd
    rw [upd_same] at z
    cases z
    exact exd_ok hn rel
  rw [upd_ne hd] at z
  refine (I.hok b o z).stay (fun c v hc r => kp c v ?_ r) (fun c hc => ?_) (fun c xs hc => ?_)
  · rcases hc with hc | hc
    · exact hc ▸ hb
    · exact at_ne e hc exo_own
  · rw [upd_ne (at_ne e hc exo_own), upd_ne (ne_of_none hc free)]
    exact hc
  · rw [upd_ne (at_ne e hc exo_tup), upd_ne (ne_of_none hc free)]
    exact hc
/-- self.f = y, the first one -/
theorem ostNew {Q : Unit → Shared → Prop} (T : OXS X.K C newId initId bm f) (I : Inv X pins σ H s) (e : H a = some (exo a C none)) (ry : RelV y u)
    (z : ∀ dx s', H dx = none → dx ≠ a → Inv X pins σ (upd (upd H dx (exd dx [(f, y)])) a (exo a C (some dx))) s' → Q () s') : wpAny (model X.prog X.w) A (setAttr (.ref a) f u) Q E s := by
  obtain ⟨Bx, SF⟩ := T.st
  obtain ⟨t1, ho⟩ := exo_at I.hok e
  obtain ⟨hp, g, d, t, os⟩ := s
  have J : PySem.W.InstAt hp a { cls := .ref C, dict := none, data := .fields #[.ref t1, .none, .none, .none, .bool false, .none] } C none := ⟨ho, rfl, rfl, trivial⟩
  have tk : PySem.W.takerIn X.K C f = some none := by
    unfold PySem.W.takerIn
    rw [T.no]
    rfl
  refine PySem.W.set_plain I.kIn J T.sa ?_
  refine PySem.W.osa_openX (s := ⟨hp, g, d, t + 1, os⟩) SF I.kIn J T.ov tk fun b => ?_
  obtain ⟨cd, hc, hd⟩ := PySem.W.any_some T.xc.hd
  have hcl : PySem.W.Looks (model X.prog X.w) hp (classData C) cd := PySem.W.looks_clsIn I.kIn hc
  have hxs : a ≠ hp.objs.size := Nat.ne_of_lt (Heap.lt_size ho)
  obtain ⟨nm, bs, mro, ns, qn, hd', sn, sb, ab, col, del⟩ := cd
  dsimp only at hd
  subst hd
  unfold storeInOwnDict ownDictForStores
  repeat (first | with_reducible refine PySem.HandSPX.store_in_new ?_ ?_ | with_reducible refine wpAny_loadPart_at ho ?_ | with_reducible refine hcl.at ?_ | wp_step)
  · exact ⟨_, #[], _, (Heap.get?_update_ne _ _ _ _ hxs.symm).trans (Heap.get?_push_at rfl rfl), rfl, fun e he => absurd he (by simp), fun _ => rfl⟩
  · intro h' tk' hn' hs
    have hx1 : (hp.push { cls := .type "dict", data := .dict #[] }).get? a = some { cls := .ref C, data := .fields #[.ref t1, .none, .none, .none, .bool false, .none] } := Heap.get?_push_of_some _ ho
    refine z hp.objs.size _ (I.hok.fresh (Nat.le_refl _)) hxs.symm (inv_dict (t1 := t1) (s := ⟨hp, g, d, t, os⟩) I e (fun b o hb q => ?_) (Nat.le_refl _) hxs.symm ?_ hn' (relO_put (fs := []) ry fun _ => trivial))
    · exact (hs.2 b (Nat.ne_of_lt (Heap.lt_size q))).trans ((Heap.get?_update_ne _ _ _ _ hb).trans (Heap.get?_push_of_some _ q))
    · exact (hs.2 a hxs).trans (Heap.get?_update_self _ hx1 rfl)
/-- B.__init__(self, ..) -/
theorem oinit {us : List Value} {Q : Value → Shared → Prop} (T : OX X.K C newId initId bm) (I : Inv X pins σ H s) (e : H a = some (exo a C none)) (len : us.length ≤ sizeLine) (z : ∀ s', Inv X pins σ H s' → Q .none s') :
    wpAny (model X.prog X.w) A (call (.builtin initId) (.ref a :: us)) Q E s := by
  obtain ⟨nB, iB, F⟩ := T.eb
  obtain ⟨t1, ho⟩ := exo_at I.hok e
  obtain ⟨hp, g, d, t, os⟩ := s
  obtain ⟨nm, N, qn, bs, bc, hdct, sn, sub, ab, col, dd, k0, k1, k2, k3, k5, cl, same⟩ := PySem.W.excInit_of I.kIn T.ins
  refine wpAny_call (initAt F same cl ho len fun h' t2 kp hx => ?_)
  have J := I.write (t' := t) (x := a) (e := a) (o := exo a C none) (by rw [e]; exact trivial) (.inl rfl) kp ⟨_, hx⟩ (exo_ok hx)
  have eu : upd H a (exo a C none) = H := by
    funext b
    by_cases hb : b = a
    · rw [hb, upd_same, e]
    · rw [upd_ne hb]
  rw [eu] at J
  exact z _ J
/-- C(..) -/
theorem omake {CX : CXT} {k : Nat} {fI : Addr} {fd : FuncData} {ps : List Str} {sp : Sp} {Q : VK} {us ws : List Value} {kw : List (Str × Value)} {vs : List V} {EX : XK} (T : OX X.K C newId initId bm)
    (iC : PySem.W.findIn X.K (.ref C) "__init__" = some (some (.ref fI))) (tI : PySem.W.typeIn X.K (.ref fI) = some (.type "function")) (G : FnOk X.prog X.w X.K X.mg X.base CX k fI fd ps sp) (hr : Room (k + 1) X.A) (hx : Passes CX X EX)
    (I : Inv X pins σ H s) (len : us.length ≤ 1000) (hk : kw = [] ∨ ∃ kn kv, kw = [(kn, kv)])
    (bt : ∀ s', X.K.In s'.heap → ∀ x : Addr, BindsTo s' fd ⟨.ref x :: us, kw⟩ (ps.zip (.ref x :: ws))) (rv : Vals vs ws)
    (z : ∀ x, H x = none → sp (.ref x :: vs) (upd H x (exo x C none)) (fun v H2 => v = .non ∧ Q (.ref x) H2) EX) :
    wpAny (model X.prog X.w) X.A (call (.ref C) us kw) (EP X pins σ Q) X.xe s := by
  obtain ⟨nB, iB, F⟩ := T.eb
  obtain ⟨nm, N, qn, bs, bc, hdct, sn, sub, ab, col, dd, k0, k1, k2, k3, k5, cl, same⟩ := PySem.W.excInit_of I.kIn T.ins
  obtain ⟨hp, g, dr, tk, os⟩ := s
  have ge : hp.objs.size ≤ hp.objs.size + 1 := Nat.le_succ _
  have hq := z (hp.objs.size + 1) (I.hok.fresh ge)
  have kk : ∀ b o, hp.get? b = some o → ((hp.push (PySem.W.kdv_tup us)).push (PySem.HandSPX.excO C hp.objs.size)).get? b = some o := fun _ _ q => Heap.get?_push_of_some _ (Heap.get?_push_of_some _ q)
  have at_ : ((hp.push (PySem.W.kdv_tup us)).push (PySem.HandSPX.excO C hp.objs.size)).get? (hp.objs.size + 1) = some (PySem.HandSPX.excO C hp.objs.size) := by heap_get
  have I2 : Inv X pins σ (upd H (hp.objs.size + 1) (exo (hp.objs.size + 1) C none)) ⟨(hp.push (PySem.W.kdv_tup us)).push (PySem.HandSPX.excO C hp.objs.size), g, dr, tk, os⟩ :=
    I.laid (t' := tk) (a := hp.objs.size + 1) (o := exo (hp.objs.size + 1) C none) kk ge (exo_ok at_)
  have lz : us.length ≤ sizeLine := Nat.le_of_lt (small1000 len)
  refine wpAny_call (callOwn hk F same cl lz (PySem.W.looks_findIn I.kIn iC) (fun self => PySem.W.bind_fn I.kIn self tI)
    (codeAny_mono (G.run _ X.stack _ _ ⟨Value.ref (hp.objs.size + 1) :: us, kw⟩ (Value.ref (hp.objs.size + 1) :: ws) _ _ EX (hr.make C us kw) (I2.env0.make C us kw) (bt _ I2.kIn _) (show Vals (V.ref (hp.objs.size + 1) :: vs) (Value.ref (hp.objs.size + 1) :: ws) from .cons rfl rv) hq) fun r s' y => ?_))
  cases r with
  | error er => exact hx pins σ _ _ er s' I2 y
  | ok fl =>
    cases fl with
    | ret w =>
      obtain ⟨v, H', I3, rw', ev, q3⟩ := I2.after y
      subst ev
      exact ⟨rw', ⟨.ref (hp.objs.size + 1), H', I3, rfl, q3⟩⟩
    | next => exact y.elim
    | brk => exact y.elim
    | cont => exact y.elim
end
/-! ### readings -/
/-- C(e, ..) or C(k = v): a new exception, then __init__ -/
def tMakeX (C : Addr) (sp : Sp) (EX : XK) (t : TA) : TE := fun σ H Q => t σ H fun vs H1 => vs.length ≤ 1000 ∧ ∀ x, H1 x = none → sp (.ref x :: vs) (upd H1 x (exo x C none)) (fun v H2 => v = .non ∧ Q (.ref x) H2) EX
/-- e.f -/
def tXat (K : PySem.W.Frag) (C : Addr) (f : Str) (te : TE) : TE := fun σ H Q => te σ H fun x H1 => ∃ (a dx : Addr) (fs : List (Str × V)) (v : V), x = .ref a ∧ H1 a = some (exo a C (some dx)) ∧ H1 dx = some (exd dx fs) ∧ fs.lookup f = some v ∧ Q v H1
def tInitX (C : Addr) (ta : TA) : TE := fun σ H Q => ta σ H fun vs H1 => ∃ (a : Addr) (ws : List V), vs = .ref a :: ws ∧ ws.length ≤ 1000 ∧ H1 a = some (exo a C none) ∧ Q .non H1
def tSetX (C : Addr) (f : Str) (to te : TE) : TS := fun D σ H => te σ H fun y H1 => to σ H1 fun x H2 => ∃ a : Addr, x = .ref a ∧ H2 a = some (exo a C none) ∧ ∀ dx, H2 dx = none → dx ≠ a → D.nx σ (upd (upd H2 dx (exd dx [(f, y)])) a (exo a C (some dx)))
def rIsX (K : PySem.W.Frag) : List V → Hp → VK → Prop := fun xs H Q => ∃ (a C : Addr) (d : Option Addr) (c : V) (cv : Value) (b : Bool), xs = [.ref a, c] ∧ H a = some (exo a C d) ∧ (∀ dx, d = some dx → ∃ fs, H dx = some (exd dx fs)) ∧ ExcC K C ∧ (∀ u, RelV c u → u = cv) ∧ PySem.W.kitOne K (.ref C) cv = some b ∧ Q (.bl b) H
section
variable {X : Cx} {CX : CXT} {k : Nat} {C fI : Addr} {fd : FuncData} {ps : List Str} {sp : Sp} {EX : XK} {x kn f : Str} {p p' p1 p2 pos kpos : Pos} {o e : Expr} {es : List Expr} {to te : TE} {t : TA} {newId initId : String} {bm : List Value}
theorem peMakeX (T : OX X.K C newId initId bm) (iC : PySem.W.findIn X.K (.ref C) "__init__" = some (some (.ref fI))) (tI : PySem.W.typeIn X.K (.ref fI) = some (.type "function")) (G : FnOk X.prog X.w X.K X.mg X.base CX k fI fd ps sp) (hr : Room (k + 1) X.A)
    (hb : Binds X.K fd ps []) (hx : Passes CX X EX) (hg : Gl X x) (hm : X.mg x = some (.ref C)) (ha : PA X (e :: es) t) (hdb : (x == ("__debug__" : Str)) = false := by decide)
    (he : starEach (e :: es) X.env = (false, eval e X.env) :: starEach es X.env := by rfl) (hpl : (backTo pos (starEach es X.env)).any (·.1) = false := by rfl) :
    PE X (.Call (.Name x p) (e :: es) [] pos) (tMakeX C sp EX t) := by
  refine ⟨fun pins s σ H Q I z => ?_⟩
  refine wpAny_Call_Name_kw (ld_glob I hg hm ?_ hdb)
  refine PySem.W.callWith_K (h₀ := X.base) I.ok.mod.kin T.kp (thn (ha.run pos pins s σ H _ I z) fun us s1 ⟨vs, H1, I1, r, len, q⟩ => ⟨I1.kIn, ?_⟩) he hpl
  have ll : ∀ y : Addr, H1 y = none → (Value.ref y :: us ++ []).length = ps.length := fun y hy => by
    rw [← G.len _ _ _ _ (q y hy), List.append_nil, List.length_cons, List.length_cons, r.length]
  refine omake (ws := us) T iC tI G hr hx I1 (by
    show us.length ≤ 1000
    rw [← r.length]
    exact len) (.inl rfl) (fun s' K' y => ?_) r q
  have e1 := hb s' (Value.ref y :: us) K' (by
    have z := ll (s1.heap.objs.size) (I1.hok.fresh (Nat.le_refl _))
    exact z)
  rw [List.append_nil] at e1
  exact e1
theorem peMakeX0 (T : OX X.K C newId initId bm) (iC : PySem.W.findIn X.K (.ref C) "__init__" = some (some (.ref fI))) (tI : PySem.W.typeIn X.K (.ref fI) = some (.type "function")) (G : FnOk X.prog X.w X.K X.mg X.base CX k fI fd ["self"] sp) (hr : Room (k + 1) X.A)
    (hb : Binds X.K fd ["self"] []) (hx : Passes CX X EX) (hg : Gl X x) (hm : X.mg x = some (.ref C)) (hdb : (x == ("__debug__" : Str)) = false := by decide) :
    PE X (.Call (.Name x p) [] [] pos) (tMakeX C sp EX tNil) := by
  refine ⟨fun pins s σ H Q I z => ?_⟩
  refine wpAny_Call_Name_kw (ld_glob I hg hm ?_ hdb)
  refine PySem.W.callWith_K0 I.kIn T.kp ?_
  exact omake (us := []) (ws := []) T iC tI G hr hx I (by decide) (.inl rfl) (fun s' K' y => hb s' [Value.ref y] K' rfl) .nil z.2
theorem peMakeXK (T : OX X.K C newId initId bm) (iC : PySem.W.findIn X.K (.ref C) "__init__" = some (some (.ref fI))) (tI : PySem.W.typeIn X.K (.ref fI) = some (.type "function")) (G : FnOk X.prog X.w X.K X.mg X.base CX k fI fd [("self" : Str), kn] sp) (hr : Room (k + 1) X.A)
    (hb : ∀ us ws : List Value, us.length = 1 → ws.length = 1 → bindArgs fd ⟨us, [kn].zip ws⟩ = pure ([("self" : Str), kn].zip (us ++ ws))) (hx : Passes CX X EX) (hg : Gl X x) (hm : X.mg x = some (.ref C)) (he : PE X e te) (hdb : (x == ("__debug__" : Str)) = false := by decide)
    (hall : (backToKw pos (keywordEach [⟨some kn, e, kpos⟩] X.env)).all (·.1.isSome) = true := by rfl) (hks : (backToKw pos (keywordEach [⟨some kn, e, kpos⟩] X.env)).filterMap (·.1) = [kn] := by rfl)
    (hpl : ((backTo pos (starEach [] X.env)).any (·.1) || (backToKw pos (keywordEach [⟨some kn, e, kpos⟩] X.env)).any (·.1.isNone)) = false := by rfl) :
    PE X (.Call (.Name x p) [] [⟨some kn, e, kpos⟩] pos) (tMakeX C sp EX (tCons te tNil)) := by
  refine ⟨fun pins s σ H Q I z => ?_⟩
  refine wpAny_Call_Name_kw (ld_glob I hg hm ?_ hdb)
  refine PySem.W.callWith_KW0 (h₀ := X.base) I.ok.mod.kin T.kp hall ?_ hpl
  refine thn ((pk_cons he pk_nil).run pos pins s σ H _ I z) fun ws s2 ⟨zs, H2, I2, rz, len, q2⟩ => ⟨I2.kIn, ?_⟩
  rw [hks]
  have lw : ws.length = 1 := by
    have h0 := G.len _ _ _ _ (q2 _ (I2.hok.fresh (Nat.le_refl _)))
    rw [List.length_cons, rz.length] at h0
    have h1 : ws.length + 1 = 2 := h0
    omega
  obtain ⟨w1, rfl⟩ : ∃ w1, ws = [w1] := by
    match ws, lw with
    | [w1], _ => exact ⟨w1, rfl⟩
  exact omake (us := []) (ws := [w1]) T iC tI G hr hx I2 (by decide) (.inr ⟨_, _, rfl⟩) (fun s' K' y => .of_eq (hb [Value.ref y] [w1] rfl rfl)) rz q2
theorem peXat (T : OXS X.K C newId initId bm f) (he : PE X e te) (hb : attributeBase e f X.env (eval e X.env) = eval e X.env := by rfl) : PE X (.Attribute e f pos) (tXat X.K C f te) := by
  refine ⟨fun pins s σ H Q I z => ?_⟩
  refine attr_of hb (thn (he.run pins s σ H _ I z) fun u s1 ⟨x, H1, I1, rx, a, dx, fs, v, ex, e1, e2, l, q⟩ => ?_)
  subst ex
  obtain rfl : u = Value.ref a := rx
  obtain ⟨t1, ho⟩ := exo_at I1.hok e1
  obtain ⟨m, hn, rel⟩ := exd_at I1.hok e2
  obtain ⟨od, hod, hl⟩ := lookIn_ns hn
  obtain ⟨w, hw, rw'⟩ := RelO.some_of (v := v) (o := m f) (by rw [← l]; exact rel f)
  have J : PySem.W.InstAt s1.heap a { cls := .ref C, dict := some dx, data := .fields #[.ref t1, .none, .none, .none, .bool false, .none] } C (some od) := ⟨ho, rfl, rfl, hod⟩
  exact HandSPX.exc_get I1.kIn J T.xc.hg T.xc.hk T.xc.hs (PySem.W.findObj_own T.xc.hd T.no rfl (by rw [hl, hw])) (handed_of rw') ⟨v, H1, I1.tok _, rw', q⟩
theorem peInitX {pl : Sem Bool} {B : Str} {Bs : String} (T : OX X.K C newId initId bm) (hg : Gl X B) (hm : X.mg B = none) (hv : bootBuiltins B = some (.type Bs)) (ty : typeOf (.type Bs) = pure (.type "type")) (ns : Manifest.isStub Bs = false)
    (fi : PySem.W.findCls X.K (.type Bs) (.type "type") "__init__" = some (.val (.builtin initId))) (hh : PySem.W.handedIn (.builtin initId) = true) (ha : PA X (e :: es) t)
    (hn : B ≠ "__name__" := by decide) (hdb : (B == ("__debug__" : Str)) = false := by decide)
    (hc : eval (.Call (.Attribute (.Name B p1) "__init__" p2) (e :: es) [] pos) X.env = (do
      let ov ← eval (.Name B p1) X.env
      standAt p2.atName
      let (f, first) ← holding [ov] (getMethod ov "__init__" pl)
      callWith pos f first (backTo pos (starEach (e :: es) X.env)) (backToKw pos (keywordEach [] X.env))) := by rfl)
    (he : starEach (e :: es) X.env = (false, eval e X.env) :: starEach es X.env := by rfl) (hpl : (backTo pos (starEach es X.env)).any (·.1) = false := by rfl) :
    PE X (.Call (.Attribute (.Name B p1) "__init__" p2) (e :: es) [] pos) (tInitX C t) := by
  refine ⟨fun pins s σ H Q I z => ?_⟩
  refine PySem.W.methodCall_KW (ld_blt I hg hm hv ?_ hn hdb) hc
  obtain ⟨m, fr⟩ := I.fr
  refine PySem.W.method_type fr I.ok.mod.kin ty ns fi hh ?_
  show wpAny _ _ (callWith pos (Value.builtin initId) [] (backTo pos (starEach (e :: es) X.env)) []) _ _ _
  refine PyProof.Rows.callWith_method1 (thn (ha.run pos pins _ σ H _ (I.tok _) z) fun us s1 ⟨vs, H1, I1, r1, a, ws, ev, len, ea, q⟩ => ?_) he hpl
  subst ev
  cases r1 with
  | @cons _ u0 _ ur ra rr =>
    obtain rfl : u0 = Value.ref a := ra
    exact oinit T I1 ea (by
      rw [← Paired.length rr]
      exact Nat.le_of_lt (small1000 len)) fun s' J => ⟨.non, H1, J, rfl, q⟩
theorem psSetX (T : OXS X.K C newId initId bm f) (ho : PE X o to) (he : PE X e te) (hs : swapsWith e (some (.Attribute o f p')) pos.line X.env = pure false := by rfl) : PS X (.Assign [.Attribute o f p'] e pos) (tSetX C f to te) := by
  refine ⟨fun pins s σ H D I z => ?_⟩
  refine plainObj_wpAny_Assign_Attribute (thn (he.run pins s σ H _ I z) fun v s1 ⟨y, H1, I1, r1, q1⟩ => thn (ho.run pins s1 σ H1 _ I1 q1) fun u s2 ⟨x, H2, I2, r2, a, ex, ea, q⟩ => ?_) hs
  subst ex
  obtain rfl : u = Value.ref a := r2
  exact ostNew T I2 ea r1 fun dx s' n ne J => ⟨σ, _, J, q dx n ne⟩
theorem callIsX : CallR X (.builtin "isinstance") (rIsX X.K) := by
  intro pins s σ H xs us Q I r z
  obtain ⟨a, C, d, c, cv, b, rfl, ea, ed, xc, hcv, ek, q⟩ := z
  match us, r with
  | [_, u2], .cons rx (.cons rt .nil) =>
    cases rx
    have ec := hcv _ rt
    subst ec
    obtain ⟨t1, ho⟩ := exo_at I.hok ea
    cases d with
    | none =>
      have J : PySem.W.InstAt s.heap a { cls := .ref C, dict := none, data := .fields #[.ref t1, .none, .none, .none, .bool false, .none] } C none := ⟨ho, rfl, rfl, trivial⟩
      exact PySem.W.kia_one (kitE xc) I.kIn J ek (fun w => nomatch w) fun tk => ⟨.bl b, H, I.kept (t' := tk) fun _ _ w => w, rfl, q⟩
    | some dx =>
      obtain ⟨fs, hd⟩ := ed dx rfl
      obtain ⟨m, hn, rel⟩ := exd_at I.hok hd
      obtain ⟨od, hod, hl⟩ := lookIn_ns hn
      have J : PySem.W.InstAt s.heap a { cls := .ref C, dict := some dx, data := .fields #[.ref t1, .none, .none, .none, .bool false, .none] } C (some od) := ⟨ho, rfl, rfl, hod⟩
      exact PySem.W.kia_one (kitE xc) I.kIn J ek (fun w => nomatch w) fun tk => ⟨.bl b, H, I.kept (t' := tk) fun _ _ w => w, rfl, q⟩
end
end KC
end L2
end
/-! ### KD -/
section
namespace PySem
namespace KD
open Sem (wp)
open SeqAt
/-! ## dicts whose keys are of several sorts: numbers, bools, texts, tuples of such -/
abbrev Row := NestedKey × Value × Value
def rowE (w : World) (r : Row) : DictEntry := ⟨r.1.hash w, r.2.1, r.2.2⟩
/-- at d a dict with the rows xs -/
structure DM (w : World) (h : Heap) (d : Addr) (xs : List Row) : Prop where
  at_ : ∃ o es ep, h.get? d = some o ∧ o.ExactDict ∧ o.data = .dict es ep ∧ es.toList = xs.map (rowE w)
  once : (xs.map (·.1)).Nodup
def KeysOk (h : Heap) (xs : List Row) : Prop := ∀ r ∈ xs, NestedIs h r.1 r.2.1 ∧ r.1.depth ≤ 8
def lookM (xs : List Row) (k : NestedKey) : Option Row := xs.find? fun r => NestedKey.beq r.1 k
def putM (xs : List Row) (k : NestedKey) (key v : Value) : List Row :=
  if xs.any (fun r => NestedKey.beq r.1 k) then xs.map (fun r => if NestedKey.beq r.1 k then (r.1, r.2.1, v) else r) else xs ++ [(k, key, v)]
theorem beq_iff (a b : NestedKey) : NestedKey.beq a b = true ↔ a = b := ⟨NestedKey.eq_of_beq a b, fun e => e ▸ NestedKey.beq_self a⟩
section
variable {prog : Program} {w : World} {A : Around} {E : Value → Shared → Prop} {s : Shared} {d : Addr} {xs : List Row} {k : NestedKey} {key v : Value}
theorem row_at {es : Array DictEntry} (he : es.toList = xs.map (rowE w)) (j : Nat) : es[j]? = (xs[j]?).map (rowE w) := by
  rw [← Array.getElem?_toList, he, List.getElem?_map]
theorem row_size {es : Array DictEntry} (he : es.toList = xs.map (rowE w)) : es.size = xs.length := by
  rw [← Array.length_toList, he, List.length_map]
theorem row_one (hn : (xs.map (·.1)).Nodup) {i j : Nat} {p q : Value × Value} (hi : xs[i]? = some (k, p)) (hj : xs[j]? = some (k, q)) : i = j := by
  have a : (xs.map (·.1))[i]? = some k := by
    rw [List.getElem?_map, hi]
    rfl
  have b : (xs.map (·.1))[j]? = some k := by
    rw [List.getElem?_map, hj]
    rfl
  exact (List.getElem?_inj (List.getElem?_eq_some_iff.mp a).1 hn).mp (a.trans b.symm)
/-- the place of a key, and what is wanted there -/
theorem find_m {o : Obj} {es : Array DictEntry} {ep : Nat} {Q : Option Nat → Shared → Prop} (hu : A.units + 9 < cLine) (hk : NestedIs s.heap k key) (h8 : k.depth ≤ 8)
    (ho : s.heap.get? d = some o) (hd : o.data = .dict es ep) (he : es.toList = xs.map (rowE w)) (ok : KeysOk s.heap xs) (hn : (xs.map (·.1)).Nodup)
    (z0 : (∀ (j : Nat) (p : Value × Value), xs[j]? ≠ some (k, p)) → Q none s) (z1 : ∀ (j : Nat) (p : Value × Value), xs[j]? = some (k, p) → Q (some j) s) :
    wpAny (model prog w) A (dictFind d key (k.hash w)) Q E s := by
  have sz : es.size = xs.length := row_size he
  have has : ∀ (j : Nat) (p : Value × Value), xs[j]? = some (k, p) → ((es[j]?.map (·.hash)) == some (k.hash w)) = true := fun j p hj => by
    rw [row_at he j, hj]
    simp [rowE]
  have eqs : ∀ (k' : NestedKey) (u : Value) (p : Value), (k', u, p) ∈ xs → EqAt A s u key (NestedKey.beq k' k) := fun k' u p hm =>
    eqAt_key k' k A s u key (ok _ hm).1 hk (by
      have := (ok _ hm).2
      omega)
  have rowOf : ∀ x, x < es.size → ∃ k' u p, xs[x]? = some (k', u, p) ∧ es[x]? = some ⟨k'.hash w, u, p⟩ := fun x hx => by
    refine ⟨(xs[x]'(by omega)).1, (xs[x]'(by omega)).2.1, (xs[x]'(by omega)).2.2, List.getElem?_eq_getElem _, ?_⟩
    rw [row_at he x, List.getElem?_eq_getElem (by omega)]
    rfl
  have quiet : ∀ (k' : NestedKey) (u : Value), NestedIs s.heap k' u → k'.depth ≤ 8 → QuietAt prog w 8 s u := fun k' u hi hd' => quiet_key k' u 8 s hi hd'
  -- the plain walk
  have plain : wpAny (model prog w) A (dictWalkPlain d key (k.hash w) es (placesWithHash es.size (fun i => es[i]?.map (·.hash)) (k.hash w))) Q E s := by
    unfold dictWalkPlain
    refine wpAny_bind ?_
    refine wpAny_forIn_list _ (fun rest b s' => s' = s ∧ b = (none, ()) ∧ ∃ i, rest = (List.range' i (es.size - i)).filter (fun i => (es[i]?.map (·.hash)) == some (k.hash w)) ∧ i ≤ es.size ∧ ∀ j p, j < i → xs[j]? ≠ some (k, p)) _ ?_ ?_ _ _
      ⟨rfl, rfl, 0, by rw [placesWithHash, List.range_eq_range', Nat.sub_zero], Nat.zero_le _, fun _ _ q => absurd q (Nat.not_lt_zero _)⟩
    · rintro x rest b s' ⟨rfl, rfl, i, hr, hi, no⟩
      obtain ⟨le, lt, px, skip, hrest⟩ := filter_range'_cons _ _ _ _ _ hr.symm
      have hx : x < es.size := by omega
      obtain ⟨k', u, p, hkv, hex⟩ := rowOf x hx
      have no' : k' ≠ k → ∀ j p, j < x + 1 → xs[j]? ≠ some (k, p) := fun ne j p' hj hq => by
        rcases Nat.lt_or_ge j i with q | q
        · exact no j p' q hq
        rcases Nat.lt_or_ge j x with q' | q'
        · have y := skip j q q'
          rw [has j p' hq] at y
          cases y
        · obtain rfl : j = x := by omega
          rw [hkv] at hq
          cases hq
          exact ne rfl
      have go : k' ≠ k → ∃ i, rest = (List.range' i (es.size - i)).filter (fun i => (es[i]?.map (·.hash)) == some (k.hash w)) ∧ i ≤ es.size ∧ ∀ j p, j < i → xs[j]? ≠ some (k, p) := fun ne =>
        ⟨x + 1, by rw [hrest]; congr 2; omega, hx, no' ne⟩
      rw [hex]
      dsimp only
      by_cases hh : (k'.hash w == k.hash w) = true
      · rw [if_pos hh]
        refine wpAny_bind (wpAny_dictEpoch ho hd (wpAny_bind (eqs k' u p (List.mem_of_getElem? hkv) _ _ _ _ (wpAny_bind (wpAny_dictEpoch ho hd ?_)))))
        show wpAny _ _ (if (ep != ep) = true then _ else _) _ E _
        rw [if_neg (by simp)]
        cases hb : NestedKey.beq k' k with
        | true =>
          obtain rfl := (beq_iff k' k).mp hb
          exact wpAny_bind (wpAny_rule (wpAny_pure (wpAny_pure (z1 x _ hkv))))
        | false => exact wpAny_bind (wpAny_rule (wpAny_pure ⟨rfl, rfl, go fun e => by
            rw [e, NestedKey.beq_self] at hb
            cases hb⟩))
      · rw [if_neg hh]
        exact wpAny_pure ⟨rfl, rfl, go fun e => hh (by rw [e]; simp)⟩
    · rintro b s' ⟨rfl, rfl, i, hr, hi, no⟩
      refine wpAny_pure (z0 fun j p hj => ?_)
      rcases Nat.lt_or_ge j i with q | q
      · exact no j p q hj
      · have hjl : j < es.size := by
          rw [sz]
          exact (List.getElem?_eq_some_iff.mp hj).1
        have y := List.filter_eq_nil_iff.mp hr.symm j (List.mem_range'_1.mpr ⟨q, by omega⟩)
        exact y (has j p hj)
  have tell : ∀ (Q' : Bool → Shared → Prop), Q' false s → wpAny (model prog w) A (tableMayTell key ((placesWithHash es.size (fun i => es[i]?.map (·.hash)) (k.hash w)).filterMap (fun i => es[i]?.map (·.key)))) Q' E s := by
    intro Q' z
    have st : ∀ u ∈ (placesWithHash es.size (fun i => es[i]?.map (·.hash)) (k.hash w)).filterMap (fun i => es[i]?.map (·.key)), QuietAt prog w 8 s u := by
      intro u hu'
      obtain ⟨i, _, hi⟩ := List.mem_filterMap.mp hu'
      cases hei : es[i]? with
      | none =>
        rw [hei] at hi
        cases hi
      | some e =>
        rw [hei] at hi
        obtain rfl : e.key = u := by simpa using hi
        have hlt := (Array.getElem?_eq_some_iff.mp hei).1
        obtain ⟨k', u', p, hkv, hex⟩ := rowOf i hlt
        rw [hex] at hei
        cases hei
        have m := List.mem_of_getElem? hkv
        exact quiet k' u' (ok _ m).1 (ok _ m).2
    unfold tableMayTell
    split
    · exact wpAny_pure z
    · refine wpAny_bind (quiet k key hk h8 _ _ _ ?_)
      simp only [Bool.not_true, Bool.false_eq_true, if_false]
      refine wpAny_bind ?_
      refine wpAny_forIn_list _ (fun rest r s' => s' = s ∧ r = (none, ()) ∧ ∀ u ∈ rest, QuietAt prog w 8 s u) _ ?_ ?_ _ _ ⟨rfl, rfl, st⟩
      · rintro x rest r s' ⟨rfl, rfl, hr⟩
        refine wpAny_bind (hr x List.mem_cons_self _ _ _ ?_)
        simp only [Bool.not_true, Bool.false_eq_true, if_false]
        exact wpAny_pure ⟨rfl, rfl, fun u hu' => hr u (List.mem_cons_of_mem _ hu')⟩
      · rintro r s' ⟨rfl, rfl, _⟩
        exact wpAny_pure z
  have texts : ∀ x t, key = .str x t → (es.all fun e => isExactStrKey e.key) = true → wpAny (model prog w) A (foundByValue d key es x) Q E s := by
    intro x t ek hall
    subst ek
    have ekk : k = .text x := by
      cases hk
      rfl
    subst ekk
    have isT : ∀ j (hj : j < es.size), es[j].key.isStr x = true ↔ ∃ p, xs[j]? = some (NestedKey.text x, p) := by
      intro j hj
      obtain ⟨k', u', p, hkv, hex⟩ := rowOf j hj
      have e1 : es[j] = ⟨k'.hash w, u', p⟩ := by
        rw [Array.getElem?_eq_getElem hj] at hex
        exact Option.some.inj hex
      have h1 : isExactStrKey u' = true := by
        have := Array.all_eq_true.mp hall j hj
        rw [e1] at this
        exact this
      rw [e1]
      obtain ⟨y, ty, rfl⟩ : ∃ y ty, u' = .str y ty := by
        cases u' <;> first
          | exact ⟨_, _, rfl⟩
          | cases h1
      have h2 : k' = .text y := by
        have q := (ok _ (List.mem_of_getElem? hkv)).1
        cases q
        rfl
      subst h2
      constructor
      · intro q
        have : y = x := by simpa [Value.isStr] using q
        subst this
        exact ⟨_, hkv⟩
      · rintro ⟨p', q⟩
        rw [hkv] at q
        cases q
        simp [Value.isStr]
    unfold foundByValue
    cases hf : es.findIdx? (fun e => e.key.isStr x) with
    | none =>
      refine wpAny_pure (z0 fun j p hj => ?_)
      have hjl : j < es.size := by
        rw [sz]
        exact (List.getElem?_eq_some_iff.mp hj).1
      have q := Array.findIdx?_eq_none_iff.mp hf es[j] (Array.getElem_mem hjl)
      rw [(isT j hjl).mpr ⟨p, hj⟩] at q
      cases q
    | some i =>
      obtain ⟨hlt, hi, _⟩ := Array.findIdx?_eq_some_iff_getElem.mp hf
      obtain ⟨p, hp⟩ := (isT i hlt).mp hi
      obtain ⟨k', u', p', hkv, hex⟩ := rowOf i hlt
      rw [hp] at hkv
      cases hkv
      simp only [hex]
      refine wpAny_bind (wpAny_dictEpoch ho hd (wpAny_bind (eqs _ u' p' (List.mem_of_getElem? hp) _ _ _ _ (wpAny_bind (wpAny_dictEpoch ho hd ?_)))))
      show wpAny _ _ (if (ep != ep) = true then _ else _) _ E _
      rw [if_neg (by simp), NestedKey.beq_self]
      exact wpAny_bind (wpAny_rule (wpAny_pure (z1 i _ hp)))
  have hany : ∀ a, key = .ref a → ¬ (es.any fun e => e.key == Value.ref a && e.hash != k.hash w) = true := by
    intro a ek
    subst ek
    rw [← Array.any_toList, List.any_eq_true]
    rintro ⟨e, hin, hc⟩
    rw [he] at hin
    obtain ⟨r, hr, rfl⟩ := List.mem_map.mp hin
    simp only [rowE, Bool.and_eq_true, beq_iff_eq, bne_iff_ne, ne_eq] at hc
    obtain ⟨e1, ne⟩ := hc
    have q := (ok r hr).1
    rw [e1] at q
    exact ne (by rw [NestedIs.inj _ _ _ q hk])
  have fin : ∀ key', key' = key → wpAny (model prog w) A (dictFind d key' (k.hash w)) Q E s := by
    intro key' ek
    unfold dictFind
    try with_reducible refine wpAny_holding ?_
    refine wpAny_bind (wpAny_dictEntries ho hd ?_)
    have tell' := tell
    rw [← ek] at tell'
    have plain' := plain
    rw [← ek] at plain'
    clear tell plain
    cases key'
    case' str x t => refine wpAny_ite_split (fun hall => by
        rw [ek]
        exact texts x t ek.symm hall) (fun _ => ?_)
    all_goals refine wpAny_ite_split (fun _ => plain') (fun _ => ?_)
    case' ref => refine wpAny_ite_split (fun q => absurd q (hany _ ek.symm)) (fun _ => ?_)
    all_goals
      refine wpAny_ite_split (fun _ => wpAny_bind (wpAny_pure ?_)) (fun _ => wpAny_bind (tell' _ ?_))
      all_goals
        refine wpAny_ite_split (fun q => absurd q (by simp)) (fun _ => ?_)
        refine wpAny_bind ?_
        refine wpAny_forIn_list _ (fun rest b s' => s' = s ∧ ∃ i hit, b = (none, hit) ∧ rest = (List.range' i (es.size - i)).filter (fun i => (es[i]?.map (·.hash)) == some (k.hash w)) ∧ i ≤ es.size ∧
            ((hit = none ∧ ∀ j p, j < i → xs[j]? ≠ some (k, p)) ∨ ∃ j p, hit = some j ∧ j < i ∧ xs[j]? = some (k, p))) _ ?_ ?_ _ _
          ⟨rfl, 0, none, rfl, by rw [placesWithHash, List.range_eq_range', Nat.sub_zero], Nat.zero_le _, .inl ⟨rfl, fun _ _ q => absurd q (Nat.not_lt_zero _)⟩⟩
        · rintro x rest b s' ⟨rfl, i, hit, rfl, hr, hi, hH⟩
          obtain ⟨le, lt, px, skip, hrest⟩ := filter_range'_cons _ _ _ _ _ hr.symm
          have hx : x < es.size := by omega
          obtain ⟨k', u, p, hkv, hex⟩ := rowOf x hx
          have hrest' : rest = (List.range' (x + 1) (es.size - (x + 1))).filter (fun i => (es[i]?.map (·.hash)) == some (k.hash w)) := by
            rw [hrest]
            congr 2
            omega
          have before : (hit = none ∧ ∀ j p, j < x → xs[j]? ≠ some (k, p)) ∨ ∃ j p, hit = some j ∧ j < x ∧ xs[j]? = some (k, p) := by
            rcases hH with ⟨h0, no⟩ | ⟨j, p', h1, hj, hq⟩
            · refine .inl ⟨h0, fun j p' hj hq => ?_⟩
              rcases Nat.lt_or_ge j i with q | q
              · exact no j p' q hq
              · have y := skip j q hj
                rw [has j p' hq] at y
                cases y
            · exact .inr ⟨j, p', h1, by omega, hq⟩
          have stay : k' ≠ k → ((hit = none ∧ ∀ j p, j < x + 1 → xs[j]? ≠ some (k, p)) ∨ ∃ j p, hit = some j ∧ j < x + 1 ∧ xs[j]? = some (k, p)) := by
            intro ne
            rcases before with ⟨h0, no⟩ | ⟨j, p', h1, hj, hq⟩
            · refine .inl ⟨h0, fun j p' hj hq => ?_⟩
              rcases Nat.lt_or_ge j x with q | q
              · exact no j p' q hq
              · obtain rfl : j = x := by omega
                rw [hkv] at hq
                cases hq
                exact ne rfl
            · exact .inr ⟨j, p', h1, by omega, hq⟩
          rw [hex]
          refine wpAny_ite_split (fun hh => ?_) (fun hh => ?_)
          · have eq' := eqs k' u p (List.mem_of_getElem? hkv)
            rw [← ek] at eq'
            refine wpAny_bind (wpAny_dictEpoch ho hd (wpAny_bind (eq' _ _ _ _ (wpAny_bind (wpAny_dictEpoch ho hd ?_)))))
            refine wpAny_ite_split (fun q => absurd q (by simp)) (fun _ => ?_)
            refine wpAny_ite_split (fun hb => ?_) (fun hb => ?_)
            · obtain rfl := (beq_iff k' k).mp hb
              rcases before with ⟨rfl, _⟩ | ⟨j, p', _, hjx, hj⟩
              · refine wpAny_ite_split (fun q => absurd q (by simp)) (fun _ => ?_)
                refine wpAny_bind (wpAny_rule ?_)
                refine wpAny_ite_split (fun _ => ?_) (fun _ => ?_)
                · exact wpAny_pure (wpAny_pure (z1 x _ hkv))
                · exact wpAny_pure ⟨rfl, x + 1, some x, rfl, hrest', hx, .inr ⟨x, _, rfl, Nat.lt_succ_self x, hkv⟩⟩
              · exact absurd (row_one hn hj hkv) (by omega)
            · have ne : k' ≠ k := fun e => hb (by rw [e, NestedKey.beq_self])
              refine wpAny_bind (wpAny_rule ?_)
              refine wpAny_ite_split (fun q => absurd q (by simp)) (fun _ => ?_)
              exact wpAny_pure ⟨rfl, x + 1, hit, rfl, hrest', hx, stay ne⟩
          · exact wpAny_pure ⟨rfl, x + 1, hit, rfl, hrest', hx, stay fun e => hh (by rw [e]; simp)⟩
        · rintro b s' ⟨rfl, i, hit, rfl, hr, hi, hH⟩
          rcases hH with ⟨rfl, no⟩ | ⟨j, p, rfl, _, hj⟩
          · refine wpAny_pure (z0 fun j p hj => ?_)
            rcases Nat.lt_or_ge j i with q | q
            · exact no j p q hj
            · have hjl : j < es.size := by
                rw [sz]
                exact (List.getElem?_eq_some_iff.mp hj).1
              have y := List.filter_eq_nil_iff.mp hr.symm j (List.mem_range'_1.mpr ⟨q, by omega⟩)
              exact y (has j p hj)
          · exact wpAny_pure (z1 j p hj)
  exact fin key rfl
theorem look_iff (hn : (xs.map (·.1)).Nodup) : (∀ (j : Nat) (p : Value × Value), xs[j]? = some (k, p) → lookM xs k = some (k, p)) ∧ ((∀ (j : Nat) (p : Value × Value), xs[j]? ≠ some (k, p)) → lookM xs k = none) := by
  constructor
  · intro j p hj
    have m := List.mem_of_getElem? hj
    cases hl : lookM xs k with
    | none => exact absurd (NestedKey.beq_self k) (List.find?_eq_none.mp hl _ m)
    | some r =>
      obtain ⟨rk, rp⟩ := r
      have e1 := (beq_iff rk k).mp (List.find?_some (p := fun r : Row => NestedKey.beq r.1 k) (a := (rk, rp)) (l := xs) hl)
      obtain ⟨i, hi⟩ := List.mem_iff_getElem?.mp (List.mem_of_find?_eq_some (p := fun r : Row => NestedKey.beq r.1 k) (l := xs) hl)
      rw [e1] at hi
      obtain rfl := row_one hn hi hj
      rw [hi] at hj
      rw [e1]
      exact hj
  · intro no
    refine List.find?_eq_none.mpr fun r hr hb => ?_
    obtain ⟨i, hi⟩ := List.mem_iff_getElem?.mp hr
    obtain ⟨rk, rp⟩ := r
    obtain rfl := (beq_iff rk k).mp hb
    exact no i rp hi
theorem putM_new (no : ∀ (j : Nat) (p : Value × Value), xs[j]? ≠ some (k, p)) : putM xs k key v = xs ++ [(k, key, v)] := by
  unfold putM
  rw [if_neg]
  intro q
  obtain ⟨r, hr, hb⟩ := List.any_eq_true.mp q
  obtain ⟨i, hi⟩ := List.mem_iff_getElem?.mp hr
  obtain ⟨rk, rp⟩ := r
  obtain rfl := (beq_iff rk k).mp hb
  exact no i rp hi
theorem putM_old {j : Nat} {p : Value × Value} (hj : xs[j]? = some (k, p)) : putM xs k key v = xs.map (fun r => if NestedKey.beq r.1 k then (r.1, r.2.1, v) else r) := by
  unfold putM
  rw [if_pos]
  exact List.any_eq_true.mpr ⟨_, List.mem_of_getElem? hj, NestedKey.beq_self k⟩
theorem put_modify (hn : (xs.map (·.1)).Nodup) {j : Nat} {p : Value × Value} (hj : xs[j]? = some (k, p)) :
    (xs.map (rowE w)).modify j (fun e => { e with val := v }) = (xs.map fun r => if NestedKey.beq r.1 k then (r.1, r.2.1, v) else r).map (rowE w) := by
  apply List.ext_getElem?
  intro i
  rw [List.getElem?_modify, List.getElem?_map, List.getElem?_map, List.getElem?_map]
  by_cases hij : j = i
  · subst hij
    rw [hj]
    simp [rowE, NestedKey.beq_self]
  · cases hx : xs[i]? with
    | none => simp
    | some r =>
      obtain ⟨rk, rp⟩ := r
      have ne : NestedKey.beq rk k = false := by
        cases hb : NestedKey.beq rk k with
        | false => rfl
        | true =>
          obtain rfl := (beq_iff rk k).mp hb
          exact absurd (row_one hn hj hx) hij
      simp [hij, ne]
theorem keys_put : (xs.map fun r => if NestedKey.beq r.1 k then (r.1, r.2.1, v) else r).map (·.1) = xs.map (·.1) := by
  rw [List.map_map]
  refine List.map_congr_left fun r _ => ?_
  show (if NestedKey.beq r.1 k then (r.1, r.2.1, v) else r).1 = r.1
  split <;> rfl
theorem KeysOk.put {h : Heap} (ok : KeysOk h xs) (hk : NestedIs h k key) (h8 : k.depth ≤ 8) : KeysOk h (putM xs k key v) := by
  intro r hr
  unfold putM at hr
  split at hr
  · obtain ⟨q, hq, rfl⟩ := List.mem_map.mp hr
    split
    · exact ok q hq
    · exact ok q hq
  · rcases List.mem_append.mp hr with hr | hr
    · exact ok r hr
    · obtain rfl := List.mem_singleton.mp hr
      exact ⟨hk, h8⟩
theorem set_m {Q : Unit → Shared → Prop} (hu : A.units + 9 < cLine) (hk : NestedIs s.heap k key) (h8 : k.depth ≤ 8) (D : DM w s.heap d xs) (ok : KeysOk s.heap xs) (len : xs.length ≤ sizeLine)
    (z : ∀ h' tk, DM w h' d (putM xs k key v) → Heap.SameBut d s.heap h' → Q () { s with heap := h', toks := tk }) : wpAny (model prog w) A (dictSet d key v) Q E s := by
  obtain ⟨⟨o, es, ep, ho, hc, hd, he⟩, hn⟩ := D
  unfold dictSet
  try with_reducible refine wpAny_holding ?_
  refine wpAny_bind (pyHash_key k key A s _ hk (by omega) ?_)
  unfold dictSetHashed
  try with_reducible refine wpAny_holding ?_
  refine wpAny_bind (find_m (s := { s with toks := s.toks + k.draws }) hu hk h8 ho hd he ok hn (fun no => ?_) (fun j p hj => ?_))
  · refine wpAny_bind (wpAny_rule (wpAny_updateDictKeys (hz := by
      have e := row_size he
      omega) (s := { s with toks := s.toks + k.draws }) ho hd (z _ _ ⟨⟨_, _, ep + 1, Heap.get?_update_self _ ho (Obj.isFreed_of_dict (Obj.data_mapDictKeys hd _)), hc.mapDictKeys _, Obj.data_mapDictKeys hd _, ?_⟩, ?_⟩ (Heap.SameBut.update ..))))
    · rw [putM_new no]
      simp [he, rowE]
    · rw [putM_new no, List.map_append, List.nodup_append]
      refine ⟨hn, by simp, fun a ha b hb e => ?_⟩
      obtain rfl : b = k := by simpa using hb
      subst e
      obtain ⟨r, hr, er⟩ := List.mem_map.mp ha
      obtain ⟨i, hi⟩ := List.mem_iff_getElem?.mp hr
      obtain ⟨rk, rp⟩ := r
      obtain rfl : rk = a := er
      exact no i rp hi
  · refine wpAny_bind (wpAny_rule (wpAny_bind (wpAny_updateDict (s := { s with toks := s.toks + k.draws }) ho hd (wpAny_point (z _ _ ⟨⟨_, _, ep, Heap.get?_update_self _ ho (Obj.isFreed_of_dict (Obj.data_mapDict hd _)), hc.mapDict _, Obj.data_mapDict hd _, ?_⟩, ?_⟩ (Heap.SameBut.update ..))))))
    · rw [putM_old hj, ← put_modify hn hj, ← he]
      obtain ⟨l⟩ := es
      simp
    · rw [putM_old hj, keys_put]
      exact hn
theorem get_m {Q : Option Value → Shared → Prop} (hu : A.units + 9 < cLine) (hk : NestedIs s.heap k key) (h8 : k.depth ≤ 8) (D : DM w s.heap d xs) (ok : KeysOk s.heap xs)
    (z : ∀ tk, Q ((lookM xs k).map (·.2.2)) { s with toks := tk }) : wpAny (model prog w) A (dictGet d key) Q E s := by
  obtain ⟨⟨o, es, ep, ho, hc, hd, he⟩, hn⟩ := D
  unfold dictGet
  try with_reducible refine wpAny_holding ?_
  refine wpAny_bind (pyHash_key k key A s _ hk (by omega) (wpAny_bind (find_m (s := { s with toks := s.toks + k.draws }) hu hk h8 ho hd he ok hn (fun no => ?_) (fun j p hj => ?_))))
  · have q := z (s.toks + k.draws)
    rw [(look_iff hn).2 no] at q
    exact wpAny_pure q
  · have q := z (s.toks + k.draws)
    rw [(look_iff hn).1 j p hj] at q
    refine wpAny_bind (wpAny_dictEntries (s := { s with toks := s.toks + k.draws }) ho hd ?_)
    rw [row_at he j, hj]
    exact wpAny_pure q
theorem DM.typeIs (D : DM w s.heap d xs) : s.TypeIs (.ref d) "dict" := let ⟨o, _, _, ho, hc, _⟩ := D.at_; ⟨o, ho, hc.1⟩
theorem DM.raw {h : Heap} (D : DM w h d xs) : ∃ es ep, h.DictRaw d es ep ∧ es.toList = xs.map (rowE w) := let ⟨o, es, ep, ho, hc, hd, he⟩ := D.at_; ⟨es, ep, ⟨o, ho, hc, hd⟩, he⟩
/-- d[k], there -/
theorem item_m {r : Row} {Q : Value → Shared → Prop} (hu : A.units + 10 < cLine) (hk : NestedIs s.heap k key) (h8 : k.depth ≤ 8) (D : DM w s.heap d xs) (ok : KeysOk s.heap xs) (hr : lookM xs k = some r)
    (z : ∀ tk, Q r.2.2 { s with toks := tk }) : wpAny (model prog w) A (getItem (.ref d) key) Q E s := by
  unfold getItem
  try with_reducible refine wpAny_holding ?_
  refine wpAny_bind (wpAny_sequenceKey D.typeIs (by decide) ?_)
  refine wpAny_bind (wpAny_callSpecial?_slot (name := Str.ofString "__getitem__") D.typeIs slot_dict_getitem
    (wpAny_call_entry slot_dict_getitem D.typeIs entry_dict_getitem ?_ (args_dict_getitem _ _)))
  show wpAny _ _ (dictGet d key >>= _) _ _ s
  refine wpAny_bind (get_m (by rw [Around.in1_units]; omega) hk h8 D ok fun tk => ?_)
  rw [hr]
  exact wpAny_pure ⟨r.2.2, rfl, wpAny_pure (z tk)⟩
/-- d[k] = v -/
theorem store_m {Q : Unit → Shared → Prop} (hu : A.units + 10 < cLine) (hk : NestedIs s.heap k key) (h8 : k.depth ≤ 8) (D : DM w s.heap d xs) (ok : KeysOk s.heap xs) (len : xs.length ≤ sizeLine)
    (z : ∀ h' tk, DM w h' d (putM xs k key v) → Heap.SameBut d s.heap h' → Q () { s with heap := h', toks := tk }) : wpAny (model prog w) A (setItem (.ref d) key v) Q E s := by
  unfold setItem
  try with_reducible refine wpAny_holding ?_
  refine wpAny_bind (wpAny_sequenceKey D.typeIs (by decide) ?_)
  refine wpAny_bind (wpAny_callSpecial?_slot (name := Str.ofString "__setitem__") D.typeIs slot_dict_setitem
    (wpAny_call_entry slot_dict_setitem D.typeIs entry_dict_setitem ?_ (args_dict_setitem _ _ _)))
  show wpAny _ _ (Builtin.Dict.notOrdered "__setitem__" ⟨[.ref d, key, v], []⟩ >>= _) _ _ s
  refine wpAny_bind (wpAny_notOrdered_dict D.typeIs ?_)
  show wpAny _ _ (dictSet d key v >>= _) _ _ s
  exact wpAny_bind (set_m (by rw [Around.in1_units]; omega) hk h8 D ok len fun h' tk D' hs => wpAny_pure ⟨.none, rfl, wpAny_pure (z h' tk D' hs)⟩)
end
end KD
end PySem
end
/-! ### KE1 -/
section
namespace L2
namespace KE
open PySem PySem.Spec PyProof.Rows PySem.KD
/-! ## dicts with keys of several sorts, in the hand layer -/
abbrev MRow := NestedKey × V × V
def MRel (p : MRow) (r : KD.Row) : Prop := p.1 = r.1 ∧ RelV p.2.1 r.2.1 ∧ RelV p.2.2 r.2.2
def mdo (w : World) (d : Addr) (xs : List MRow) : HO := .ext fun h => xs.length ≤ 1000 ∧ (d == sysModules) = false ∧ ∃ rows, Paired MRel xs rows ∧ DM w h d rows
mutual
/-- the value v is the key k -/
inductive KA (H : Hp) : NestedKey → V → Prop
  | none : KA H .none .non
  | num (i : Int) : KA H (.num i) (.int i)
  | bool (b : Bool) : KA H (.num (if b = true then 1 else 0)) (.bl b)
  | text (x : Str) : KA H (.text x) (.str x)
  | tup {a : Addr} {vs : List V} {ks : List NestedKey} : H a = some (.tup vs) → KAs H ks vs → KA H (.tup ks) (.ref a)
inductive KAs (H : Hp) : List NestedKey → List V → Prop
  | nil : KAs H [] []
  | cons {k : NestedKey} {v : V} {ks : List NestedKey} {vs : List V} : KA H k v → KAs H ks vs → KAs H (k :: ks) (v :: vs)
end
def kAt (H : Hp) (k : NestedKey) (v : V) : Prop := KA H k v ∧ k.depth ≤ 8
theorem kAt.text (H : Hp) (x : Str) : kAt H (.text x) (.str x) := ⟨.text x, Nat.zero_le _⟩
theorem kAt.num (H : Hp) (i : Int) : kAt H (.num i) (.int i) := ⟨.num i, Nat.zero_le _⟩
theorem kAt.bool (H : Hp) (b : Bool) : kAt H (.num (if b = true then 1 else 0)) (.bl b) := ⟨.bool b, Nat.zero_le _⟩
theorem kAt.none (H : Hp) : kAt H .none .non := ⟨.none, Nat.zero_le _⟩
mutual
theorem KA.mono {H H' : Hp} (t : ∀ a xs, H a = some (.tup xs) → H' a = some (.tup xs)) : ∀ {k : NestedKey} {v : V}, KA H k v → KA H' k v
  | _, _, .none => .none
  | _, _, .num i => .num i
  | _, _, .bool b => .bool b
  | _, _, .text x => .text x
  | _, _, .tup e r => .tup (t _ _ e) (r.mono t)
theorem KAs.mono {H H' : Hp} (t : ∀ a xs, H a = some (.tup xs) → H' a = some (.tup xs)) : ∀ {ks : List NestedKey} {vs : List V}, KAs H ks vs → KAs H' ks vs
  | _, _, .nil => .nil
  | _, _, .cons a r => .cons (a.mono t) (r.mono t)
end
mutual
theorem KA.is {P : Program} {w : World} {H : Hp} {h : Heap} (ok : HOk P w H h) : ∀ {k : NestedKey} {v : V}, KA H k v → ∀ {u : Value}, RelV v u → NestedIs h k u
  | _, _, .none, u, r => by
    obtain rfl : u = Value.none := r
    exact .none
  | _, _, .num i, _, ⟨t, e⟩ => by
    subst e
    exact .int i t
  | _, _, .bool b, u, r => by
    obtain rfl : u = Value.bool b := r
    exact .bool rfl
  | _, _, .text x, _, ⟨t, e⟩ => by
    subst e
    exact .text x t
  | _, _, .tup (a := a) (vs := vs) (ks := ks) e q, u, r => by
    obtain rfl : u = Value.ref a := r
    obtain ⟨_, its, rr, o, h1, h2, n, h3⟩ := (show ObjOk P w H h a (.tup vs) from ok a _ e)
    exact .tup h1 h2 h3 (by simpa using q.is ok rr)
theorem KAs.is {P : Program} {w : World} {H : Hp} {h : Heap} (ok : HOk P w H h) : ∀ {ks : List NestedKey} {vs : List V}, KAs H ks vs → ∀ {us : List Value}, Vals vs us → NestedAll h ks us
  | _, _, .nil, _, .nil => .nil
  | _, _, .cons a q, _, .cons r rs => .cons (a.is ok r) (q.is ok rs)
end
def KAll (H : Hp) (xs : List MRow) : Prop := ∀ p ∈ xs, kAt H p.1 p.2.1
def lookH (xs : List MRow) (k : NestedKey) : Option MRow := xs.find? fun r => NestedKey.beq r.1 k
def putH (xs : List MRow) (k : NestedKey) (key v : V) : List MRow :=
  if xs.any (fun r => NestedKey.beq r.1 k) then xs.map (fun r => if NestedKey.beq r.1 k then (r.1, r.2.1, v) else r) else xs ++ [(k, key, v)]
def mergeH (xs ps : List MRow) : List MRow := ps.foldl (fun acc p => putH acc p.1 p.2.1 p.2.2) xs
theorem putH_len (xs : List MRow) (k : NestedKey) (key v : V) : (putH xs k key v).length ≤ xs.length + 1 := by
  unfold putH
  split
  · rw [List.length_map]
    omega
  · rw [List.length_append]
    exact Nat.le_refl _
theorem mergeH_len (ps : List MRow) : ∀ xs : List MRow, (mergeH xs ps).length ≤ xs.length + ps.length := by
  induction ps with
  | nil => exact fun xs => Nat.le_refl _
  | cons p ps ih =>
    intro xs
    have h1 := ih (putH xs p.1 p.2.1 p.2.2)
    have h2 := putH_len xs p.1 p.2.1 p.2.2
    show (mergeH (putH xs p.1 p.2.1 p.2.2) ps).length ≤ xs.length + (ps.length + 1)
    omega
theorem kAt.mono {H H' : Hp} {k : NestedKey} {v : V} (h : kAt H k v) (t : ∀ a xs, H a = some (.tup xs) → H' a = some (.tup xs)) : kAt H' k v := ⟨h.1.mono t, h.2⟩
section
variable {P : Program} {w : World} {H H' : Hp} {h h' : Heap} {d : Addr} {xs : List MRow} {rows : List KD.Row} {k : NestedKey} {key v : V} {u : Value}
theorem kAt.is (q : kAt H k key) (ok : HOk P w H h) (r : RelV key u) : NestedIs h k u ∧ k.depth ≤ 8 := ⟨q.1.is ok r, q.2⟩
theorem keysOk (q : KAll H xs) (ok : HOk P w H h) (r : Paired MRel xs rows) : KeysOk h rows := by
  induction r with
  | nil => exact fun _ hm => nomatch hm
  | @cons p r ps rs hr t ih =>
    intro x hx
    rcases List.mem_cons.mp hx with rfl | hx
    · have z := (q p List.mem_cons_self).is ok hr.2.1
      rw [hr.1] at z
      exact z
    · exact ih (fun p' hp => q p' (List.mem_cons_of_mem _ hp)) x hx
theorem dmKeep (D : DM w h d rows) (k : ∀ o, h.get? d = some o → h'.get? d = some o) : DM w h' d rows :=
  ⟨let ⟨o, es, ep, ho, r⟩ := D.at_; ⟨o, es, ep, k _ ho, r⟩, D.once⟩
theorem mdo_ok (l : xs.length ≤ 1000) (sy : (d == sysModules) = false) (r : Paired MRel xs rows) (D : DM w h d rows) : ObjOk P w H h d (mdo w d xs) :=
  ⟨⟨l, sy, rows, r, D⟩, let ⟨o, _, _, ho, _⟩ := D.at_; ⟨o, ho⟩, fun _ _ ⟨l', s', rows', r', D'⟩ k => ⟨l', s', rows', r', dmKeep D' k⟩⟩
theorem mdo_rd (ok : HOk P w H h) (e : Rd H d (mdo w d xs)) : xs.length ≤ 1000 ∧ (d == sysModules) = false ∧ ∃ rows, Paired MRel xs rows ∧ DM w h d rows :=
  (show ObjOk P w H h d (.ext _) from e.ok ok).1
theorem rel_any (r : Paired MRel xs rows) : (xs.any fun r => NestedKey.beq r.1 k) = rows.any fun r => NestedKey.beq r.1 k := by
  induction r with
  | nil => rfl
  | cons hr t ih => rw [List.any_cons, List.any_cons, ih, hr.1]
theorem rel_put (r : Paired MRel xs rows) {uk uv : Value} (rk : RelV key uk) (rv : RelV v uv) : Paired MRel (putH xs k key v) (putM rows k uk uv) := by
  unfold putH putM
  rw [rel_any r]
  split
  · rename_i q
    clear q
    induction r with
    | nil => exact .nil
    | @cons p r' ps rs hr t ih =>
      refine .cons ?_ ih
      show MRel (if NestedKey.beq p.1 k then (p.1, p.2.1, v) else p) (if NestedKey.beq r'.1 k then (r'.1, r'.2.1, uv) else r')
      rw [← hr.1]
      split
      · exact ⟨rfl, hr.2.1, rv⟩
      · exact hr
  · rename_i q
    clear q
    induction r with
    | nil => exact .cons ⟨rfl, rk, rv⟩ .nil
    | cons hr t ih => exact .cons hr ih
theorem rel_look (r : Paired MRel xs rows) {p : MRow} (e : lookH xs k = some p) : ∃ q, lookM rows k = some q ∧ MRel p q := by
  unfold lookH at e
  unfold lookM
  induction r with
  | nil => cases e
  | @cons p' r' ps rs hr t ih =>
    rw [List.find?_cons] at e ⊢
    rw [← hr.1]
    cases hb : NestedKey.beq p'.1 k with
    | true =>
      rw [hb] at e
      cases e
      exact ⟨r', rfl, hr⟩
    | false =>
      rw [hb] at e
      exact ih e
theorem KAll.put (q : KAll H xs) (hk : kAt H k key) : KAll H (putH xs k key v) := by
  intro p hp
  unfold putH at hp
  split at hp
  · obtain ⟨r, hr, rfl⟩ := List.mem_map.mp hp
    split
    · exact q r hr
    · exact q r hr
  · rcases List.mem_append.mp hp with hp | hp
    · exact q p hp
    · obtain rfl := List.mem_singleton.mp hp
      exact hk
end
/-! ### readings and rules -/
section
variable {X : Cx} {pins : List (Addr × Obj)} {σ : St} {H : Hp} {s : Shared} {d : Addr} {xs : List MRow}
theorem vals1' {x : V} {us : List Value} (r : Vals [x] us) : ∃ u, us = [u] ∧ RelV x u := by
  cases r with
  | cons h t =>
    cases t
    exact ⟨_, rfl, h⟩
/-- d[k], there -/
def rIxM (w : World) : R2 := fun x y H Q => ∃ a es k p, x = .ref a ∧ Rd H a (mdo w a es) ∧ KAll H es ∧ kAt H k y ∧ lookH es k = some p ∧ Q p.2.2 H
theorem ixM (hu : X.A.units + 10 < cLine) : IxR X (rIxM X.w) := by
  intro value slice pins s σ H x y v u Q I rx ry z hs
  obtain ⟨a, es, k, p, rfl, e, ka, hk, hp, q⟩ := z
  cases rx
  obtain ⟨l, sy, rows, rr, D⟩ := mdo_rd I.hok e
  obtain ⟨r, hr, rel⟩ := rel_look rr hp
  obtain ⟨nk, h8⟩ := hk.is I.hok ry
  exact tail_any D.typeIs slot_dict_getitem.lookup (item_m hu nk h8 D (keysOk ka I.hok rr) hr fun tk => ⟨p.2.2, H, I.tok tk, rel.2.2, q⟩) hs
/-- d[k] = v -/
def rSetM (w : World) : TSet := fun x y v H Q => ∃ a es k, x = .ref a ∧ H a = some (mdo w a es) ∧ es.length < 1000 ∧ KAll H es ∧ kAt H k y ∧ Q (upd H a (mdo w a (putH es k y v)))
theorem wrM {h' : Heap} {tk : Nat} {es : List MRow} {rows : List KD.Row} (I : Inv X pins σ H s) (e : H d = some (mdo X.w d xs)) (l : es.length ≤ 1000) (sy : (d == sysModules) = false) (rr : Paired MRel es rows) (D : DM X.w h' d rows) (hs : Heap.SameBut d s.heap h') :
    Inv X pins σ (upd H d (mdo X.w d es)) { s with heap := h', toks := tk } :=
  I.write (x := d) (e := d) (by rw [e]; exact trivial) (.inl rfl) (fun b q hb z => (hs.2 b hb).trans z) (let ⟨o, _, _, ho, _⟩ := D.at_; ⟨o, ho⟩) (mdo_ok l sy rr D)
theorem setM (hu : X.A.units + 10 < cLine) : PSet X (rSetM X.w) := by
  intro pins s σ H o i v ov iv u Q I ro ri rv z
  obtain ⟨a, es, k, rfl, e, l, ka, hk, q⟩ := z
  cases ro
  obtain ⟨l0, sy, rows, rr, D⟩ := mdo_rd I.hok (.inl e)
  obtain ⟨nk, h8⟩ := hk.is I.hok ri
  have ln : rows.length ≤ sizeLine := by
    rw [← Paired.length rr]
    exact Nat.le_of_lt (small1000 l0)
  refine store_m hu nk h8 D (keysOk ka I.hok rr) ln fun h' tk D' hs => ⟨_, wrM I e ?_ sy (rel_put rr ri rv) D' hs, q⟩
  have := putH_len es k i v
  omega
end
end KE
end L2
end
/-! ### KE2 -/
section
namespace PySem
namespace KD
section
variable {prog : Program} {w : World} {A : Around} {E : Value → Shared → Prop} {s : Shared} {d : Addr} {es : Array DictEntry} {ep : Nat}
theorem lenRaw {Q : Value → Shared → Prop} (sy : (d == sysModules) = false) (raw : s.heap.DictRaw d es ep) (fit : (es.size : Int) < 2 ^ 63) (z : ∀ t tk, Q (.int es.size t) { s with toks := tk }) :
    wpAny (model prog w) A (call (.builtin "len") [.ref d]) Q E s := by
  refine Calls.call_function_entry kind_len plain_len entry_len (args_len1 _) ?_
  unfold Builtin.«len»
  refine wpAny_bind (m := oneArg "len" _) (wpAny_pure ?_)
  refine wpAny_bind (m := callSpecial? (.ref d) (Str.ofString "__len__")) (wpAny_callSpecial?_slot (name := Str.ofString "__len__") raw.typeIs F.slot_dict_len (call_len_raw sy raw ?_))
  refine wpAny_bind (wpAny_holding (wpAny_pure ?_))
  refine wpAny_bind (wpAny_letGo ?_)
  refine wpAny_ite_split (fun q => absurd q (by omega)) (fun _ => ?_)
  refine wpAny_ite_split (fun q => absurd q (by omega)) (fun _ => ?_)
  exact wpAny_bind (wpAny_mkInt (wpAny_pure ⟨_, rfl, z _ _⟩))
end
end KD
end PySem
namespace L2
namespace KE
open PySem PySem.Spec PyProof.Rows PySem.KD
section
variable {X : Cx} {pins : List (Addr × Obj)} {σ : St} {H : Hp} {s : Shared} {d : Addr} {xs : List MRow}
theorem callLenM : CallR X (.builtin "len") (fun ys H Q => ∃ a es, ys = [.ref a] ∧ Rd H a (mdo X.w a es) ∧ Q (.int es.length) H) := by
  intro pins s σ H ys us Q I r z
  obtain ⟨a, es, rfl, e, q⟩ := z
  obtain ⟨u, rfl, ru⟩ := vals1' r
  cases ru
  obtain ⟨l, sy, rows, rr, D⟩ := mdo_rd I.hok e
  obtain ⟨ens, ep, raw, he⟩ := D.raw
  have hl : ens.size = es.length := by
    rw [row_size he]
    exact (Paired.length rr).symm
  refine lenRaw sy raw (by omega) fun t tk => ⟨.int es.length, H, I.tok tk, ⟨t, by rw [hl]⟩, q⟩
theorem rows_at {es : List MRow} {rows : List KD.Row} {ens : Array DictEntry} {w : World} (rr : Paired MRel es rows) (he : ens.toList = rows.map (rowE w)) {i : Nat} {p : MRow} (hp : es[i]? = some p) : ∃ u v, ens[i]? = some ⟨p.1.hash w, u, v⟩ ∧ RelV p.2.1 u ∧ RelV p.2.2 v := by
  obtain ⟨r, hr, rel⟩ := LiI.paired_get rr hp
  refine ⟨r.2.1, r.2.2, ?_, rel.2.1, rel.2.2⟩
  rw [row_at he i, hr, rel.1]
  rfl
/-- list(d): the keys -/
theorem callListM (hc : X.calm = true) : CallR X (.type "list") (fun ys H Q => ∃ a es, ys = [.ref a] ∧ Rd H a (mdo X.w a es) ∧ ∀ l, H l = none → Q (.ref l) (upd H l (.lst (es.map (·.2.1))))) := by
  intro pins s σ H ys us Q I r z
  obtain ⟨a, es, rfl, e, q⟩ := z
  obtain ⟨u, rfl, ru⟩ := vals1' r
  cases ru
  obtain ⟨l, sy, rows, rr, D⟩ := mdo_rd I.hok e
  obtain ⟨ens, ep, raw, he⟩ := D.raw
  have hl : ens.size = es.length := by
    rw [row_size he]
    exact (Paired.length rr).symm
  refine PySem.W.kdl_call (KdlSrc.rawDict (es := ens) (ep := ep) sy) (I.ok.hd hc) raw (by
    rw [hl]
    exact Nat.le_of_lt (small1000 l)) fun h' tk acc c' kp hS hacc => ?_
  refine ⟨.ref s.heap.objs.size, upd H s.heap.objs.size (.lst (es.map (·.2.1))), I.laid kp (Nat.le_refl _) (show ObjOk X.prog X.w _ _ _ (.lst (es.map (·.2.1))) from ⟨?_, acc.toList, c', ?_, ?_⟩), rfl, q _ (I.hok.fresh (Nat.le_refl _))⟩
  · rw [List.length_map]
    exact Nat.le_of_lt (small1000 l)
  · have el : acc.toList.length = acc.size := by simp
    refine vals_of_at (by rw [List.length_map, el, hacc.1, hl]) fun j x w h1 h2 => ?_
    obtain ⟨hi, ev⟩ := hacc.2 j w (by rw [← Array.getElem?_toList]; exact h2)
    rw [List.getElem?_map] at h1
    obtain ⟨p, hp, rfl⟩ := Option.map_eq_some_iff.mp h1
    obtain ⟨u, v, e1, e2, e3⟩ := rows_at rr he hp
    rw [Array.getElem?_eq_getElem hi] at e1
    rw [ev, Option.some.inj e1]
    exact e2
  · rw [Array.toArray_toList]
    exact hS
/-- list(d.values()) -/
def tListVals (w : World) (te : TE) : TE := fun σ H Q => te σ H fun x H1 => ∃ a es, x = .ref a ∧ Rd H1 a (mdo w a es) ∧ ∀ l, H1 l = none → Q (.ref l) (upd H1 l (.lst (es.map (·.2.2))))
theorem peListVals {e : Expr} {te : TE} {p apos cpos pos : Pos} (hc : X.calm = true) (he : PE X e te) (hg : Gl X "list") (hm : X.mg "list" = none) (hv : bootBuiltins "list" = some (.type "list")) (hbase : attributeBase e "values" X.env (eval e X.env) = eval e X.env := by rfl) (hline : (apos.endLine == cpos.line) = true := by rfl)
    (hs : starEach [.Call (.Attribute e "values" apos) [] [] cpos] X.env = (false, eval (.Call (.Attribute e "values" apos) [] [] cpos) X.env) :: starEach [] X.env := by rfl) :
    PE X (.Call (.Name "list" p) [.Call (.Attribute e "values" apos) [] [] cpos] [] pos) (tListVals X.w te) := by
  refine ⟨fun pins s σ H Q I hq => ?_⟩
  refine wpAny_Call_Name_kw (ld_blt I hg hm hv ?_)
  refine PyProof.Rows.callWith_type1 ?_ hs rfl
  rw [hs]
  show wpAny _ _ (spliced ((false, eval (.Call (.Attribute e "values" apos) [] [] cpos) X.env) :: backTo pos (starEach [] X.env))) _ _ s
  refine Calls.spliced_cons ?_
  refine wpAny_Call_method (T := "dict") (id := "dict.values") hbase rfl hline F.plainAttrs_dict F.slot_dict_values F.type_dict_values (thn (he.run pins s σ H _ I hq) fun u s1 ⟨x, H1, I1, rx, a, es, ex, e, q⟩ => ?_)
  subst ex
  obtain rfl : u = Value.ref a := rx
  obtain ⟨l, sy, rows, rr, D⟩ := mdo_rd I1.hok e
  obtain ⟨ens, ep, raw, heq⟩ := D.raw
  have hl : ens.size = es.length := by
    rw [row_size heq]
    exact (Paired.length rr).symm
  have I2 : Inv X pins σ H1 { s1 with heap := s1.heap.push { cls := .type "dict_values", data := .fields #[.ref a] } } := I1.kept (t' := s1.toks) fun b ob q => Heap.get?_push_of_some _ q
  refine ⟨raw.typeIs, fun b eb => ?_, ?_⟩
  · cases eb
    obtain ⟨o, ho, ex, _⟩ := raw
    exact ⟨o, ho, ex.2.1⟩
  show wpAny _ _ (callWith cpos (.builtin "dict.values") [.ref a] [] []) _ X.xe s1
  refine method_meetsIn F.slot_dict_values F.entry_dict_values rfl (PySem.evalArgs_none ⟨rfl, raw.typeIs, F.args_dict_values_1 _, _, meets_dict_values_raw a sy, ⟨ens, ep, raw⟩, ?_⟩)
  refine Calls.spliced_nil ?_
  refine PySem.W.kdl_call (KdlSrc.rawValues (es := ens) (ep := ep) (d := a)) (I1.ok.hd hc) ⟨⟨_, Heap.get?_push_size _ rfl, rfl, rfl⟩, raw.push _⟩ (by
    rw [hl]
    exact Nat.le_of_lt (small1000 l)) fun h' tk acc c' kp hS hacc => ?_
  refine ⟨.ref _, upd H1 _ (.lst (es.map (·.2.2))), I2.laid kp (Nat.le_refl _) (show ObjOk X.prog X.w _ _ _ (.lst (es.map (·.2.2))) from ⟨?_, acc.toList, c', ?_, ?_⟩), rfl, q _ (I2.hok.fresh (Nat.le_refl _))⟩
  · rw [List.length_map]
    exact Nat.le_of_lt (small1000 l)
  · have el : acc.toList.length = acc.size := by simp
    refine vals_of_at (by rw [List.length_map, el, hacc.1, hl]) fun j x w h1 h2 => ?_
    obtain ⟨hi, ev⟩ := hacc.2 j w (by rw [← Array.getElem?_toList]; exact h2)
    rw [List.getElem?_map] at h1
    obtain ⟨p, hp, rfl⟩ := Option.map_eq_some_iff.mp h1
    obtain ⟨u, v, e1, e2, e3⟩ := rows_at rr heq hp
    rw [Array.getElem?_eq_getElem hi] at e1
    rw [ev, Option.some.inj e1]
    exact e3
  · rw [Array.toArray_toList]
    exact hS
/-- for k in d, while d is locked -/
def ItkM (w : World) (d : Addr) (o : Obj) (es : List MRow) : It :=
  ⟨fun i H => H d = some (.frz o (mdo w d es)) ∧ i < es.length, fun i H x H' => H' = H ∧ ∃ p, es[i]? = some p ∧ x = p.2.1, fun i H => H d = some (.frz o (mdo w d es)) ∧ es.length ≤ i⟩
def iKeysMM (w : World) (td : TE) : TI := fun σ H R => td σ H fun x H1 => ∃ d o es, x = .ref d ∧ H1 d = some (.frz o (mdo w d es)) ∧ R (ItkM w d o es) H1
theorem frzM {o : Obj} {es : List MRow} (I : Inv X pins σ H s) (e : H d = some (.frz o (mdo X.w d es))) : (d == sysModules) = false ∧ s.heap.get? d = some o ∧ o.ExactDict ∧ ∃ (ens : Array DictEntry) (ep : Nat), o.data = .dict ens ep ∧ ens.size = es.length ∧
    ∀ (i : Nat) (p : MRow), es[i]? = some p → ∃ u v, ens[i]? = some (⟨p.1.hash X.w, u, v⟩ : DictEntry) ∧ RelV p.2.1 u ∧ RelV p.2.2 v := by
  obtain ⟨l, sy, rows, rr, D⟩ := mdo_rd I.hok (.inr ⟨o, e⟩)
  obtain ⟨o2, ens, ep, ho, ex, hd, he⟩ := D.at_
  have e0 : s.heap.get? d = some o := (show ObjOk X.prog X.w H s.heap d (.frz o (mdo X.w d es)) from I.hok d _ e).1
  rw [e0] at ho
  cases ho
  refine ⟨sy, e0, ex, ens, ep, hd, ?_, fun i p hp => rows_at rr he hp⟩
  rw [row_size he]
  exact (Paired.length rr).symm
theorem turnM {P : Program} {w : World} {K : PySem.W.Frag} {tg : Expr} {o : Obj} {es : List MRow} {ens : Array DictEntry} {ep : Nat} (it : Addr) (hod : o.data = .dict ens ep) : Turn P w K tg (ItkM w d o es) [it] it (fun i h => h.IsKeyIter it d i es.length ep) where
  mem := by simp
  obj := fun i h st b hb => by
    obtain rfl : b = it := by simpa using hb
    obtain ⟨oi, e, c, dd⟩ := st
    refine ⟨oi, e, fun v z => ?_⟩
    rw [dd] at z
    cases z
  keep := fun i h h' st k => st.at fun oi e => k it (by simp) oi e
  item := by
    intro X hP hw hK hc i pins s σ H E I hf st hg
    subst hP hw hK
    obtain ⟨hd, hi⟩ := hg
    obtain ⟨f0, f1, f2, f3, f4, f5⟩ := hf it (by simp)
    obtain ⟨sy, hgd, hx, ens', ep', hdt, hsz, ent⟩ := frzM I hd
    obtain ⟨rfl, rfl⟩ := dict_ep hod hdt
    obtain ⟨u, v, hen, r1, r2⟩ := ent i es[i] (List.getElem?_eq_getElem hi)
    refine next_key_item st hgd hdt hsz hen fun h' st' sb => ?_
    have I1 : Inv X pins σ H { s with heap := h' } := I.turned (t' := s.toks) (fun b ob hb e => (sb.2 b hb).trans e) f0 f1 f3 f4 f5
    obtain ⟨oi, e, c, dd⟩ := id st'
    exact ⟨u, rfl, go_of (s := { s with heap := h' }) e c dd (by decide) ⟨_, H, I1, r1, ⟨rfl, es[i], List.getElem?_eq_getElem hi, rfl⟩, st', fun b hb => (hf b hb).1⟩⟩
  done := by
    intro X hP hw hK hc i pins s σ H E I hf st hg
    subst hP hw hK
    obtain ⟨hd, hi⟩ := hg
    obtain ⟨f0, f1, f2, f3, f4, f5⟩ := hf it (by simp)
    obtain ⟨sy, hgd, hx, ens', ep', hdt, hsz, ent⟩ := frzM I hd
    obtain ⟨rfl, rfl⟩ := dict_ep hod hdt
    exact next_key_end (I.ok.hd hc) st hgd hdt hsz hi fun h' eb => ⟨rfl, I.turned (t' := s.toks) (fun b ob hb e => eb b ob hb e) f0 f1 f3 f4 f5⟩
  self := fun A i s Q E st h => wpAny_pyIter_keyiter st h
theorem piKeysM {tg e : Expr} {td : TE} (he : PE X e td) : PI X tg e (iKeysMM X.w td) := by
  refine ⟨fun pins s σ H R I z => ?_⟩
  refine thn (he.run pins s σ H _ I z) fun u s1 ⟨x, H1, I1, rx, d, o, es, ex, hd, q⟩ => ?_
  subst ex
  obtain rfl : u = Value.ref d := rx
  obtain ⟨sy, hgd, hx, ens, ep, hdt, hsz, ent⟩ := frzM I1 hd
  refine iter_keys sy hgd hx hdt (pi_one (tk := s1.toks) I1 _ (turnM _ hdt) ⟨_, Heap.get?_push_size _ rfl, rfl, ?_⟩ q)
  rw [hsz]
  rfl
theorem walkM {w : World} {o : Obj} {es : List MRow} : Walk (ItkM w d o es) es.length (fun H => H d = some (.frz o (mdo w d es))) (fun i H x H' => H' = H ∧ ∃ p, es[i]? = some p ∧ x = p.2.1) :=
  ⟨fun _ _ hi q => ⟨q, hi⟩, fun _ q => ⟨q, Nat.le_refl _⟩, fun _ _ _ _ _ _ y => y⟩
end
end KE
end L2
end
/-! ### KE3 -/
section
namespace L2
namespace KE
open PySem PySem.Spec PyProof.Rows PySem.KD
def mergeM (xs rs : List KD.Row) : List KD.Row := rs.foldl (fun acc r => putM acc r.1 r.2.1 r.2.2) xs
theorem merge_rel : ∀ {ps : List MRow} {rs : List KD.Row} {xs : List MRow} {ys : List KD.Row}, Paired MRel ps rs → Paired MRel xs ys → Paired MRel (mergeH xs ps) (mergeM ys rs)
  | _, _, _, _, .nil, r => r
  | p :: ps, q :: rs, xs, ys, .cons h t, r => by
    show Paired MRel (mergeH (putH xs p.1 p.2.1 p.2.2) ps) (mergeM (putM ys q.1 q.2.1 q.2.2) rs)
    rw [← h.1]
    exact merge_rel t (rel_put r h.2.1 h.2.2)
theorem mergeM_ok {h : Heap} : ∀ {rs xs : List KD.Row}, KeysOk h rs → KeysOk h xs → KeysOk h (mergeM xs rs)
  | [], _, _, q => q
  | r :: rs, xs, p, q => mergeM_ok (rs := rs) (xs := putM xs r.1 r.2.1 r.2.2) (fun x hx => p x (List.mem_cons_of_mem _ hx)) (q.put (p r List.mem_cons_self).1 (p r List.mem_cons_self).2)
theorem putM_len (xs : List KD.Row) (k : NestedKey) (key v : Value) : (putM xs k key v).length ≤ xs.length + 1 := by
  unfold putM
  split
  · rw [List.length_map]
    omega
  · rw [List.length_append]
    exact Nat.le_refl _
theorem mergeM_len (rs : List KD.Row) : ∀ xs : List KD.Row, (mergeM xs rs).length ≤ xs.length + rs.length := by
  induction rs with
  | nil => exact fun xs => Nat.le_refl _
  | cons p ps ih =>
    intro xs
    have h1 := ih (putM xs p.1 p.2.1 p.2.2)
    have h2 := putM_len xs p.1 p.2.1 p.2.2
    show (mergeM (putM xs p.1 p.2.1 p.2.2) ps).length ≤ xs.length + (ps.length + 1)
    omega
theorem mergeM_step (rs : List KD.Row) {i : Nat} {r : KD.Row} (h : rs[i]? = some r) : mergeM [] (rs.take (i + 1)) = putM (mergeM [] (rs.take i)) r.1 r.2.1 r.2.2 := by
  unfold mergeM
  rw [List.take_succ, h, List.foldl_append]
  rfl
section
variable {X : Cx} {pins : List (Addr × Obj)} {σ : St} {H : Hp} {s : Shared}
theorem pairs_rows (ok : HOk X.prog X.w H s.heap) : ∀ {ts : List Addr} {ps : List MRow}, Paired (fun (t : Addr) (p : MRow) => H t = some (.tup [p.2.1, p.2.2])) ts ps →
    ∃ rs : List KD.Row, Paired MRel ps rs ∧ rs.length = ts.length ∧ ∀ (j : Nat) (k v : Value), (rs.map (·.2))[j]? = some (k, v) → ∃ t, ts[j]? = some t ∧ PairAt s.heap t k v
  | _, _, .nil => ⟨[], .nil, rfl, fun j k v e => by simp at e⟩
  | t :: ts, p :: ps, .cons h r => by
    obtain ⟨rs, r1, l1, a1⟩ := pairs_rows ok r
    obtain ⟨_, its, rr, o, h1, h2, n, h3⟩ := (show ObjOk X.prog X.w H s.heap t (.tup [p.2.1, p.2.2]) from ok t _ h)
    match its, rr with
    | [u, v], .cons ru (.cons rv .nil) =>
      refine ⟨(p.1, u, v) :: rs, .cons ⟨rfl, ru, rv⟩ r1, congrArg Nat.succ l1, fun j k w e => ?_⟩
      cases j with
      | zero =>
        simp at e
        obtain ⟨rfl, rfl⟩ := e
        exact ⟨t, rfl, .inl ⟨o, h1, h2, n, h3⟩⟩
      | succ j => exact a1 j k w (by simpa using e)
/-- dict(pairs) -/
theorem callDictM (hu : X.A.units + 20 < cLine) (hc : X.calm = true) : CallR X (.type "dict") (fun ys H Q => ∃ (a : Addr) (ts : List Addr) (ps : List MRow), ys = [.ref a] ∧ H a = some (.lst (ts.map .ref)) ∧ Paired (fun (t : Addr) (p : MRow) => H t = some (.tup [p.2.1, p.2.2])) ts ps ∧ KAll H ps ∧ ps.length ≤ 900 ∧
    ∀ d, H d = none → Q (.ref d) (upd H d (mdo X.w d (mergeH [] ps)))) := by
  intro pins s σ H ys us Q I r z
  obtain ⟨a, ts, ps, rfl, ha, pr, ka, lp, q⟩ := z
  obtain ⟨u, rfl, ru⟩ := vals1' r
  cases ru
  obtain ⟨rs, rr, lr, at_⟩ := pairs_rows I.hok pr
  obtain ⟨z0, its, n, rv, hla⟩ := (show ObjOk X.prog X.w H s.heap a (.lst (ts.map V.ref)) from I.hok a _ ha)
  have lps : ps.length = rs.length := Paired.length rr
  have lit : its.length = ts.length := by
    have := Paired.length rv
    rw [List.length_map] at this
    exact this.symm
  have keys : KeysOk s.heap rs := keysOk ka I.hok rr
  have ref_at : ∀ j t, ts[j]? = some t → its[j]? = some (Value.ref t) := fun j t e => by
    obtain ⟨u, hu', rl⟩ := rv.get (i := j) (x := V.ref t) (by rw [List.getElem?_map, e]; rfl)
    rw [hu']
    exact congrArg some rl
  have ok : PlainSeq "list" s.heap a its.toArray ∧ PairItems s.heap its.toArray (fun j => ts.getD j 0) (rs.map (·.2)) := by
    refine ⟨⟨_, n, hla, rfl, rfl, rfl⟩, by simp [lit, lr], fun j k v e => ?_⟩
    obtain ⟨t, et, pa⟩ := at_ j k v e
    have eg : ts.getD j 0 = t := by rw [List.getD_eq_getElem?_getD, et]; rfl
    show its.toArray[j]? = some (Value.ref (ts.getD j 0)) ∧ PairAt s.heap (ts.getD j 0) k v
    rw [eg]
    exact ⟨by rw [List.getElem?_toArray]; exact ref_at j t et, pa⟩
  have big : (s.heap.objs.size == sysModules) = false := beq_eq_false_iff_ne.mpr (Ne.symm (Nat.ne_of_lt I.big))
  refine call_dict_arg (PairArg.list a its.toArray (fun j => ts.getD j 0) (rs.map (·.2))) ok fun s1 hs1 hdf ok1 => ?_
  subst hs1
  let d := s.heap.objs.size
  let Tab : Nat → Heap → Prop := fun i h => DM X.w h d (mergeM [] (rs.take i)) ∧ ∀ b o vs n, s.heap.get? b = some o → o.data = .seq vs n → h.get? b = some o
  have tab0 : Tab 0 (s.heap.push { cls := .type "dict", data := .dict #[] }) := by
    refine ⟨⟨⟨_, #[], 0, Heap.get?_push_size _ rfl, ⟨rfl, rfl, rfl⟩, rfl, rfl⟩, List.nodup_nil⟩, fun b o vs n e _ => Heap.get?_push_of_some _ e⟩
  refine updateFrom_arg (A := X.A.in1) (d := d) (Tab := Tab) (PairArg.list a its.toArray (fun j => ts.getD j 0) (rs.map (·.2))) .none (I.ok.hd hc) ok1 hdf tab0 (fun i h t => ?_) (fun i h h' wr' off new t kp => ?_) (fun i k v s2 Q2 E2 hi hrel t _ z2 => ?_) (fun h' tk t kp => ?_)
  · obtain ⟨⟨o, es, ep, ho, _⟩, _⟩ := t.1
    exact Heap.lt_size ho
  · refine ⟨dmKeep t.1 fun o e => kp d o off e, fun b o vs n e hd => kp b o (fun hb => ?_) (t.2 b o vs n e hd)⟩
    rcases new b hb with w0 | w0
    · cases w0
    · rw [Heap.get?_push_of_some _ e] at w0
      cases w0
  · have hr0 : (rs.map (·.2))[i]? = some (k, v) := hrel
    rw [List.getElem?_map] at hr0
    obtain ⟨r, er, e2⟩ := Option.map_eq_some_iff.mp hr0
    obtain ⟨kd, k', v'⟩ := r
    cases e2
    have kk : KeysOk s2.heap rs := fun x hx => ⟨NestedIs.at (fun b o vs n e hd => t.2 b o vs n e hd) _ _ (keys x hx).1, (keys x hx).2⟩
    have hm := List.mem_of_getElem? er
    have lm : (mergeM [] (rs.take i)).length ≤ sizeLine := by
      have h1 := mergeM_len (rs.take i) []
      rw [List.length_nil, List.length_take] at h1
      exact Nat.le_of_lt (small1000 (by omega))
    refine set_m (A := X.A.in1.in1) (by
      rw [Around.in1_units, Around.in1_units]
      omega) (kk _ hm).1 (kk _ hm).2 t.1 (mergeM_ok (fun x hx => kk x (List.mem_of_mem_take hx)) (fun x hx => nomatch hx)) lm fun h' tk D' hs => z2 h' tk ⟨?_, fun b o vs n e hd => ?_⟩ hs
    · rw [mergeM_step rs er]
      exact D'
    · have q1 := t.2 b o vs n e hd
      refine (hs.2 b fun eb => ?_).trans q1
      obtain ⟨⟨o3, es3, ep3, ho3, _, hd3, _⟩, _⟩ := t.1
      rw [eb, ho3] at q1
      cases q1
      rw [hd3] at hd
      cases hd
  · have t1 : DM X.w h' d (mergeM [] rs) := by
      have := t.1
      rw [List.length_map, List.take_length] at this
      exact this
    have l0 : (mergeH [] ps).length ≤ 1000 := by
      have := mergeH_len ps []
      rw [List.length_nil] at this
      omega
    refine ⟨rfl, .ref d, upd H d (mdo X.w d (mergeH [] ps)), I.laid (fun b o e => kp b o (Nat.ne_of_lt (Heap.lt_size e)) (fun w0 => nomatch w0) (Heap.get?_push_of_some _ e)) (Nat.le_refl _) (mdo_ok l0 big (merge_rel rr .nil) t1), rfl, q d (I.hok.fresh (Nat.le_refl _))⟩
end
end KE
end L2
end
/-! ### KE4 -/
section
namespace L2
namespace KE
open PySem PySem.Spec PyProof.Rows PySem.KD
/-! ## {k: v for target in iter}, keys of several sorts -/
theorem dictSetM {X : Cx} {pins : List (Addr × Obj)} {σ : St} {H : Hp} {s : Shared} {E : Value → Shared → Prop} {D : Addr} {xs : List MRow} {k : NestedKey} {y v : V} {u r : Value} {Q : Unit → Shared → Prop} (hu : X.A.units + 10 < cLine) (I : Inv X pins σ H s)
    (e : H D = some (mdo X.w D xs)) (l : xs.length < 1000) (ka : KAll H xs) (hk : kAt H k y) (ry : RelV y u) (rv : RelV v r) (z : ∀ s', Inv X pins σ (upd H D (mdo X.w D (putH xs k y v))) s' → Q () s') : wpAny (model X.prog X.w) X.A (dictSet D u r) Q E s := by
  obtain ⟨l0, sy, rows, rr, dm⟩ := mdo_rd I.hok (.inl e)
  obtain ⟨nk, h8⟩ := hk.is I.hok ry
  refine set_m (by omega) nk h8 dm (keysOk ka I.hok rr) (by
    rw [← Paired.length rr]
    exact Nat.le_of_lt (small1000 l0)) fun h' tk D' hs => z _ (wrM I e ?_ sy (rel_put rr ry rv) D' hs)
  have := putH_len xs k y v
  omega
/-- the reading: D the new dict; J goes on or stops; a turn stores one pair -/
def tDcM (w : World) (wi : TI) (g : TG) (tk tv : TE) (vs : List Nat) : TE := fun σ H Q => wi σ H fun J H1 => ∀ D, H1 D = none → ∃ W : Nat → Nat → Hp → Prop, (∃ m, W 0 m (upd H1 D (mdo w D []))) ∧ ∀ i m H, W i m H →
  (J.stop i H ∧ Q (.ref D) H) ∨ (J.go i H ∧ ∃ Nx : Hp → Prop, (∀ H', Nx H' → ∃ m', m' < m ∧ W (i + 1) m' H') ∧ ∀ x H', J.yld i H x H' → g x (wipe σ vs) H' fun σ2 H2 => wipe σ2 vs = wipe σ vs ∧ tk σ2 H2 fun y H4 => tv σ2 H4 fun z H5 =>
    ∃ xs k, kAt H5 k y ∧ H5 D = some (mdo w D xs) ∧ KAll H5 xs ∧ xs.length < 1000 ∧ Nx (upd H5 D (mdo w D (putH xs k y z))))
section
variable {X : Cx}
theorem dcM_core {pins : List (Addr × Obj)} {s : Shared} {σ : St} {H : Hp} {Q : VK} {kx vx tg iter : Expr} {scope : Scope} {own : List (Str × Nat)} {pos pos' : Pos} {wi : TI} {g : TG} {tk tv : TE} {use : Option (Value → Sem Unit)} {Qf : Value → Shared → Prop}
    (hu : X.A.units + 10 < cLine) (hc : X.calm = true) (hN : X.N.Nodup) (I : Inv X pins σ H s) (hi : PI X tg iter wi) (ok : BlkOk X.N X.env.scope scope own)
    (hg : ∀ (s : Shared) (H : Hp) (C : Addr) (cl : List (Str × Addr)) (fp : List Addr), PG (X.blk s H scope (compEnvC scope cl C X.env) fp) tg g)
    (hk : ∀ (s : Shared) (H : Hp) (C : Addr) (cl : List (Str × Addr)) (fp : List Addr), PE (X.blk s H scope (compEnvC scope cl C X.env) fp) kx tk)
    (he : ∀ (s : Shared) (H : Hp) (C : Addr) (cl : List (Str × Addr)) (fp : List Addr), PE (X.blk s H scope (compEnvC scope cl C X.env) fp) vx tv) (hs : ∀ x, foldedSetIterable iter X.env x = pure x)
    (z : tDcM X.w wi g tk tv (own.map (·.2)) σ H Q)
    (fin : ∀ D C s' m H', Inv X pins σ H' s' → Q (.ref D) H' → s'.heap.Ns C m → FpOk X pins H' C → compPost (model X.prog X.w) X.A X.xe use Qf (.ref D) C (.ok .next) s') :
    wpAny (model X.prog X.w) X.A (comprehension (.DictComp kx vx [⟨tg, iter, [], 0⟩] scope pos) scope X.env pos' newDict false (eval iter X.env) use) Qf X.xe s := by
  have cells : ∀ y ∈ scope.names, y.2 = .free → ∃ c, X.env.cells.lookup y.1 = some c := fun y hy e =>
    (ok.free y hy e).elim (fun q => I.ok.has _ (.inl q)) fun q => I.ok.has _ (.inr q)
  refine wpAny_comprehension_free (use := use) rfl hs (closure_ok cells) ok.kind (fun y hy e => by rw [ok.uniq y hy, e]) (thn (hi.run pins s σ H _ I z) fun xv s1 hx => thn hx fun itv s2 hq2 => ?_)
  obtain ⟨it, fp, tn, J, H2, ei, I2, T, st2, f2, q⟩ := hq2
  subst ei
  refine wpAny_newObj_type (newEnv_comp ?_)
  generalize eD : s2.heap.objs.size = D
  have Dn : H2 D = none := I2.hok.fresh (Nat.le_of_eq eD)
  obtain ⟨W, ⟨m0, w0⟩, turn⟩ := q D Dn
  generalize e3 : ({ s2 with heap := s2.heap.push { cls := .type "dict", data := .dict #[] } } : Shared) = s3
  have I3 : Inv X pins σ (upd H2 D (mdo X.w D [])) s3 := by
    rw [← e3]
    refine I2.laid (t' := s2.toks) (fun b o e => Heap.get?_push_of_some _ e) (Nat.le_of_eq eD) ?_
    rw [← eD]
    exact mdo_ok (Nat.zero_le _) (beq_eq_false_iff_ne.mpr (Ne.symm (Nat.ne_of_lt I2.big))) .nil ⟨⟨_, #[], 0, Heap.get?_push_size _ rfl, ⟨rfl, rfl, rfl⟩, rfl, rfl⟩, List.nodup_nil⟩
  have hp3 : s3.heap = s2.heap.push { cls := .type "dict", data := .dict #[] } := by rw [← e3]
  have low : ∀ b ∈ fp, b < s2.heap.objs.size := fun b hb => let ⟨_, e, _⟩ := T.obj _ _ st2 b hb; Heap.lt_size e
  have f3 : ∀ b ∈ fp, FpOk X pins (upd H2 D (mdo X.w D [])) b ∧ b < s3.heap.objs.size := fun b hb => by
    have lt := low b hb
    refine ⟨⟨?_, (f2 b hb).2⟩, ?_⟩
    · rw [upd_ne (by rw [← eD]; exact Nat.ne_of_lt lt)]
      exact (f2 b hb).1
    · rw [hp3, Heap.size_push]
      exact Nat.lt_succ_of_lt lt
  have st3 : tn 0 s3.heap := T.keep _ _ _ st2 fun b _ o e => by
    rw [hp3]
    exact Heap.get?_push_of_some _ e
  have I4 := block_start I3 ok hN f3
  have pg := hg s3 (upd H2 D (mdo X.w D [])) s3.heap.objs.size (cellsFrom (s3.heap.objs.size + 1) scope.names (cloFrom X.env.cells scope.names [])) fp
  have pk := hk s3 (upd H2 D (mdo X.w D [])) s3.heap.objs.size (cellsFrom (s3.heap.objs.size + 1) scope.names (cloFrom X.env.cells scope.names [])) fp
  have pe := he s3 (upd H2 D (mdo X.w D [])) s3.heap.objs.size (cellsFrom (s3.heap.objs.size + 1) scope.names (cloFrom X.env.cells scope.names [])) fp
  show codeAny _ _ (.compStart (.DictComp kx vx [⟨tg, iter, [], 0⟩] scope pos) 0 (.ref it) (.ref D) (compEnvC scope (cellsFrom (s3.heap.objs.size + 1) scope.names (cloFrom X.env.cells scope.names [])) s3.heap.objs.size X.env)) (compPost (model X.prog X.w) X.A X.xe use Qf (.ref D) s3.heap.objs.size) { s3 with heap := pushCells (s3.heap.push { cls := .type "dict", data := .dict #[] }) scope.names }
  have none3 : ∀ b ∈ fp, (upd H2 D (mdo X.w D [])) b = none := fun b hb => (f3 b hb).1.1
  generalize ec : compEnvC scope (cellsFrom (s3.heap.objs.size + 1) scope.names (cloFrom X.env.cells scope.names [])) s3.heap.objs.size X.env = ce at I4 pg pk pe ⊢
  have eL : ce.locals = s3.heap.objs.size := by
    subst ec
    rfl
  generalize eH : upd H2 D (mdo X.w D []) = H3 at I3 I4 pg pk pe w0 none3 f3
  generalize e4 : ({ s3 with heap := pushCells (s3.heap.push { cls := .type "dict", data := .dict #[] }) scope.names } : Shared) = s4 at I4 ⊢
  have st4 : tn 0 s4.heap := T.keep _ _ _ st3 fun b _ o e => by
    rw [← e4]
    exact pushCells_keeps _ _ _ _ (Heap.get?_push_of_some _ e)
  have foot : ∀ {σ' : St} {H' : Hp} {s' : Shared}, Inv (X.blk s3 H3 scope ce fp) [] σ' H' s' → (∀ b ∈ fp, H' b = none) → ∀ b ∈ fp, FpOk (X.blk s3 H3 scope ce fp) [] H' b := fun {σ' H' s'} K n b hb => by
    refine ⟨n b hb, (K.ok.exf b hb).1, K.ok.exfs b hb, .inl hb, fun x c e => (K.ok.exf b hb).2 x c e, fun p hp => ?_⟩
    exact absurd (show p ∈ ([] : List (Addr × Obj)) ++ [] from hp) (by simp)
  have loop : codeAny (model X.prog X.w) X.A (.compLoop (.DictComp kx vx [⟨tg, iter, [], 0⟩] scope pos) 0 (.ref it) (.ref D) ce) (compPost (model X.prog X.w) X.A X.xe use Qf (.ref D) s3.heap.objs.size) s4 := by
    refine compLoop_anyD (fun n s' => ∃ i H', Inv (X.blk s3 H3 scope ce fp) [] (wipe σ (own.map (·.2))) H' s' ∧ tn i s'.heap ∧ (∀ b ∈ fp, H' b = none) ∧ W i n H') ?_ m0 ⟨0, H3, I4, st4, none3, w0⟩
    rintro n s5 ⟨i, H5, I5, st5, n5, w5⟩
    rcases turn i n H5 w5 with ⟨stop, qq⟩ | ⟨go, Nx, hNx, step⟩
    · refine thnF (T.done (X.blk s3 H3 scope ce fp) rfl rfl rfl hc i [] s5 _ H5 (fun _ _ => False) I5 (foot I5 n5) st5 stop) fun r s6 ⟨hr, I6⟩ => ?_
      subst hr
      have I7 : Inv X pins σ H5 s6 := I3.call' (ch := fp) I6.os I6.base I6.hok I6.bare fun b hb =>
        ⟨(f3 b hb).1.2.2.2.1, (f3 b hb).1.2.1, (f3 b hb).1.2.2.2.2.1, (f3 b hb).1.2.2.2.2.2⟩
      have nC : H5 s3.heap.objs.size = none := by
        have y : H5 ce.locals = none := I6.free
        rw [eL] at y
        exact y
      obtain ⟨m, hn, _⟩ := I6.loc
      have hn' : s6.heap.Ns ce.locals m := hn
      rw [eL] at hn'
      exact fin D s3.heap.objs.size s6 m H5 I7 qq hn' (I3.fpOk (Nat.le_refl _) nC)
    · refine thnF (T.item (X.blk s3 H3 scope ce fp) rfl rfl rfl hc i [] s5 _ H5 (fun _ _ => False) I5 (foot I5 n5) st5 go) fun r s6 ⟨u, hr, h6⟩ => ?_
      subst hr
      refine thnF h6 fun _ s7 ⟨x, H7, I7, r7, y7, st7, n7⟩ => ?_
      have P7 := I7.pinned (foot I7 n7) (T.obj _ _ st7)
      refine thnF (pg.run _ s7 _ H7 x u _ P7 r7 (step x H7 y7)) fun _ s8 ⟨σ8, H8, I8, hw8, q8⟩ => ?_
      refine wpAny_pure (a := true) ?_
      have done : ∀ {s' : Shared} {H' : Hp}, Inv (X.blk s3 H3 scope ce fp) ([] ++ pinsAt fp s7.heap) σ8 H' s' → Nx H' → ∃ m, m < n ∧ ∃ i H', Inv (X.blk s3 H3 scope ce fp) [] (wipe σ (own.map (·.2))) H' s' ∧ tn i s'.heap ∧ (∀ b ∈ fp, H' b = none) ∧ W i m H' := by
        intro s' H' K nx
        obtain ⟨m', hm, w'⟩ := hNx H' nx
        have pin : ∀ b ∈ fp, ∀ o, s7.heap.get? b = some o → s'.heap.get? b = some o ∧ H' b = none := fun b hb o e =>
          let y := K.pin (b, o) (List.mem_append_right _ (List.mem_append_right _ (mem_pinsAt hb e)))
          ⟨y.1, y.2.1⟩
        have ll : (wipe σ (own.map (·.2))).length = σ8.length := by rw [← hw8, wipe_length]
        refine ⟨m', hm, i + 1, H', (K.unpinned (pins := [])).weak ll (fun j v e => ?_), T.keep _ _ _ st7 fun b hb o e => (pin b hb o e).1, fun b hb => ?_, w'⟩
        · rw [← hw8] at e
          exact (wipe_some e).1
        · obtain ⟨o, e, _⟩ := T.obj _ _ st7 b hb
          exact (pin b hb o e).2
      rw [if_pos rfl]
      have u8 : (X.blk s3 H3 scope ce fp).A.units + 10 < cLine := hu
      refine thnF (pk.run _ s8 σ8 H8 _ I8 q8) fun a1 s10 ⟨yk, H10, I10, r10, q10⟩ => ?_
      refine thnF (pe.run _ s10 σ8 H10 _ I10 q10) fun a2 s11 ⟨yv, H11, I11, r11, xs, k, kat, eD11, ka, l11, nx⟩ => ?_
      exact dictSetM (X := X.blk s3 H3 scope ce fp) u8 I11 eD11 l11 ka kat r10 r11 fun s12 I12 => done I12 nx
  exact codeAny_compStart_dict loop (T.self X.A 0 _ _ _ st4 loop)
/-- as a value -/
theorem peDcM {kx vx tg iter : Expr} {scope : Scope} {own : List (Str × Nat)} {pos : Pos} {wi : TI} {g : TG} {tk tv : TE} (hu : X.A.units + 10 < cLine) (hc : X.calm = true) (hN : X.N.Nodup) (hi : PI X tg iter wi) (ok : BlkOk X.N X.env.scope scope own)
    (hg : ∀ (s : Shared) (H : Hp) (C : Addr) (cl : List (Str × Addr)) (fp : List Addr), PG (X.blk s H scope (compEnvC scope cl C X.env) fp) tg g)
    (hk : ∀ (s : Shared) (H : Hp) (C : Addr) (cl : List (Str × Addr)) (fp : List Addr), PE (X.blk s H scope (compEnvC scope cl C X.env) fp) kx tk)
    (he : ∀ (s : Shared) (H : Hp) (C : Addr) (cl : List (Str × Addr)) (fp : List Addr), PE (X.blk s H scope (compEnvC scope cl C X.env) fp) vx tv) (hs : ∀ x, foldedSetIterable iter X.env x = pure x := by intro _; rfl) :
    PE X (.DictComp kx vx [⟨tg, iter, [], 0⟩] scope pos) (tDcM X.w wi g tk tv (own.map (·.2))) := by
  refine ⟨fun pins s σ H Q I z => ?_⟩
  rw [arm_eval_DictComp]
  refine dcM_core hu hc hN I hi ok hg hk he hs z fun D C s' m H' I' q hn f => ⟨m, hn, fun h2 sb => ?_⟩
  exact ⟨.ref D, H', I'.turned (t' := s'.toks) (fun b o hb e => (sb.2 b hb).trans e) f.1 f.2.1 f.2.2.2.1 f.2.2.2.2.1 f.2.2.2.2.2, rfl, q⟩
/-- over a walk -/
theorem dcM_it {w : World} {J : It} {n : Nat} {G : Hp → Prop} {Y : Nat → Hp → V → Hp → Prop} (wk : Walk J n G Y) {g : TG} {tk tv : TE} {vs : List Nat} {σ : St} {H1 : Hp} {D : Addr} {Qd : Hp → Prop} (Pv : Nat → Hp → Prop) (h0 : Pv 0 (upd H1 D (mdo w D []))) (hG : ∀ i H, i ≤ n → Pv i H → G H)
    (hs : ∀ i x H H', i < n → Pv i H → Y i H x H' → g x (wipe σ vs) H' fun σ2 H2 => wipe σ2 vs = wipe σ vs ∧ tk σ2 H2 fun y H4 => tv σ2 H4 fun z H5 =>
      ∃ xs k, kAt H5 k y ∧ H5 D = some (mdo w D xs) ∧ KAll H5 xs ∧ xs.length < 1000 ∧ Pv (i + 1) (upd H5 D (mdo w D (putH xs k y z)))) (hd : ∀ H, Pv n H → Qd H) :
    ∃ W : Nat → Nat → Hp → Prop, (∃ m, W 0 m (upd H1 D (mdo w D []))) ∧ ∀ i m H, W i m H →
      (J.stop i H ∧ Qd H) ∨ (J.go i H ∧ ∃ Nx : Hp → Prop, (∀ H', Nx H' → ∃ m', m' < m ∧ W (i + 1) m' H') ∧ ∀ x H', J.yld i H x H' → g x (wipe σ vs) H' fun σ2 H2 => wipe σ2 vs = wipe σ vs ∧ tk σ2 H2 fun y H4 => tv σ2 H4 fun z H5 =>
        ∃ xs k, kAt H5 k y ∧ H5 D = some (mdo w D xs) ∧ KAll H5 xs ∧ xs.length < 1000 ∧ Nx (upd H5 D (mdo w D (putH xs k y z)))) := by
  refine ⟨fun i m H => m = n - i ∧ i ≤ n ∧ Pv i H, ⟨n, by simp, Nat.zero_le _, h0⟩, ?_⟩
  rintro i m H ⟨rfl, hi, p⟩
  have q := hG i H hi p
  rcases Nat.lt_or_ge i n with lt | ge
  · exact .inr ⟨wk.goes i H lt q, Pv (i + 1), fun H' p' => ⟨n - (i + 1), by omega, rfl, lt, p'⟩, fun x H' y => hs i x H H' lt p (wk.yields i H x H' lt q y)⟩
  · obtain rfl : i = n := by omega
    exact .inl ⟨wk.stops H q, hd H p⟩
end
end KE
end L2
end
/-! ### KF -/
section
namespace L2
namespace KF
open PySem PySem.Spec PyProof.Rows PySem.KD KE
/-! ## values that are data, by what they are in the abstract heap -/
mutual
/-- x is the data d; its lists and dicts stand at fp -/
inductive Rep (w : World) (H : Hp) : V → PyData → List Addr → Prop
  | none : Rep w H .non .none []
  | bool (b : Bool) : Rep w H (.bl b) (.bool b) []
  | int (i : Int) : Rep w H (.int i) (.int i) []
  | str (x : Str) : Rep w H (.str x) (.str x) []
  | lst {a : Addr} {vs : List V} {ds : List PyData} {fp : List Addr} : H a = some (.lst vs) → RepAll w H vs ds fp → Rep w H (.ref a) (.list ds) (a :: fp)
  | tup {a : Addr} {vs : List V} {ds : List PyData} {fp : List Addr} : H a = some (.tup vs) → RepAll w H vs ds fp → Rep w H (.ref a) (.tuple ds) fp
  | dct {a : Addr} {es : List MRow} {kvs : List (PyData × PyData)} {fk fv : List Addr} : H a = some (mdo w a es) → KAll H es → (es.map (·.1)).Nodup → fk = [] → RepAll w H (es.map fun r => r.2.1) (kvs.map (·.1)) fk → RepAll w H (es.map fun r => r.2.2) (kvs.map (·.2)) fv → Rep w H (.ref a) (.dict kvs) (a :: fv)
inductive RepAll (w : World) (H : Hp) : List V → List PyData → List Addr → Prop
  | nil : RepAll w H [] [] []
  | cons {v : V} {d : PyData} {vs : List V} {ds : List PyData} {f1 f2 : List Addr} : Rep w H v d f1 → RepAll w H vs ds f2 → RepAll w H (v :: vs) (d :: ds) (f1 ++ f2)
end
/-- fp's objects and all tuples stay -/
structure Keep (fp : List Addr) (H H' : Hp) : Prop where
  at_ : ∀ a ∈ fp, H' a = H a
  tup : ∀ a xs, H a = some (.tup xs) → H' a = some (.tup xs)
theorem Keep.sub {f g : List Addr} {H H' : Hp} (k : Keep g H H') (s : ∀ a ∈ f, a ∈ g) : Keep f H H' := ⟨fun a h => k.at_ a (s a h), k.tup⟩
theorem KAll.keep {H H' : Hp} {es : List MRow} (q : KAll H es) (t : ∀ a xs, H a = some (.tup xs) → H' a = some (.tup xs)) : KAll H' es := fun p hp => (q p hp).mono t
mutual
theorem Rep.keep {w : World} {H H' : Hp} : ∀ {v : V} {d : PyData} {fp : List Addr}, Rep w H v d fp → Keep fp H H' → Rep w H' v d fp
  | _, _, _, .none, _ => .none
  | _, _, _, .bool b, _ => .bool b
  | _, _, _, .int i, _ => .int i
  | _, _, _, .str x, _ => .str x
  | _, _, _, .lst e r, k => .lst ((k.at_ _ List.mem_cons_self).trans e) (r.keep (k.sub fun a h => List.mem_cons_of_mem _ h))
  | _, _, _, .tup e r, k => .tup (k.tup _ _ e) (r.keep k)
  | _, _, _, .dct e ka nd hf rk rv, k => .dct ((k.at_ _ List.mem_cons_self).trans e) (KAll.keep ka k.tup) nd hf (rk.keep (k.sub fun a h => absurd (hf ▸ h) (by simp))) (rv.keep (k.sub fun a h => List.mem_cons_of_mem _ h))
theorem RepAll.keep {w : World} {H H' : Hp} : ∀ {vs : List V} {ds : List PyData} {fp : List Addr}, RepAll w H vs ds fp → Keep fp H H' → RepAll w H' vs ds fp
  | _, _, _, .nil, _ => .nil
  | _, _, _, .cons r rs, k => .cons (r.keep (k.sub fun a h => List.mem_append_left _ h)) (rs.keep (k.sub fun a h => List.mem_append_right _ h))
end
mutual
theorem Rep.dom {w : World} {H : Hp} : ∀ {v : V} {d : PyData} {fp : List Addr}, Rep w H v d fp → ∀ a ∈ fp, H a ≠ none
  | _, _, _, .none, _, h => nomatch h
  | _, _, _, .bool _, _, h => nomatch h
  | _, _, _, .int _, _, h => nomatch h
  | _, _, _, .str _, _, h => nomatch h
  | _, _, _, .lst e r, a, h => by
    rcases List.mem_cons.mp h with rfl | h
    · rw [e]; simp
    · exact r.dom a h
  | _, _, _, .tup e r, a, h => r.dom a h
  | _, _, _, .dct e _ _ _ _ rv, a, h => by
    rcases List.mem_cons.mp h with rfl | h
    · rw [e]; simp
    · exact rv.dom a h
theorem RepAll.dom {w : World} {H : Hp} : ∀ {vs : List V} {ds : List PyData} {fp : List Addr}, RepAll w H vs ds fp → ∀ a ∈ fp, H a ≠ none
  | _, _, _, .nil, _, h => nomatch h
  | _, _, _, .cons r rs, a, h => (List.mem_append.mp h).elim (r.dom a) (rs.dom a)
end
theorem RepAll.length {w : World} {H : Hp} : ∀ {vs : List V} {ds : List PyData} {fp : List Addr}, RepAll w H vs ds fp → vs.length = ds.length
  | _, _, _, .nil => rfl
  | _, _, _, .cons _ rs => congrArg Nat.succ rs.length
theorem vals_rows {w : World} {es : List MRow} {rows : List KD.Row} {ens : Array DictEntry} (l : es.length ≤ 1000) (rr : Paired MRel es rows) (he : ens.toList = rows.map (rowE w)) : Vals (es.map fun r => r.2.1) (ens.toList.map (·.key)) ∧ Vals (es.map fun r => r.2.2) (ens.toList.map (·.val)) := by
  rw [he, List.map_map, List.map_map]
  clear he l
  induction rr with
  | nil => exact ⟨.nil, .nil⟩
  | cons hr t ih => exact ⟨.cons hr.2.1 ih.1, .cons hr.2.2 ih.2⟩
/-! ### what is shown of it -/
section
variable {P : Program} {w : World} {H : Hp} {h : Heap}
mutual
theorem Rep.shows (ok : HOk P w H h) : ∀ {v : V} {d : PyData} {fp : List Addr}, Rep w H v d fp → d.showable = true → d.shown.length ≤ sizeLine → ∀ {u : Value}, RelV v u →
    ∃ as bs, Reads h u d as ∧ ReadAtMost h d.depth bs ∧ ReprK P w bs h d.depth u d.shown
  | _, _, _, .none, _, _, u, ru => by
    obtain rfl : u = Value.none := ru
    exact ⟨[], [], .none, (fun _ z => nomatch z), by simp only [PyData.shown]; exact .of_is ReprIs.none _ _ _⟩
  | _, _, _, .bool b, _, _, u, ru => by
    obtain rfl : u = Value.bool b := ru
    exact ⟨[], [], .bool b, (fun _ z => nomatch z), by simp only [PyData.shown]; exact .of_is (ReprIs.bool b) _ _ _⟩
  | _, _, _, .int i, hs, _, u, ru => by
    obtain ⟨t, rfl⟩ := ru
    exact ⟨[], [], .int i t, (fun _ z => nomatch z), by simp only [PyData.shown]; exact .of_is (ReprIs.int t (by simpa [PyData.showable] using hs)) _ _ _⟩
  | _, _, _, .str x, _, hz, u, ru => by
    obtain ⟨t, rfl⟩ := ru
    exact ⟨[], [], .str x t, (fun _ z => nomatch z), by simp only [PyData.shown]; exact .of_is (ReprIs.str x t (by simpa only [PyData.shown] using hz)) _ _ _⟩
  | _, _, _, .lst (a := a) (ds := ds) e r, hs, hz, u, ru => by
    obtain rfl : u = Value.ref a := ru
    obtain ⟨_, its, n, rv, ho⟩ := (show ObjOk P w H h a (.lst _) from ok a _ e)
    have hz' : (listText (PyData.shownAll ds)).length ≤ sizeLine := by simpa only [PyData.shown] using hz
    obtain ⟨as, bs, rd, hb, hk⟩ := r.shows ok (by simpa [PyData.showable] using hs) (fun t ht => Nat.le_trans (listText_mem_le ht) hz') rv
    have R : Reads h (.ref a) (.list ds) (a :: as) := .list ho rfl rfl (by simpa using rd)
    have hna : a ∉ bs := not_mem_of_deeper R (by simp only [PyData.depth]; omega) hb
    refine ⟨_, a :: bs, R, ReadAtMost.cons R (by simp only [PyData.depth]; omega) hb, ?_⟩
    simp only [PyData.depth, PyData.shown]
    cases its with
    | nil =>
      cases rd
      simp only [PyData.shownAll, listText_nil]
      exact ReprK.listEmpty ho rfl rfl
    | cons x l => exact ReprK.list ho rfl rfl hna (by simpa using hk.length_eq) (fun i y e => hk.item i y (by simpa using e))
  | _, _, _, .tup (a := a) (ds := ds) e r, hs, hz, u, ru => by
    obtain rfl : u = Value.ref a := ru
    obtain ⟨_, its, rv, o, ho, hc, n, hd⟩ := (show ObjOk P w H h a (.tup _) from ok a _ e)
    have hz' : (tupleText (PyData.shownAll ds)).length ≤ sizeLine := by simpa only [PyData.shown] using hz
    obtain ⟨as, bs, rd, hb, hk⟩ := r.shows ok (by simpa [PyData.showable] using hs) (fun t ht => Nat.le_trans (tupleText_mem_le ht) hz') rv
    have R : Reads h (.ref a) (.tuple ds) as := .tuple ho hc hd (by simpa using rd)
    have hna : a ∉ bs := not_mem_of_deeper R (by simp only [PyData.depth]; omega) hb
    refine ⟨_, a :: bs, R, ReadAtMost.cons R (by simp only [PyData.depth]; omega) hb, ?_⟩
    simp only [PyData.depth, PyData.shown]
    exact ReprK.tuple ho hc hd hna (by simpa using hk)
  | _, _, _, .dct (a := a) (es := es) (kvs := kvs) e ka nd hf rk rv, hs, hz, u, ru => by
    obtain rfl : u = Value.ref a := ru
    obtain ⟨l, sy, rows, rr, D⟩ := mdo_rd ok (.inl e)
    obtain ⟨o, ens, ep, ho, hc, hd, he⟩ := D.at_
    have hz' : (dictText (PyData.shownKv kvs)).length ≤ sizeLine := by simpa only [PyData.shown] using hz
    obtain ⟨hs1, hs2⟩ := PyData.showableKv_split kvs (by simpa [PyData.showable] using hs)
    obtain ⟨v1, v2⟩ := vals_rows l rr he
    obtain ⟨a1, b1, rd1, hb1, k1⟩ := rk.shows ok hs1 (fun t ht => let ⟨p, hp, hl⟩ := PyData.shownKv_key_le kvs t ht; Nat.le_trans hl (Nat.le_trans (dictText_mem_le hp) hz')) v1
    obtain ⟨a2, b2, rd2, hb2, k2⟩ := rv.shows ok hs2 (fun t ht => let ⟨p, hp, hl⟩ := PyData.shownKv_val_le kvs t ht; Nat.le_trans hl (Nat.le_trans (dictText_mem_le hp) hz')) v2
    have R : Reads h (.ref a) (.dict kvs) (a :: a1 ++ a2) := .dict ho hc.1 hd rd1 rd2
    have hb : ReadAtMost h (PyData.depthKv kvs) (b1 ++ b2) := (hb1.mono (PyData.depthAll_keys_le kvs)).append (hb2.mono (PyData.depthAll_vals_le kvs))
    have hna : a ∉ b1 ++ b2 := not_mem_of_deeper R (by simp only [PyData.depth]; omega) hb
    refine ⟨_, a :: (b1 ++ b2), R, ReadAtMost.cons R (by simp only [PyData.depth]; omega) hb, ?_⟩
    simp only [PyData.depth, PyData.shown, PyData.shownKv_eq]
    exact ReprK.dict ho hc.1 hd sy hna (ReprEntriesK.of_two ens.toList _ _
      (k1.more_le (fun b hb => List.mem_append_left _ hb) (PyData.depthAll_keys_le kvs)) (k2.more_le (fun b hb => List.mem_append_right _ hb) (PyData.depthAll_vals_le kvs)))
theorem RepAll.shows (ok : HOk P w H h) : ∀ {vs : List V} {ds : List PyData} {fp : List Addr}, RepAll w H vs ds fp → PyData.showableAll ds = true → (∀ t ∈ PyData.shownAll ds, t.length ≤ sizeLine) → ∀ {us : List Value}, Vals vs us →
    ∃ as bs, ReadsAll h us ds as ∧ ReadAtMost h (PyData.depthAll ds) bs ∧ ReprAllK P w bs h (PyData.depthAll ds) us (PyData.shownAll ds)
  | _, _, _, .nil, _, _, _, .nil => ⟨[], [], .nil, (fun _ z => nomatch z), by simp only [PyData.shownAll]; exact .nil⟩
  | _, _, _, .cons (d := d) (ds := ds) r rs, hs, hz, _, .cons hu ht => by
    have hs' : d.showable = true ∧ PyData.showableAll ds = true := by simpa [PyData.showableAll] using hs
    obtain ⟨a1, b1, r1, hb1, k1⟩ := r.shows ok hs'.1 (hz _ (by simp only [PyData.shownAll]; exact List.mem_cons_self ..)) hu
    obtain ⟨a2, b2, r2, hb2, k2⟩ := rs.shows ok hs'.2 (fun t ht => hz t (by simp only [PyData.shownAll]; exact List.mem_cons_of_mem _ ht)) ht
    refine ⟨_, b1 ++ b2, .cons r1 r2, ?_, ?_⟩
    · simp only [PyData.depthAll]
      exact (hb1.mono (Nat.le_max_left _ _)).append (hb2.mono (Nat.le_max_right _ _))
    · simp only [PyData.depthAll, PyData.shownAll]
      have g1 := (k1.more (as' := b1 ++ b2) fun _ z => List.mem_append_left _ z).level_le (Nat.le_max_left _ (PyData.depthAll ds))
      exact .cons g1 (k2.more_le (fun _ z => List.mem_append_right _ z) (Nat.le_max_right _ _))
end
end
end KF
end L2
end
/-! ### KG -/
section
namespace L2
namespace KF
open PySem PySem.Spec PyProof.Rows PySem.KD KE
/-! ## repr and isinstance of data -/
def tyD : PyData → String
  | .none => "NoneType"
  | .bool _ => "bool"
  | .int _ => "int"
  | .str _ => "str"
  | .list _ => "list"
  | .tuple _ => "tuple"
  | .dict _ => "dict"
def isDictD : PyData → Bool
  | .dict _ => true
  | _ => false
def isTupD : PyData → Bool
  | .tuple _ => true
  | _ => false
def isListD : PyData → Bool
  | .list _ => true
  | _ => false
theorem kit_none (b : String) (h : b = "dict" ∨ b = "tuple" ∨ b = "list") : kitB "NoneType" b = some false := by rcases h with rfl | rfl | rfl <;> decide +kernel
theorem kitDict (d : PyData) : kitB (tyD d) "dict" = some (isDictD d) := by cases d <;> (show kitB _ _ = some _; simp only [tyD, isDictD]; decide +kernel)
theorem kitTup (d : PyData) : kitB (tyD d) "tuple" = some (isTupD d) := by cases d <;> (show kitB _ _ = some _; simp only [tyD, isTupD]; decide +kernel)
theorem kitList (d : PyData) : kitB (tyD d) "list" = some (isListD d) := by cases d <;> (show kitB _ _ = some _; simp only [tyD, isListD]; decide +kernel)
theorem kitLT {K : PySem.W.Frag} (d : PyData) : PySem.W.kitAny K (.type (tyD d)) [.type "list", .type "tuple"] = some (isListD d || isTupD d) :=
  kitAny_cons (kit_ty (kitList d)) (fun e => by
    rw [e]
    exact kitAny_cons (kit_ty (kitTup d)) (fun e2 => by rw [e2]; rfl) (fun e2 => by rw [e2]; rfl)) (fun e => by rw [e]; rfl)
theorem kitLTD {K : PySem.W.Frag} (d : PyData) : PySem.W.kitAny K (.type (tyD d)) [.type "list", .type "tuple", .type "dict"] = some (isListD d || isTupD d || isDictD d) :=
  kitAny_cons (kit_ty (kitList d)) (fun e => by
    rw [e]
    exact kitAny_cons (kit_ty (kitTup d)) (fun e2 => by
      rw [e2]
      exact kitAny_cons (kit_ty (kitDict d)) (fun e3 => by rw [e3]; rfl) (fun e3 => by rw [e3]; rfl)) (fun e2 => by rw [e2]; rfl)) (fun e => by rw [e]; rfl)
section
variable {X : Cx} {pins : List (Addr × Obj)} {σ : St} {H : Hp} {s : Shared}
theorem kitR {v : V} {d : PyData} {fp : List Addr} {u : Value} (I : Inv X pins σ H s) (r : Rep X.w H v d fp) (ru : RelV v u) : ∃ P : Heap → Prop, PySem.W.KitX X.K u (.type (tyD d)) P ∧ P s.heap ∧ u ≠ .builtin "__main__.__loader__#opaque" := by
  cases r with
  | none => cases (show u = Value.none from ru); exact ⟨_, PySem.W.kitx_none, True.intro, fun z => nomatch z⟩
  | bool y => cases (show u = Value.bool y from ru); exact ⟨_, PySem.W.kitx_bool, True.intro, fun z => nomatch z⟩
  | int i =>
    obtain ⟨t, rfl⟩ := ru
    exact ⟨_, PySem.W.kitx_int, True.intro, fun z => nomatch z⟩
  | str y =>
    obtain ⟨t, rfl⟩ := ru
    exact ⟨_, PySem.W.kitx_str, True.intro, fun z => nomatch z⟩
  | @lst a vs ds fp e rr =>
    obtain rfl : u = Value.ref a := ru
    have ho := (show ObjOk X.prog X.w H s.heap a (.lst vs) from I.hok a _ e).2
    obtain ⟨its, n, _, h1⟩ := ho
    exact ⟨_, PySem.W.kitx_list, ⟨_, h1, rfl⟩, fun z => nomatch z⟩
  | @tup a vs ds fp e rr =>
    obtain rfl : u = Value.ref a := ru
    have ho := (show ObjOk X.prog X.w H s.heap a (.tup vs) from I.hok a _ e).2
    obtain ⟨its, _, o, h1, h2, _⟩ := ho
    exact ⟨_, PySem.W.kitx_tuple, ⟨o, h1, h2⟩, fun z => nomatch z⟩
  | @dct a es kvs fk fv e ka nd hf rk rv =>
    obtain rfl : u = Value.ref a := ru
    obtain ⟨_, _, rows, _, D⟩ := mdo_rd I.hok (.inl e)
    obtain ⟨o, ens, ep, ho, hc, _⟩ := D.at_
    exact ⟨_, PySem.W.kitx_dict, ⟨o, ho, hc.1⟩, fun z => nomatch z⟩
/-- isinstance(x, T), T one built-in type -/
def rIsD (w : World) : List V → Hp → VK → Prop := fun xs H Q => ∃ v d fp T b, xs = [v, .ty T] ∧ Rep w H v d fp ∧ kitB (tyD d) T = some b ∧ Q (.bl b) H
theorem callIsD : CallR X (.builtin "isinstance") (rIsD X.w) := by
  intro pins s σ H xs us Q I r h
  obtain ⟨v, d, fp, T, b, rfl, rp, e, q⟩ := h
  obtain ⟨u1, u2, rfl, r1, r2⟩ := vals2 r
  cases (show u2 = Value.type T from r2)
  obtain ⟨P, Z, p, hx⟩ := kitR I rp r1
  exact PySem.W.kia_one Z I.kIn p (kit_ty e) hx fun tk => ⟨.bl b, H, I.tok tk, rfl, q⟩
/-- isinstance(x, (T1, T2, ..)), built-in types -/
def rIsDT (w : World) : List V → Hp → VK → Prop := fun xs H Q => ∃ v d fp tp Ts b, xs = [v, .ref tp] ∧ H tp = some (.tup (List.map V.ty Ts)) ∧ Rep w H v d fp ∧ (∀ K, PySem.W.kitAny K (.type (tyD d)) (Ts.map Value.type) = some b) ∧ Q (.bl b) H
theorem vals_ty : ∀ {Ts : List String} {us : List Value}, Vals (Ts.map V.ty) us → us = Ts.map Value.type
  | [], _, .nil => rfl
  | _ :: _, _, .cons r t => by
    cases r
    rw [vals_ty t]
    rfl
theorem callIsDT : CallR X (.builtin "isinstance") (rIsDT X.w) := by
  intro pins s σ H xs us Q I r h
  obtain ⟨v, d, fp, tp, Ts, b, rfl, hT, rp, e, q⟩ := h
  obtain ⟨u1, u2, rfl, r1, r2⟩ := vals2 r
  cases (show u2 = Value.ref tp from r2)
  obtain ⟨P, Z, p, hx⟩ := kitR I rp r1
  have ho := (show ObjOk X.prog X.w H s.heap tp (.tup (Ts.map V.ty)) from I.hok tp _ hT).2
  obtain ⟨its, rv, o, h1, h2, n, h3⟩ := ho
  obtain rfl := vals_ty rv
  obtain ⟨oc, od, dt, sl⟩ := o
  simp only at h2 h3
  subst h2 h3
  exact PySem.W.kia_tup Z I.kIn p h1 (e _) hx fun tk => ⟨.bl b, H, I.tok tk, rfl, q⟩
/-- repr(x) -/
def rReprD (w : World) : List V → Hp → VK → Prop := fun xs H Q => ∃ v d fp, xs = [v] ∧ Rep w H v d fp ∧ d.showable = true ∧ d.shown.length ≤ sizeLine ∧ d.depth ≤ 20 ∧ Q (.str d.shown) H
theorem callReprD (hg : X.A.guards = some []) (hu : X.A.units + 40 < cLine) : CallR X (.builtin "repr") (rReprD X.w) := by
  intro pins s σ H xs us Q I r h
  obtain ⟨v, d, fp, rfl, rp, hs, hz, h20, q⟩ := h
  obtain ⟨u, rfl, ru⟩ := vals1' r
  obtain ⟨as, bs, rd, hb, _⟩ := rp.shows I.hok hs hz ru
  have fin : ∀ h' tk t, (∀ b o, s.heap.get? b = some o → h'.get? b = some o) → EP X pins σ Q (.str d.shown t) { s with heap := h', toks := tk } := fun h' tk t kp => ⟨.str d.shown, H, I.kept kp, ⟨t, rfl⟩, q⟩
  have k0 : ∀ b o, s.heap.get? b = some o → s.heap.get? b = some o := fun _ _ e => e
  have hu1 : X.A.units + 1 < cLine := by omega
  have hu2 : (X.A.in1).units + (d.depth + 1) < cLine := by
    show X.A.units + 1 + (d.depth + 1) < cLine
    omega
  have hg1 : (X.A.in1).guards = some [] := hg
  cases rp with
  | none =>
    obtain rfl : u = Value.none := ru
    refine PySem.P.repr_of_none ?_
    simpa only [PyData.shown] using fin _ _ _ k0
  | bool y =>
    obtain rfl : u = Value.bool y := ru
    refine PySem.P.repr_of_bool ?_
    simpa only [PyData.shown] using fin _ _ _ k0
  | int i =>
    obtain ⟨t, rfl⟩ := ru
    refine PySem.P.repr_of_int (by simpa [PyData.showable] using hs) ?_
    simpa only [PyData.shown] using fin _ _ _ k0
  | str y =>
    obtain ⟨t, rfl⟩ := ru
    refine PySem.P.repr_of_str ?_ (by simpa only [PyData.shown] using hz)
    simpa only [PyData.shown] using fin _ _ _ k0
  | @lst a vs ds fp e rr =>
    obtain rfl : u = Value.ref a := ru
    have ho := (show ObjOk X.prog X.w H s.heap a (.lst vs) from I.hok a _ e).2
    obtain ⟨its, n, rv, h1⟩ := ho
    have hz' : (listText (PyData.shownAll ds)).length ≤ sizeLine := by simpa only [PyData.shown] using hz
    have h20' : PyData.depthAll ds + 1 ≤ 20 := by simpa only [PyData.depth] using h20
    obtain ⟨as2, bs2, rd2, hb2, k2⟩ := rr.shows I.hok (by simpa [PyData.showable] using hs) (fun t ht => Nat.le_trans (listText_mem_le ht) hz') rv
    have R : Reads s.heap (.ref a) (.list ds) (a :: as2) := .list h1 rfl rfl (by simpa using rd2)
    have hna : a ∉ bs2 := not_mem_of_deeper R (by simp only [PyData.depth]; omega) hb2
    refine call_repr_slot hu1 ⟨_, h1, rfl⟩ F.slot_list_repr.toG ?_
    simp only [PyData.shown] at fin
    cases its with
    | nil =>
      cases rd2
      simp only [PyData.shownAll, listText_nil] at fin
      exact call_list_repr_empty ⟨_, h1, rfl⟩ h1 rfl ⟨_, _, rfl, fin _ _ _ k0⟩
    | cons x l =>
      exact call_list_reprK h1 rfl rfl hna (by simpa using k2.length_eq) (fun i y e => k2.item i y (by simpa using e)) hg1 (fun b _ => Clear.nil b) (by show X.A.units + 1 + _ < _; omega) k0 (fun h' t tk kp => ⟨_, _, rfl, fin h' tk t kp⟩) hz'
  | @tup a vs ds fp e rr =>
    obtain rfl : u = Value.ref a := ru
    have ho := (show ObjOk X.prog X.w H s.heap a (.tup vs) from I.hok a _ e).2
    obtain ⟨its, rv, o, h1, h2, n, h3⟩ := ho
    have hz' : (tupleText (PyData.shownAll ds)).length ≤ sizeLine := by simpa only [PyData.shown] using hz
    have h20' : PyData.depthAll ds + 1 ≤ 20 := by simpa only [PyData.depth] using h20
    obtain ⟨as2, bs2, rd2, hb2, k2⟩ := rr.shows I.hok (by simpa [PyData.showable] using hs) (fun t ht => Nat.le_trans (tupleText_mem_le ht) hz') rv
    have R : Reads s.heap (.ref a) (.tuple ds) as2 := .tuple h1 h2 h3 (by simpa using rd2)
    have hna : a ∉ bs2 := not_mem_of_deeper R (by simp only [PyData.depth]; omega) hb2
    simp only [PyData.shown] at fin
    refine call_repr_slot hu1 ⟨_, h1, h2⟩ F.slot_tuple_repr ?_
    exact call_tuple_reprK h1 h2 h3 hna (by simpa using k2) hg1 (fun b _ => Clear.nil b) (by show X.A.units + 1 + _ < _; omega) k0 (fun h' t tk kp => ⟨_, _, rfl, fin h' tk t kp⟩) hz'
  | @dct a es kvs fk fv e ka nd hf rk rv =>
    obtain rfl : u = Value.ref a := ru
    obtain ⟨as3, bs3, rd3, hb3, k3⟩ := (Rep.dct e ka nd hf rk rv).shows I.hok hs hz (show RelV (.ref a) (Value.ref a) from rfl)
    obtain ⟨l, sy, rows, rr, D⟩ := mdo_rd I.hok (.inl e)
    obtain ⟨o, ens, ep, ho, hc, hd, he⟩ := D.at_
    have hz' : (dictText (PyData.shownKv kvs)).length ≤ sizeLine := by simpa only [PyData.shown] using hz
    have h20' : PyData.depthKv kvs + 1 ≤ 20 := by simpa only [PyData.depth] using h20
    obtain ⟨hs1, hs2⟩ := PyData.showableKv_split kvs (by simpa [PyData.showable] using hs)
    obtain ⟨v1, v2⟩ := vals_rows l rr he
    obtain ⟨a1, b1, rd1, hb1, k1⟩ := rk.shows I.hok hs1 (fun t ht => let ⟨p, hp, hl⟩ := PyData.shownKv_key_le kvs t ht; Nat.le_trans hl (Nat.le_trans (dictText_mem_le hp) hz')) v1
    obtain ⟨a2, b2, rd2, hb2, k2⟩ := rv.shows I.hok hs2 (fun t ht => let ⟨p, hp, hl⟩ := PyData.shownKv_val_le kvs t ht; Nat.le_trans hl (Nat.le_trans (dictText_mem_le hp) hz')) v2
    have R : Reads s.heap (.ref a) (.dict kvs) (a :: a1 ++ a2) := .dict ho hc.1 hd rd1 rd2
    have hb : ReadAtMost s.heap (PyData.depthKv kvs) (b1 ++ b2) := (hb1.mono (PyData.depthAll_keys_le kvs)).append (hb2.mono (PyData.depthAll_vals_le kvs))
    have hna : a ∉ b1 ++ b2 := not_mem_of_deeper R (by simp only [PyData.depth]; omega) hb
    simp only [PyData.shown, PyData.shownKv_eq] at fin
    refine call_repr_slot hu1 ⟨_, ho, hc.1⟩ F.slot_dict_repr ?_
    exact call_dict_reprK ho hc.1 hd sy hna (ReprEntriesK.of_two ens.toList _ _
      (k1.more_le (fun _ z => List.mem_append_left _ z) (PyData.depthAll_keys_le kvs)) (k2.more_le (fun _ z => List.mem_append_right _ z) (PyData.depthAll_vals_le kvs))) hg1 (fun b _ => Clear.nil b) (by show X.A.units + 1 + _ < _; omega) k0 (fun h' t tk kp => ⟨_, _, rfl, fin h' tk t kp⟩) (by rw [← PyData.shownKv_eq]; exact hz')
end
end KF
end L2
end
/-! ### PI -/
section
namespace L2
namespace KF
open PySem PySem.Spec PyProof.Rows PySem.KD KE
/-! ## surelyset.kinds -/
def topS (i : Nat) : Stmt := PySem.Challenge.pw_surelyset_k81_profiles_refused.main.body.getD i (.Pass ⟨0, 0, 0, 0⟩)
abbrev sCopied : Stmt := topS 5
abbrev sItems : Stmt := topS 6
abbrev sRebuilt : Stmt := topS 7
theorem scItems : FnScope ["value"] ["value"] (defScope sItems) := ⟨rfl, rfl, rfl, by decide +kernel, rfl, by decide +kernel, by decide +kernel⟩
theorem scRebuilt : FnScope ["value", "items", "key", "item"] ["value", "items"] (defScope sRebuilt) := ⟨rfl, rfl, rfl, by decide +kernel, rfl, by decide +kernel, by decide +kernel⟩
/-- what stands in a value -/
def kids : PyData → List PyData
  | .list ds => ds
  | .tuple ds => ds
  | .dict kvs => kvs.map (·.2)
  | _ => []
def isCont (d : PyData) : Bool := isListD d || isTupD d || isDictD d
theorem same_upd {H : Hp} {p : Addr} {o : HO} (h : H p = none) : Same H (upd H p o) := fun b x e => by
  rw [upd_ne (ne_of_none e h)]
  exact e
theorem Keep.same {fp : List Addr} {H H' : Hp} (s : Same H H') (d : ∀ a ∈ fp, H a ≠ none) : Keep fp H H' := ⟨fun a ha => by
  cases e : H a with
  | none => exact absurd e (d a ha)
  | some o => exact s a o e, fun a xs e => s a _ e⟩
theorem Rep.same {w : World} {H H' : Hp} {v : V} {d : PyData} {fp : List Addr} (r : Rep w H v d fp) (s : Same H H') : Rep w H' v d fp := r.keep (.same s r.dom)
theorem RepAll.same {w : World} {H H' : Hp} {v : List V} {d : List PyData} {fp : List Addr} (r : RepAll w H v d fp) (s : Same H H') : RepAll w H' v d fp := r.keep (.same s r.dom)
/-- the names that kinds uses -/
structure Blt (mg : Str → Option Value) : Prop where
  len : mg "len" = none
  list : mg "list" = none
  tuple : mg "tuple" = none
  dict : mg "dict" = none
  isi : mg "isinstance" = none
  zip : mg "zip" = none
  range : mg "range" = none
  reversed : mg "reversed" = none
section
variable {P : Program} {w : World} {K : PySem.W.Frag} {mg : Str → Option Value} {base : Heap}
def spItems (w : World) : Sp := fun vs H Q _ => ∃ G v d fp, vs = [v] ∧ Same G H ∧ Rep w G v d fp ∧ ∀ H' p ws fk, Same H H' → H p = none → H' p = some (.lst ws) → RepAll w G ws (kids d) fk → Q (.ref p) H'
theorem ok_items {f : Addr} {fd : FuncData} {k : Nat} (F : Fun K "items_of" "items_of" sItems f fd) (B : Blt mg) : FnOk P w K mg base CX0 (k + 1) f fd ["value"] (spItems w) := by
  refine F.ok scItems (fun vs H Q E h => ?_) (fun cdv A outer s H vs Q E hr h => ?_)
  · obtain ⟨G, v, d, fp, rfl, _⟩ := h
    rfl
  · obtain ⟨G, v, d, fp, rfl, sG, rp, q⟩ := h
    have hc : (cxOf CX0 P w K mg base ["value"] "items_of" (defScope sItems) f cdv A outer s H E).nox.calm = true := rfl
    refine ⟨_, pss_cons (ps_if (pt_val (pe_callB callIsD (by rfl) B.isi boot_isinstance (pa_cons (pv 0) (pa_cons (pe_bltn (v := .ty "dict") (by rfl) B.dict boot_dict rfl) pa_nil))))
          (pss_one (ps_ret (peListVals hc (pv 0) (by rfl) B.list boot_list))) pss_nil)
      (pss_cons (ps_if (pt_val (pe_callB callIsDT (by rfl) B.isi boot_isinstance (pa_cons (pv 0) (pa_cons (pe_tup (pa_cons (pe_bltn (v := .ty "list") (by rfl) B.list boot_list rfl) (pa_cons (pe_bltn (v := .ty "tuple") (by rfl) B.tuple boot_tuple rfl) pa_nil))) pa_nil))))
          (pss_one (ps_ret (pe_callTy call_list_of (by rfl) B.list boot_list (pa_cons (pv 0) pa_nil)))) pss_nil)
      (pss_one (ps_ret (pe_lst pa_nil)))), ?_⟩
    refine ⟨v, rfl, v, d, fp, "dict", isDictD d, rfl, rp.same sG, kitDict d, isDictD d, rfl, ?_⟩
    cases hd : isDictD d with
    | true =>
      refine iteT ?_
      cases rp with
      | @dct a es kvs fk fv e ka nd hf rk rv =>
        refine ⟨.ref a, rfl, a, es, rfl, .inl (sG _ _ e), fun l nl => ?_⟩
        exact q _ l _ fv (same_upd nl) nl upd_same rv
      | _ => cases hd
    | false =>
      refine iteF ?_
      refine ⟨v, rfl, by show 2 ≤ sizeLine; decide, fun t nt => ?_⟩
      have s1 := same_upd (o := HO.tup [.ty "list", .ty "tuple"]) nt
      refine ⟨v, d, fp, t, ["list", "tuple"], isListD d || isTupD d, rfl, upd_same, rp.same (sG.trans s1), fun K => kitLT d, isListD d || isTupD d, rfl, ?_⟩
      cases rp with
      | @lst a vs ds fp e rr =>
        refine iteT ⟨.ref a, rfl, a, vs, rfl, .inl (.inl (.inl (s1 _ _ (sG _ _ e)))), fun l nl => ?_⟩
        exact q _ l _ fp (s1.trans (same_upd nl)) (s1.free nl) upd_same rr
      | @tup a vs ds fp e rr =>
        refine iteT ⟨.ref a, rfl, a, vs, rfl, .inr (.inl (.inl (s1 _ _ (sG _ _ e)))), fun l nl => ?_⟩
        exact q _ l _ fp (s1.trans (same_upd nl)) (s1.free nl) upd_same rr
      | dct => cases hd
      | none => exact iteF ⟨Nat.zero_le _, fun l nl => q _ l _ [] (s1.trans (same_upd nl)) (s1.free nl) upd_same .nil⟩
      | bool b => exact iteF ⟨Nat.zero_le _, fun l nl => q _ l _ [] (s1.trans (same_upd nl)) (s1.free nl) upd_same .nil⟩
      | int i => exact iteF ⟨Nat.zero_le _, fun l nl => q _ l _ [] (s1.trans (same_upd nl)) (s1.free nl) upd_same .nil⟩
      | str x => exact iteF ⟨Nat.zero_le _, fun l nl => q _ l _ [] (s1.trans (same_upd nl)) (s1.free nl) upd_same .nil⟩
end
end KF
end L2
namespace L2
namespace KF
open PySem PySem.Spec PyProof.Rows PySem.KD KE
/-! ## rebuilt -/
def newRows (es : List MRow) (ws : List V) : List MRow := (es.zip ws).map fun p => (p.1.1, p.1.2.1, p.2)
theorem newRows_len {es : List MRow} {ws : List V} (h : es.length = ws.length) : (newRows es ws).length = es.length := by
  unfold newRows
  rw [List.length_map, List.length_zip, h, Nat.min_self]
theorem newRows_key : ∀ {es : List MRow} {ws : List V}, es.length = ws.length → (newRows es ws).map (·.1) = es.map (·.1)
  | [], [], _ => rfl
  | e :: es, x :: ws, h => by
    show e.1 :: (newRows es ws).map (·.1) = _
    rw [newRows_key (Nat.succ.inj h)]
    rfl
  | [], _ :: _, h => nomatch h
  | _ :: _, [], h => nomatch h
theorem newRows_kv : ∀ {es : List MRow} {ws : List V}, es.length = ws.length → (newRows es ws).map (fun r => r.2.1) = es.map fun r => r.2.1
  | [], [], _ => rfl
  | e :: es, x :: ws, h => by
    show e.2.1 :: (newRows es ws).map (fun r => r.2.1) = _
    rw [newRows_kv (Nat.succ.inj h)]
    rfl
  | [], _ :: _, h => nomatch h
  | _ :: _, [], h => nomatch h
theorem newRows_v : ∀ {es : List MRow} {ws : List V}, es.length = ws.length → (newRows es ws).map (fun r => r.2.2) = ws
  | [], [], _ => rfl
  | e :: es, x :: ws, h => by
    show x :: (newRows es ws).map (fun r => r.2.2) = _
    rw [newRows_v (Nat.succ.inj h)]
  | [], _ :: _, h => nomatch h
  | _ :: _, [], h => nomatch h
theorem newRows_at {es : List MRow} {ws : List V} {i : Nat} {e : MRow} {x : V} (h1 : es[i]? = some e) (h2 : ws[i]? = some x) : (newRows es ws)[i]? = some (e.1, e.2.1, x) := by
  unfold newRows
  have h3 : (es.zip ws)[i]? = some (e, x) := List.getElem?_zip_eq_some.mpr ⟨h1, h2⟩
  rw [List.getElem?_map, h3]
  rfl
theorem put_fresh {xs : List MRow} {k : NestedKey} {key v : V} (h : k ∉ xs.map (·.1)) : putH xs k key v = xs ++ [(k, key, v)] := by
  unfold putH
  rw [if_neg]
  intro z
  obtain ⟨r, hr, e⟩ := List.any_eq_true.mp z
  exact h (List.mem_map.mpr ⟨r, hr, (beq_iff r.1 k).mp e⟩)
theorem put_next {rows : List MRow} {i : Nat} {r : MRow} (nd : (rows.map (·.1)).Nodup) (h : rows[i]? = some r) : putH (rows.take i) r.1 r.2.1 r.2.2 = rows.take (i + 1) := by
  rw [List.take_add_one, h]
  refine put_fresh fun z => ?_
  rw [List.map_take] at z
  obtain ⟨j, hj, e⟩ := List.getElem_of_mem z
  rw [List.length_take, List.length_map] at hj
  rw [List.getElem_take, List.getElem_map] at e
  have hi := (List.getElem?_eq_some_iff.mp h)
  obtain ⟨hi, ei⟩ := hi
  have h2 : j = i := (List.getElem_inj (xs := rows.map (·.1)) (i := j) (j := i) (h₀ := by rw [List.length_map]; omega) (h₁ := by rw [List.length_map]; exact hi) nd).mp (by rw [List.getElem_map, List.getElem_map, e, ei])
  omega
/-- all but D's object stays -/
def SameBut (D : Addr) (H H' : Hp) : Prop := ∀ b o, b ≠ D → H b = some o → H' b = some o
theorem KAll.take {H : Hp} {es : List MRow} (q : KAll H es) (n : Nat) : KAll H (es.take n) := fun p hp => q p (List.mem_of_mem_take hp)
theorem KAll.new {H : Hp} {es : List MRow} {ws : List V} (q : KAll H es) : KAll H (newRows es ws) := fun p hp => by
  unfold newRows at hp
  obtain ⟨r, hr, rfl⟩ := List.mem_map.mp hp
  exact q r.1 (List.of_mem_zip hr).1
section
variable {P : Program} {w : World} {K : PySem.W.Frag} {mg : Str → Option Value} {base : Heap}
def spReb (w : World) : Sp := fun vs H Q _ => ∃ v b d fp ws f2, vs = [v, .ref b] ∧ Rep w H v d fp ∧ isCont d = true ∧ H b = some (.lst ws) ∧ RepAll w H ws (kids d) f2 ∧ (kids d).length ≤ 1000 ∧
  ∀ H' v' f3, Same H H' → Rep w H' v' d f3 → (∀ a ∈ f3, a ∈ f2 ∨ H a = none) → Q v' H'
theorem ok_reb {f : Addr} {fd : FuncData} {k : Nat} (F : Fun K "rebuilt" "rebuilt" sRebuilt f fd) (B : Blt mg) : FnOk P w K mg base CX0 (k + 1) f fd ["value", "items"] (spReb w) := by
  refine F.ok scRebuilt (fun vs H Q E h => ?_) (fun cdv A outer s H vs Q E hr h => ?_)
  · obtain ⟨v, b, d, fp, ws, f2, rfl, _⟩ := h
    rfl
  · obtain ⟨v, b, d, fp, ws, f2, rfl, rp, hcont, hb, rw_, h1000, q⟩ := h
    have hc : (cxOf CX0 P w K mg base ["value", "items", "key", "item"] "rebuilt" (defScope sRebuilt) f cdv A outer s H E).nox.calm = true := rfl
    have hu : (cxOf CX0 P w K mg base ["value", "items", "key", "item"] "rebuilt" (defScope sRebuilt) f cdv A outer s H E).nox.A.units + 10 < cLine := by
      have := hr.un
      show (A.deeper _).units + 10 < cLine
      omega
    refine ⟨_, pss_cons (ps_if (pt_val (pe_callB callIsD (by rfl) B.isi boot_isinstance (pa_cons (pv 0) (pa_cons (pe_bltn (v := .ty "dict") (by rfl) B.dict boot_dict rfl) pa_nil))))
          (pss_one (ps_ret (peDcM (own := [("key", 2), ("item", 3)]) (g := gTup K 2 (gCons (gName 2) (gCons (gName 3) gNil))) hu hc scRebuilt.nd
            (pi_zip (by rfl) B.zip (pa_cons (pe_callTy (callListM hc) (by rfl) B.list boot_list (pa_cons (pv 0) pa_nil)) (pa_cons (pv 1) pa_nil)))
            (blkOk_by (N := ["value", "items", "key", "item"]) (sc := defScope sRebuilt) (by decide +kernel))
            (fun _ _ _ _ _ => pg_tup (by rfl) (pgs_cons (pg_name (i := 2) scRebuilt.nd (by rfl) (by exact .inl rfl)) (pgs_cons (pg_name (i := 3) scRebuilt.nd (by rfl) (by exact .inl rfl)) pgs_nil)))
            (fun _ _ _ _ _ => pv 2) (fun _ _ _ _ _ => pv 3)))) pss_nil)
      (pss_cons (ps_if (pt_val (pe_callB callIsD (by rfl) B.isi boot_isinstance (pa_cons (pv 0) (pa_cons (pe_bltn (v := .ty "tuple") (by rfl) B.tuple boot_tuple rfl) pa_nil))))
          (pss_one (ps_ret (pe_callTy call_tuple_of (by rfl) B.tuple boot_tuple (pa_cons (pv 1) pa_nil)))) pss_nil)
      (pss_one (ps_ret (pe_callTy call_list_of (by rfl) B.list boot_list (pa_cons (pv 1) pa_nil))))), ?_⟩
    refine ⟨v, rfl, v, d, fp, "dict", isDictD d, rfl, rp, kitDict d, isDictD d, rfl, ?_⟩
    cases hd : isDictD d with
    | true =>
      refine iteT ?_
      cases rp with
      | @dct a es kvs fk fv e ka nd hf rk rv =>
        subst hf
        have hl : es.length = ws.length := by
          have h1 := rv.length
          have h2 := rw_.length
          rw [List.length_map] at h1
          rw [h1, h2]
          rfl
        have hl2 : es.length ≤ 1000 := by
          have h2 := rw_.length
          rw [hl, h2]
          exact h1000
        refine ⟨.ref a, rfl, a, es, rfl, .inl e, fun l nl => ?_⟩
        have s1 : Same H (upd H l (.lst (es.map (·.2.1)))) := same_upd nl
        refine ⟨.ref b, rfl, l, b, es.map (·.2.1), ws, rfl, .inl (.inl upd_same), .inl (.inl (s1 _ _ hb)), fun D nD => ?_⟩
        have sz : (newRows es ws).length = es.length := newRows_len hl
        refine dcM_it (walk_zip (n := es.length) (xs := es.map (·.2.1)) (ys := ws) (by rw [List.length_map, hl, Nat.min_self]))
          (fun i H2 => SameBut D (upd (upd H l (.lst (es.map (·.2.1)))) D (mdo w D [])) H2 ∧ H2 D = some (mdo w D ((newRows es ws).take i)))
          ⟨fun _ _ _ z => z, upd_same⟩ (fun i H2 _ h => ?_) (fun i x H2 H3 hi hp hy => ?_) (fun H2 hp => ?_)
        · have nDl : l ≠ D := fun z => by
            rw [← z, upd_same] at nD
            cases nD
          refine ⟨.inl (.inl (h.1 l _ nDl ?_)), .inl (.inl (h.1 b _ ?_ ?_))⟩
          · rw [upd_ne nDl, upd_same]
          · exact ne_of_none (s1 _ _ hb) nD
          · rw [upd_ne (ne_of_none (s1 _ _ hb) nD)]
            exact s1 _ _ hb
        · obtain ⟨T, x1, x2, rfl, nT, rfl, g1, g2⟩ := hy
          obtain ⟨hs, hD⟩ := hp
          have g3 : es[i]?.map (fun r => r.2.1) = some x1 := by
            rw [← List.getElem?_map]
            exact g1
          have g1 := g3
          obtain ⟨r, hr1, rfl⟩ := Option.map_eq_some_iff.mp g1
          have ga := newRows_at hr1 g2
          have sT : Same H2 (upd H2 T (.tup [r.2.1, x2])) := same_upd nT
          have tl : ∀ c xs, H c = some (.tup xs) → (upd H2 T (.tup [r.2.1, x2])) c = some (.tup xs) := fun c xs z => by
            have z1 := s1 _ _ z
            have nc := ne_of_none z1 nD
            refine sT _ _ (hs c _ nc ?_)
            rw [upd_ne nc]
            exact z1
          refine ⟨T, [r.2.1, x2], rfl, .inl (.inl upd_same), rfl, r.2.1, [x2], rfl, x2, [], rfl, rfl, rfl, r.2.1, rfl, x2, rfl, (newRows es ws).take i, r.1, ?_, ?_, ?_, ?_, ?_, ?_⟩
          · exact (ka r (List.mem_of_getElem? hr1)).mono tl
          · exact sT _ _ hD
          · exact KAll.keep (KAll.take (KAll.new ka) i) tl
          · rw [List.length_take, sz]
            omega
          · intro c o nc z
            rw [upd_ne nc]
            exact sT _ _ (hs c o nc z)
          · rw [upd_same, ← put_next (r := (r.1, r.2.1, x2)) (by rw [newRows_key hl]; exact nd) ga]
            rfl
        · obtain ⟨hs, hD⟩ := hp
          rw [List.take_of_length_le (by omega)] at hD
          have sH : Same H H2 := fun c o z => by
            have z1 := s1 _ _ z
            have nc := ne_of_none z1 nD
            refine hs c _ nc ?_
            rw [upd_ne nc]
            exact z1
          refine q H2 (.ref D) (D :: f2) sH (.dct hD (KAll.keep (KAll.new ka) fun c xs z => sH _ _ z) (by rw [newRows_key hl]; exact nd) rfl ?_ ?_) fun c hc2 => ?_
          · rw [newRows_kv hl]
            exact rk.same sH
          · rw [newRows_v hl]
            exact rw_.same sH
          · rcases List.mem_cons.mp hc2 with rfl | hc2
            · exact .inr (s1.free nD)
            · exact .inl hc2
      | _ => cases hd
    | false =>
      refine iteF ⟨v, rfl, v, d, fp, "tuple", isTupD d, rfl, rp, kitTup d, isTupD d, rfl, ?_⟩
      cases rp with
      | @lst a vs ds fp e rr =>
        refine iteF ⟨.ref b, rfl, b, ws, rfl, .inl (.inl (.inl hb)), fun l nl => ?_⟩
        refine q _ (.ref l) (l :: f2) (same_upd nl) (.lst upd_same (rw_.same (same_upd nl))) fun c hc2 => ?_
        rcases List.mem_cons.mp hc2 with rfl | hc2
        · exact .inr nl
        · exact .inl hc2
      | @tup a vs ds fp e rr =>
        refine iteT ⟨.ref b, rfl, b, ws, rfl, .inl ⟨.inl (.inl hb), fun l nl => ?_⟩⟩
        exact q _ (.ref l) f2 (same_upd nl) (.tup upd_same (rw_.same (same_upd nl))) fun c hc2 => .inl hc2
      | dct => cases hd
      | none => cases hcont
      | bool b => cases hcont
      | int i => cases hcont
      | str x => cases hcont
end
end KF
end L2
namespace L2
namespace KF
open PySem PySem.Spec PyProof.Rows PySem.KD KE
/-! ## copied -/
mutual
def sz : PyData → Nat
  | .list xs => szAll xs + 1
  | .tuple xs => szAll xs + 1
  | .dict kvs => szKv kvs + 1
  | .none => 1
  | .bool _ => 1
  | .int _ => 1
  | .str _ => 1
def szAll : List PyData → Nat
  | [] => 0
  | x :: xs => sz x + szAll xs
def szKv : List (PyData × PyData) → Nat
  | [] => 0
  | (k, v) :: r => sz v + szKv r
end
theorem szKv_eq : ∀ kvs, szKv kvs = szAll (kvs.map (·.2))
  | [] => by simp only [szKv, List.map_nil, szAll]
  | (k, v) :: r => by simp only [szKv, List.map_cons, szAll, szKv_eq r]
theorem sz_kids (d : PyData) : sz d = szAll (kids d) + 1 := by
  cases d <;> simp only [sz, kids, szAll, szKv_eq]
theorem szAll_append : ∀ xs ys, szAll (xs ++ ys) = szAll xs + szAll ys
  | [], ys => by simp only [List.nil_append, szAll, Nat.zero_add]
  | x :: xs, ys => by simp only [List.cons_append, szAll, szAll_append xs ys, Nat.add_assoc]
theorem szAll_len : ∀ xs, xs.length ≤ szAll xs
  | [] => Nat.zero_le _
  | x :: xs => by
    have := szAll_len xs
    have := sz_kids x
    simp only [List.length_cons, szAll]
    omega
theorem drop_one {α : Type} {l : List α} {i : Nat} {x : α} (h : l[i]? = some x) : l.drop i = x :: l.drop (i + 1) := by
  obtain ⟨hi, e⟩ := List.getElem?_eq_some_iff.mp h
  rw [List.drop_eq_getElem_cons hi, e]
/-- the nodes found so far: their data ds, their starts ss -/
structure Bfs (ds : List PyData) (ss : List Nat) : Prop where
  le : ss.length ≤ ds.length
  at_ : ∀ j d, j < ss.length → ds[j]? = some d → ∃ s, ss[j]? = some s ∧ j < s ∧ s + (kids d).length ≤ ds.length ∧ ∀ m, m < (kids d).length → ds[s + m]? = (kids d)[m]?
theorem Bfs.next {ds : List PyData} {ss : List Nat} {d : PyData} (b : Bfs ds ss) (h : ds[ss.length]? = some d) : Bfs (ds ++ kids d) (ss ++ [ds.length]) := by
  have hl := (List.getElem?_eq_some_iff.mp h).1
  refine ⟨by rw [List.length_append, List.length_append]; simp only [List.length_singleton]; omega, fun j d' hj hd => ?_⟩
  rw [List.length_append, List.length_singleton] at hj
  by_cases hj2 : j < ss.length
  · have hd' : ds[j]? = some d' := by
      rw [List.getElem?_append_left (by omega)] at hd
      exact hd
    obtain ⟨s, h1, h2, h3, h4⟩ := b.at_ j d' hj2 hd'
    refine ⟨s, by rw [List.getElem?_append_left hj2]; exact h1, h2, by rw [List.length_append]; omega, fun m hm => ?_⟩
    rw [List.getElem?_append_left (by omega)]
    exact h4 m hm
  · have ej : j = ss.length := by omega
    subst ej
    rw [List.getElem?_append_left hl, h] at hd
    obtain rfl := Option.some.inj hd
    refine ⟨ds.length, by rw [List.getElem?_append_right (Nat.le_refl _), Nat.sub_self]; rfl, hl, by rw [List.length_append]; exact Nat.le_refl _, fun m hm => ?_⟩
    rw [List.getElem?_append_right (Nat.le_add_right _ _), Nat.add_sub_cancel_left]
theorem Bfs.size {ds : List PyData} {i N : Nat} {d : PyData} (h : ds[i]? = some d) (e : i + szAll (ds.drop i) = N) : i + 1 + szAll ((ds ++ kids d).drop (i + 1)) = N := by
  have hl := (List.getElem?_eq_some_iff.mp h).1
  rw [drop_one h] at e
  rw [List.drop_append_of_le_length (by omega), szAll_append]
  simp only [szAll] at e
  have := sz_kids d
  omega
theorem Bfs.bound {ds : List PyData} {i N : Nat} (hi : i ≤ ds.length) (e : i + szAll (ds.drop i) = N) : ds.length ≤ N := by
  have := szAll_len (ds.drop i)
  rw [List.length_drop] at this
  omega
/-- all of them are what they are -/
def Reps (w : World) (H : Hp) (vs : List V) (ds : List PyData) : Prop := Paired (fun v d => ∃ f, Rep w H v d f) vs ds
theorem Reps.of {w : World} {H : Hp} : ∀ {vs : List V} {ds : List PyData} {f : List Addr}, RepAll w H vs ds f → Reps w H vs ds
  | _, _, _, .nil => .nil
  | _, _, _, .cons r rs => .cons ⟨_, r⟩ (Reps.of rs)
theorem paired_append {α β : Type} {R : α → β → Prop} : ∀ {xs : List α} {ys : List β} {xs' : List α} {ys' : List β}, Paired R xs ys → Paired R xs' ys' → Paired R (xs ++ xs') (ys ++ ys')
  | _, _, _, _, .nil, h => h
  | _, _, _, _, .cons a t, h => .cons a (paired_append t h)
section
variable {X : Cx}
/-- len(x) of data -/
def rLenD (w : World) : List V → Hp → VK → Prop := fun xs H Q => ∃ v d fp, xs = [v] ∧ Rep w H v d fp ∧ isCont d = true ∧ Q (.int (kids d).length) H
theorem callLenD : CallR X (.builtin "len") (rLenD X.w) := by
  intro pins s σ H xs us Q I r z
  obtain ⟨v, d, fp, rfl, rp, hc, q⟩ := z
  cases rp with
  | @lst a vs ds fp e rr => exact call_len_seq pins s σ H _ us Q I r ⟨a, vs, rfl, .inl (.inl (.inl e)), by rw [rr.length]; exact q⟩
  | @tup a vs ds fp e rr => exact call_len_seq pins s σ H _ us Q I r ⟨a, vs, rfl, .inr (.inl (.inl e)), by rw [rr.length]; exact q⟩
  | @dct a es kvs fk fv e ka nd hf rk rv =>
    refine callLenM pins s σ H _ us Q I r ⟨a, es, rfl, .inl e, ?_⟩
    have h1 := rv.length
    rw [List.length_map] at h1
    rw [h1]
    exact q
  | _ => cases hc
end
/-- a part of the made ones -/
theorem repAll_of {w : World} {H : Hp} {N : Addr → Prop} : ∀ {vs : List V} {ds : List PyData}, vs.length = ds.length → (∀ (m : Nat) (v : V) (d : PyData), vs[m]? = some v → ds[m]? = some d → ∃ f, Rep w H v d f ∧ ∀ a ∈ f, N a) → ∃ f, RepAll w H vs ds f ∧ ∀ a ∈ f, N a
  | [], [], _, _ => ⟨[], .nil, fun _ z => nomatch z⟩
  | v :: vs, d :: ds, hl, h => by
    obtain ⟨f1, r1, n1⟩ := h 0 v d rfl rfl
    obtain ⟨f2, r2, n2⟩ := repAll_of (vs := vs) (ds := ds) (Nat.succ.inj hl) fun m v' d' e1 e2 => h (m + 1) v' d' e1 e2
    exact ⟨f1 ++ f2, .cons r1 r2, fun a z => (List.mem_append.mp z).elim (n1 a) (n2 a)⟩
  | [], _ :: _, hl, _ => nomatch hl
  | _ :: _, [], hl, _ => nomatch hl
theorem cut_nat (xs : List V) (i n : Nat) (h : i + n ≤ xs.length) : cutV xs (some (i : Int)) (some ((i : Int) + (n : Int))) = (xs.drop i).take n := by
  unfold cutV
  rw [HT.sIx_nat, show ((i : Int) + (n : Int)) = ((i + n : Nat) : Int) by omega, HT.sIx_nat, Nat.min_eq_left h, Nat.min_eq_left (by omega), Nat.add_sub_cancel_left]
abbrev cpN : List Str := ["value", "nodes", "starts", "at", "made", "k", "node"]
theorem scCopied : FnScope cpN ["value"] (defScope sCopied) := ⟨rfl, rfl, rfl, by decide +kernel, rfl, by decide +kernel, by decide +kernel⟩
theorem Rep.scalar {w : World} {H : Hp} {v : V} {d : PyData} {fp : List Addr} (r : Rep w H v d fp) (h : isCont d = false) : fp = [] := by
  cases r with
  | lst => cases h
  | tup => cases h
  | dct => cases h
  | _ => rfl
theorem atN {xs : List V} {i : Nat} {x : V} (h : xs[i]? = some x) : atI xs ((i : Nat) : Int) = some x := atI_nat h
theorem paired_at {α β : Type} {R : α → β → Prop} : ∀ {xs : List α} {ys : List β} {i : Nat} {x : α}, Paired R xs ys → xs[i]? = some x → ∃ y, ys[i]? = some y ∧ R x y
  | _, _, 0, _, .cons a _, h => ⟨_, rfl, by rw [← Option.some.inj h]; exact a⟩
  | _, _, i + 1, _, .cons _ t, h => paired_at (i := i) t h
  | _, _, _, _, .nil, h => by simp at h
/-- the first loop: nodes and starts, found so far -/
structure CpA (w : World) (H0 : Hp) (pn ps : Addr) (v : V) (d : PyData) (N i : Nat) (vs : List V) (ds : List PyData) (ss : List Nat) (H : Hp) : Prop where
  same : Same H0 H
  nodes : H pn = some (.lst vs)
  starts : H ps = some (.lst (ss.map fun k => V.int (k : Nat)))
  reps : Reps w H0 vs ds
  len : vs.length = ds.length
  bfs : Bfs ds ss
  at_ : ss.length = i
  size : i + szAll (ds.drop i) = N
  v0 : vs[0]? = some v
  d0 : ds[0]? = some d
/-- the second loop: the made ones from n - t on -/
structure CpB (w : World) (H1 : Hp) (pm : Addr) (vs : List V) (ds : List PyData) (t : Nat) (ms : List V) (H : Hp) : Prop where
  but : SameBut pm H1 H
  made : H pm = some (.lst ms)
  len : ms.length = ds.length
  low : ∀ j, j + t < ds.length → ms[j]? = vs[j]?
  high : ∀ (j : Nat) (m : V) (d : PyData), ds.length ≤ j + t → ms[j]? = some m → ds[j]? = some d → ∃ f, Rep w H m d f ∧ ∀ a ∈ f, H1 a = none
section
variable {P : Program} {w : World} {K : PySem.W.Frag} {mg : Str → Option Value} {base : Heap}
def spCopied (w : World) : Sp := fun vs H Q _ => ∃ v d fp, vs = [v] ∧ Rep w H v d fp ∧ sz d ≤ 1000 ∧ ∀ H' v' f3, Same H H' → Rep w H' v' d f3 → (∀ a ∈ f3, H a = none) → Q v' H'
theorem ok_copied {f fI fR : Addr} {fd fdI fdR : FuncData} (F : Fun K "copied" "copied" sCopied f fd) (FI : Fun K "items_of" "items_of" sItems fI fdI) (FR : Fun K "rebuilt" "rebuilt" sRebuilt fR fdR) (B : Blt mg)
    (gI : mg "items_of" = some (.ref fI)) (gR : mg "rebuilt" = some (.ref fR)) (bI : Binds K fdI ["value"] []) (bR : Binds K fdR ["value", "items"] []) : FnOk P w K mg base CX0 2 f fd ["value"] (spCopied w) := by
  have GI : FnOk P w K mg base CX0 1 fI fdI ["value"] (spItems w) := ok_items FI B
  have GR : FnOk P w K mg base CX0 1 fR fdR ["value", "items"] (spReb w) := ok_reb FR B
  refine F.ok scCopied (fun vs H Q E h => ?_) (fun cdv A outer s H vs Q E hr h => ?_)
  · obtain ⟨v, d, fp, rfl, _⟩ := h
    rfl
  · obtain ⟨v, d, fp, rfl, rp, hN, q⟩ := h
    refine ⟨_, pss_cons (ps_set (i := 1) scCopied.nd rfl (.inl rfl) (pe_lst (pa_cons (pv 0) pa_nil)))
      (pss_cons (ps_set (i := 2) scCopied.nd rfl (.inl rfl) (pe_lst pa_nil))
      (pss_cons (ps_set (i := 3) scCopied.nd rfl (.inl rfl) pe_int)
      (pss_cons (ps_while PassesOwn.never (pt_cmpR op_lt (pv 3) (pe_callB call_len_seq (by rfl) B.len PySem.boot_len (pa_cons (pv 1) pa_nil)) (nomark _))
          (pss_cons (ps_expr (pe_bm PySem.F.plainAttrs_list PySem.F.slot_list_append PySem.F.type_list_append mt_append (pv 2) (pa_cons (pe_callB call_len_seq (by rfl) B.len PySem.boot_len (pa_cons (pv 1) pa_nil)) pa_nil)))
          (pss_cons (ps_expr (pe_bm PySem.F.plainAttrs_list PySem.F.slot_list_extend PySem.F.type_list_extend mt_extend (pv 1) (pa_cons (pe_call GI hr (by rfl) gI FI.kp bI .nil pass0 (pa_cons (pe_ix ix_list (pv 1) (pv 3) (fun _ _ => rfl)) pa_nil)) pa_nil)))
          (pss_one (ps_aug (i := 3) scCopied.nd rfl (.inl rfl) pe_int ip_add)))))
      (pss_cons (ps_set (i := 4) scCopied.nd rfl (.inl rfl) (pe_callTy call_list_of (by rfl) B.list boot_list (pa_cons (pv 1) pa_nil)))
      (pss_cons (ps_for PassesOwn.never rfl (pi_revR (by rfl) B.reversed (prg_1 (by rfl) B.range (pe_callB call_len_seq (by rfl) B.len PySem.boot_len (pa_cons (pv 1) pa_nil)))) (pg_name (i := 5) scCopied.nd rfl (.inl rfl))
          (pss_cons (ps_set (i := 6) scCopied.nd rfl (.inl rfl) (pe_ix ix_list (pv 1) (pv 5) (fun _ _ => rfl)))
          (pss_one (ps_if (pt_val (pe_callB callIsDT (by rfl) B.isi boot_isinstance (pa_cons (pv 6) (pa_cons (pe_tup (pa_cons (pe_bltn (v := .ty "list") (by rfl) B.list boot_list rfl) (pa_cons (pe_bltn (v := .ty "tuple") (by rfl) B.tuple boot_tuple rfl) (pa_cons (pe_bltn (v := .ty "dict") (by rfl) B.dict boot_dict rfl) pa_nil)))) pa_nil))))
              (pss_one (ps_asg (pe_call GR hr (by rfl) gR FR.kp bR .nil pass0 (pa_cons (pv 6) (pa_cons (pe_slice sl_list (pv 4) (po_some (pe_ix ix_list (pv 2) (pv 5) (fun _ _ => rfl)))
                  (po_some (pe_op op_add (pe_ix ix_list (pv 2) (pv 5) (fun _ _ => rfl)) (pe_callB callLenD (by rfl) B.len PySem.boot_len (pa_cons (pv 6) pa_nil))))) pa_nil)))
                (pg_sub (pv 4) (pv 5) set_list))) pss_nil))))
      (pss_one (ps_ret (pe_ix ix_list (pv 4) pe_int (fun _ _ => rfl))))))))), ?_⟩
    -- nodes, starts, at
    refine ⟨v, rfl, by show 1 ≤ sizeLine; decide, fun pn nn => ⟨Nat.zero_le _, fun ps np => ?_⟩⟩
    have npn : ps ≠ pn := fun z => by
      rw [z, upd_same] at np
      cases np
    have s1 : Same H (upd H pn (.lst [v])) := same_upd nn
    have s2 : Same H (upd (upd H pn (.lst [v])) ps (.lst [])) := s1.trans (same_upd np)
    have nps : H ps = none := s1.free np
    refine while_by (fun σ H2 => ∃ i vs ds ss y4 y5 y6, σ = [some v, some (.ref pn), some (.ref ps), some (.int (i : Nat)), y4, y5, y6] ∧ CpA w H pn ps v d (sz d) i vs ds ss H2)
      (fun σ H2 => match σ with
        | [_, _, _, some (.int i), _, _, _] => 1000 - i.toNat
        | _ => 0) ⟨0, [v], [d], [], none, none, none, rfl, ⟨s2, ?_, upd_same, .cons ⟨fp, rp⟩ .nil, rfl, ⟨Nat.zero_le _, fun j d' hj => absurd hj (Nat.not_lt_zero j)⟩, rfl, ?_, rfl, rfl⟩⟩ (fun σ H2 hP => ?_) (fun σ H2 Q1 Q2 mono hq => ?_)
    · rw [upd_ne npn.symm, upd_same]
    · simp only [List.drop_zero, szAll]
      omega
    · obtain ⟨i, vs, ds, ss, y4, y5, y6, rfl, C⟩ := hP
      have hS : SqL K H2 pn vs := .inl (.inl C.nodes)
      refine ⟨.int (i : Nat), rfl, .ref pn, rfl, pn, vs, rfl, .inl hS, _, _, rfl, rfl, _, rfl, ite2 (fun lt => ?_) (fun ge => ?_)⟩
      · have li : i < vs.length := by
          have z := of_decide_eq_true lt
          omega
        have gv : vs[i]? = some vs[i] := List.getElem?_eq_getElem li
        obtain ⟨di, gd, fi, ri⟩ := paired_at C.reps gv
        have hb : ds.length ≤ sz d := Bfs.bound (by rw [← C.len]; omega) C.size
        have hps : (upd H2 ps (.lst (ss.map (fun k => V.int (k : Nat)) ++ [V.int (vs.length : Nat)]))) pn = some (.lst vs) := by
          rw [upd_ne npn.symm]
          exact C.nodes
        have s3 : Same H (upd H2 ps (.lst (ss.map (fun k => V.int (k : Nat)) ++ [V.int (vs.length : Nat)]))) := fun c o z => by
          rw [upd_ne (ne_of_none z nps)]
          exact C.same _ _ z
        -- starts.append(len(nodes))
        refine ⟨.ref ps, rfl, .inl ⟨rfl, _, .inl (.inl C.starts)⟩, .ref pn, rfl, pn, vs, rfl, .inl hS, ps, _, _, rfl, rfl, C.starts, ?_, ?_⟩
        · rw [List.length_map, C.at_]
          exact small1000 (by have := C.len; omega)
        -- nodes.extend(items_of(nodes[at]))
        refine ⟨.ref pn, rfl, .inl ⟨rfl, _, .inl (.inl hps)⟩, .ref pn, rfl, .int (i : Nat), rfl, pn, vs, _, vs[i], rfl, rfl, .inl (.inl hps), atN gv, H, vs[i], di, fi, rfl, s3, ri, fun H4 p ws fk s4 np4 ep rws => ?_⟩
        have hp4 : H4 pn = some (.lst vs) := s4 _ _ hps
        have lw := rws.length
        have nx := C.bfs.next (d := di) (by rw [C.at_]; exact gd)
        have sz2 := Bfs.size gd C.size
        have hb2 : (ds ++ kids di).length ≤ sz d := Bfs.bound (i := i + 1) (by
          rw [List.length_append]
          have := C.len
          omega) sz2
        rw [List.length_append] at hb2
        refine ⟨pn, p, vs, ws, rfl, rfl, hp4, ep, ?_, ?_⟩
        · have := C.len
          exact Nat.le_of_lt (small1000 (by omega))
        -- at += 1
        have nnp : ∀ c o, H c = some o → c ≠ pn := fun c o z => ne_of_none z nn
        refine ⟨_, rfl, i, 1, rfl, rfl, ⟨i + 1, vs ++ ws, ds ++ kids di, ss ++ [ds.length], y4, y5, y6, rfl, ⟨fun c o z => ?_, upd_same, ?_, paired_append C.reps (Reps.of rws), ?_, nx, ?_, sz2, ?_, ?_⟩⟩, ?_⟩
        · rw [upd_ne (nnp c o z)]
          exact s4 _ _ (s3 _ _ z)
        · rw [upd_ne npn, s4 _ _ upd_same, List.map_append, C.len]
          rfl
        · rw [List.length_append, List.length_append, C.len, lw]
        · rw [List.length_append, C.at_]
          rfl
        · rw [List.getElem?_append_left (by omega)]
          exact C.v0
        · rw [List.getElem?_append_left (by have := C.len; omega)]
          exact C.d0
        · show 1000 - ((i : Int) + 1).toNat < 1000 - (i : Int).toNat
          have := C.len
          omega
      · have hn : vs.length = i := by
          have z : ¬ ((i : Nat) : Int) < ((vs.length : Nat) : Int) := fun z => ge (decide_eq_true z)
          have := C.bfs.le
          have := C.at_
          have := C.len
          omega
        have hnd : ds.length = i := by rw [← C.len, hn]
        have hb : i ≤ sz d := by
          rw [← hnd]
          exact Bfs.bound (by rw [hnd]; exact Nat.le_refl _) C.size
        -- made = list(nodes)
        refine ⟨.ref pn, rfl, pn, vs, rfl, .inl hS, fun pm nm => ?_⟩
        have sm : Same H2 (upd H2 pm (.lst vs)) := same_upd nm
        have npm : H pm = none := C.same.free nm
        have hpn : (upd H2 pm (.lst vs)) pn = some (.lst vs) := sm _ _ C.nodes
        refine ⟨.ref pn, rfl, pn, vs, rfl, .inl (.inl (.inl hpn)), vs.length, rfl, by decide, by decide, by omega, by omega, ?_⟩
        refine for_it (walk_rangeC (lo := _) (c := -1)) (fun t σ H3 => ∃ ms y5 y6, σ = [some v, some (.ref pn), some (.ref ps), some (.int (i : Nat)), some (.ref pm), y5, y6] ∧ CpB w (upd H2 pm (.lst vs)) pm vs ds t ms H3)
          ⟨vs, y5, y6, rfl, fun _ _ _ z => z, upd_same, C.len, fun _ _ => rfl, fun j m d' hj hm _ => ?_⟩ (fun _ _ _ _ _ => trivial) (fun t x σ H3 H4 ht hP hy => ?_) (fun σ H3 hP => ?_)
        · have := (List.getElem?_eq_some_iff.mp hm).1
          have := C.len
          omega
        · obtain ⟨ms, z5, z6, rfl, D⟩ := hP
          obtain ⟨rfl, ex⟩ := hy
          have ht2 : t < i := by
            have z : t < (((vs.length : Nat) : Int) - 0).toNat := ht
            omega
          obtain ⟨k, hk⟩ : ∃ k, k + t + 1 = i := ⟨i - 1 - t, by omega⟩
          have ek : (0 : Int) + (((((vs.length : Nat) : Int) - 0).toNat : Nat) : Int) - 1 + ((t : Nat) : Int) * -1 = ((k : Nat) : Int) := by omega
          have ex2 : x = .int ((k : Nat) : Int) := ex.trans (congrArg V.int ek)
          subst ex2
          have lk : k < vs.length := by omega
          have gv : vs[k]? = some vs[k] := List.getElem?_eq_getElem lk
          obtain ⟨dk, gd, fk, rk⟩ := paired_at C.reps gv
          obtain ⟨sk, g1, g2, g3, g4⟩ := C.bfs.at_ k dk (by rw [C.at_]; omega) gd
          have nmp : pn ≠ pm := ne_of_none C.nodes nm
          have nms : ps ≠ pm := ne_of_none C.starts nm
          have e1 : H4 pn = some (.lst vs) := D.but _ _ nmp hpn
          have e2 : H4 ps = some (.lst (ss.map fun k => V.int (k : Nat))) := D.but _ _ nms (sm _ _ C.starts)
          have s4 : Same H H4 := fun c o z => D.but c o (ne_of_none z npm) (sm _ _ (C.same _ _ z))
          -- node = nodes[k]
          refine ⟨.ref pn, rfl, .int (k : Nat), rfl, pn, vs, _, vs[k], rfl, rfl, .inl (.inl e1), atN gv, ?_⟩
          -- isinstance(node, (list, tuple, dict))
          refine ⟨vs[k], rfl, by show 3 ≤ sizeLine; decide, fun T nT => ?_⟩
          have sT : Same H4 (upd H4 T (.tup [.ty "list", .ty "tuple", .ty "dict"])) := same_upd nT
          refine ⟨vs[k], dk, fk, T, ["list", "tuple", "dict"], isCont dk, rfl, upd_same, rk.same (s4.trans sT), fun K => kitLTD dk, isCont dk, rfl, ?_⟩
          have keepM : ∀ {H5 : Hp} {m : V} {d' : PyData} {f' : List Addr}, Same H4 H5 → Rep w H4 m d' f' → (∀ a ∈ f', (upd H2 pm (.lst vs)) a = none) → Rep w H5 m d' f' := fun s5 r _ => r.same s5
          cases hcont : isCont dk with
          | false =>
            refine iteF ⟨ms, _, _, rfl, fun c o nc z => sT _ _ (D.but c o nc z), sT _ _ D.made, D.len, fun j hj => D.low j (by omega), fun j m d' hj hm hd => ?_⟩
            by_cases hjk : j = k
            · subst hjk
              rw [D.low j (by omega), gv] at hm
              rw [gd] at hd
              obtain rfl := Option.some.inj hm
              obtain rfl := Option.some.inj hd
              refine ⟨fk, rk.same (s4.trans sT), fun a ha => ?_⟩
              rw [rk.scalar hcont] at ha
              exact nomatch ha
            · obtain ⟨f5, r5, n5⟩ := D.high j m d' (by omega) hm hd
              exact ⟨f5, r5.same sT, n5⟩
          | true =>
            have eT2 : (upd H4 T (.tup [.ty "list", .ty "tuple", .ty "dict"])) ps = _ := sT _ _ e2
            have gs : (ss.map fun k => V.int (k : Nat))[k]? = some (.int (sk : Nat)) := by
              rw [List.getElem?_map, g1]
              rfl
            have hsl : SqL K (upd H4 T (.tup [.ty "list", .ty "tuple", .ty "dict"])) ps (ss.map fun k => V.int (k : Nat)) := .inl (.inl eT2)
            refine iteT ⟨vs[k], rfl, .ref pm, rfl, .ref ps, rfl, .int (k : Nat), rfl, ps, _, _, .int (sk : Nat), rfl, rfl, hsl, atN gs, (sk : Nat), rfl, .ref ps, rfl, .int (k : Nat), rfl, ps, _, _, .int (sk : Nat), rfl, rfl, hsl, atN gs,
              vs[k], rfl, vs[k], dk, fk, rfl, rk.same (s4.trans sT), hcont, _, _, rfl, rfl, _, rfl, pm, ms, rfl, .inl (.inl (sT _ _ D.made)), fun c nc => ?_⟩
            have lc : sk + (kids dk).length ≤ ms.length := by rw [D.len]; exact g3
            have ec := cut_nat ms sk (kids dk).length lc
            have sc : Same H4 (upd (upd H4 T (.tup [.ty "list", .ty "tuple", .ty "dict"])) c (.lst (cutV ms (some (sk : Nat)) (some ((sk : Nat) + ((kids dk).length : Nat)))))) := sT.trans (same_upd nc)
            have lcut : ((ms.drop sk).take (kids dk).length).length = (kids dk).length := by
              rw [List.length_take, List.length_drop]
              omega
            obtain ⟨f2, r2, n2⟩ := repAll_of (w := w) (H := upd (upd H4 T (.tup [.ty "list", .ty "tuple", .ty "dict"])) c (.lst (cutV ms (some (sk : Nat)) (some ((sk : Nat) + ((kids dk).length : Nat)))))) (N := fun a => (upd H2 pm (.lst vs)) a = none) lcut fun m v' d' h1 h2 => by
              have lm := (List.getElem?_eq_some_iff.mp h2).1
              rw [List.getElem?_take_of_lt lm, List.getElem?_drop] at h1
              obtain ⟨f5, r5, n5⟩ := D.high (sk + m) v' d' (by omega) h1 ((g4 m lm).trans h2)
              exact ⟨f5, r5.same sc, n5⟩
            have hcutR : RepAll w (upd (upd H4 T (.tup [.ty "list", .ty "tuple", .ty "dict"])) c (.lst (cutV ms (some (sk : Nat)) (some ((sk : Nat) + ((kids dk).length : Nat)))))) (cutV ms (some (sk : Nat)) (some ((sk : Nat) + ((kids dk).length : Nat)))) (kids dk) f2 := ec ▸ r2
            refine ⟨vs[k], c, dk, fk, _, f2, rfl, rk.same (s4.trans sc), hcont, upd_same, hcutR, by omega, fun H5 v' f3 s5 r5 n5 => ?_⟩
            -- made[k] = ..
            have em5 : H5 pm = some (.lst ms) := s5 _ _ (sc _ _ D.made)
            have nf : ∀ a ∈ f3, (upd H2 pm (.lst vs)) a = none := fun a ha => by
              rcases n5 a ha with z | z
              · exact n2 a z
              · by_cases ea : a = pm
                · exfalso
                  rw [ea, sc _ _ D.made] at z
                  cases z
                · cases e6 : (upd H2 pm (.lst vs)) a with
                  | none => rfl
                  | some o =>
                    rw [sc _ _ (D.but a o ea e6)] at z
                    cases z
            have keepU : ∀ {m : V} {d' : PyData} {f' : List Addr}, Rep w H5 m d' f' → (∀ a ∈ f', (upd H2 pm (.lst vs)) a = none) → Rep w (upd H5 pm (.lst (ms.set k v'))) m d' f' := by
              intro m d' f' r n
              refine r.keep ⟨fun a ha => ?_, fun a xs z => ?_⟩
              · refine upd_ne fun z => ?_
                have := n a ha
                rw [z, upd_same] at this
                cases this
              · have na : a ≠ pm := fun q => by
                  rw [q, em5] at z
                  cases z
                rw [upd_ne na]
                exact z
            refine ⟨.ref pm, rfl, .int (k : Nat), rfl, pm, ms, k, k, rfl, rfl, em5, ?_, ms.set k v', _, _, rfl, fun b o nb z => ?_, upd_same, ?_, fun j hj => ?_, fun j m d' hj hm hd => ?_⟩
            · unfold ixN
              rw [if_pos (by omega), if_pos (by rw [D.len]; omega)]
              rfl
            · rw [upd_ne nb]
              exact s5 _ _ (sc _ _ (D.but b o nb z))
            · rw [List.length_set]
              exact D.len
            · rw [List.getElem?_set_ne (by omega)]
              exact D.low j (by omega)
            · by_cases hjk : j = k
              · subst hjk
                rw [List.getElem?_set_self (by rw [D.len]; omega)] at hm
                rw [gd] at hd
                obtain rfl := Option.some.inj hm
                obtain rfl := Option.some.inj hd
                exact ⟨f3, keepU r5 nf, nf⟩
              · rw [List.getElem?_set_ne (fun z => hjk z.symm)] at hm
                obtain ⟨f5, r6, n6⟩ := D.high j m d' (by omega) hm hd
                exact ⟨f5, keepU (r6.same (sc.trans s5)) n6, n6⟩
        · obtain ⟨ms, z5, z6, rfl, D⟩ := hP
          have zn : (((vs.length : Nat) : Int) - 0).toNat = ds.length := by omega
          rw [zn] at D
          have l0 := (List.getElem?_eq_some_iff.mp C.d0).1
          obtain ⟨m0, gm⟩ : ∃ m, ms[0]? = some m := ⟨ms[0]'(by rw [D.len]; exact l0), List.getElem?_eq_getElem _⟩
          obtain ⟨f5, r5, n5⟩ := D.high 0 m0 d (by omega) gm C.d0
          refine ⟨.ref pm, rfl, pm, ms, 0, m0, rfl, rfl, .inl (.inl D.made), atI_nat (j := 0) gm, ?_⟩
          refine q H3 m0 f5 (fun c o z => D.but c o (ne_of_none z npm) (sm _ _ (C.same _ _ z))) r5 fun a ha => ?_
          exact C.same.free (sm.free (n5 a ha))
    · obtain ⟨a1, e1, a2, e2, p, ys, e3, h3, i3, j3, e4, e5, b, e6, h6⟩ := hq
      exact ⟨a1, e1, a2, e2, p, ys, e3, h3, i3, j3, e4, e5, b, e6, mono _ _ h6⟩
end
end KF
end L2
end
/-! ### PP -/
section
namespace L2
namespace KF
open PySem PySem.Spec PyProof.Rows PySem.KD KE KC PySem.KA
/-! ## the pen -/
abbrev sPen : Stmt := topS 26
abbrev sDraw : Stmt := topS 27
abbrev sPick : Stmt := topS 28
abbrev drN : List Str := ["_law_pen", "_law_many", "_law_digit", "_law_at", "_law_cell", "_law_mixed"]
theorem scPen : FnScope ["_law_script"] ["_law_script"] (defScope sPen) := ⟨rfl, rfl, rfl, by decide +kernel, rfl, by decide +kernel, by decide +kernel⟩
theorem scDraw : FnScope drN ["_law_pen", "_law_many"] (defScope sDraw) := ⟨rfl, rfl, rfl, by decide +kernel, rfl, by decide +kernel, by decide +kernel⟩
theorem scPick : FnScope ["_law_pen", "_law_items"] ["_law_pen", "_law_items"] (defScope sPick) := ⟨rfl, rfl, rfl, by decide +kernel, rfl, by decide +kernel, by decide +kernel⟩
abbrev kCells : Key := .inr "cells"
abbrev kAtt : Key := .inr "at"
abbrev kLeft : Key := .inr "left"
def penRows (c : Addr) (at_ left : Int) : List (Key × V) := [(kCells, .ref c), (kAtt, .int at_), (kLeft, .int left)]
/-- the pen at p, its cells at c -/
structure PenAt (H : Hp) (p c : Addr) (ns : List Int) (at_ left : Int) : Prop where
  row : H p = some (.dK (penRows c at_ left))
  cells : H c = some (.lst (ns.map V.int))
theorem PenAt.same {H H' : Hp} {p c : Addr} {ns : List Int} {a l : Int} (e : PenAt H p c ns a l) (s : Same H H') : PenAt H' p c ns a l := ⟨s _ _ e.row, s _ _ e.cells⟩
theorem PenAt.ne {H : Hp} {p c : Addr} {ns : List Int} {a l : Int} (e : PenAt H p c ns a l) : c ≠ p := fun z => by
  have h1 := e.row
  rw [← z, e.cells] at h1
  cases h1
theorem val_cells (c : Addr) (a l : Int) : valV (penRows c a l) kCells = some (.ref c) := by rfl
theorem val_at (c : Addr) (a l : Int) : valV (penRows c a l) kAtt = some (.int a) := by rfl
theorem val_left (c : Addr) (a l : Int) : valV (penRows c a l) kLeft = some (.int l) := by rfl
theorem put_at (c : Addr) (a l b : Int) : putK (penRows c a l) kAtt (.int b) = penRows c b l := by rfl
theorem put_left (c : Addr) (a l b : Int) : putK (penRows c a l) kLeft (.int b) = penRows c a b := by rfl
theorem merge_pen (c : Addr) (a l : Int) : mergeK [] (penRows c a l) = penRows c a l := by rfl
theorem PenAt.get {H : Hp} {p c : Addr} {ns : List Int} {a l : Int} (e : PenAt H p c ns a l) (k : Key) : DGet H p (kV k) (valV (penRows c a l) k) := DGet.k e.row
theorem PenAt.putL {H : Hp} {p c : Addr} {ns : List Int} {a l : Int} (e : PenAt H p c ns a l) (b : Int) : PenAt (upd H p (.dK (penRows c a b))) p c ns a b ∧ DPut H p (kV kLeft) (.int b) (upd H p (.dK (penRows c a b))) := by
  refine ⟨⟨upd_same, by rw [upd_ne e.ne]; exact e.cells⟩, ?_⟩
  rw [← put_left c a l b]
  exact DPut.k e.row (by show 3 < sizeLine; decide)
theorem PenAt.putA {H : Hp} {p c : Addr} {ns : List Int} {a l : Int} (e : PenAt H p c ns a l) (b : Int) : PenAt (upd H p (.dK (penRows c b l))) p c ns b l ∧ DPut H p (kV kAtt) (.int b) (upd H p (.dK (penRows c b l))) := by
  refine ⟨⟨upd_same, by rw [upd_ne e.ne]; exact e.cells⟩, ?_⟩
  rw [← put_at c a l b]
  exact DPut.k e.row (by show 3 < sizeLine; decide)
theorem SameBut.refl (p : Addr) (H : Hp) : SameBut p H H := fun _ _ _ z => z
theorem SameBut.trans {p : Addr} {H H1 H2 : Hp} (a : SameBut p H H1) (b : SameBut p H1 H2) : SameBut p H H2 := fun c o n z => b c o n (a c o n z)
theorem Same.but {H H' : Hp} (s : Same H H') (p : Addr) : SameBut p H H' := fun c o _ z => s c o z
theorem but_upd (p : Addr) (H : Hp) (o : HO) : SameBut p H (upd H p o) := fun c x n z => by
  rw [upd_ne n]
  exact z
/-- lists of ints against [] -/
theorem ints_dp {K : PySem.W.Frag} {H : Hp} : ∀ ns : List Int, DpAll K H (ns.map V.int) (ns.map PyData.int)
  | [] => .nil
  | n :: ns => .cons (.int n) (ints_dp ns)
theorem ints_lay : ∀ ns : List Int, PyData.canLayAll0 (ns.map PyData.int) = true
  | [] => by simp only [List.map_nil, PyData.canLayAll0]
  | n :: ns => by simp only [List.map_cons, PyData.canLayAll0, PyData.canLay0, ints_lay ns, Bool.and_self]
theorem ints_depth : ∀ ns : List Int, PyData.depthAll (ns.map PyData.int) ≤ 1
  | [] => by simp only [List.map_nil, PyData.depthAll]; decide
  | n :: ns => by
    have := ints_depth ns
    simp only [List.map_cons, PyData.depthAll, PyData.depth]
    omega
theorem ints_shaped (ns : List Int) : SeqAt.shaped (.list (ns.map PyData.int)) = true := by
  unfold SeqAt.shaped
  have := ints_depth ns
  rw [Bool.and_eq_true]
  exact ⟨by simp only [PyData.canLay0, ints_lay], decide_eq_true (by simp only [PyData.depth]; omega)⟩
theorem ints_eqv (ns : List Int) : PyData.eqv (.list (ns.map PyData.int)) (.list []) = ns.isEmpty := by
  cases ns with
  | nil => simp [PyData.eqv, PyData.eqvAll]
  | cons n ns => simp [PyData.eqv, PyData.eqvAll]
structure BltD (mg : Str → Option Value) : Prop where
  int : mg "int" = none
  len : mg "len" = none
  list : mg "list" = none
section
variable {P : Program} {w : World} {K : PySem.W.Frag} {mg : Str → Option Value} {base : Heap}
def spPen (K : PySem.W.Frag) : Sp := fun vs H Q _ => ∃ a ns, vs = [.ref a] ∧ SqL K H a (List.map V.int ns) ∧ ns.length ≤ 63 ∧ ∀ H' p c ns', Same H H' → H p = none → H c = none → ns'.length ≤ 63 → PenAt H' p c ns' 0 0 → Q (.ref p) H'
theorem ok_pen {f : Addr} {fd : FuncData} {k : Nat} (F : Fun K "_law_source" "_law_source" sPen f fd) (B : BltD mg) : FnOk P w K mg base CX0 (k + 1) f fd ["_law_script"] (spPen K) := by
  refine F.ok scPen (fun vs H Q E h => ?_) (fun cdv A outer s H vs Q E hr h => ?_)
  · obtain ⟨a, ns, rfl, _⟩ := h
    rfl
  · obtain ⟨a, ns, rfl, hS, hl, q⟩ := h
    refine ⟨_, pss_one (ps_ret (pe_disp (pps_cons pe_str (pe_callTy call_list_of (by rfl) B.list boot_list (pa_cons (pe_slice sl_list (pv 0) po_none (po_some pe_int)) pa_nil)) (pps_cons pe_str pe_int (pps_cons pe_str pe_int pps_nil))) rfl rfl (by decide) (by decide))), ?_⟩
    intro p np
    have s1 := same_upd (o := HO.dK []) np
    refine ⟨.ref a, rfl, 63, rfl, a, _, rfl, s1.seq hS, fun c nc => ?_⟩
    have s2 := same_upd (o := HO.lst (cutV (ns.map V.int) none (some 63))) nc
    refine ⟨c, _, rfl, .inl (.inl (.inl upd_same)), fun l nl => ?_⟩
    have s3 := same_upd (o := HO.lst (cutV (ns.map V.int) none (some 63))) nl
    refine ⟨s3 _ _ (s2 _ _ upd_same), penRows l 0 0, rfl, by show 3 ≤ 15; decide, ?_⟩
    rw [merge_pen]
    have npl : l ≠ p := fun z => by
      rw [z, s2 _ _ upd_same] at nl
      cases nl
    have ec : cutV (ns.map V.int) none (some 63) = (ns.take (min 63 ns.length)).map V.int := by
      unfold cutV
      rw [HT.sIx_none, show (63 : Int) = ((63 : Nat) : Int) from rfl, HT.sIx_nat, List.length_map, List.drop_zero, Nat.sub_zero, List.map_take]
    refine q _ p l (ns.take (min 63 ns.length)) (fun b o z => ?_) np (s1.free (s2.free nl)) ?_ ⟨upd_same, ?_⟩
    · rw [upd_ne (ne_of_none z np)]
      exact s3 _ _ (s2 _ _ (s1 _ _ z))
    · rw [List.length_take]
      omega
    · rw [upd_ne npl, upd_same, ec]
/-- a digit drawn: the pen goes on -/
def spDraw : Sp := fun vs H Q _ => ∃ (p c : Addr) (ns : List Int) (a l m : Int), vs = [.ref p, .int m] ∧ PenAt H p c ns a l ∧ ns.length ≤ 63 ∧ 0 ≤ a ∧ a ≤ 1000000 ∧ 0 ≤ l ∧ 1 ≤ m ∧ m ≤ 1000 ∧
  ∀ H' d a' l', SameBut p H H' → PenAt H' p c ns a' l' → a ≤ a' → a' ≤ a + 1 → 0 ≤ l' → 0 ≤ d → d < m → Q (.int d) H'
abbrev tI1 (t : TE) : TE := tCB (fun xs H Q => (∃ i, xs = [V.int i] ∧ Q (V.int i) H) ∨ ∃ k, xs = [V.bl k] ∧ Q (V.int (if k = true then 1 else 0)) H) (tCons t tNil)
abbrev tMod (a b : TE) : TE := tOp (rI (fun _ j => 0 < j) fun i j => V.int (i % j)) a b
abbrev tMul (a b : TE) : TE := tOp (rI CMul fun i j => V.int (i * j)) a b
abbrev tAdd (a b : TE) : TE := tOp (rI0 fun i j => V.int (i + j)) a b
abbrev tSub (a b : TE) : TE := tOp (rI0 fun i j => V.int (i - j)) a b
abbrev tDvd (a b : TE) : TE := tOp (rI CDiv fun i j => V.int (i / j)) a b
abbrev tPow (a b : TE) : TE := tOp (rI CPow fun i j => V.int (i ^ j.toNat)) a b
def tMix : TS := tSeq (tAsg (tMod (tI1 (tAdd (tAdd (tAdd (tMul (tMod (tI1 (tVar 4)) (tC (.int 2147483587))) (tC (.int 48271))) (tMul (tMul (tC (.int 40014)) (tVar 3)) (tVar 3))) (tMul (tC (.int 59)) (tVar 3))) (tC (.int 17)))) (tC (.int 2147483629))) (gName 5))
  (tSeq (tAsg (tMod (tI1 (tMul (tVar 5) (tAdd (tVar 5) (tC (.int 69621))))) (tC (.int 2147483549))) (gName 5))
  (tRet (tMod (tI1 (tDvd (tMod (tI1 (tMul (tVar 5) (tVar 5))) (tC (.int 2147483579))) (tC (.int 32)))) (tVar 1))))
theorem Int.pos_of_lt_lit {j : Int} (h : 0 < j) : 0 < j := h
theorem cmul_mod {x k y : Int} (h : 0 < k) (h2 : k < 1099511627776) : CMul (x % k) y := by
  have h3 := Int.emod_lt_of_pos x h
  have h4 := Int.emod_nonneg x (show k ≠ 0 by omega)
  exact .inl ⟨by omega, by omega⟩
theorem mix_ok {D : Ends} {H : Hp} {x0 y2 y5 : Option V} {a m cell : Int} (hm0 : 0 < m) (ha : 0 ≤ a) (ha2 : a ≤ 1000000) (q : ∀ e : Int, D.rt (.int (e % m)) H) : tMix D [x0, some (.int m), y2, some (.int a), some (.int cell), y5] H := by
  refine ⟨.int cell, rfl, .inl ⟨cell, rfl, cell, 2147483587, rfl, rfl, Int.pos_of_lt_lit (by decide), _, 48271, rfl, rfl, .inr ⟨by decide, by decide⟩, .int a, rfl, 40014, a, rfl, rfl, .inl ⟨by decide, by decide⟩, .int a, rfl, _, a, rfl, rfl, .inr ⟨by omega, by omega⟩, _, _, rfl, rfl, .int a, rfl, 59, a, rfl, rfl, .inl ⟨by decide, by decide⟩, _, _, rfl, rfl, _, 17, rfl, rfl, .inl ⟨_, rfl, _, 2147483629, rfl, rfl, Int.pos_of_lt_lit (by decide), ?_⟩⟩⟩
  refine ⟨.int _, rfl, .int _, rfl, _, 69621, rfl, rfl, _, _, rfl, rfl, cmul_mod (by decide) (by decide), .inl ⟨_, rfl, _, 2147483549, rfl, rfl, Int.pos_of_lt_lit (by decide), ?_⟩⟩
  refine ⟨.int _, rfl, .int _, rfl, _, _, rfl, rfl, cmul_mod (by decide) (by decide), .inl ⟨_, rfl, _, 2147483579, rfl, rfl, Int.pos_of_lt_lit (by decide), _, 32, rfl, rfl, ⟨by decide, by decide⟩, .inl ⟨_, rfl, .int m, rfl, _, m, rfl, rfl, hm0, q _⟩⟩⟩
def tTail (K : PySem.W.Frag) : TS := tSeq (tIfS (tAnd (tTest (tOp (rI0 fun i j => V.bl (decide (i < j))) (tVar 3) (tCB (fun xs H Q => ∃ p ys, xs = [V.ref p] ∧ (SqL K H p ys ∨ SqT K H p ys) ∧ Q (V.int ys.length) H) (tCons (tDGet (tVar 0) (tC (.str "cells"))) tNil))))
    (tTest (tOp (rI0 fun i j => V.bl (decide (j ≤ i))) (tVar 4) (tPow (tC (.int 10)) (tC (.int 18))))))
    (tSeq (sDPut (tVar 0) (tC (.str "left")) (tDvd (tSub (tVar 4) (tPow (tC (.int 10)) (tC (.int 18)))) (tVar 1))) (tRet (tMod (tI1 (tSub (tVar 4) (tPow (tC (.int 10)) (tC (.int 18))))) (tVar 1)))) tNext) tMix
theorem tail_ok {K : PySem.W.Frag} {D : Ends} {H : Hp} {p c : Addr} {ns : List Int} {y2 y5 : Option V} {a b l m cell : Int} (pen : PenAt H p c ns b l) (hl : 0 ≤ l) (hm0 : 0 < m) (hm2 : m ≤ 1000) (ha : 0 ≤ a) (ha2 : a ≤ 1000000)
    (q : ∀ H' (e : Int) l', SameBut p H H' → PenAt H' p c ns b l' → 0 ≤ l' → D.rt (.int (e % m)) H') : tTail K D [some (.ref p), some (.int m), y2, some (.int a), some (.int cell), y5] H := by
  have hSq : SqL K H c (ns.map V.int) := .inl (.inl pen.cells)
  refine ⟨.int a, rfl, .ref p, rfl, p, .ref c, rfl, pen.get kCells, c, _, rfl, .inl hSq, a, _, rfl, rfl, _, rfl, ?_⟩
  have mixed : tMix D [some (.ref p), some (.int m), y2, some (.int a), some (.int cell), y5] H := mix_ok hm0 ha ha2 fun e => q H e l (SameBut.refl _ _) pen hl
  cases decide (a < ((ns.map V.int).length : Nat)) with
  | false => exact iteF (iteF mixed)
  | true =>
    refine iteT ⟨.int cell, rfl, 10, 18, rfl, rfl, ⟨by decide, by decide, by decide⟩, cell, _, rfl, rfl, _, rfl, ite2 (fun big => ?_) (fun small => mixed)⟩
    have hbig : (0 : Int) ≤ cell - 10 ^ (18 : Int).toNat := by
      have z := of_decide_eq_true big
      exact Int.sub_nonneg_of_le z
    obtain ⟨pn3, dp3⟩ := pen.putL ((cell - 10 ^ (18 : Int).toNat) / m)
    refine ⟨.int cell, rfl, 10, 18, rfl, rfl, ⟨by decide, by decide, by decide⟩, cell, _, rfl, rfl, .int m, rfl, _, m, rfl, rfl, ⟨hm0, by omega⟩, .ref p, rfl, p, _, rfl, dp3, ?_⟩
    refine ⟨.int cell, rfl, 10, 18, rfl, rfl, ⟨by decide, by decide, by decide⟩, cell, _, rfl, rfl, .inl ⟨_, rfl, .int m, rfl, _, m, rfl, rfl, hm0, ?_⟩⟩
    exact q _ _ _ (but_upd _ _ _) pn3 (Int.ediv_nonneg hbig (by omega))
theorem ok_draw {f : Addr} {fd : FuncData} {k : Nat} (F : Fun K "_law_draw" "_law_draw" sDraw f fd) (B : BltD mg) : FnOk P w K mg base CX0 (k + 1) f fd ["_law_pen", "_law_many"] spDraw := by
  refine F.ok scDraw (fun vs H Q E h => ?_) (fun cdv A outer s H vs Q E hr h => ?_)
  · obtain ⟨p, c, ns, a, l, m, rfl, _⟩ := h
    rfl
  · obtain ⟨p, c, ns, a, l, m, rfl, pen, hns, ha, ha2, hl, hm1, hm2, q⟩ := h
    have hu : (cxOf CX0 P w K mg base drN "_law_draw" (defScope sDraw) f cdv A outer s H E).nox.A.units + 1 < cLine := by
      have := hr.un
      show (A.deeper _).units + 1 < cLine
      omega
    have hu64 : (cxOf CX0 P w K mg base drN "_law_draw" (defScope sDraw) f cdv A outer s H E).nox.A.units + 64 < cLine := by
      have := hr.un
      show (A.deeper _).units + 64 < cLine
      omega
    have hm0 : (0 : Int) < m := by omega
    refine ⟨_, pss_cons (ps_if (pt_cmpR op_ge (pe_dget hu (pv 0) pe_str (fun _ _ => rfl)) (pv 1) (nomark _))
          (pss_cons (ps_set (i := 2) scDraw.nd rfl (.inl rfl) (pe_op op_mod (pe_callTy call_int1 (by rfl) B.int boot_int (pa_cons (pe_dget hu (pv 0) pe_str (fun _ _ => rfl)) pa_nil)) (pv 1)))
          (pss_cons (ps_dput hu (pv 0) pe_str (pe_op op_fdiv (pe_dget hu (pv 0) pe_str (fun _ _ => rfl)) (pv 1)) rfl) (pss_one (ps_ret (pv 2))))) pss_nil)
      (pss_cons (ps_set (i := 3) scDraw.nd rfl (.inl rfl) (pe_dget hu (pv 0) pe_str (fun _ _ => rfl)))
      (pss_cons (ps_dput hu (pv 0) pe_str (pe_op op_add (pv 3) pe_int) rfl)
      (pss_cons (ps_set (i := 4) scDraw.nd rfl (.inl rfl) (pe_op op_add (pe_op op_mul pe_int (pv 3)) pe_int))
      (pss_cons (ps_if (pt_cmpR (op_neD hu64) (pe_dget hu (pv 0) pe_str (fun _ _ => rfl)) (pe_lst pa_nil) (nomark _))
          (pss_one (ps_set (i := 4) scDraw.nd rfl (.inl rfl) (pe_ix ix_list (pe_dget hu (pv 0) pe_str (fun _ _ => rfl)) (pe_op op_mod (pe_callTy call_int1 (by rfl) B.int boot_int (pa_cons (pv 3) pa_nil)) (pe_callB call_len_seq (by rfl) B.len PySem.boot_len (pa_cons (pe_dget hu (pv 0) pe_str (fun _ _ => rfl)) pa_nil))) (fun _ _ => rfl)))) pss_nil)
      (pss_cons (ps_if (PW.pt (pw_and (pt_cmpR op_lt (pv 3) (pe_callB call_len_seq (by rfl) B.len PySem.boot_len (pa_cons (pe_dget hu (pv 0) pe_str (fun _ _ => rfl)) pa_nil)) (nomark _)) (pw_and1 (pt_cmpR op_ge (pv 4) (pe_op op_pow pe_int pe_int) (nomark _)))))
          (pss_cons (ps_dput hu (pv 0) pe_str (pe_op op_fdiv (pe_op op_sub (pv 4) (pe_op op_pow pe_int pe_int)) (pv 1)) rfl)
          (pss_one (ps_ret (pe_op op_mod (pe_callTy call_int1 (by rfl) B.int boot_int (pa_cons (pe_op op_sub (pv 4) (pe_op op_pow pe_int pe_int)) pa_nil)) (pv 1))))) pss_nil)
      (pss_cons (ps_set (i := 5) scDraw.nd rfl (.inl rfl) (pe_op op_mod (pe_callTy call_int1 (by rfl) B.int boot_int (pa_cons (pe_op op_add (pe_op op_add (pe_op op_add (pe_op op_mul (pe_op op_mod (pe_callTy call_int1 (by rfl) B.int boot_int (pa_cons (pv 4) pa_nil)) pe_int) pe_int) (pe_op op_mul (pe_op op_mul pe_int (pv 3)) (pv 3))) (pe_op op_mul pe_int (pv 3))) pe_int) pa_nil)) pe_int))
      (pss_cons (ps_set (i := 5) scDraw.nd rfl (.inl rfl) (pe_op op_mod (pe_callTy call_int1 (by rfl) B.int boot_int (pa_cons (pe_op op_mul (pv 5) (pe_op op_add (pv 5) pe_int)) pa_nil)) pe_int))
      (pss_one (ps_ret (pe_op op_mod (pe_callTy call_int1 (by rfl) B.int boot_int (pa_cons (pe_op op_fdiv (pe_op op_mod (pe_callTy call_int1 (by rfl) B.int boot_int (pa_cons (pe_op op_mul (pv 5) (pv 5)) pa_nil)) pe_int) pe_int) pa_nil)) (pv 1))))))))))), ?_⟩
    have g0 := fun k => pen.get k
    -- if pen['left'] >= many
    refine ⟨.ref p, rfl, p, .int l, rfl, g0 kLeft, _, rfl, _, _, rfl, rfl, _, rfl, ite2 (fun ge => ?_) (fun lt => ?_)⟩
    · obtain ⟨pn, dp⟩ := pen.putL (l / m)
      refine ⟨.ref p, rfl, p, .int l, rfl, g0 kLeft, .inl ⟨l, rfl, .int m, rfl, l, m, rfl, rfl, hm0, ?_⟩⟩
      refine ⟨.ref p, rfl, p, .int l, rfl, g0 kLeft, .int m, rfl, l, m, rfl, rfl, ⟨hm0, by omega⟩, .ref p, rfl, p, _, rfl, dp, .int (l % m), rfl, ?_⟩
      exact q _ (l % m) a (l / m) (but_upd _ _ _) pn (Int.le_refl _) (by omega) (Int.ediv_nonneg hl (by omega)) (Int.emod_nonneg _ (by omega)) (Int.emod_lt_of_pos _ hm0)
    · obtain ⟨pn, dp⟩ := pen.putA (a + 1)
      have b1 := but_upd p H (.dK (penRows c (a + 1) l))
      -- at, pen['at'], cell
      refine ⟨.ref p, rfl, p, .int a, rfl, g0 kAtt, .int a, rfl, a, 1, rfl, rfl, .ref p, rfl, p, _, rfl, dp, ?_⟩
      refine ⟨.int a, rfl, 41, a, rfl, rfl, .inl ⟨by decide, by decide⟩, 41 * a, 23, rfl, rfl, ?_⟩
      generalize upd H p (.dK (penRows c (a + 1) l)) = H1 at pn b1 ⊢
      have g1 := fun k => pn.get k
      -- if pen['cells'] != []
      refine ⟨.ref p, rfl, p, .ref c, rfl, g1 kCells, Nat.zero_le _, fun o no => ?_⟩
      have so := same_upd (o := HO.lst []) no
      refine ⟨.list (ns.map PyData.int), .list [], .lst (.inl (.inl (so _ _ pn.cells))) (ints_dp ns), .lst (.inl (.inl upd_same)) .nil, ints_shaped ns, ints_shaped [], !ns.isEmpty, by rw [ints_eqv], ?_⟩
      generalize upd H1 o (.lst []) = H2 at so ⊢
      have s2 : Same H1 H2 := so
      have pn2 := pn.same s2
      have b2 : SameBut p H H2 := b1.trans (Same.but s2 p)
      have tail : ∀ (cell : Int), tTail K { nx := fun _ H' => Q .non H', rt := Q } [some (.ref p), some (.int m), none, some (.int a), some (.int cell), none] H2 := fun cell =>
        tail_ok pn2 hl hm0 (by omega) ha ha2 fun H3 e l' b3 pe hl' => q H3 (e % m) (a + 1) l' (b2.trans b3) pe (by omega) (Int.le_refl _) hl' (Int.emod_nonneg _ (by omega)) (Int.emod_lt_of_pos _ hm0)
      cases hne : ns.isEmpty with
      | true => exact iteF (tail _)
      | false =>
        have hpos : 0 < ns.length := by
          cases ns with
          | nil => cases hne
          | cons _ _ => exact Nat.succ_pos _
        have hlen : ((ns.map V.int).length : Int) = (ns.length : Int) := by rw [List.length_map]
        have e0 := Int.emod_nonneg a (show ((ns.map V.int).length : Int) ≠ 0 by omega)
        have e1 := Int.emod_lt_of_pos a (show (0 : Int) < ((ns.map V.int).length : Int) by omega)
        obtain ⟨j, hj⟩ := Int.eq_ofNat_of_zero_le e0
        have lj : j < ns.length := by omega
        have gj : atI (ns.map V.int) (a % ((ns.map V.int).length : Int)) = some (.int ns[j]) := by
          rw [hj]
          refine atN ?_
          rw [List.getElem?_map, List.getElem?_eq_getElem lj]
          rfl
        refine iteT ⟨.ref p, rfl, p, .ref c, rfl, pn2.get kCells, .int a, rfl, .inl ⟨a, rfl, .ref p, rfl, p, .ref c, rfl, pn2.get kCells, c, _, rfl, .inl (.inl (.inl pn2.cells)), a, _, rfl, rfl, by omega, c, _, _, _, rfl, rfl, .inl (.inl pn2.cells), gj, ?_⟩⟩
        exact tail _
end
end KF
end L2
end
/-! ### PQ -/
section
namespace L2
namespace KF
open PySem PySem.Spec PyProof.Rows PySem.KD KE KC PySem.KA
/-! ## _law_pick, of lists and texts -/
theorem CallR.orR {X : Cx} {f : Value} {r q : List V → Hp → VK → Prop} (h1 : CallR X f r) (h2 : CallR X f q) : CallR X f (fun xs H Q => r xs H Q ∨ q xs H Q) := fun pins s σ H xs us Q I rr h => h.elim (h1 pins s σ H xs us Q I rr) (h2 pins s σ H xs us Q I rr)
/-- the pen, ready -/
structure Pn (H : Hp) (p c : Addr) (ns : List Int) (a : Int) : Prop where
  at_ : ∃ l, PenAt H p c ns a l ∧ 0 ≤ l
  few : ns.length ≤ 63
  lo : 0 ≤ a
theorem Pn.same {H H' : Hp} {p c : Addr} {ns : List Int} {a : Int} (e : Pn H p c ns a) (s : Same H H') : Pn H' p c ns a := ⟨let ⟨l, h, z⟩ := e.at_; ⟨l, h.same s, z⟩, e.few, e.lo⟩
theorem Pn.ne {H : Hp} {p c b : Addr} {ns : List Int} {a : Int} {xs : List V} (e : Pn H p c ns a) (h : H b = some (.lst xs)) : b ≠ p := fun z => by
  obtain ⟨l, h1, _⟩ := e.at_
  have y := h1.row
  rw [← z, h] at y
  cases y
theorem Pn.some {H : Hp} {p c : Addr} {ns : List Int} {a : Int} (e : Pn H p c ns a) : H p ≠ none ∧ H c ≠ none := by
  obtain ⟨l, h1, _⟩ := e.at_
  rw [h1.row, h1.cells]
  simp
/-- the pen stays where nothing at p and c is touched -/
theorem Pn.off {H H' : Hp} {p c : Addr} {ns : List Int} {a : Int} (e : Pn H p c ns a) (h1 : H' p = H p) (h2 : H' c = H c) : Pn H' p c ns a := ⟨let ⟨l, h, z⟩ := e.at_; ⟨l, ⟨h1.trans h.row, h2.trans h.cells⟩, z⟩, e.few, e.lo⟩
section
variable {P : Program} {w : World} {K : PySem.W.Frag} {mg : Str → Option Value} {base : Heap}
def spPick (K : PySem.W.Frag) : Sp := fun vs H Q _ => ∃ (p c : Addr) (ns : List Int) (a : Int) (x : V), vs = [.ref p, x] ∧ Pn H p c ns a ∧ a ≤ 1000000 ∧
  ((∃ b xs, x = .ref b ∧ H b = some (.lst xs) ∧ 1 ≤ xs.length ∧ xs.length ≤ 100 ∧ ∀ H' y a', SameBut p H H' → Pn H' p c ns a' → a' ≤ a + 1 → y ∈ xs → Q y H') ∨
   (∃ z : Str, x = .str z ∧ 1 ≤ z.length ∧ z.length ≤ 100 ∧ ∀ H' ch a', SameBut p H H' → Pn H' p c ns a' → a' ≤ a + 1 → ch ∈ z.cps.toList → Q (.str ⟨#[ch]⟩) H'))
theorem ok_pick {f fD : Addr} {fd fdD : FuncData} (F : Fun K "_law_pick" "_law_pick" sPick f fd) (FD : Fun K "_law_draw" "_law_draw" sDraw fD fdD) (gD : mg "_law_draw" = some (.ref fD)) (bD : Binds K fdD ["_law_pen", "_law_many"] []) (B : BltD mg) :
    FnOk P w K mg base CX0 2 f fd ["_law_pen", "_law_items"] (spPick K) := by
  have GD : FnOk P w K mg base CX0 1 fD fdD ["_law_pen", "_law_many"] spDraw := ok_draw FD B
  refine F.ok scPick (fun vs H Q E h => ?_) (fun cdv A outer s H vs Q E hr h => ?_)
  · obtain ⟨p, c, ns, a, x, rfl, _⟩ := h
    rfl
  · obtain ⟨p, c, ns, a, x, rfl, pn, ha, h⟩ := h
    obtain ⟨l, pen, hl⟩ := pn.at_
    refine ⟨_, pss_one (ps_ret (pe_ix ix_seq (pv 1) (pe_call GD hr (by rfl) gD FD.kp bD .nil pass0 (pa_cons (pv 0) (pa_cons (pe_callB (CallR.orR call_len_seq call_len_str) (by rfl) B.len PySem.boot_len (pa_cons (pv 1) pa_nil)) pa_nil))) (fun _ _ => rfl))), ?_⟩
    rcases h with ⟨b, xs, rfl, hb, h1, h2, q⟩ | ⟨z, rfl, h1, h2, q⟩
    · refine ⟨.ref b, rfl, .ref p, rfl, .ref b, rfl, .inl ⟨b, xs, rfl, .inl (.inl (.inl hb)), p, c, ns, a, l, _, rfl, pen, pn.few, pn.lo, ha, hl, by omega, by omega, fun H' d a' l' sb pen' h3 h4 h5 h6 h7 => ?_⟩⟩
      obtain ⟨j, rfl⟩ := Int.eq_ofNat_of_zero_le h6
      have lj : j < xs.length := by omega
      exact .inl ⟨b, xs, _, xs[j], rfl, rfl, .inl (.inl (sb b _ (pn.ne hb) hb)), atN (List.getElem?_eq_getElem lj), q H' _ a' sb ⟨⟨l', pen', h5⟩, pn.few, Int.le_trans pn.lo h3⟩ h4 (List.getElem_mem lj)⟩
    · have big : z.length ≤ sizeLine := Nat.le_trans h2 (by decide)
      refine ⟨.str z, rfl, .ref p, rfl, .str z, rfl, .inr ⟨z, rfl, big, p, c, ns, a, l, _, rfl, pen, pn.few, pn.lo, ha, hl, by omega, by omega, fun H' d a' l' sb pen' h3 h4 h5 h6 h7 => ?_⟩⟩
      obtain ⟨j, rfl⟩ := Int.eq_ofNat_of_zero_le h6
      have lj : j < z.cps.toList.length := by
        have : z.cps.toList.length = z.length := by simp [Str.length]
        omega
      exact .inr (.inr ⟨z, _, z.cps.toList[j], rfl, rfl, big, atI_nat (List.getElem?_eq_getElem lj), q H' _ a' sb ⟨⟨l', pen', h5⟩, pn.few, Int.le_trans pn.lo h3⟩ h4 (List.getElem_mem lj)⟩)
end
end KF
end L2
end
/-! ### PR -/
section
namespace L2
namespace KF
open PySem PySem.Spec PyProof.Rows PySem.KD KE KC PySem.KA
/-! ## _law_shuffled, of texts (k02's place) -/
abbrev sShuf : Stmt := topS 29
abbrev shN : List Str := ["_law_pen", "_law_items", "_law_left", "_law_found"]
theorem scShuf : FnScope shN ["_law_pen", "_law_items"] (defScope sShuf) := ⟨rfl, rfl, rfl, by decide +kernel, rfl, by decide +kernel, by decide +kernel⟩
theorem strs_dp {K : PySem.W.Frag} {H : Hp} : ∀ xs : List Str, DpAll K H (xs.map V.str) (xs.map PyData.str)
  | [] => .nil
  | x :: xs => .cons (.str x) (strs_dp xs)
theorem strs_lay : ∀ {xs : List Str}, (∀ x ∈ xs, PyData.strOk x = true) → PyData.canLayAll0 (xs.map PyData.str) = true
  | [], _ => by simp only [List.map_nil, PyData.canLayAll0]
  | x :: xs, h => by simp only [List.map_cons, PyData.canLayAll0, PyData.canLay0, strs_lay (fun y hy => h y (List.mem_cons_of_mem _ hy)), h x List.mem_cons_self, Bool.and_self]
theorem strs_depth : ∀ xs : List Str, PyData.depthAll (xs.map PyData.str) ≤ 1
  | [] => by simp only [List.map_nil, PyData.depthAll]; decide
  | x :: xs => by
    have := strs_depth xs
    simp only [List.map_cons, PyData.depthAll, PyData.depth]
    omega
theorem strs_shaped {xs : List Str} (h : ∀ x ∈ xs, PyData.strOk x = true) : SeqAt.shaped (.list (xs.map PyData.str)) = true := by
  unfold SeqAt.shaped
  have := strs_depth xs
  rw [Bool.and_eq_true]
  exact ⟨by simp only [PyData.canLay0, strs_lay h], decide_eq_true (by simp only [PyData.depth]; omega)⟩
theorem strs_eqv (xs : List Str) : PyData.eqv (.list (xs.map PyData.str)) (.list []) = xs.isEmpty := by
  cases xs with
  | nil => simp [PyData.eqv, PyData.eqvAll]
  | cons n ns => simp [PyData.eqv, PyData.eqvAll]
theorem map_erase {α β : Type} (g : α → β) : ∀ (l : List α) (j : Nat), (l.map g).eraseIdx j = (l.eraseIdx j).map g
  | [], _ => rfl
  | _ :: _, 0 => rfl
  | x :: l, j + 1 => by
    show g x :: (l.map g).eraseIdx j = g x :: (l.eraseIdx j).map g
    rw [map_erase g l j]
theorem erase_perm {α : Type} : ∀ (l : List α) (j : Nat) (h : j < l.length), (l[j] :: l.eraseIdx j).Perm l
  | x :: l, 0, _ => List.Perm.refl _
  | x :: l, j + 1, h => by
    show (l[j]'(Nat.lt_of_succ_lt_succ h) :: x :: l.eraseIdx j).Perm (x :: l)
    exact (List.Perm.swap _ _ _).trans ((erase_perm l j (Nat.lt_of_succ_lt_succ h)).cons x)
structure ShufSt (H0 : Hp) (p c : Addr) (ns : List Int) (a : Int) (xs0 : List Str) (L Fd : Addr) (xs ys : List Str) (H : Hp) : Prop where
  sb : SameBut p H0 H
  pen : ∃ a' l', PenAt H p c ns a' l' ∧ a ≤ a' ∧ a' ≤ a + ys.length ∧ 0 ≤ l'
  left : H L = some (.lst (xs.map V.str))
  found : H Fd = some (.lst (ys.map V.str))
  perm : (ys ++ xs).Perm xs0
section
variable {P : Program} {w : World} {K : PySem.W.Frag} {mg : Str → Option Value} {base : Heap}
def spShuf (K : PySem.W.Frag) : Sp := fun vs H Q _ => ∃ (p c b : Addr) (ns : List Int) (a l : Int) (xs : List Str), vs = [.ref p, .ref b] ∧ PenAt H p c ns a l ∧ ns.length ≤ 63 ∧ 0 ≤ a ∧ a + 100 ≤ 1000000 ∧ 0 ≤ l ∧ SqL K H b (xs.map V.str) ∧ xs.length ≤ 60 ∧ (∀ x ∈ xs, PyData.strOk x = true) ∧
  ∀ H' q ys a' l', SameBut p H H' → H q = none → PenAt H' p c ns a' l' → a ≤ a' → a' ≤ a + xs.length → 0 ≤ l' → H' q = some (.lst (List.map V.str ys)) → ys.Perm xs → Q (.ref q) H'
theorem ok_shuf {f fD : Addr} {fd fdD : FuncData} (F : Fun K "_law_shuffled" "_law_shuffled" sShuf f fd) (FD : Fun K "_law_draw" "_law_draw" sDraw fD fdD) (gD : mg "_law_draw" = some (.ref fD)) (bD : Binds K fdD ["_law_pen", "_law_many"] []) (B : BltD mg) :
    FnOk P w K mg base CX0 2 f fd ["_law_pen", "_law_items"] (spShuf K) := by
  have GD : FnOk P w K mg base CX0 1 fD fdD ["_law_pen", "_law_many"] spDraw := ok_draw FD B
  refine F.ok scShuf (fun vs H Q E h => ?_) (fun cdv A outer s H vs Q E hr h => ?_)
  · obtain ⟨p, c, b, ns, a, l, xs, rfl, _⟩ := h
    rfl
  · obtain ⟨p, c, b, ns, a, l, xs0, rfl, pen, hns, ha, ha2, hl, hb, h60, hok, q⟩ := h
    have hc : (cxOf CX0 P w K mg base shN "_law_shuffled" (defScope sShuf) f cdv A outer s H E).nox.calm = true := rfl
    have hu64 : (cxOf CX0 P w K mg base shN "_law_shuffled" (defScope sShuf) f cdv A outer s H E).nox.A.units + 64 < cLine := by
      have := hr.un
      show (A.deeper _).units + 64 < cLine
      omega
    refine ⟨_, pss_cons (ps_par (i := 2) (j := 3) hc scShuf.nd rfl rfl (by decide) rfl rfl (pa_cons (pe_callTy call_list_of (by rfl) B.list boot_list (pa_cons (pv 1) pa_nil)) (pa_cons (pe_lst pa_nil) pa_nil)) (by rfl))
      (pss_cons (ps_while PassesOwn.never (pt_cmpR (op_neD hu64) (pv 2) (pe_lst pa_nil) (nomark _))
        (pss_one (ps_expr (pe_bm PySem.F.plainAttrs_list PySem.F.slot_list_append PySem.F.type_list_append mt_append (pv 3) (pa_cons
          (pe_bm PySem.F.plainAttrs_list PySem.F.slot_list_pop PySem.F.type_list_pop mt_popAt (pv 2) (pa_cons (pe_call GD hr (by rfl) gD FD.kp bD .nil pass0 (pa_cons (pv 0) (pa_cons (pe_callB call_len_seq (by rfl) B.len PySem.boot_len (pa_cons (pv 2) pa_nil)) pa_nil))) pa_nil)) pa_nil)))))
      (pss_one (ps_ret (pv 3)))), ?_⟩
    refine ⟨.ref b, rfl, b, _, rfl, .inl hb, fun L nL => ⟨Nat.zero_le _, fun Fd nF => ⟨_, _, rfl, ?_⟩⟩⟩
    have s1 := same_upd (o := HO.lst (xs0.map V.str)) nL
    have s2 := same_upd (o := HO.lst []) nF
    have nFL : Fd ≠ L := fun z => by
      rw [z, upd_same] at nF
      cases nF
    refine while_by (fun σ H2 => ∃ xs ys, σ = [some (.ref p), some (.ref b), some (.ref L), some (.ref Fd)] ∧ ShufSt H p c ns a xs0 L Fd xs ys H2)
      (fun σ H2 => match H2 L with
        | some (.lst zs) => zs.length
        | _ => 0) ⟨xs0, [], rfl, Same.but (s1.trans s2) p, ⟨a, l, (pen.same s1).same s2, Int.le_refl _, by simp, hl⟩, s2 _ _ upd_same, upd_same, by simp⟩ (fun σ H2 hP => ?_) (fun σ H2 Q1 Q2 mono hq => ?_)
    · obtain ⟨xs, ys, rfl, S⟩ := hP
      obtain ⟨a', l', pn, g1, g2, g3⟩ := S.pen
      have len := S.perm.length_eq
      rw [List.length_append] at len
      have ok : ∀ x ∈ xs, PyData.strOk x = true := fun x hx => hok x (S.perm.mem_iff.mp (List.mem_append_right _ hx))
      refine ⟨.ref L, rfl, Nat.zero_le _, fun o no => ?_⟩
      have so := same_upd (o := HO.lst []) no
      refine ⟨.list (xs.map PyData.str), .list [], .lst (.inl (.inl (so _ _ S.left))) (strs_dp xs), .lst (.inl (.inl upd_same)) .nil, strs_shaped ok, ints_shaped [], !xs.isEmpty, by rw [strs_eqv], ?_⟩
      cases hne : xs.isEmpty with
      | true =>
        have e0 : xs = [] := List.isEmpty_iff.mp hne
        subst e0
        refine iteF ⟨.ref Fd, rfl, ?_⟩
        refine q _ Fd ys a' l' (S.sb.trans (Same.but so p)) (s1.free nF) (pn.same so) g1 (by omega) g3 (so _ _ S.found) ?_
        have z := S.perm
        rw [List.append_nil] at z
        exact z
      | false =>
        have hpos : 0 < xs.length := by
          cases xs with
          | nil => cases hne
          | cons _ _ => exact Nat.succ_pos _
        refine iteT ?_
        have nLp : L ≠ p := fun z => by
          have y := pn.row
          rw [← z, S.left] at y
          cases y
        have nFp : Fd ≠ p := fun z => by
          have y := pn.row
          rw [← z, S.found] at y
          cases y
        refine ⟨.ref Fd, rfl, .inl ⟨rfl, _, .inl (.inl (so _ _ S.found))⟩, .ref L, rfl, .inl ⟨rfl, _, .inl (.inl (so _ _ S.left))⟩, .ref p, rfl, .ref L, rfl, L, _, rfl, .inl (.inl (.inl (so _ _ S.left))), p, c, ns, a', l', _, rfl, pn.same so, hns, by omega, by omega, g3, by rw [List.length_map]; omega, by rw [List.length_map]; omega, fun H3 d a3 l3 sb3 pn3 i1 i2 i3 d0 d1 => ?_⟩
        obtain ⟨j, rfl⟩ := Int.eq_ofNat_of_zero_le d0
        have lj : j < xs.length := by
          rw [List.length_map] at d1
          omega
        have sb4 : SameBut p H2 H3 := (Same.but so p).trans sb3
        have eL : H3 L = some (.lst (xs.map V.str)) := sb4 L _ nLp S.left
        have eF : H3 Fd = some (.lst (ys.map V.str)) := sb4 Fd _ nFp S.found
        have gj : (xs.map V.str)[j]? = some (.str xs[j]) := by
          rw [List.getElem?_map, List.getElem?_eq_getElem lj]
          rfl
        have sj : seqIndex? ((j : Nat) : Int) (xs.map V.str).length = some j := by
          refine (ixN_seq ?_).1
          unfold ixN
          rw [if_pos (by omega), if_pos (by rw [List.length_map]; omega)]
          rfl
        refine ⟨L, _, _, j, _, rfl, rfl, eL, by omega, by omega, sj, gj, ?_⟩
        have eF2 : (upd H3 L (.lst ((xs.map V.str).eraseIdx j))) Fd = some (.lst (ys.map V.str)) := by
          rw [upd_ne nFL]
          exact eF
        refine ⟨Fd, _, _, rfl, rfl, eF2, small1000 (by rw [List.length_map]; omega), ⟨xs.eraseIdx j, ys ++ [xs[j]], rfl, fun b o nb z => ?_, ⟨a3, l3, ⟨?_, ?_⟩, by omega, by rw [List.length_append, List.length_singleton]; omega, i3⟩, ?_, ?_, ?_⟩, ?_⟩
        · have n1 : b ≠ L := ne_of_none z nL
          have n2 : b ≠ Fd := ne_of_none (s1 _ _ z) nF
          rw [upd_ne n2, upd_ne n1]
          exact sb4 b o nb (S.sb b o nb z)
        · rw [upd_ne (Ne.symm nFp), upd_ne (Ne.symm nLp)]
          exact pn3.row
        · have ncL : c ≠ L := ne_of_none pen.cells nL
          have ncF : c ≠ Fd := ne_of_none (s1 _ _ pen.cells) nF
          rw [upd_ne ncF, upd_ne ncL]
          exact pn3.cells
        · rw [upd_ne nFL.symm, upd_same, map_erase]
        · rw [upd_same, List.map_append]
          rfl
        · have z : (xs[j] :: xs.eraseIdx j).Perm xs := erase_perm xs j lj
          have z2 : ((ys ++ [xs[j]]) ++ xs.eraseIdx j).Perm (ys ++ xs) := by
            rw [List.append_assoc]
            exact z.append_left ys
          exact z2.trans S.perm
        · show (match (upd (upd H3 L (.lst ((xs.map V.str).eraseIdx j))) Fd (.lst (ys.map V.str ++ [V.str xs[j]]))) L with
            | some (.lst zs) => zs.length
            | _ => 0) < (match H2 L with
            | some (.lst zs) => zs.length
            | _ => 0)
          rw [upd_ne nFL.symm, upd_same, S.left]
          show ((xs.map V.str).eraseIdx j).length < (xs.map V.str).length
          rw [List.length_eraseIdx_of_lt (by rw [List.length_map]; exact lj), List.length_map]
          omega
    · obtain ⟨e1, h1, h2, h3⟩ := hq
      refine ⟨e1, h1, h2, fun o no => ?_⟩
      obtain ⟨d1, d2, h4, h5, h6, h7, b, h8, h9⟩ := h3 o no
      exact ⟨d1, d2, h4, h5, h6, h7, b, h8, mono _ _ h9⟩
end
end KF
end L2
end
/-! ### PM -/
section
namespace L2
namespace KM
open PySem PySem.Spec PyProof.Rows
/-! ## drawn words: their letters -/
def low : List Nat := (List.range 26).map (97 + ·)
theorem low_str : (Str.ofString "abcdefghijklmnopqrstuvwxyz").cps.toList = low := by decide +kernel
theorem low_len : low.length = 26 := by decide
theorem low_nd : low.Nodup := by decide
/-- replace of two signs by two signs, with letters alone -/
theorem repl_ok (p q r : Nat) (hr : q ∈ low ∧ r ∈ low) (hp : p ∈ low) : ∀ (n : Nat) (l : List Nat), l.length ≤ n → (∀ c ∈ l, c ∈ low) → (StrLaws.replL [p, p] [q, r] l).length = l.length ∧ ∀ c ∈ StrLaws.replL [p, p] [q, r] l, c ∈ low := by
  intro n
  induction n with
  | zero =>
    intro l hl h
    have e : l = [] := List.length_eq_zero_iff.mp (Nat.le_zero.mp hl)
    rw [e, StrLaws.replL_nil]
    exact ⟨rfl, fun c hc => by cases hc⟩
  | succ n ih =>
    intro l hl h
    cases l with
    | nil =>
      rw [StrLaws.replL_nil]
      exact ⟨rfl, fun c hc => by cases hc⟩
    | cons c l =>
      by_cases e : (c :: l).take [p, p].length = [p, p]
      · rw [StrLaws.replL_hit (by simp) e]
        have l2 : ((c :: l).drop [p, p].length).length + 2 = (c :: l).length := by
          have z := congrArg List.length e
          rw [List.length_take] at z
          rw [List.length_drop]
          simp only [List.length_cons, List.length_nil] at z ⊢
          omega
        have d := ih ((c :: l).drop [p, p].length) (by simp only [List.length_cons] at hl l2 ⊢; omega) fun x hx => h x (List.mem_of_mem_drop hx)
        refine ⟨?_, fun x hx => ?_⟩
        · rw [List.length_append, d.1]
          simp only [List.length_cons, List.length_nil] at l2 ⊢
          omega
        · rcases List.mem_append.mp hx with hx | hx
          · rcases List.mem_cons.mp hx with rfl | hx
            · exact hr.1
            · rw [List.mem_singleton.mp hx]
              exact hr.2
          · exact d.2 x hx
      · rw [StrLaws.replL_miss e]
        have d := ih l (by simp only [List.length_cons] at hl; omega) fun x hx => h x (List.mem_cons_of_mem _ hx)
        refine ⟨by rw [List.length_cons, List.length_cons, d.1], fun x hx => ?_⟩
        rcases List.mem_cons.mp hx with rfl | hx
        · exact h x List.mem_cons_self
        · exact d.2 x hx
/-- the letter of the k-th word -/
def let_ (f m : Int) (k : Nat) : Nat := low.getD ((f + m * (k : Nat)) % 26).toNat 0
theorem let_mem {f m : Int} {k : Nat} : let_ f m k ∈ low := by
  have h1 := Int.emod_nonneg (f + m * (k : Nat)) (show (26 : Int) ≠ 0 by decide)
  have h2 := Int.emod_lt_of_pos (f + m * (k : Nat)) (show (0 : Int) < 26 by decide)
  unfold let_
  have h3 : ((f + m * (k : Nat)) % 26).toNat < low.length := by
    rw [low_len]
    omega
  rw [List.getD_eq_getElem?_getD, List.getElem?_eq_getElem h3]
  exact List.getElem_mem h3
theorem let_inj {f m : Int} (hm : m ∈ ([1, 3, 5, 7, 9, 11] : List Int)) {j k : Nat} (hj : j < 26) (hk : k < 26) (e : let_ f m j = let_ f m k) : j = k := by
  have a1 := Int.emod_nonneg (f + m * (j : Nat)) (show (26 : Int) ≠ 0 by decide)
  have a2 := Int.emod_lt_of_pos (f + m * (j : Nat)) (show (0 : Int) < 26 by decide)
  have b1 := Int.emod_nonneg (f + m * (k : Nat)) (show (26 : Int) ≠ 0 by decide)
  have b2 := Int.emod_lt_of_pos (f + m * (k : Nat)) (show (0 : Int) < 26 by decide)
  unfold let_ at e
  have l1 : ((f + m * (j : Nat)) % 26).toNat < low.length := by
    rw [low_len]
    omega
  have l2 : ((f + m * (k : Nat)) % 26).toNat < low.length := by
    rw [low_len]
    omega
  rw [List.getD_eq_getElem?_getD, List.getD_eq_getElem?_getD, List.getElem?_eq_getElem l1, List.getElem?_eq_getElem l2] at e
  have e2 := (List.getElem_inj (h₀ := l1) (h₁ := l2) low_nd).mp e
  have e3 : (f + m * (j : Nat)) % 26 = (f + m * (k : Nat)) % 26 := by omega
  simp only [List.mem_cons, List.not_mem_nil, or_false] at hm
  rcases hm with rfl | rfl | rfl | rfl | rfl | rfl <;> omega
/-- a word by the signs of its stem -/
def wordL (s : List Nat) (t : Nat) (c : Nat) : List Nat := s.take t ++ c :: s.drop t
theorem wordL_inj {s : List Nat} {t c d : Nat} (e : wordL s t c = wordL s t d) : c = d := by
  have z := List.append_cancel_left e
  exact (List.cons.inj z).1
theorem wordL_len (s : List Nat) (t c : Nat) : (wordL s t c).length = s.length + 1 := by
  unfold wordL
  rw [List.length_append, List.length_cons, List.length_take, List.length_drop]
  omega
theorem wordL_mem {s : List Nat} {t c : Nat} (h : ∀ x ∈ s, x ∈ low) (hc : c ∈ low) : ∀ x ∈ wordL s t c, x ∈ low := fun x hx => by
  rcases List.mem_append.mp hx with hx | hx
  · exact h x (List.mem_of_mem_take hx)
  rcases List.mem_cons.mp hx with rfl | hx
  · exact hc
  · exact h x (List.mem_of_mem_drop hx)
theorem let_at {f m : Int} {k : Nat} : atI low ((f + m * (k : Nat)) % 26) = some (let_ f m k) := by
  have h1 := Int.emod_nonneg (f + m * (k : Nat)) (show (26 : Int) ≠ 0 by decide)
  have h2 := Int.emod_lt_of_pos (f + m * (k : Nat)) (show (0 : Int) < 26 by decide)
  obtain ⟨j, hj⟩ := Int.eq_ofNat_of_zero_le h1
  have hj26 : j < low.length := by
    rw [low_len]
    omega
  rw [hj]
  refine atI_nat ?_
  unfold let_
  rw [hj, List.getD_eq_getElem?_getD, Int.toNat_natCast, List.getElem?_eq_getElem hj26]
  rfl
/-- 1 to 8 letters -/
def isWordL (l : List Nat) : Bool := decide (1 ≤ l.length) && decide (l.length ≤ 8) && l.all fun c => decide (c ∈ low)
/-- what is replaced does not stand at the beginning -/
theorem repl_head (l : List Nat) : (StrLaws.replL [113, 113] [113, 122] l).take 2 ≠ [113, 113] := by
  cases l with
  | nil =>
    rw [StrLaws.replL_nil]
    decide
  | cons c l =>
    by_cases e : (c :: l).take [113, 113].length = [113, 113]
    · rw [StrLaws.replL_hit (by simp) e]
      intro z
      have z : (113 : Nat) :: 122 :: [] = [113, 113] := z
      cases z
    · rw [StrLaws.replL_miss e]
      intro z
      cases l with
      | nil =>
        rw [StrLaws.replL_nil] at z
        cases z
      | cons d l =>
        have nd : c = 113 → d ≠ 113 := fun h1 h2 => e (by rw [h1, h2]; rfl)
        have e2 : (d :: l).take [113, 113].length ≠ [113, 113] ∨ c ≠ 113 := by
          by_cases h : c = 113
          · refine .inl fun y => nd h ?_
            have y : d :: l.take 1 = [113, 113] := y
            exact (List.cons.inj y).1
          · exact .inr h
        rcases e2 with e2 | e2
        · rw [StrLaws.replL_miss e2] at z
          have z : c :: d :: [] = [113, 113] := z
          have h1 := (List.cons.inj z).1
          have h2 := (List.cons.inj (List.cons.inj z).2).1
          exact nd h1 h2
        · have z : c :: (StrLaws.replL [113, 113] [113, 122] (d :: l)).take 1 = [113, 113] := z
          exact e2 (List.cons.inj z).1
/-- of things that differ at most one has what one alone has -/
theorem filter_one {α : Type} {p : α → Bool} : ∀ {l : List α}, l.Nodup → (∀ x ∈ l, ∀ y ∈ l, p x = true → p y = true → x = y) → (l.filter p).length ≤ 1
  | [], _, _ => Nat.zero_le _
  | x :: l, nd, h => by
    obtain ⟨n1, n2⟩ := List.nodup_cons.mp nd
    have ih := filter_one (p := p) n2 fun a ha b hb => h a (List.mem_cons_of_mem _ ha) b (List.mem_cons_of_mem _ hb)
    by_cases c : p x = true
    · have z : l.filter p = [] := List.filter_eq_nil_iff.mpr fun y hy q => n1 (h x List.mem_cons_self y (List.mem_cons_of_mem _ hy) c q ▸ hy)
      rw [List.filter_cons_of_pos c, z]
      exact Nat.le_refl _
    · rw [List.filter_cons_of_neg c]
      exact ih
theorem keep_count {α : Type} {k p1 p2 : α → Bool} (h : ∀ x, k x = false → p1 x = true ∨ p2 x = true) : ∀ l : List α, l.length ≤ (l.filter k).length + (l.filter p1).length + (l.filter p2).length
  | [] => Nat.zero_le _
  | x :: l => by
    have ih := keep_count h l
    have m1 : (l.filter k).length ≤ ((x :: l).filter k).length := by
      rw [List.filter_cons]
      split <;> simp
    have m2 : (l.filter p1).length ≤ ((x :: l).filter p1).length := by
      rw [List.filter_cons]
      split <;> simp
    have m3 : (l.filter p2).length ≤ ((x :: l).filter p2).length := by
      rw [List.filter_cons]
      split <;> simp
    rw [List.length_cons]
    cases e : k x with
    | true =>
      rw [List.filter_cons_of_pos e, List.length_cons]
      omega
    | false =>
      rcases h x e with c | c
      · rw [List.filter_cons_of_pos c, List.length_cons]
        omega
      · rw [List.filter_cons_of_pos (p := p2) c, List.length_cons]
        omega
/-- where a letter within the first two places is told -/
theorem wordL_two {s : List Nat} {t c d : Nat} (hs : s.take 2 ≠ [113, 113]) (h1 : (wordL s t c).take 2 = [113, 113]) (h2 : (wordL s t d).take 2 = [113, 113]) : c = d := by
  by_cases ht : 2 ≤ t ∧ 2 ≤ s.length
  · refine absurd ?_ hs
    unfold wordL at h1
    rw [List.take_append_of_le_length (by rw [List.length_take]; omega), List.take_take, Nat.min_eq_left ht.1] at h1
    exact h1
  · have key : ∀ e, (wordL s t e).take 2 = [113, 113] → e = 113 := fun e h => by
      unfold wordL at h
      have l1 : (s.take t).length ≤ 1 := by
        rw [List.length_take]
        omega
      generalize s.take t = u at h l1
      match u, l1 with
      | [], _ =>
        have h : e :: (s.drop t).take 1 = [113, 113] := h
        exact (List.cons.inj h).1
      | [x], _ =>
        have h : x :: e :: [] = [113, 113] := h
        exact (List.cons.inj (List.cons.inj h).2).1
    rw [key c h1, key d h2]
end KM
end L2
end
/-! ### PW -/
section
namespace L2
namespace KF
open PySem PySem.Spec PyProof.Rows PySem.KD KE KC PySem.KA KM TL
/-! ## _law_word_list -/
abbrev sWL : Stmt := topS 30
abbrev wlN : List Str := ["_law_pen", "_law_many", "_law_letters", "_law_stem", "_law_at", "_law_first", "_law_more", "_law_tails", "_law_words", "_law_k", "_law_tail", "_law_word"]
theorem scWL : FnScope wlN ["_law_pen", "_law_many"] (defScope sWL) := ⟨rfl, rfl, rfl, by decide +kernel, rfl, by decide +kernel, by decide +kernel⟩
/-- a name is stored, a token out -/
theorem pst_set {X : Cx} {i : Nat} {x : Str} {e : Expr} {te : TE} {pos pos' : Pos} (hN : X.N.Nodup) (hi : X.N[i]? = some x) (hx : Loc X.env.scope x) (he : PET X e te) (hs : swapsWith e (some (.Name x pos')) pos.line X.env = pure false := by rfl)
    (hf : X.fn x = true ∨ X.env.scope.names.lookup x = some .local := by first | exact .inl rfl | exact .inr rfl | assumption) : PST X (.Assign [.Name x pos'] e pos) (tAsg te (gName i)) := fun pins s σ H D h0 I h =>
  wpAny_Assign_Name (thn (he pins s σ H _ h0 I h) fun v s1 ⟨y, H1, I1, r1, q1⟩ => store_ok I1 hN hi hx r1 (fun s2 I2 => ⟨_, H1, I2, q1⟩) hf) hs
theorem join_signs : ∀ cs : List Nat, tl (Txt.join (Str.ofString "") (cs.map fun c => (⟨#[c]⟩ : Str))) = cs := fun cs => by
  rw [join_eq, tl_join]
  have e : tl (Str.ofString "") = [] := by decide +kernel
  rw [e, List.map_map]
  induction cs with
  | nil => rfl
  | cons c cs ih =>
    cases cs with
    | nil => rfl
    | cons d cs =>
      show [c] ++ ([] ++ joinL [] _) = _
      rw [List.nil_append]
      exact congrArg (c :: ·) ih
/-- words as they are drawn -/
structure WordsOk (ws : List Str) : Prop where
  nd : ws.Nodup
  ok : ∀ x ∈ ws, isWordL (tl x) = true ∧ (tl x).take 2 ≠ [113, 113]
section
variable {P : Program} {w : World} {K : PySem.W.Frag} {mg : Str → Option Value} {base : Heap}
structure BltW (mg : Str → Option Value) : Prop where
  int : mg "int" = none
  len : mg "len" = none
  range : mg "range" = none
theorem cutS_len (z : Str) (lo hi : Option Int) : (cutS z lo hi).length ≤ z.length := by
  unfold cutS
  show (List.toArray _).size ≤ _
  rw [List.size_toArray, List.length_take, List.length_drop]
  have : z.cps.toList.length = z.length := by simp [Str.length]
  omega
theorem cut_word (st : Str) {t c : Nat} (ht : t ≤ st.length) : tl (cutS st none (some ((t : Nat) : Int)) ++ ((⟨#[c]⟩ : Str) ++ cutS st (some ((t : Nat) : Int)) none)) = wordL (tl st) t c := by
  have l : st.cps.toList.length = st.length := by simp [Str.length]
  rw [tl_append, tl_append]
  unfold cutS wordL
  simp only [HT.sIx_none, HT.sIx_nat, Nat.min_eq_left ht]
  show List.take (t - 0) (List.drop 0 st.cps.toList) ++ ([c] ++ List.take (st.length - t) (List.drop t st.cps.toList)) = _
  rw [List.drop_zero, Nat.sub_zero, List.take_of_length_le (l := List.drop t st.cps.toList) (by rw [List.length_drop]; omega)]
  rfl
theorem cut_two {x : Str} (h : (tl x).take 2 = [113, 113]) : cutS x none (some 2) = Str.ofString "qq" := by
  have l : 2 ≤ x.length := by
    have z := congrArg List.length h
    rw [List.length_take] at z
    have e : (tl x).length = x.length := by simp [Str.length]
    simp only [List.length_cons, List.length_nil] at z
    omega
  unfold cutS
  rw [show (some (2 : Int)) = some ((2 : Nat) : Int) from rfl]
  simp only [HT.sIx_none, HT.sIx_nat, Nat.min_eq_left l, List.drop_zero, Nat.sub_zero]
  have h2 : List.take 2 x.cps.toList = [113, 113] := h
  rw [h2]
  decide +kernel
theorem take_min {α : Type} (n k : Nat) (l : List α) (e : k = l.length) : l.take (min n k) = l.take n := by
  subst e
  by_cases h : n ≤ l.length
  · rw [Nat.min_eq_left h]
  · rw [Nat.min_eq_right (by omega), List.take_length, List.take_of_length_le (by omega)]
/-- which words stay -/
def keepW (x : Str) : Bool := !decide (x = Str.ofString "main") && !decide (cutS x none (some 2) = Str.ofString "qq")
/-- the signs drawn so far -/
structure StemSt (H : Hp) (p c : Addr) (ns : List Int) (a : Int) (D : Addr) (i : Nat) (Hi : Hp) : Prop where
  sb : SameBut p H Hi
  ex : ∃ (cs : List Nat) (a' : Int), Pn Hi p c ns a' ∧ a' ≤ a + i ∧ Hi D = some (.lst (cs.map fun ch => V.str ⟨#[ch]⟩)) ∧ cs.length = i ∧ ∀ ch ∈ cs, ch ∈ low
def spWL : Sp := fun vs H Q _ => ∃ (p c : Addr) (ns : List Int) (a : Int) (m : Nat), vs = [.ref p, .int m] ∧ Pn H p c ns a ∧ a ≤ 900000 ∧ m ≤ 26 ∧
  ∀ H' q ws a', SameBut p H H' → Pn H' p c ns a' → a' ≤ a + 11 → H q = none → H' q = some (.lst (ws.map V.str)) → WordsOk ws → (ws.length ≤ m ∧ (m ≤ 24 → ws.length = m)) → Q (.ref q) H'
theorem ok_wl {f fD fP : Addr} {fd fdD fdP : FuncData} (F : Fun K "_law_word_list" "_law_word_list" sWL f fd) (FD : Fun K "_law_draw" "_law_draw" sDraw fD fdD) (gD : mg "_law_draw" = some (.ref fD)) (bD : Binds K fdD ["_law_pen", "_law_many"] [])
    (FP : Fun K "_law_pick" "_law_pick" sPick fP fdP) (gP : mg "_law_pick" = some (.ref fP)) (bP : Binds K fdP ["_law_pen", "_law_items"] []) (B : BltD mg) (W : BltW mg) : FnOk P w K mg base CX0 3 f fd ["_law_pen", "_law_many"] spWL := by
  have GD : FnOk P w K mg base CX0 1 fD fdD ["_law_pen", "_law_many"] spDraw := ok_draw FD B
  have GP : FnOk P w K mg base CX0 2 fP fdP ["_law_pen", "_law_items"] (spPick K) := ok_pick FP FD gD bD B
  refine F.ok scWL (fun vs H Q E h => ?_) (fun cdv A outer s H vs Q E hr h => ?_)
  · obtain ⟨p, c, ns, a, m, rfl, _⟩ := h
    rfl
  · obtain ⟨p, c, ns, a, m, rfl, pn, ha, hm, q⟩ := h
    have r1 := hr.mono (show 1 ≤ 2 by decide)
    refine ⟨_, pss_str (i := 2) scWL.nd rfl (.inr rfl) (psst_cons (PST.of (ps_set (i := 3) scWL.nd rfl (.inr rfl) (pe_join pe_str
        (pe_lc (own := [("_law_k", 9)]) (g := gName 9) (tt := tYes) rfl scWL.nd (pi_range1 (by rfl) W.range (pa_cons (pe_call GD r1 (by rfl) gD FD.kp bD .nil pass0 (pa_cons (pv 0) (pa_cons pe_int pa_nil))) pa_nil))
          (blkOk_by (N := wlN) (sc := defScope sWL) (by decide +kernel)) (fun _ _ _ _ _ => pg_name (i := 9) scWL.nd rfl (Or.inl rfl)) (fun _ _ _ _ _ => pts_nil) (fun _ _ _ _ _ => pe_call GP hr (by rfl) gP FP.kp bP .nil pass0 (pa_cons (pv 0) (pa_cons (pv 2) pa_nil)))))))
      (psst_cons (pst_set (i := 3) scWL.nd rfl (.inr rfl) (CwR.pet_replC (pv 3)))
      (PSsT.of (pss_cons (ps_asg (pe_tup (pa_cons (pe_call GD r1 (by rfl) gD FD.kp bD .nil pass0 (pa_cons (pv 0) (pa_cons (pe_op op_add (pe_callB call_len_str (by rfl) W.len PySem.boot_len (pa_cons (pv 3) pa_nil)) pe_int) pa_nil)))
            (pa_cons (pe_call GD r1 (by rfl) gD FD.kp bD .nil pass0 (pa_cons (pv 0) (pa_cons pe_int pa_nil)))
            (pa_cons (pe_call GP hr (by rfl) gP FP.kp bP .nil pass0 (pa_cons (pv 0) (pa_cons (pe_lst (pa_cons pe_int (pa_cons pe_int (pa_cons pe_int (pa_cons pe_int (pa_cons pe_int (pa_cons pe_int pa_nil))))))) pa_nil))) pa_nil))))
          (pg_tup rfl (pgs_cons (pg_name (i := 4) scWL.nd rfl (.inr rfl)) (pgs_cons (pg_name (i := 5) scWL.nd rfl (.inr rfl)) (pgs_cons (pg_name (i := 6) scWL.nd rfl (.inr rfl)) pgs_nil)))))
      (pss_cons (ps_setLc (i := 7) (own := [("_law_k", 9)]) (g := gName 9) (tt := tYes) rfl scWL.nd rfl rfl rfl (pi_range1 (by rfl) W.range (pa_cons pe_int pa_nil))
          (blkOk_by (N := wlN) (sc := defScope sWL) (by decide +kernel)) (fun _ _ _ _ _ => pg_name (i := 9) scWL.nd rfl (Or.inl rfl)) (fun _ _ _ _ _ => pts_nil)
          (fun _ _ _ _ _ => pe_op op_add_str (pe_ix ix_str (pv 2) (pe_op op_mod (pe_callTy call_int1 (by rfl) W.int boot_int (pa_cons (pe_op op_add (pv 5) (pe_op op_mul (pv 6) (pv 9))) pa_nil)) pe_int) (fun _ _ => rfl)) (pe_slice sl_str (pv 3) (po_some (pv 4)) po_none)))
      (pss_cons (ps_setLc (i := 8) (own := [("_law_tail", 10)]) (g := gName 10) (tt := tYes) rfl scWL.nd rfl rfl rfl (pi_list (pv 7))
          (blkOk_by (N := wlN) (sc := defScope sWL) (by decide +kernel)) (fun _ _ _ _ _ => pg_name (i := 10) scWL.nd rfl (Or.inl rfl)) (fun _ _ _ _ _ => pts_nil)
          (fun _ _ _ _ _ => pe_op op_add_str (pe_slice sl_str (pv 3) po_none (po_some (pv 4))) (pv 10)))
      (pss_one (ps_ret (pe_slice sl_list (pe_lc (own := [("_law_word", 11)]) (g := gName 11) rfl scWL.nd (pi_list (pv 8))
          (blkOk_by (N := wlN) (sc := defScope sWL) (by decide +kernel)) (fun _ _ _ _ _ => pg_name (i := 11) scWL.nd rfl (Or.inl rfl)) (fun _ _ _ _ _ => pts_one (PW.pt (pw_and (pt_cmpR op_ne (pv 11) pe_str (nomark _)) (pw_and1 (pt_cmpR op_ne (pe_slice sl_str (pv 11) po_none (po_some pe_int)) pe_str (nomark _))))))
          (fun _ _ _ _ _ => pv 11)) po_none (po_some (pv 1))))))))))), ?_⟩
    obtain ⟨l, pen, hl⟩ := pn.at_
    -- range(draw(pen, 8))
    refine ⟨⟨_, rfl⟩, .ref p, rfl, p, c, ns, a, l, 8, rfl, pen, pn.few, pn.lo, by omega, hl, by decide, by decide, fun H1 d a1 l1 sb1 pen1 g1 g2 g3 d0 d1 => ?_⟩
    have pn1 : Pn H1 p c ns a1 := ⟨⟨l1, pen1, g3⟩, pn.few, Int.le_trans pn.lo g1⟩
    obtain ⟨n, rfl⟩ := Int.eq_ofNat_of_zero_le d0
    refine ⟨n, rfl, by omega, by omega, fun D nD => ?_⟩
    refine lc_range (lo := 0) (n := (Int.ofNat n).toNat) (fun i Hi => StemSt H1 p c ns a1 D i Hi) ⟨Same.but (same_upd nD) p, [], a1, pn1.same (same_upd nD), by omega, upd_same, rfl, fun _ z => by cases z⟩ (fun i Hi hi S => ?_) (fun Hi S => ?_)
    · obtain ⟨sb, cs, a2, pn2, b2, eD, lc, cl⟩ := S
      have es : (0 : Int) + ((i : Nat) : Int) = ((i : Nat) : Int) := Int.zero_add _
      have hi8 : i < 8 := by
        have : i < n := hi
        omega
      refine ⟨rfl, .ref p, rfl, .str (Str.ofString "abcdefghijklmnopqrstuvwxyz"), rfl, p, c, ns, a2, _, rfl, pn2, by omega, .inr ⟨_, rfl, by decide +kernel, by decide +kernel, fun H3 ch a3 sb3 pn3 b3 hch => ?_⟩⟩
      rw [low_str] at hch
      have nDp : D ≠ p := pn2.ne eD
      refine ⟨_, sb3 D _ nDp eD, small1000 (by rw [List.length_map]; omega), fun b o nb z => ?_, cs ++ [ch], a3, pn3.off ?_ ?_, by omega, by rw [upd_same, List.map_append]; rfl, by rw [List.length_append, lc]; rfl, fun x hx => ?_⟩
      · rw [upd_ne (ne_of_none z nD)]
        exact sb3 b o nb (sb b o nb z)
      · rw [upd_ne (Ne.symm nDp)]
      · have ncD : c ≠ D := fun z => (pn1.some).2 (z ▸ nD)
        rw [upd_ne ncD]
      · rcases List.mem_append.mp hx with hx | hx
        · exact cl x hx
        · rw [List.mem_singleton.mp hx]
          exact hch
    · obtain ⟨sb, cs, a2, pn2, b2, eD, lc, cl⟩ := S
      have hn7 : cs.length ≤ 7 := by
        have e : cs.length = n := lc
        omega
      have eD2 : Hi D = some (.lst ((cs.map fun ch => (⟨#[ch]⟩ : Str)).map V.str)) := by
        rw [List.map_map]
        exact eD
      have ln : ((cs.map fun ch => (⟨#[ch]⟩ : Str)).map (·.length)).sum = cs.length := by
        rw [List.map_map]
        clear lc cl b2 eD eD2 hn7
        induction cs with
        | nil => rfl
        | cons x cs ih =>
          rw [List.map_cons, List.sum_cons, ih, List.length_cons]
          show 1 + _ = _
          omega
      refine ⟨Str.ofString "", D, cs.map (fun ch => (⟨#[ch]⟩ : Str)), rfl, rfl, .inl (.inl (.inl eD2)), ?_, ?_⟩
      · rw [ln, List.length_map]
        show _ + _ * 0 ≤ _
        omega
      have e0 := join_signs cs
      generalize Txt.join (Str.ofString "") (cs.map fun ch => (⟨#[ch]⟩ : Str)) = st0 at e0 ⊢
      have l0 : st0.length ≤ 7 := by
        have : (tl st0).length = st0.length := by simp [Str.length]
        rw [← this, e0]
        exact hn7
      -- replace
      refine ⟨_, rfl, st0, rfl, ?_, ?_⟩
      · have : (Str.ofString "qz").length = 2 := by decide +kernel
        rw [this]
        omega
      have e1 : tl (Txt.replace st0 (Str.ofString "qq") (Str.ofString "qz")) = StrLaws.replL [113, 113] [113, 122] cs := by
        rw [← e0]
        exact StrLaws.replace_list (x := st0) (y := Str.ofString "qq") (z := Str.ofString "qz") (by decide +kernel)
      have e2 := repl_ok 113 113 122 ⟨by decide, by decide⟩ (by decide) cs.length cs (Nat.le_refl _) cl
      rw [← e1] at e2
      generalize Txt.replace st0 (Str.ofString "qq") (Str.ofString "qz") = st at e1 e2 ⊢
      obtain ⟨ls, lows⟩ := e2
      have ls2 : st.length = (tl st).length := by simp [Str.length]
      have ls7 : st.length ≤ 7 := by omega
      have big : st.length ≤ sizeLine := Nat.le_trans ls7 (by decide)
      -- at, first, more
      obtain ⟨l2, pen2, hl2⟩ := pn2.at_
      have b2' : a2 ≤ a1 + 7 := by
        have e : cs.length = n := lc
        have b3 : a2 ≤ a1 + ((Int.ofNat n).toNat : Int) := b2
        have b4 : ((Int.ofNat n).toNat : Int) = n := rfl
        omega
      refine ⟨.ref p, rfl, .str st, rfl, st, rfl, big, _, 1, rfl, rfl, p, c, ns, a2, l2, _, rfl, pen2, pn.few, pn2.lo, by omega, hl2, by omega, by omega, fun H4 d4 a4 l4 sb4 pen4 j1 j2 j3 j4 j5 => ?_⟩
      obtain ⟨t, rfl⟩ := Int.eq_ofNat_of_zero_le j4
      refine ⟨.ref p, rfl, p, c, ns, a4, l4, 26, rfl, pen4, pn.few, by have := pn2.lo; omega, by omega, j3, by decide, by decide, fun H5 f a5 l5 sb5 pen5 k1 k2 k3 k4 k5 => ?_⟩
      have pn5 : Pn H5 p c ns a5 := ⟨⟨l5, pen5, k3⟩, pn.few, by have := pn2.lo; omega⟩
      refine ⟨.ref p, rfl, by show 6 ≤ sizeLine; decide, fun L nL => ?_⟩
      have sL := same_upd (o := HO.lst [.int 1, .int 3, .int 5, .int 7, .int 9, .int 11]) nL
      refine ⟨p, c, ns, a5, .ref L, rfl, pn5.same sL, by omega, .inl ⟨L, _, rfl, upd_same, by decide, by decide, fun H6 y a6 sb6 pn6 b6 hy => ?_⟩⟩
      obtain ⟨m0, hm0, rfl⟩ : ∃ m0 ∈ ([1, 3, 5, 7, 9, 11] : List Int), y = .int m0 := by
        have e : ([V.int 1, .int 3, .int 5, .int 7, .int 9, .int 11] : List V) = ([1, 3, 5, 7, 9, 11] : List Int).map V.int := rfl
        rw [e] at hy
        obtain ⟨m0, h1, h2⟩ := List.mem_map.mp hy
        exact ⟨m0, h1, h2.symm⟩
      refine ⟨by show 3 ≤ sizeLine; decide, fun T nT => ?_⟩
      have sT := same_upd (o := HO.tup [.int (t : Nat), .int f, .int m0]) nT
      refine ⟨T, _, rfl, .inl (.inl upd_same), rfl, _, _, rfl, _, _, rfl, _, _, rfl, rfl, ?_⟩
      have pn7 : Pn (upd H6 T (.tup [.int (t : Nat), .int f, .int m0])) p c ns a6 := pn6.same sT
      have sbA : SameBut p H (upd H6 T (.tup [.int (t : Nat), .int f, .int m0])) := fun b o bp e => sT b o (sb6 b o bp (sL b o (sb5 b o bp (sb4 b o bp (sb b o bp (sb1 b o bp e))))))
      generalize upd H6 T (.tup [.int (t : Nat), .int f, .int m0]) = H7 at pn7 sbA ⊢
      -- tails
      have t7 : t ≤ st.length := by omega
      have f26 : 0 ≤ f ∧ f < 26 := ⟨k4, k5⟩
      refine ⟨26, rfl, by decide, by decide, fun D2 nD2 => ?_⟩
      refine lc_range (lo := 0) (n := (26 : Int).toNat) (fun i Hi => SameBut D2 (upd H7 D2 (.lst [])) Hi ∧ Hi D2 = some (.lst ((List.range i).map fun k => V.str ((⟨#[let_ f m0 k]⟩ : Str) ++ cutS st (some (t : Nat)) none)))) ⟨fun _ _ _ z => z, upd_same⟩ (fun i Hi hi S => ?_) (fun Hi S => ?_)
      · obtain ⟨sb8, e8⟩ := S
        have es : (0 : Int) + ((i : Nat) : Int) = ((i : Nat) : Int) := Int.zero_add _
        rw [es]
        have hi26 : i < 26 := hi
        have hmul : CMul m0 ((i : Nat) : Int) := by
          simp only [List.mem_cons, List.not_mem_nil, or_false] at hm0
          exact .inl (by rcases hm0 with rfl | rfl | rfl | rfl | rfl | rfl <;> exact ⟨by decide, by decide⟩)
        refine ⟨rfl, .str (Str.ofString "abcdefghijklmnopqrstuvwxyz"), rfl, .int f, rfl, .int m0, rfl, .int (i : Nat), rfl, m0, _, rfl, rfl, hmul, f, _, rfl, rfl, .inl ⟨_, rfl, _, 26, rfl, rfl, Int.pos_of_lt_lit (by decide), ?_⟩⟩
        refine ⟨_, _, let_ f m0 i, rfl, rfl, by decide +kernel, by rw [low_str]; exact let_at, ?_⟩
        refine ⟨.str st, rfl, .int (t : Nat), rfl, _, rfl, st, rfl, big, _, _, rfl, rfl, ?_, ?_⟩
        · have z1 : ((⟨#[let_ f m0 i]⟩ : Str)).length = 1 := rfl
          have z2 := cutS_len st (some ((t : Nat) : Int)) none
          rw [z1]
          show 1 + _ ≤ 16777216
          omega
        · refine ⟨_, e8, small1000 (by rw [List.length_map, List.length_range]; omega), fun b o nb z => ?_, ?_⟩
          · rw [upd_ne nb]
            exact sb8 b o nb z
          · rw [upd_same, List.range_succ, List.map_append]
            rfl
      obtain ⟨sb8, e8⟩ := S
      have same8 : Same H7 Hi := fun b o z => sb8 b o (ne_of_none z nD2) (by rw [upd_ne (ne_of_none z nD2)]; exact z)
      have pn8 := pn7.same same8
      -- words
      refine ⟨.ref D2, rfl, D2, rfl, ⟨_, .inl (.inl e8)⟩, fun D3 nD3 => ?_⟩
      have n32 : D2 ≠ D3 := fun z => by
        rw [← z, e8] at nD3
        cases nD3
      refine lc_list (a := D2) (xs := (List.range (26 : Int).toNat).map fun k => V.str ((⟨#[let_ f m0 k]⟩ : Str) ++ cutS st (some (t : Nat)) none)) (fun i Hj => SameBut D3 (upd Hi D3 (.lst [])) Hj ∧ Hj D3 = some (.lst ((List.range i).map fun k => V.str (cutS st none (some (t : Nat)) ++ ((⟨#[let_ f m0 k]⟩ : Str) ++ cutS st (some (t : Nat)) none))))) ⟨fun _ _ _ z => z, upd_same⟩ (fun i Hj _ S => ?_) (fun i x Hj hx S => ?_) (fun Hj S => ?_)
      · exact .inl (.inl (S.1 D2 _ n32 (by rw [upd_ne n32]; exact e8)))
      · obtain ⟨sb9, e9⟩ := S
        have hi26 : i < 26 := by
          have := (List.getElem?_eq_some_iff.mp hx).1
          rw [List.length_map, List.length_range] at this
          exact this
        have ex : x = V.str ((⟨#[let_ f m0 i]⟩ : Str) ++ cutS st (some (t : Nat)) none) := by
          rw [List.getElem?_map, List.getElem?_range (by exact hi26)] at hx
          exact (Option.some.inj hx).symm
        subst ex
        refine ⟨rfl, .str st, rfl, .int (t : Nat), rfl, _, rfl, st, rfl, big, _, rfl, _, _, rfl, rfl, ?_, ?_⟩
        · have z2 := cutS_len st none (some ((t : Nat) : Int))
          have z3 := cutS_len st (some ((t : Nat) : Int)) none
          have z1 : ((⟨#[let_ f m0 i]⟩ : Str)).length = 1 := rfl
          rw [strLen_append, z1]
          show _ + _ ≤ 16777216
          omega
        · refine ⟨_, e9, small1000 (by rw [List.length_map, List.length_range]; omega), fun b o nb z => ?_, ?_⟩
          · rw [upd_ne nb]
            exact sb9 b o nb z
          · rw [upd_same, List.range_succ, List.map_append]
            rfl
      · obtain ⟨sb9, e9⟩ := S
        have len26 : ((List.range (26 : Int).toNat).map fun k => V.str ((⟨#[let_ f m0 k]⟩ : Str) ++ cutS st (some (t : Nat)) none)).length = 26 := by rw [List.length_map, List.length_range]; rfl
        rw [len26] at e9
        have same9 : Same Hi Hj := fun b o z => sb9 b o (ne_of_none z nD3) (by rw [upd_ne (ne_of_none z nD3)]; exact z)
        have pn9 := pn8.same same9
        have wl : ∀ k, tl (cutS st none (some ((t : Nat) : Int)) ++ ((⟨#[let_ f m0 k]⟩ : Str) ++ cutS st (some ((t : Nat) : Int)) none)) = wordL (tl st) t (let_ f m0 k) := fun k => cut_word st t7
        generalize hw : (fun k : Nat => cutS st none (some ((t : Nat) : Int)) ++ ((⟨#[let_ f m0 k]⟩ : Str) ++ cutS st (some ((t : Nat) : Int)) none)) = wd at wl
        have e9' : Hj D3 = some (.lst ((List.range 26).map fun k => V.str (wd k))) := by
          rw [← hw]
          exact e9
        have wl' : ∀ k, tl (wd k) = wordL (tl st) t (let_ f m0 k) := fun k => by
          rw [← hw]
          exact wl k
        refine ⟨.ref D3, rfl, D3, rfl, ⟨_, .inl (.inl e9')⟩, fun D4 nD4 => ?_⟩
        have n43 : D3 ≠ D4 := fun z => by
          rw [← z, e9'] at nD4
          cases nD4
        refine lc_list (a := D3) (xs := (List.range 26).map fun k => V.str (wd k)) (fun i Hk => SameBut D4 (upd Hj D4 (.lst [])) Hk ∧ Hk D4 = some (.lst (((List.range i).map wd |>.filter keepW).map V.str))) ⟨fun _ _ _ z => z, upd_same⟩ (fun i Hk _ S => ?_) (fun i x Hk hx S => ?_) (fun Hk S => ?_)
        · exact .inl (.inl (S.1 D3 _ n43 (by rw [upd_ne n43]; exact e9')))
        · obtain ⟨sb10, e10⟩ := S
          have hi26 : i < 26 := by
            have := (List.getElem?_eq_some_iff.mp hx).1
            rw [List.length_map, List.length_range] at this
            exact this
          have ex : x = V.str (wd i) := by
            rw [List.getElem?_map, List.getElem?_range (by exact hi26)] at hx
            exact (Option.some.inj hx).symm
          subst ex
          have stepF : keepW (wd i) = false → ((List.range (i + 1)).map wd |>.filter keepW) = ((List.range i).map wd |>.filter keepW) := fun e => by
            rw [List.range_succ, List.map_append, List.filter_append]
            simp [e]
          have stepT : keepW (wd i) = true → ((List.range (i + 1)).map wd |>.filter keepW) = ((List.range i).map wd |>.filter keepW) ++ [wd i] := fun e => by
            rw [List.range_succ, List.map_append, List.filter_append]
            simp [e]
          have lw : (wd i).length ≤ sizeLine := by
            have z : (tl (wd i)).length = (wd i).length := by simp [Str.length]
            rw [← z, wl', wordL_len]
            show _ ≤ 16777216
            omega
          refine ⟨rfl, .str (wd i), rfl, rfl, _, rfl, ?_⟩
          by_cases c1 : wd i = Str.ofString "main"
          · have k0 : keepW (wd i) = false := by simp [keepW, c1]
            rw [show (!decide (V.str (wd i) = V.str (Str.ofString "main"))) = false by rw [c1]; simp]
            refine iteF ⟨sb10, ?_⟩
            rw [stepF k0]
            exact e10
          · rw [show (!decide (V.str (wd i) = V.str (Str.ofString "main"))) = true by simp [c1]]
            refine iteT ⟨.str (wd i), rfl, _, rfl, _, rfl, lw, rfl, _, rfl, ?_⟩
            by_cases c2 : cutS (wd i) none (some 2) = Str.ofString "qq"
            · have k0 : keepW (wd i) = false := by simp [keepW, c2]
              rw [show (!decide (V.str (cutS (wd i) none (some 2)) = V.str (Str.ofString "qq"))) = false by rw [c2]; simp]
              refine iteF ⟨sb10, ?_⟩
              rw [stepF k0]
              exact e10
            · have k1 : keepW (wd i) = true := by simp [keepW, c1, c2]
              rw [show (!decide (V.str (cutS (wd i) none (some 2)) = V.str (Str.ofString "qq"))) = true by simp [c2]]
              refine iteT ⟨.str (wd i), rfl, _, e10, small1000 ?_, fun b o nb z => ?_, ?_⟩
              · rw [List.length_map]
                refine Nat.le_trans (List.length_filter_le _ _) ?_
                rw [List.length_map, List.length_range]
                omega
              · rw [upd_ne nb]
                exact sb10 b o nb z
              · rw [upd_same, stepT k1, List.map_append]
                rfl
        · obtain ⟨sb10, e10⟩ := S
          have l26 : ((List.range 26).map fun k => V.str (wd k)).length = 26 := by rw [List.length_map, List.length_range]
          rw [l26] at e10
          have same10 : Same Hj Hk := fun b o z => sb10 b o (ne_of_none z nD4) (by rw [upd_ne (ne_of_none z nD4)]; exact z)
          have pn10 := pn9.same same10
          have okW : ∀ x ∈ ((List.range 26).map wd |>.filter keepW), isWordL (tl x) = true ∧ (tl x).take 2 ≠ [113, 113] := fun x hx => by
            obtain ⟨hx1, hx2⟩ := List.mem_filter.mp hx
            obtain ⟨k, hk, rfl⟩ := List.mem_map.mp hx1
            refine ⟨?_, fun z => ?_⟩
            · have l8 := wordL_len (tl st) t (let_ f m0 k)
              unfold isWordL
              rw [wl', Bool.and_eq_true, Bool.and_eq_true, decide_eq_true_eq, decide_eq_true_eq, List.all_eq_true]
              exact ⟨⟨by omega, by omega⟩, fun c hc => decide_eq_true (wordL_mem lows let_mem c hc)⟩
            · unfold keepW at hx2
              rw [Bool.and_eq_true] at hx2
              have c2 := hx2.2
              have e : cutS (wd k) none (some 2) = Str.ofString "qq" := cut_two z
              rw [e] at c2
              simp at c2
          have nodup : ((List.range 26).map wd).Nodup := by
            refine List.pairwise_map.mpr ((List.nodup_range (n := 26)).imp_of_mem fun {j k} hj hk ne e => ne ?_)
            have z := congrArg tl e
            rw [wl', wl'] at z
            exact let_inj hm0 (List.mem_range.mp hj) (List.mem_range.mp hk) (wordL_inj z)
          have many : 24 ≤ ((List.range 26).map wd |>.filter keepW).length := by
            have z := keep_count (k := keepW) (p1 := fun x => decide (x = Str.ofString "main")) (p2 := fun x => decide ((tl x).take 2 = [113, 113])) (fun x e => by
              unfold keepW at e
              by_cases c1 : x = Str.ofString "main"
              · exact .inl (decide_eq_true c1)
              · by_cases c2 : cutS x none (some 2) = Str.ofString "qq"
                · refine .inr (decide_eq_true ?_)
                  have z := congrArg tl c2
                  have z2 : tl (Str.ofString "qq") = [113, 113] := by decide +kernel
                  rw [z2] at z
                  unfold cutS at z
                  rw [show (some (2 : Int)) = some ((2 : Nat) : Int) from rfl] at z
                  simp only [HT.sIx_none, HT.sIx_nat, List.drop_zero, Nat.sub_zero] at z
                  have z3 : (tl x).take (min 2 x.length) = [113, 113] := z
                  rw [take_min 2 x.length (tl x) (by simp [Str.length])] at z3
                  exact z3
                · rw [decide_eq_false c1, decide_eq_false c2] at e
                  cases e) ((List.range 26).map wd)
            have f1 := filter_one (p := fun x => decide (x = Str.ofString "main")) nodup fun x _ y _ hx hy => (of_decide_eq_true hx).trans (of_decide_eq_true hy).symm
            have f2 := filter_one (p := fun x => decide ((tl x).take 2 = [113, 113])) nodup fun x hx y hy h1 h2 => by
              obtain ⟨j, hj, rfl⟩ := List.mem_map.mp hx
              obtain ⟨k, hk, rfl⟩ := List.mem_map.mp hy
              have h1 := of_decide_eq_true h1
              have h2 := of_decide_eq_true h2
              rw [wl'] at h1 h2
              rw [let_inj hm0 (List.mem_range.mp hj) (List.mem_range.mp hk) (wordL_two (by rw [e1]; exact repl_head cs) h1 h2)]
            rw [List.length_map, List.length_range] at z
            omega
          refine ⟨.int m, rfl, _, rfl, D4, _, rfl, .inl (.inl e10), fun R nR => ?_⟩
          have sR := same_upd (o := HO.lst (cutV (((List.range 26).map wd |>.filter keepW).map V.str) none (some (m : Nat)))) nR
          have ec : cutV (((List.range 26).map wd |>.filter keepW).map V.str) none (some ((m : Nat) : Int)) = (((List.range 26).map wd |>.filter keepW).take m).map V.str := by
            unfold cutV
            rw [HT.sIx_none, HT.sIx_nat, List.length_map, List.drop_zero, Nat.sub_zero, List.map_take]
            exact take_min _ _ _ (by rw [List.length_map])
          have sbF : SameBut p H (upd Hk R (.lst (cutV (((List.range 26).map wd |>.filter keepW).map V.str) none (some (m : Nat))))) := fun b o bp z => sR b o (same10 b o (same9 b o (same8 b o (sbA b o bp z))))
          refine q _ R (((List.range 26).map wd |>.filter keepW).take m) a6 sbF (pn10.same sR) (by omega) ?_ (by rw [upd_same, ec]) ⟨(nodup.filter _).sublist (List.take_sublist _ _), fun x hx => okW x (List.mem_of_mem_take hx)⟩ ⟨by rw [List.length_take]; omega, fun hm4 => by rw [List.length_take]; omega⟩
          cases e : H R with
          | none => rfl
          | some o =>
            have rp : R ≠ p := fun z => by
              rw [z] at nR
              exact pn10.some.1 nR
            have := same10 _ _ (same9 _ _ (same8 _ _ (sbA R o rp e)))
            rw [this] at nR
            cases nR
end
end KF
end L2
end
/-! ### HM -/
section
namespace PySem
namespace KD
section
variable {prog : Program} {w : World} {A : Around} {E : Value → Shared → Prop} {s : Shared} {d : Addr} {xs : List Row} {k : NestedKey} {key : Value}
/-- dict.__contains__, keys of several sorts -/
theorem has_m {Q : Bool → Shared → Prop} (hu : A.units + 10 < cLine) (sy : (d == sysModules) = false) (hk : NestedIs s.heap k key) (h8 : k.depth ≤ 8) (D : DM w s.heap d xs) (ok : KeysOk s.heap xs)
    (z : ∀ tk, Q (lookM xs k).isSome { s with toks := tk }) : wpAny (model prog w) A (contains (.ref d) key) Q E s := by
  have ty := D.typeIs
  unfold contains
  try with_reducible refine wpAny_holding ?_
  refine wpAny_bind (wpAny_specialOf ty slot_dict_contains.lookup ?_)
  show wpAny _ _ (if (some (Value.builtin "dict.__contains__") == some Value.none) = true then _ else _) _ E s
  have never : ¬ (some (Value.builtin "dict.__contains__") == some Value.none) = true := by
    rw [beq_builtin_none]
    exact Bool.false_ne_true
  rw [if_neg never]
  refine wpAny_bind (wpAny_callSpecialUnlessNone?_slot (name := Str.ofString "__contains__") ty slot_dict_contains (wpAny_call_entry slot_dict_contains ty entry_dict_contains ?_ (args_dict_contains _ _)))
  show wpAny _ _ (dictGet d key >>= _) _ _ s
  refine wpAny_bind (get_m (by rw [Around.in1_units]; omega) hk h8 D ok fun tk => ?_)
  have zz := z tk
  cases hf : lookM xs k with
  | some p =>
    rw [hf] at zz
    exact wpAny_pure ⟨_, rfl, wpAny_truthy_bool zz⟩
  | none =>
    rw [hf] at zz
    exact wpAny_bind (wpAny_pendingKey_other sy (wpAny_pure ⟨_, rfl, wpAny_truthy_bool zz⟩))
end
end KD
end PySem
namespace L2
namespace KE
open PySem PySem.Spec PyProof.Rows PySem.KD
theorem look_rel {xs : List MRow} {rows : List KD.Row} {k : NestedKey} (r : Paired MRel xs rows) : (lookM rows k).isSome = (lookH xs k).isSome := by
  unfold lookM lookH
  induction r with
  | nil => rfl
  | cons hr t ih =>
    rw [List.find?_cons, List.find?_cons, ← hr.1]
    split
    · rfl
    · exact ih
/-- k in d, k not in d -/
def rInM (w : World) (neg : Bool) : R2 := fun x y H Q => ∃ a es k, y = .ref a ∧ Rd H a (mdo w a es) ∧ KAll H es ∧ kAt H k x ∧ Q (.bl (if neg = true then !(lookH es k).isSome else (lookH es k).isSome)) H
section
variable {X : Cx}
theorem op_inM (hu : X.A.units + 10 < cLine) : OpR X (compareOp .In) (rInM X.w false) := by
  intro pins s σ H x y v u Q I rx ry z
  obtain ⟨a, es, k, rfl, e, ka, hk, q⟩ := z
  cases ry
  obtain ⟨l, sy, rows, rr, D⟩ := mdo_rd I.hok e
  obtain ⟨nk, h8⟩ := hk.is I.hok rx
  show wpAny _ _ (do let b ← contains (Value.ref a) v; return Value.bool b) _ _ s
  refine wpAny_bind (has_m hu sy nk h8 D (keysOk ka I.hok rr) fun tk => wpAny_pure ⟨_, H, I.tok tk, ?_, q⟩)
  rw [look_rel rr]
  rfl
theorem op_ninM (hu : X.A.units + 10 < cLine) : OpR X (compareOp .NotIn) (rInM X.w true) := by
  intro pins s σ H x y v u Q I rx ry z
  obtain ⟨a, es, k, rfl, e, ka, hk, q⟩ := z
  cases ry
  obtain ⟨l, sy, rows, rr, D⟩ := mdo_rd I.hok e
  obtain ⟨nk, h8⟩ := hk.is I.hok rx
  show wpAny _ _ (do let b ← contains (Value.ref a) v; return Value.bool (!b)) _ _ s
  refine wpAny_bind (has_m hu sy nk h8 D (keysOk ka I.hok rr) fun tk => wpAny_pure ⟨_, H, I.tok tk, ?_, q⟩)
  rw [look_rel rr]
  rfl
end
end KE
end L2
end
/-! ### HN -/
section
namespace L2
namespace KE
open PySem PySem.Spec PyProof.Rows PySem.KD
/-! ## a dict with ints and texts as keys, seen as one with keys of several sorts -/
def nkOf : Key → NestedKey
  | .inl i => .num i
  | .inr x => .text x
def toM (kvs : List (Key × V)) : List MRow := kvs.map fun p => (nkOf p.1, kV p.1, p.2)
theorem nk_hash (w : World) (k : Key) : (nkOf k).hash w = keyH w k := by cases k <;> simp [nkOf, keyH, NestedKey.hash]
theorem nk_inj {a b : Key} (h : nkOf a = nkOf b) : a = b := by
  cases a <;> cases b <;> simp [nkOf] at h <;> simp [h]
theorem kAt_kV (H : Hp) (k : Key) : kAt H (nkOf k) (kV k) := by
  cases k with
  | inl i => exact kAt.num H i
  | inr x => exact kAt.text H x
theorem toM_all (H : Hp) (kvs : List (Key × V)) : KAll H (toM kvs) := fun p hp => by
  obtain ⟨q, _, rfl⟩ := List.mem_map.mp hp
  exact kAt_kV H q.1
section
variable {P : Program} {w : World} {h : Heap} {d : Addr}
theorem rows_of : ∀ {es : List DictEntry} {vs : List (Key × Value)} {kvs : List (Key × V)}, Pairs (mixKind P w) es vs → KV kvs vs → (∀ e ∈ es, ∃ k, (mixKind P w).is k e.key = true ∧ e.hash = (mixKind P w).hash k) →
    ∃ rows : List KD.Row, es = rows.map (rowE w) ∧ Paired MRel (toM kvs) rows ∧ rows.map (·.1) = kvs.map fun p => nkOf p.1
  | [], [], [], .nil, .nil, _ => ⟨[], rfl, .nil, rfl⟩
  | e :: es, (k, u) :: vs, (k', x) :: kvs, .cons hi hv hp, .cons hk hr, ho => by
    obtain ⟨rows, h1, h2, h3⟩ := rows_of hp hr fun y hy => ho y (List.mem_cons_of_mem _ hy)
    obtain ⟨ek, ex⟩ := hk
    have ek' : k' = k := ek
    subst ek'
    obtain ⟨k2, i2, hh⟩ := ho e List.mem_cons_self
    have same : k2 = k' := (mixKind P w).inj e.key k2 k' i2 hi
    subst same
    have hu : e.val = u := hv
    refine ⟨(nkOf k2, e.key, e.val) :: rows, ?_, .cons ⟨rfl, ?_, ?_⟩ h2, ?_⟩
    · rw [List.map_cons, ← h1]
      congr 1
      show e = ⟨(nkOf k2).hash w, e.key, e.val⟩
      rw [nk_hash, ← show e.hash = keyH w k2 from hh]
    · rcases keyIs_shape (show keyIs k2 e.key = true from hi) with ⟨i, t, rfl, z⟩ | ⟨y, t, rfl, z⟩
      · exact ⟨t, z⟩
      · exact ⟨t, z⟩
    · show RelV x e.val
      rw [hu]
      exact ex
    · rw [List.map_cons, List.map_cons, h3]
theorem kv_keys : ∀ {kvs : List (Key × V)} {vs : List (Key × Value)}, KV kvs vs → kvs.map (·.1) = vs.map (·.1)
  | [], [], .nil => rfl
  | _ :: _, _ :: _, .cons a t => by
    rw [List.map_cons, List.map_cons, a.1, kv_keys t]
theorem dk_mdo {H : Hp} {kvs : List (Key × V)} (o : ObjOk P w H h d (.dK kvs)) (l : kvs.length ≤ 1000) : ObjOk P w H h d (mdo w d (toM kvs)) := by
  obtain ⟨_, sy, vs, kv, ob, es, ep, ho, ex, hd, ko, pr, nd⟩ := o
  obtain ⟨rows, h1, h2, h3⟩ := rows_of pr kv fun e he => ko e (Array.mem_toList_iff.mp he)
  refine mdo_ok (by unfold toM; rw [List.length_map]; exact l) sy h2 ⟨⟨ob, es, ep, ho, ex, hd, h1⟩, ?_⟩
  have e1 : kvs.map (·.1) = vs.map (·.1) := kv_keys kv
  rw [h3]
  have e2 : (kvs.map fun p => nkOf p.1) = (kvs.map (·.1)).map nkOf := by rw [List.map_map]; rfl
  rw [e2, e1]
  exact List.Pairwise.map _ (fun a b ne e => ne (nk_inj e)) nd
end
/-- the dict at d seen as one with keys of several sorts -/
theorem inv_mdo {X : Cx} {pins : List (Addr × Obj)} {σ : St} {H : Hp} {s : Shared} {d : Addr} {kvs : List (Key × V)} (I : Inv X pins σ H s) (e : H d = some (.dK kvs)) (l : kvs.length ≤ 1000) : Inv X pins σ (upd H d (mdo X.w d (toM kvs))) s := by
  obtain ⟨hp, g, dr, tk, os⟩ := s
  have ok := (show ObjOk X.prog X.w H hp d (.dK kvs) from I.hok d _ e)
  have ok2 := dk_mdo (w := X.w) ok l
  obtain ⟨a1, a2, rows, rr, D⟩ := ok2.1
  obtain ⟨o, _, _, ho, _⟩ := D.at_
  exact I.write (t' := tk) (x := d) (e := d) (by rw [e]; exact trivial) (.inl rfl) (fun b u _ z => z) ⟨o, ho⟩ (mdo_ok a1 a2 rr D)
/-- what a statement does, the dict at d seen so -/
theorem ps_mdo {X : Cx} {st : Stmt} {t : TS} (h : PS X st t) : PS X st (fun D σ H => ∃ d kvs, H d = some (.dK kvs) ∧ kvs.length ≤ 1000 ∧ t D σ (upd H d (mdo X.w d (toM kvs)))) := by
  refine ⟨fun pins s σ H D I z => ?_⟩
  obtain ⟨d, kvs, e, l, q⟩ := z
  exact h.run pins s σ _ D (inv_mdo I e l) q
theorem pe_mdo {X : Cx} {e : Expr} {t : TE} (h : PE X e t) : PE X e (fun σ H Q => ∃ d kvs, H d = some (.dK kvs) ∧ kvs.length ≤ 1000 ∧ t σ (upd H d (mdo X.w d (toM kvs))) Q) := by
  refine ⟨fun pins s σ H Q I z => ?_⟩
  obtain ⟨d, kvs, ed, l, q⟩ := z
  exact h.run pins s σ _ Q (inv_mdo I ed l) q
/-- what an expression made, seen so: a dict display above all -/
theorem pe_mdoR {X : Cx} {e : Expr} {t : TE} (h : PE X e t) : PE X e (fun σ H Q => t σ H fun v H1 => ∃ d kvs, H1 d = some (.dK kvs) ∧ kvs.length ≤ 1000 ∧ Q v (upd H1 d (mdo X.w d (toM kvs)))) := by
  refine ⟨fun pins s σ H Q I z => thn (h.run pins s σ H _ I z) fun u s1 hh => ?_⟩
  obtain ⟨v, H1, I1, r, d, kvs, ed, l, q⟩ := hh
  exact ⟨v, _, inv_mdo I1 ed l, r, q⟩
end KE
end L2
end
/-! ### PD -/
section
namespace L2
namespace KE
open PySem PySem.Spec PyProof.Rows PySem.KD
/-! ## more of dicts with keys of several sorts: list(d.items()), d.clear(), d != {}, for v in d.values() -/
/-- tuples tracked at their addresses -/
def putP : Hp → List Addr → List MRow → Hp
  | H, a :: as, p :: ps => putP (upd H a (.tup [p.2.1, p.2.2])) as ps
  | H, _, _ => H
theorem putP_off {b : Addr} : ∀ (as : List Addr) (ps : List MRow) (H : Hp), b ∉ as → putP H as ps b = H b
  | [], _, _, _ => rfl
  | _ :: _, [], _, _ => rfl
  | a :: as, p :: ps, H, h => by
    show putP (upd H a (.tup [p.2.1, p.2.2])) as ps b = H b
    rw [putP_off as ps _ (fun z => h (List.mem_cons_of_mem _ z)), upd_ne (fun z => h (by rw [z]; exact List.mem_cons_self))]
theorem putP_at : ∀ (as : List Addr) (ps : List MRow) (H : Hp), as.length = ps.length → as.Nodup → Paired (fun (t : Addr) (p : MRow) => putP H as ps t = some (.tup [p.2.1, p.2.2])) as ps
  | [], [], _, _, _ => .nil
  | [], _ :: _, _, h, _ => by cases h
  | _ :: _, [], _, h, _ => by cases h
  | a :: as, p :: ps, H, h, hn => by
    have hn' := List.nodup_cons.mp hn
    have ih := putP_at as ps (upd H a (.tup [p.2.1, p.2.2])) (Nat.succ.inj h) hn'.2
    refine .cons ?_ ih
    show putP (upd H a (.tup [p.2.1, p.2.2])) as ps a = some (.tup [p.2.1, p.2.2])
    rw [putP_off as ps _ hn'.1, upd_same]
section
variable {X : Cx} {pins : List (Addr × Obj)} {σ : St} {H : Hp} {s : Shared} {d : Addr} {xs : List MRow}
theorem items_laidM {h' : Heap} {tk : Nat} {es : List MRow} {rows : List KD.Row} {ens : Array DictEntry} {acc : Array Value} {c : Nat} {as : List Addr} (I : Inv X pins σ H s) (hz : es.length ≤ 1000) (rr : Paired MRel es rows) (he : ens.toList = rows.map (rowE X.w))
    (hk : ∀ b o, s.heap.get? b = some o → h'.get? b = some o) (hS : h'.get? s.heap.objs.size = some { cls := .type "list", dict := none, data := .seq acc c, slots := #[] }) (hl : as.length = ens.size) (hG : PySem.W.DilG ens s.heap.objs.size h' as) (hacc : acc.toList = as.map Value.ref) :
    ∃ H' : Hp, (∀ b o, H b = some o → H' b = some o) ∧ H s.heap.objs.size = none ∧ (∀ t ∈ as, H t = none) ∧ s.heap.objs.size ∉ as ∧ H' s.heap.objs.size = some (.lst (as.map V.ref)) ∧ Paired (fun (t : Addr) (p : MRow) => H' t = some (.tup [p.2.1, p.2.2])) as es ∧ Inv X pins σ H' { s with heap := h', toks := tk } := by
  have hle : ens.size = es.length := by
    rw [row_size he]
    exact (Paired.length rr).symm
  have hSn : s.heap.objs.size ∉ as := fun z => Nat.lt_irrefl _ (hG.above _ z)
  have nd : as.Nodup := List.Pairwise.imp (fun {a b} (h : a < b) => Nat.ne_of_lt h) hG.rise
  have new : ∀ t ∈ as, H t = none := fun t ht => I.hok.fresh (Nat.le_of_lt (hG.above t ht))
  have newS : H s.heap.objs.size = none := I.hok.fresh (Nat.le_refl _)
  have atP := putP_at as es (upd H s.heap.objs.size (.lst (as.map V.ref))) (by omega) nd
  have off : ∀ b, b ∉ as → b ≠ s.heap.objs.size → putP (upd H s.heap.objs.size (.lst (as.map V.ref))) as es b = H b := fun b h1 h2 => by rw [putP_off as es _ h1, upd_ne h2]
  have low : ∀ b o, s.heap.get? b = some o → b ∉ as ∧ b ≠ s.heap.objs.size := fun b o e => ⟨fun z => absurd (Heap.lt_size e) (Nat.not_lt.mpr (Nat.le_of_lt (hG.above b z))), Nat.ne_of_lt (Heap.lt_size e)⟩
  have kp : ∀ b u, H b = some u → (putP (upd H s.heap.objs.size (.lst (as.map V.ref))) as es) b = some u := fun b u e => by
    rw [off b (fun z => by rw [new b z] at e; cases e) (fun z => by rw [z, newS] at e; cases e)]
    exact e
  have eS : putP (upd H s.heap.objs.size (.lst (as.map V.ref))) as es s.heap.objs.size = some (.lst (as.map V.ref)) := by rw [putP_off as es _ hSn, upd_same]
  refine ⟨putP (upd H s.heap.objs.size (.lst (as.map V.ref))) as es, kp, newS, new, hSn, eS, atP, ?_⟩
  refine I.call' (ch := []) rfl ⟨fun b o q _ _ _ => hk b o q, fun b o q _ _ _ => ⟨o.slots, hk b o q⟩, fun b o q n _ => ?_, fun b o q _ => ⟨o, hk b o q⟩, fun b xs q => kp b _ q, fun b o u q => kp b _ q, fun b ps q => ⟨#[], by rw [kp b _ q]; simp⟩⟩ (fun b u q => ?_) I.bare fun b z => by simp at z
  · obtain ⟨z1, z2⟩ := low b o q
    rw [off b z1 z2]
    exact n
  · by_cases hb : b ∈ as
    · obtain ⟨j, pk, e1, e2, e3⟩ := LiI.paired_ix atP hb
      rw [e3] at q
      cases q
      obtain ⟨hj, f3⟩ := hG.pairs j b e1
      obtain ⟨u, v, g1, g2, g3⟩ := rows_at rr he e2
      rw [Array.getElem?_eq_getElem hj] at g1
      have g1' := Option.some.inj g1
      rw [g1'] at f3
      exact ⟨by show 2 ≤ sizeLine; decide, [u, v], .cons g2 (.cons g3 .nil), ⟨_, f3, rfl, _, rfl⟩⟩
    · by_cases hb2 : b = s.heap.objs.size
      · rw [hb2] at q ⊢
        rw [eS] at q
        cases q
        refine ⟨by rw [List.length_map]; exact Nat.le_of_lt (small1000 (by omega)), acc.toList, c, by rw [hacc]; exact LiI.vals_refs as, ?_⟩
        rw [Array.toArray_toList]
        exact hS
      · rw [off b hb hb2] at q
        exact (I.hok b u q).stay (fun d v _ y => hk d v y) (fun d y => kp d _ y) fun d xs y => kp d _ y
/-- list(e.items()) -/
def tItemsM (w : World) (te : TE) : TE := fun σ H Q => te σ H fun x H1 => ∃ d es, x = .ref d ∧ Rd H1 d (mdo w d es) ∧
  ∀ (H' : Hp) (p : Addr) (ts : List Addr), (∀ b o, H1 b = some o → H' b = some o) → H1 p = none → (∀ t ∈ ts, H1 t = none) → p ∉ ts → H' p = some (.lst (ts.map V.ref)) → Paired (fun (t : Addr) (q : MRow) => H' t = some (.tup [q.2.1, q.2.2])) ts es → Q (.ref p) H'
theorem peItemsM {e : Expr} {te : TE} {p apos cpos pos : Pos} (hc : X.calm = true) (he : PE X e te) (hg : Gl X "list") (hm : X.mg "list" = none) (hv : bootBuiltins "list" = some (.type "list")) (hbase : attributeBase e "items" X.env (eval e X.env) = eval e X.env := by rfl) (hline : (apos.endLine == cpos.line) = true := by rfl)
    (hs : starEach [.Call (.Attribute e "items" apos) [] [] cpos] X.env = (false, eval (.Call (.Attribute e "items" apos) [] [] cpos) X.env) :: starEach [] X.env := by rfl) :
    PE X (.Call (.Name "list" p) [.Call (.Attribute e "items" apos) [] [] cpos] [] pos) (tItemsM X.w te) := by
  refine ⟨fun pins s σ H Q I hq => ?_⟩
  refine wpAny_Call_Name_kw (ld_blt I hg hm hv ?_)
  refine PyProof.Rows.callWith_type1 ?_ hs rfl
  rw [hs]
  show wpAny _ _ (spliced ((false, eval (.Call (.Attribute e "items" apos) [] [] cpos) X.env) :: backTo pos (starEach [] X.env))) _ _ s
  refine Calls.spliced_cons ?_
  refine wpAny_Call_method (T := "dict") (id := "dict.items") hbase rfl hline F.plainAttrs_dict F.slot_dict_items F.type_dict_items (thn (he.run pins s σ H _ I hq) fun u s1 ⟨x, H1, I1, rx, d, es, ex, hd, q⟩ => ?_)
  subst ex
  obtain rfl : u = Value.ref d := rx
  obtain ⟨l, sy, rows, rr, D⟩ := mdo_rd I1.hok hd
  obtain ⟨ens, ep, raw, heq⟩ := D.raw
  have hl : ens.size = es.length := by
    rw [row_size heq]
    exact (Paired.length rr).symm
  have I2 : Inv X pins σ H1 { s1 with heap := s1.heap.push { cls := .type "dict_items", data := .fields #[.ref d] } } := I1.kept (t' := s1.toks) fun b ob q => Heap.get?_push_of_some _ q
  refine ⟨raw.typeIs, fun b eb => ?_, ?_⟩
  · cases eb
    obtain ⟨o, ho, ex, _⟩ := raw
    exact ⟨o, ho, ex.2.1⟩
  show wpAny _ _ (callWith cpos (.builtin "dict.items") [.ref d] [] []) _ X.xe s1
  refine method_meetsIn F.slot_dict_items F.entry_dict_items rfl (PySem.evalArgs_none ⟨rfl, raw.typeIs, F.args_dict_items_1 _, _, PySem.meets_dict_items_raw d sy, ⟨ens, ep, raw⟩, ?_⟩)
  refine Calls.spliced_nil ?_
  refine PySem.W.dil_call (es := ens) (ep := ep) (d := d) (I1.ok.hd hc) ⟨_, Heap.get?_push_size _ rfl, rfl, rfl⟩ (raw.push _) (by
    rw [hl]
    exact Nat.le_of_lt (small1000 l)) fun h' tk acc c as hk hS hla hG hacc => ?_
  obtain ⟨H', k1, k2, k3, k4, k5, k6, J⟩ := items_laidM (tk := tk) I2 l rr heq hk hS hla hG hacc
  exact ⟨.ref _, H', J, rfl, q H' _ as k1 k2 k3 k4 k5 k6⟩
/-- d.clear() -/
def rClearM (w : World) : V → List V → Hp → VK → Prop := fun x vs H Q => ∃ (a : Addr) (es : List MRow), x = .ref a ∧ vs = [] ∧ H a = some (mdo w a es) ∧ Q .non (upd H a (mdo w a []))
theorem mt_clearM : MtR X "dict.clear" (rClearM X.w) := by
  intro pins s σ H x vs v us Q I rx rv h
  obtain ⟨a, es, ex, ev, e, q⟩ := h
  subst ex
  subst ev
  obtain rfl : v = Value.ref a := rx
  have hus := rv.zero
  subst hus
  obtain ⟨l, sy, rows, rr, D⟩ := mdo_rd I.hok (.inl e)
  obtain ⟨ens, ep, raw, he⟩ := D.raw
  have hl : ens.size = es.length := by
    rw [row_size he]
    exact (Paired.length rr).symm
  refine call_meetsIn F.slot_dict_clear raw.typeIs F.entry_dict_clear (F.args_dict_clear_1 _) (meets_dict_clear_raw a) ⟨ens, ep, raw, by
    rw [hl]
    exact Nat.le_of_lt (small1000 l), fun h' raw' hs => ?_⟩
  refine ⟨.non, _, wrM (tk := s.toks) (es := []) (rows := []) I e (Nat.zero_le _) sy .nil ?_ hs, rfl, q⟩
  obtain ⟨o, ho, ex, hd⟩ := raw'
  exact ⟨⟨o, #[], ep + 1, ho, ex, hd, rfl⟩, List.nodup_nil⟩
theorem pe_mclear {o : Expr} {to : TE} {apos cpos : Pos} (ho : PE X o to) (hbase : attributeBase o "clear" X.env (eval o X.env) = eval o X.env := by rfl) (hline : (apos.endLine == cpos.line) = true := by rfl) : PE X (.Call (.Attribute o "clear" apos) [] [] cpos) (tBM0 X.K "dict" (rClearM X.w) to) :=
  pe_bm0 F.plainAttrs_dict F.slot_dict_clear F.type_dict_clear mt_clearM ho hbase hline
end
end KE
end L2
end
/-! ### PD2 -/
section
namespace L2
namespace KE
open PySem PySem.Spec PyProof.Rows PySem.KD
/-- the keys are texts -/
def Txts (es : List MRow) : Prop := ∀ p ∈ es, ∃ x, p.1 = .text x ∧ p.2.1 = .str x
theorem dict_of_txts {P : Program} {w : World} {h : Heap} {d : Addr} {es : List MRow} {rows : List KD.Row} (t : Txts es) (rr : Paired MRel es rows) (D : DM w h d rows) : ∃ ka : List (Key × Value), h.DictOf (mixKind P w) d ka ∧ ka.length = es.length := by
  obtain ⟨⟨o, ens, ep, ho, hx, hd, he⟩, once⟩ := D
  have main : ∀ {es : List MRow} {rows : List KD.Row}, Txts es → Paired MRel es rows → ∃ xs : List Str, rows.map (·.1) = xs.map .text ∧ (∀ r ∈ rows, ∃ x tk, r.1 = .text x ∧ r.2.1 = .str x tk) ∧ Pairs (mixKind P w) (rows.map (rowE w)) (List.zipWith (fun x (r : KD.Row) => ((.inr x : Key), r.2.2)) xs rows) ∧ xs.length = rows.length := by
    intro es rows t rr
    induction rr with
    | nil => exact ⟨[], rfl, (fun _ z => nomatch z), .nil, rfl⟩
    | @cons p r ps rs hr _ ih =>
      obtain ⟨xs, h1, h2, h3, h4⟩ := ih fun q hq => t q (List.mem_cons_of_mem _ hq)
      obtain ⟨x, e1, e2⟩ := t p List.mem_cons_self
      have er : r.1 = .text x := hr.1.symm.trans e1
      have ev := hr.2.1
      rw [e2] at ev
      obtain ⟨tk, ev⟩ := ev
      refine ⟨x :: xs, by rw [List.map_cons, List.map_cons, h1, er], fun q hq => ?_, .cons ?_ rfl h3, by rw [List.length_cons, List.length_cons, h4]⟩
      · rcases List.mem_cons.mp hq with rfl | hq
        · exact ⟨x, tk, er, ev⟩
        · exact h2 q hq
      · show (mixKind P w).is (.inr x) r.2.1 = true
        rw [ev]
        exact mixKind_str P w x tk
  obtain ⟨xs, h1, h2, h3, h4⟩ := main t rr
  have l1 : (List.zipWith (fun x (r : KD.Row) => ((.inr x : Key), r.2.2)) xs rows).length = es.length := by
    rw [List.length_zipWith, h4, Nat.min_self]
    exact (Paired.length rr).symm
  have km : (List.zipWith (fun x (r : KD.Row) => ((.inr x : Key), r.2.2)) xs rows).map (·.1) = xs.map .inr := by
    rw [List.map_zipWith]
    clear h1 h2 h3 l1 t rr he once
    induction xs generalizing rows with
    | nil => rfl
    | cons x xs ih =>
      cases rows with
      | nil => cases h4
      | cons r rs =>
        rw [List.zipWith_cons_cons, List.map_cons, ih (Nat.succ.inj h4)]
  refine ⟨_, ⟨o, ens, ep, ho, hx, hd, fun e hm => ?_, ?_, ?_⟩, l1⟩
  · have hm2 : e ∈ rows.map (rowE w) := by
      rw [← he]
      exact Array.mem_toList_iff.mpr hm
    obtain ⟨r, hr, rfl⟩ := List.mem_map.mp hm2
    obtain ⟨x, tk, e1, e2⟩ := h2 r hr
    refine ⟨.inr x, ?_, ?_⟩
    · show (mixKind P w).is (.inr x) r.2.1 = true
      rw [e2]
      exact mixKind_str P w x tk
    · show r.1.hash w = keyH w (.inr x)
      rw [e1]
      exact nk_hash w (.inr x)
  · rw [he]
    exact h3
  · rw [km]
    rw [h1] at once
    exact List.Pairwise.map _ (fun a b ne e => ne (by rw [Sum.inr.inj e])) (List.pairwise_map.mp once)
section
variable {X : Cx} {pins : List (Addr × Obj)} {σ : St} {H : Hp} {s : Shared} {d : Addr} {xs : List MRow}
/-- d != {} -/
def rNeM (w : World) : R2 := fun x y H Q => ∃ a b es, x = .ref a ∧ y = .ref b ∧ H a = some (mdo w a es) ∧ Txts es ∧ H b = some (.dK []) ∧ Q (.bl (!es.isEmpty)) H
theorem op_neM (hu : X.A.units < cLine) : OpR X (compareOp .NotEq) (rNeM X.w) := by
  intro pins s σ H x y v u Q I rx ry h
  obtain ⟨a, b, es, rfl, rfl, ea, t, eb, q⟩ := h
  obtain rfl : v = Value.ref a := rx
  obtain rfl : u = Value.ref b := ry
  obtain ⟨l, sy, rows, rr, D⟩ := mdo_rd I.hok (.inl ea)
  obtain ⟨ka, da, hka⟩ := dict_of_txts (P := X.prog) t rr D
  obtain ⟨_, yb, vb, rb, db⟩ := (show ObjOk X.prog X.w H s.heap b (.dK []) from I.hok b _ eb)
  have e0 : vb = [] := by
    cases rb
    rfl
  subst e0
  refine PySem.W.keq_ne (knd := mixKind X.prog X.w) (r := true) sy yb da db hu (fun e => ?_) (fin_bl I q ?_)
  · have : ka = [] := List.length_eq_zero_iff.mp e
    subst this
    exact .nil
  · cases es with
    | nil =>
      have : ka = [] := List.length_eq_zero_iff.mp hka
      subst this
      rfl
    | cons p ps =>
      cases ka with
      | nil => cases hka
      | cons q qs => simp
/-- for v in d.values(), while d is locked -/
def ItvM (w : World) (d : Addr) (o : Obj) (es : List MRow) : It :=
  ⟨fun i H => H d = some (.frz o (mdo w d es)) ∧ i < es.length, fun i H x H' => H' = H ∧ ∃ p, es[i]? = some p ∧ x = p.2.2, fun i H => H d = some (.frz o (mdo w d es)) ∧ es.length ≤ i⟩
def iValsM (w : World) (td : TE) : TI := fun σ H R => td σ H fun x H1 => ∃ d o es, x = .ref d ∧ H1 d = some (.frz o (mdo w d es)) ∧ R (ItvM w d o es) H1
theorem turnVM {P : Program} {w : World} {K : PySem.W.Frag} {tg : Expr} {o : Obj} {es : List MRow} {ens : Array DictEntry} {ep : Nat} (it : Addr) (hod : o.data = .dict ens ep) : Turn P w K tg (ItvM w d o es) [it] it (fun i h => h.IsValIter it d i es.length ep) where
  mem := by simp
  obj := fun i h st b hb => by
    obtain rfl : b = it := by simpa using hb
    obtain ⟨oi, e, c, dd⟩ := st
    refine ⟨oi, e, fun v z => ?_⟩
    rw [dd] at z
    cases z
  keep := fun i h h' st k => st.at fun oi e => k it (by simp) oi e
  item := by
    intro X hP hw hK hc i pins s σ H E I hf st hg
    subst hP hw hK
    obtain ⟨hd, hi⟩ := hg
    obtain ⟨f0, f1, f2, f3, f4, f5⟩ := hf it (by simp)
    obtain ⟨sy, hgd, hx, ens', ep', hdt, hsz, ent⟩ := frzM I hd
    obtain ⟨rfl, rfl⟩ := dict_ep hod hdt
    obtain ⟨u, v, hen, r1, r2⟩ := ent i es[i] (List.getElem?_eq_getElem hi)
    have hi2 : i < ens'.size := by omega
    rw [← hsz] at st
    refine wpAny_pyNext_values_item_raw st ⟨o, hgd, hx, hdt⟩ hi2 fun h' st' sb => ?_
    have I1 : Inv X pins σ H { s with heap := h' } := I.turned (t' := s.toks) (fun b ob hb e => (sb.2 b hb).trans e) f0 f1 f3 f4 f5
    rw [hsz] at st'
    obtain ⟨oi, e, c, dd⟩ := id st'
    have ev : ens'[i].val = v := by
      rw [Array.getElem?_eq_getElem hi2] at hen
      rw [Option.some.inj hen]
    rw [ev]
    exact ⟨v, rfl, go_of (s := { s with heap := h' }) e c dd (by decide) ⟨_, H, I1, r2, ⟨rfl, es[i], List.getElem?_eq_getElem hi, rfl⟩, st', fun b hb => (hf b hb).1⟩⟩
  done := by
    intro X hP hw hK hc i pins s σ H E I hf st hg
    subst hP hw hK
    obtain ⟨hd, hi⟩ := hg
    obtain ⟨f0, f1, f2, f3, f4, f5⟩ := hf it (by simp)
    obtain ⟨sy, hgd, hx, ens', ep', hdt, hsz, ent⟩ := frzM I hd
    obtain ⟨rfl, rfl⟩ := dict_ep hod hdt
    rw [← hsz] at st hi
    exact wpAny_pyNext_values_end_raw (I.ok.hd hc) st ⟨o, hgd, hx, hdt⟩ hi fun h' eb => ⟨rfl, I.turned (t' := s.toks) (fun b ob hb e => eb b ob hb e) f0 f1 f3 f4 f5⟩
  self := fun A i s Q E st h => wpAny_pyIter_valiter st h
theorem piValsM {tg e : Expr} {td : TE} {apos cpos : Pos} (he : PE X e td) (hbase : attributeBase e "values" X.env (eval e X.env) = eval e X.env := by rfl) (hline : (apos.endLine == cpos.line) = true := by rfl) : PI X tg (.Call (.Attribute e "values" apos) [] [] cpos) (iValsM X.w td) := by
  refine ⟨fun pins s σ H R I h => ?_⟩
  refine wpAny_Call_method (T := "dict") (id := "dict.values") hbase rfl hline F.plainAttrs_dict F.slot_dict_values F.type_dict_values (thn (he.run pins s σ H _ I h) fun u s1 ⟨x, H1, I1, rx, d, o, es, ex, hd, q⟩ => ?_)
  subst ex
  obtain rfl : u = Value.ref d := rx
  obtain ⟨sy, hgd, hx, ens, ep, hdt, hsz, ent⟩ := frzM I1 hd
  have raw : s1.heap.DictRaw d ens ep := ⟨o, hgd, hx, hdt⟩
  refine ⟨raw.typeIs, fun b eb => ?_, ?_⟩
  · cases eb
    exact ⟨o, hgd, hx.2.1⟩
  have I2 : Inv X pins σ H1 { s1 with heap := s1.heap.push { cls := .type "dict_values", data := .fields #[.ref d] } } := I1.kept (t' := s1.toks) fun b ob q => Heap.get?_push_of_some _ q
  have fin : wpAny (model X.prog X.w) X.A (pyIter (.ref s1.heap.objs.size)) (PIE X pins σ tg R) X.xe { s1 with heap := s1.heap.push { cls := .type "dict_values", data := .fields #[.ref d] } } := by
    refine wpAny_pyIter_values_raw (d := d) ⟨_, Heap.get?_push_size _ rfl, rfl, rfl⟩ (raw.push _) (pi_one (tk := s1.toks) I2 _ (turnVM _ hdt) ⟨_, Heap.get?_push_size _ rfl, rfl, ?_⟩ q)
    rw [hsz]
    rfl
  show wpAny _ _ (callWith cpos (.builtin "dict.values") [.ref d] [] []) _ X.xe s1
  exact method_meetsIn F.slot_dict_values F.entry_dict_values rfl (PySem.evalArgs_none ⟨rfl, raw.typeIs, F.args_dict_values_1 _, _, meets_dict_values_raw d sy, ⟨ens, ep, raw⟩, fin⟩)
theorem walkVM {w : World} {o : Obj} {es : List MRow} : Walk (ItvM w d o es) es.length (fun H => H d = some (.frz o (mdo w d es))) (fun i H x H' => H' = H ∧ ∃ p, es[i]? = some p ∧ x = p.2.2) :=
  ⟨fun _ _ hi q => ⟨q, hi⟩, fun _ q => ⟨q, Nat.le_refl _⟩, fun _ _ _ _ _ _ y => y⟩
end
end KE
end L2
end
/-! ### PT -/
section
namespace L2
namespace KF
open PySem PySem.Spec PyProof.Rows PySem.KD KE KC PySem.KA
/-! ## heaps that grow: what stays of data in them -/
/-- tuples stay -/
def TupK (H H' : Hp) : Prop := ∀ a xs, H a = some (.tup xs) → H' a = some (.tup xs)
theorem TupK.keep0 {H H' : Hp} (t : TupK H H') : Keep [] H H' := ⟨fun a h => (nomatch h), t⟩
theorem repAll_snoc {w : World} {H : Hp} : ∀ {vs : List V} {ds : List PyData} {f : List Addr} {v : V} {d : PyData} {g : List Addr}, RepAll w H vs ds f → Rep w H v d g → RepAll w H (vs ++ [v]) (ds ++ [d]) (f ++ g)
  | _, _, _, v, d, g, .nil, r => by
    have z : RepAll w H [v] [d] (g ++ []) := .cons r .nil
    rw [List.append_nil] at z
    exact z
  | _, _, _, v, d, g, .cons (f1 := f1) (f2 := f2) h t, r => by
    rw [List.append_assoc]
    exact .cons h (repAll_snoc t r)
theorem nodup_app {l1 l2 : List Addr} (h : (l1 ++ l2).Nodup) : l1.Nodup ∧ l2.Nodup ∧ ∀ b ∈ l2, b ∉ l1 := by
  obtain ⟨h1, h2, h3⟩ := List.nodup_append.mp h
  exact ⟨h1, h2, fun b hb ha => h3 b ha b hb rfl⟩
/-- one of them exchanged -/
theorem repAll_set {w : World} {H : Hp} {v : V} {d : PyData} {g : List Addr} (r : Rep w H v d g) : ∀ {vs : List V} {ds : List PyData} {f : List Addr} (j : Nat), RepAll w H vs ds f → j < vs.length → f.Nodup → g.Nodup → (∀ a ∈ g, a ∉ f) →
    ∃ f', RepAll w H (vs.set j v) (ds.set j d) f' ∧ f'.Nodup ∧ ∀ a ∈ f', a ∈ f ∨ a ∈ g
  | _, _, _, j, .nil, h, _, _, _ => absurd h (Nat.not_lt_zero _)
  | _, _, _, 0, .cons (f1 := f1) (f2 := f2) h t, _, nf, ng, dj => by
    obtain ⟨n1, n2, n3⟩ := nodup_app nf
    refine ⟨g ++ f2, .cons r t, List.nodup_append.mpr ⟨ng, n2, fun a ha b hb e => ?_⟩, fun a ha => ?_⟩
    · subst e
      exact dj a ha (List.mem_append_right _ hb)
    · rcases List.mem_append.mp ha with h | h
      · exact .inr h
      · exact .inl (List.mem_append_right _ h)
  | _, _, _, j + 1, .cons (f1 := f1) (f2 := f2) h t, hj, nf, ng, dj => by
    obtain ⟨n1, n2, n3⟩ := nodup_app nf
    obtain ⟨f', r1, r2, r3⟩ := repAll_set r j t (Nat.lt_of_succ_lt_succ hj) n2 ng fun a ha z => dj a ha (List.mem_append_right _ z)
    refine ⟨f1 ++ f', .cons h r1, List.nodup_append.mpr ⟨n1, r2, fun a ha b hb e => ?_⟩, fun a ha => ?_⟩
    · subst e
      rcases r3 a hb with z | z
      · exact n3 a z ha
      · exact dj a z (List.mem_append_left _ ha)
    · rcases List.mem_append.mp ha with h | h
      · exact .inl (List.mem_append_left _ h)
      · rcases r3 a h with z | z
        · exact .inl (List.mem_append_right _ z)
        · exact .inr z
theorem put_set {k : NestedKey} {key v : V} : ∀ {xs : List MRow}, (xs.map (·.1)).Nodup → k ∈ xs.map (·.1) → ∃ j p, xs[j]? = some p ∧ p.1 = k ∧ putH xs k key v = xs.set j (p.1, p.2.1, v) := by
  intro xs nd hk
  have any : xs.any (fun r => NestedKey.beq r.1 k) = true := by
    obtain ⟨r, hr, e⟩ := List.mem_map.mp hk
    exact List.any_eq_true.mpr ⟨r, hr, (beq_iff _ _).mpr e⟩
  unfold putH
  rw [if_pos any]
  clear any
  induction xs with
  | nil => cases hk
  | cons x xs ih =>
    obtain ⟨n1, n2⟩ := List.nodup_cons.mp nd
    by_cases e : x.1 = k
    · refine ⟨0, x, rfl, e, ?_⟩
      rw [List.map_cons, if_pos ((beq_iff _ _).mpr e), List.set_cons_zero]
      congr 1
      have z : xs.map (fun r => if NestedKey.beq r.1 k = true then (r.1, r.2.1, v) else r) = xs.map id := by
        refine List.map_congr_left fun r hr => ?_
        rw [if_neg]
        · rfl
        · intro z
          exact n1 (List.mem_map.mpr ⟨r, hr, ((beq_iff _ _).mp z).trans e.symm⟩)
      rw [z, List.map_id]
    · have hk2 : k ∈ xs.map (·.1) := by
        rcases List.mem_cons.mp hk with z | z
        · exact absurd z.symm e
        · exact z
      obtain ⟨j, p, h1, h2, h3⟩ := ih n2 hk2
      refine ⟨j + 1, p, h1, h2, ?_⟩
      rw [List.map_cons, if_neg (fun z => e ((beq_iff _ _).mp z)), h3, List.set_cons_succ]
theorem map_set_same {α β : Type} {l : List α} {g : α → β} {y b : α} {j : Nat} (h : l[j]? = some y) (e : g b = g y) : (l.set j b).map g = l.map g := by
  refine List.ext_getElem? fun i => ?_
  rw [List.getElem?_map, List.getElem?_map]
  by_cases hi : i = j
  · subst hi
    rw [List.getElem?_set_self (List.getElem?_eq_some_iff.mp h).1, h]
    exact congrArg some e
  · rw [List.getElem?_set_ne (Ne.symm hi)]
theorem rep_but {w : World} {p : Addr} {H H' : Hp} {rows : List (Key × V)} {vs : List V} {ds : List PyData} {f : List Addr} (sb : SameBut p H H') (hp : H p = some (.dK rows)) (r : RepAll w H vs ds f) (nf : ∀ a ∈ f, a ≠ p) : RepAll w H' vs ds f := by
  refine r.keep ⟨fun a ha => ?_, fun a xs e => sb a _ (fun z => ?_) e⟩
  · cases e : H a with
    | none => exact absurd e (r.dom a ha)
    | some o => exact sb a o (nf a ha) e
  · rw [z, hp] at e
    cases e
theorem rep_updL {w : World} {D : Addr} {H : Hp} {xs : List V} {o : HO} {vs : List V} {ds : List PyData} {f : List Addr} (hD : H D = some (.lst xs)) (r : RepAll w H vs ds f) (nf : ∀ a ∈ f, a ≠ D) : RepAll w (upd H D o) vs ds f := by
  refine r.keep ⟨fun a ha => upd_ne (nf a ha), fun a ys e => ?_⟩
  have na : a ≠ D := fun z => by
    rw [z, hD] at e
    cases e
  rw [upd_ne na]
  exact e
theorem tup_but {p : Addr} {H H' : Hp} {rows : List (Key × V)} (sb : SameBut p H H') (hp : H p = some (.dK rows)) : TupK H H' := fun a xs e => sb a _ (fun z => by
  rw [z, hp] at e
  cases e) e
theorem tup_same {H H' : Hp} (s : Same H H') : TupK H H' := fun a xs e => s a _ e
theorem tup_updL {D : Addr} {H : Hp} {xs : List V} {o : HO} (hD : H D = some (.lst xs)) : TupK H (upd H D o) := fun a ys e => by
  have na : a ≠ D := fun z => by
    rw [z, hD] at e
    cases e
  rw [upd_ne na]
  exact e
theorem TupK.trans {H H1 H2 : Hp} (a : TupK H H1) (b : TupK H1 H2) : TupK H H2 := fun c xs e => b c xs (a c xs e)
theorem paired_mono {α β : Type} {R S : α → β → Prop} : ∀ {xs : List α} {ys : List β}, Paired R xs ys → (∀ x y, R x y → S x y) → Paired S xs ys
  | _, _, .nil, _ => .nil
  | _, _, .cons a t, h => .cons (h _ _ a) (paired_mono t h)
end KF
end L2
end
/-! ### PL -/
section
namespace L2
namespace KF
open PySem PySem.Spec PyProof.Rows PySem.KD KE KC PySem.KA KM TL
/-! ## _law_levels -/
abbrev sLv : Stmt := topS 31
abbrev lvN : List Str := ["_law_pen", "_law_words", "_law_levels_here", "_law_word"]
theorem scLv : FnScope lvN ["_law_pen", "_law_words", "_law_levels_here"] (defScope sLv) := ⟨rfl, rfl, rfl, by decide +kernel, rfl, by decide +kernel, by decide +kernel⟩
/-- rows of texts -/
def rowsT (ls : List (Str × Str)) : List MRow := ls.map fun q => (.text q.1, .str q.1, .str q.2)
theorem rowsT_keys (ls : List (Str × Str)) : (rowsT ls).map (·.1) = (ls.map (·.1)).map .text := by
  unfold rowsT
  rw [List.map_map, List.map_map]
  rfl
theorem nd_text {xs : List Str} (h : xs.Nodup) : (xs.map NestedKey.text).Nodup := List.Pairwise.map _ (fun a b ne e => ne (by injection e)) h
theorem rowsT_all (H : Hp) (ls : List (Str × Str)) : KAll H (rowsT ls) := fun p hp => by
  obtain ⟨q, _, rfl⟩ := List.mem_map.mp hp
  exact kAt.text H q.1
theorem rowsT_txts (ls : List (Str × Str)) : Txts (rowsT ls) := fun p hp => by
  obtain ⟨q, _, rfl⟩ := List.mem_map.mp hp
  exact ⟨q.1, rfl, rfl⟩
theorem rowsT_len (ls : List (Str × Str)) : (rowsT ls).length = ls.length := List.length_map ..
theorem merge_app : ∀ {ps xs : List MRow}, ((xs ++ ps).map (·.1)).Nodup → mergeH xs ps = xs ++ ps
  | [], xs, _ => (List.append_nil xs).symm
  | p :: ps, xs, nd => by
    have k : p.1 ∉ xs.map (·.1) := fun z => by
      rw [List.map_append, List.nodup_append] at nd
      exact nd.2.2 _ z p.1 (by simp) rfl
    show mergeH (putH xs p.1 p.2.1 p.2.2) ps = _
    rw [put_fresh k]
    have e : xs ++ p :: ps = (xs ++ [(p.1, p.2.1, p.2.2)]) ++ ps := by rw [List.append_assoc]; rfl
    rw [e] at nd ⊢
    exact merge_app nd
theorem merge_id {ps : List MRow} (nd : (ps.map (·.1)).Nodup) : mergeH [] ps = ps := merge_app (xs := []) nd
theorem paired_rowsT {H : Hp} : ∀ {ts : List Addr} {ls : List (Str × Str)}, Paired (fun (t : Addr) (q : Str × Str) => H t = some (.tup [.str q.1, .str q.2])) ts ls → Paired (fun (t : Addr) (p : MRow) => H t = some (.tup [p.2.1, p.2.2])) ts (rowsT ls)
  | _, _, .nil => .nil
  | _, _, .cons h t => .cons h (paired_rowsT t)
/-- the rows drawn so far -/
structure LvSt (H : Hp) (p c : Addr) (ns : List Int) (a : Int) (words lv : List Str) (D : Addr) (i : Nat) (Hi : Hp) : Prop where
  sb : SameBut p H Hi
  ex : ∃ ts ls a', Pn Hi p c ns a' ∧ a' ≤ a + i ∧ Hi D = some (.lst (ts.map V.ref)) ∧ Paired (fun (t : Addr) (q : Str × Str) => Hi t = some (.tup [.str q.1, .str q.2])) ts ls ∧ ls.map (·.1) = words.take i ∧ ∀ q ∈ ls, q.2 ∈ lv
structure BltL (mg : Str → Option Value) : Prop where
  dict : mg "dict" = none
  list : mg "list" = none
section
variable {P : Program} {w : World} {K : PySem.W.Frag} {mg : Str → Option Value} {base : Heap}
def spLv (K : PySem.W.Frag) (w : World) : Sp := fun vs H Q _ => ∃ (p c b l : Addr) (ns : List Int) (a : Int) (words lv : List Str), vs = [.ref p, .ref b, .ref l] ∧ Pn H p c ns a ∧ a ≤ 900000 ∧ SqL K H b (words.map V.str) ∧ b ≠ p ∧ words.Nodup ∧ words.length ≤ 60 ∧ SqL K H l (lv.map V.str) ∧ l ≠ p ∧ H l = some (.lst (lv.map V.str)) ∧ 1 ≤ lv.length ∧ lv.length ≤ 100 ∧ H b = some (.lst (words.map V.str)) ∧
  ∀ H' D ls a', SameBut p H H' → Pn H' p c ns a' → a' ≤ a + words.length → H D = none → H' D = some (mdo w D (rowsT ls)) → ls.map (·.1) = words → (∀ q ∈ ls, q.2 ∈ lv) → Q (.ref D) H'
theorem ok_lv {f fD fP : Addr} {fd fdD fdP : FuncData} (F : Fun K "_law_levels" "_law_levels" sLv f fd) (FD : Fun K "_law_draw" "_law_draw" sDraw fD fdD) (gD : mg "_law_draw" = some (.ref fD)) (bD : Binds K fdD ["_law_pen", "_law_many"] [])
    (FP : Fun K "_law_pick" "_law_pick" sPick fP fdP) (gP : mg "_law_pick" = some (.ref fP)) (bP : Binds K fdP ["_law_pen", "_law_items"] []) (B : BltD mg) (L : BltL mg) : FnOk P w K mg base CX0 3 f fd ["_law_pen", "_law_words", "_law_levels_here"] (spLv K w) := by
  have GP : FnOk P w K mg base CX0 2 fP fdP ["_law_pen", "_law_items"] (spPick K) := ok_pick FP FD gD bD B
  refine F.ok scLv (fun vs H Q E h => ?_) (fun cdv A outer s H vs Q E hr h => ?_)
  · obtain ⟨p, c, b, l, ns, a, words, lv, rfl, _⟩ := h
    rfl
  · obtain ⟨p, c, b, l, ns, a, words, lv, rfl, pn, ha, hb, nbp, wnd, w60, hl, nlp, el, l1, l100, eb, q⟩ := h
    have hc : (cxOf CX0 P w K mg base lvN "_law_levels" (defScope sLv) f cdv A outer s H E).nox.calm = true := rfl
    have hu20 : (cxOf CX0 P w K mg base lvN "_law_levels" (defScope sLv) f cdv A outer s H E).nox.A.units + 20 < cLine := by
      have := hr.un
      show (A.deeper _).units + 20 < cLine
      omega
    refine ⟨_, pss_one (ps_ret (pe_callTy (callDictM hu20 hc) (by rfl) L.dict boot_dict (pa_cons
        (pe_lc (own := [("_law_word", 3)]) (g := gName 3) (tt := tYes) rfl scLv.nd (pi_list (pv 1))
          (blkOk_by (N := lvN) (sc := defScope sLv) (by decide +kernel)) (fun _ _ _ _ _ => pg_name (i := 3) scLv.nd rfl (Or.inl rfl)) (fun _ _ _ _ _ => pts_nil)
          (fun _ _ _ _ _ => pe_tup (pa_cons (pv 3) (pa_cons (pe_call GP hr (by rfl) gP FP.kp bP .nil pass0 (pa_cons (pv 0) (pa_cons (pv 2) pa_nil))) pa_nil)))) pa_nil))), ?_⟩
    refine ⟨.ref b, rfl, b, rfl, ⟨_, hb⟩, fun D nD => ?_⟩
    have nbD : b ≠ D := ne_of_none eb nD
    have nlD : l ≠ D := ne_of_none el nD
    refine lc_list (a := b) (xs := words.map V.str) (fun i Hi => LvSt H p c ns a words lv D i Hi) ⟨Same.but (same_upd nD) p, [], [], a, pn.same (same_upd nD), by omega, upd_same, .nil, rfl, fun _ z => nomatch z⟩ (fun i Hi _ S => ?_) (fun i x Hi hx S => ?_) (fun Hi S => ?_)
    · exact .inl (.inl (S.sb b _ nbp eb))
    · obtain ⟨sb, ts, ls, a2, pn2, b2, eD, pr, lw, lvs⟩ := S
      have hi : i < words.length := by
        have := (List.getElem?_eq_some_iff.mp hx).1
        rw [List.length_map] at this
        exact this
      have ex : x = V.str words[i] := by
        rw [List.getElem?_map, List.getElem?_eq_getElem hi] at hx
        exact (Option.some.inj hx).symm
      subst ex
      refine ⟨rfl, _, rfl, .ref p, rfl, .ref l, rfl, p, c, ns, a2, _, rfl, pn2, by omega, .inl ⟨l, _, rfl, sb l _ nlp el, by rw [List.length_map]; exact l1, by rw [List.length_map]; exact l100, fun H3 y a3 sb3 pn3 b3 hy => ?_⟩⟩
      obtain ⟨v, hv, rfl⟩ := List.mem_map.mp hy
      refine ⟨by show 2 ≤ sizeLine; decide, fun T nT => ?_⟩
      have sT := same_upd (o := HO.tup [.str words[i], .str v]) nT
      have nDp : D ≠ p := pn2.ne eD
      have eD3 := sT _ _ (sb3 D _ nDp eD)
      have lts : ts.length = i := by
        have h1 := Paired.length pr
        have h2 := congrArg List.length lw
        rw [List.length_map, List.length_take] at h2
        omega
      have tk : TupK Hi (upd (upd H3 T (.tup [.str words[i], .str v])) D (.lst (ts.map V.ref ++ [.ref T]))) := fun d xs e => by
        have n1 : d ≠ p := fun z => by
          obtain ⟨l2, pen2, _⟩ := pn2.at_
          rw [z, pen2.row] at e
          cases e
        have n2 : d ≠ D := fun z => by
          rw [z, eD] at e
          cases e
        rw [upd_ne n2]
        exact sT _ _ (sb3 d _ n1 e)
      refine ⟨_, eD3, small1000 (by rw [List.length_map]; omega), fun d o nb z => ?_, ts ++ [T], ls ++ [(words[i], v)], a3, (pn3.same sT).off ?_ ?_, by omega, by rw [upd_same, List.map_append]; rfl, ?_, ?_, fun x hx => ?_⟩
      · rw [upd_ne (ne_of_none z nD)]
        exact sT _ _ (sb3 d o nb (sb d o nb z))
      · rw [upd_ne (Ne.symm nDp)]
      · have ncD : c ≠ D := fun z => pn.some.2 (z ▸ nD)
        rw [upd_ne ncD]
      · refine paired_append (paired_mono pr fun t q h => tk _ _ h) (.cons ?_ .nil)
        have nTD : T ≠ D := fun z => by
          rw [z] at nT
          rw [sb3 D _ nDp eD] at nT
          cases nT
        rw [upd_ne nTD, upd_same]
      · rw [List.map_append, lw, List.take_add_one, List.getElem?_eq_getElem hi]
        rfl
      · rcases List.mem_append.mp hx with z | z
        · exact lvs x z
        · rw [List.mem_singleton.mp z]
          exact hv
    · obtain ⟨sb, ts, ls, a2, pn2, b2, eD, pr, lw, lvs⟩ := S
      rw [List.length_map] at lw b2
      rw [List.take_length] at lw
      have ll : ls.length = words.length := by rw [← lw, List.length_map]
      have nd : ((rowsT ls).map (·.1)).Nodup := by
        rw [rowsT_keys, lw]
        exact nd_text wnd
      refine ⟨D, ts, rowsT ls, rfl, eD, paired_rowsT pr, rowsT_all _ _, by rw [rowsT_len]; omega, fun M nM => ?_⟩
      rw [merge_id nd]
      have sM := same_upd (o := mdo w M (rowsT ls)) nM
      refine q _ M ls a2 (fun d o nb z => sM _ _ (sb d o nb z)) (pn2.same sM) b2 ?_ upd_same lw lvs
      cases e : H M with
      | none => rfl
      | some o =>
        have np : M ≠ p := fun z => pn2.some.1 (z ▸ nM)
        rw [sb M o np e] at nM
        cases nM
end
end KF
end L2
end
/-! ### PO -/
section
namespace L2
namespace KF
open PySem PySem.Spec PyProof.Rows PySem.KD KE KC PySem.KA KM TL
/-! ## _law_drawn_profile -/
abbrev sDp : Stmt := topS 32
abbrev dpN : List Str := ["_law_pen", "_law_words", "_law_finals", "_law_outcome"]
theorem scDp : FnScope dpN ["_law_pen", "_law_words"] (defScope sDp) := ⟨rfl, rfl, rfl, by decide +kernel, rfl, by decide +kernel, by decide +kernel⟩
abbrev outL : List Str := ["done", "fail a", "fail b", "fail done"]
abbrev endL : List Str := ["set", "keep", "unset"]
abbrev readL : List Str := ["none", "entry", "always"]
/-- an outcome, where its row stands, the row -/
abbrev Fin := Str × Addr × List (Str × Str)
def rowsF (fs : List Fin) : List MRow := fs.map fun q => (.text q.1, .str q.1, .ref q.2.1)
theorem rowsF_keys (fs : List Fin) : (rowsF fs).map (·.1) = (fs.map (·.1)).map .text := by
  unfold rowsF
  rw [List.map_map, List.map_map]
  rfl
theorem rowsF_all (H : Hp) (fs : List Fin) : KAll H (rowsF fs) := fun p hp => by
  obtain ⟨q, _, rfl⟩ := List.mem_map.mp hp
  exact kAt.text H q.1
theorem rowsF_txts (fs : List Fin) : Txts (rowsF fs) := fun p hp => by
  obtain ⟨q, _, rfl⟩ := List.mem_map.mp hp
  exact ⟨q.1, rfl, rfl⟩
theorem rowsF_len (fs : List Fin) : (rowsF fs).length = fs.length := List.length_map ..
theorem rowsF_app (fs : List Fin) (q : Fin) : rowsF fs ++ [(.text q.1, .str q.1, .ref q.2.1)] = rowsF (fs ++ [q]) := by
  unfold rowsF
  rw [List.map_append]
  rfl
/-- the rows of finals stand where they should -/
structure FsAt (w : World) (H : Hp) (words : List Str) (fs : List Fin) : Prop where
  at_ : ∀ q ∈ fs, H q.2.1 = some (mdo w q.2.1 (rowsT q.2.2))
  keys : ∀ q ∈ fs, q.2.2.map (·.1) = words
  lev : ∀ q ∈ fs, ∀ z ∈ q.2.2, z.2 ∈ endL
theorem FsAt.off {w : World} {H H' : Hp} {words : List Str} {fs : List Fin} (F : FsAt w H words fs) (h : ∀ q ∈ fs, H' q.2.1 = H q.2.1) : FsAt w H' words fs := ⟨fun q hq => (h q hq).trans (F.at_ q hq), F.keys, F.lev⟩
/-- a drawn profile -/
structure ProfAt (w : World) (H : Hp) (D R : Addr) (words : List Str) (fs : List Fin) (rs : List (Str × Str)) : Prop where
  hD : H D = some (mdo w D (rowsF fs))
  hR : H R = some (mdo w R (rowsT rs))
  rows : FsAt w H words fs
  rk : rs.map (·.1) = words
  rl : ∀ q ∈ rs, q.2 ∈ readL
  nd : (D :: R :: fs.map (·.2.1)).Nodup
  fk : (fs.map (·.1)).Nodup
  fo : ∀ q ∈ fs, q.1 ∈ outL
  few : fs.length ≤ 3
/-- the finals drawn so far -/
structure DpSt (w : World) (H : Hp) (p c : Addr) (ns : List Int) (a : Int) (words : List Str) (D L : Addr) (os : List Str) (i : Nat) (Hi : Hp) : Prop where
  sb : SameBut p H Hi
  hL : Hi L = some (.lst (os.map V.str))
  ex : ∃ fs a', Pn Hi p c ns a' ∧ a' ≤ a + ((i * words.length : Nat) : Int) ∧ Hi D = some (mdo w D (rowsF fs)) ∧ FsAt w Hi words fs ∧ fs.map (·.1) = os.take i ∧ (D :: fs.map (·.2.1)).Nodup ∧ ∀ q ∈ fs, H q.2.1 = none ∧ q.2.1 ≠ L
theorem cut_take (xs : List V) (n : Nat) : cutV xs none (some ((n : Nat) : Int)) = xs.take n := by
  unfold cutV
  rw [HT.sIx_none, HT.sIx_nat, List.drop_zero, Nat.sub_zero]
  exact take_min n xs.length xs rfl
theorem nd_take {α : Type} {l : List α} (h : l.Nodup) (n : Nat) : (l.take n).Nodup := List.Sublist.nodup (List.take_sublist n l) h
theorem free_but {p : Addr} {H H' : Hp} (sb : SameBut p H H') (hp : H' p ≠ none) {x : Addr} (h : H' x = none) : H x = none := by
  cases e : H x with
  | none => rfl
  | some o =>
    by_cases z : x = p
    · subst z
      exact absurd h hp
    · rw [sb x o z e] at h
      cases h
theorem not_take {α : Type} {l : List α} (h : l.Nodup) {i : Nat} {x : α} (hx : l[i]? = some x) : x ∉ l.take i := fun z => by
  obtain ⟨j, hj⟩ := List.mem_iff_getElem?.mp z
  obtain ⟨hi, ei⟩ := List.getElem?_eq_some_iff.mp hx
  obtain ⟨hj1, ej⟩ := List.getElem?_eq_some_iff.mp hj
  rw [List.getElem_take] at ej
  rw [List.length_take] at hj1
  have : j = i := (List.getElem_inj h).mp (ej.trans ei.symm)
  omega
section
variable {P : Program} {w : World} {K : PySem.W.Frag} {mg : Str → Option Value} {base : Heap}
def spDP (K : PySem.W.Frag) (w : World) : Sp := fun vs H Q _ => ∃ (p c b : Addr) (ns : List Int) (a : Int) (words : List Str), vs = [.ref p, .ref b] ∧ Pn H p c ns a ∧ a ≤ 800000 ∧ H b = some (.lst (words.map V.str)) ∧ words.Nodup ∧ words.length ≤ 60 ∧
  ∀ H' T D R fs rs a', SameBut p H H' → Pn H' p c ns a' → a' ≤ a + 5 + 4 * words.length → H' T = some (.tup [.ref D, .ref R]) → H T = none → ProfAt w H' D R words fs rs → (∀ x ∈ D :: R :: fs.map (·.2.1), H x = none) → Q (.ref T) H'
theorem ok_dp {f fD fP fL fS : Addr} {fd fdD fdP fdL fdS : FuncData} (F : Fun K "_law_drawn_profile" "_law_drawn_profile" sDp f fd) (FD : Fun K "_law_draw" "_law_draw" sDraw fD fdD) (gD : mg "_law_draw" = some (.ref fD)) (bD : Binds K fdD ["_law_pen", "_law_many"] [])
    (FP : Fun K "_law_pick" "_law_pick" sPick fP fdP) (gP : mg "_law_pick" = some (.ref fP)) (bP : Binds K fdP ["_law_pen", "_law_items"] [])
    (FL : Fun K "_law_levels" "_law_levels" sLv fL fdL) (gL : mg "_law_levels" = some (.ref fL)) (bL : Binds K fdL ["_law_pen", "_law_words", "_law_levels_here"] [])
    (FS : Fun K "_law_shuffled" "_law_shuffled" sShuf fS fdS) (gS : mg "_law_shuffled" = some (.ref fS)) (bS : Binds K fdS ["_law_pen", "_law_items"] []) (B : BltD mg) (L : BltL mg) : FnOk P w K mg base CX0 4 f fd ["_law_pen", "_law_words"] (spDP K w) := by
  have GD : FnOk P w K mg base CX0 1 fD fdD ["_law_pen", "_law_many"] spDraw := ok_draw FD B
  have GS : FnOk P w K mg base CX0 2 fS fdS ["_law_pen", "_law_items"] (spShuf K) := ok_shuf FS FD gD bD B
  have GL : FnOk P w K mg base CX0 3 fL fdL ["_law_pen", "_law_words", "_law_levels_here"] (spLv K w) := ok_lv FL FD gD bD FP gP bP B L
  refine F.ok scDp (fun vs H Q E h => ?_) (fun cdv A outer s H vs Q E hr h => ?_)
  · obtain ⟨p, c, b, ns, a, words, rfl, _⟩ := h
    rfl
  · obtain ⟨p, c, b, ns, a, words, rfl, pn, ha, eb, wnd, w60, q⟩ := h
    have hr1 := hr.mono (show 1 ≤ 3 by decide)
    have hr2 := hr.mono (show 2 ≤ 3 by decide)
    have hu10 : (cxOf CX0 P w K mg base dpN "_law_drawn_profile" (defScope sDp) f cdv A outer s H E).nox.A.units + 10 < cLine := by
      have := hr.un
      show (A.deeper _).units + 10 < cLine
      omega
    refine ⟨_, pss_cons (ps_set (i := 2) scDp.nd rfl (.inl rfl) (pe_mdoR pe_dnewK))
      (pss_cons (ps_for PassesOwn.never rfl (pi_list (pe_slice sl_list (pe_call GS hr2 (by rfl) gS FS.kp bS .nil pass0 (pa_cons (pv 0) (pa_cons (pe_lst (pa_cons pe_str (pa_cons pe_str (pa_cons pe_str (pa_cons pe_str pa_nil))))) pa_nil)))
            po_none (po_some (pe_call GD hr1 (by rfl) gD FD.kp bD .nil pass0 (pa_cons (pv 0) (pa_cons pe_int pa_nil)))))) (pg_name (i := 3) scDp.nd rfl (.inl rfl))
          (pss_one (ps_asg (pe_call GL hr (by rfl) gL FL.kp bL .nil pass0 (pa_cons (pv 0) (pa_cons (pv 1) (pa_cons (pe_lst (pa_cons pe_str (pa_cons pe_str (pa_cons pe_str pa_nil)))) pa_nil)))) (pg_sub (pv 2) (pv 3) (setM hu10)))))
      (pss_one (ps_ret (pe_tup (pa_cons (pv 2) (pa_cons (pe_call GL hr (by rfl) gL FL.kp bL .nil pass0 (pa_cons (pv 0) (pa_cons (pv 1) (pa_cons (pe_lst (pa_cons pe_str (pa_cons pe_str (pa_cons pe_str pa_nil)))) pa_nil)))) pa_nil)))))), ?_⟩
    obtain ⟨l, pen, hl⟩ := pn.at_
    intro D nD
    refine ⟨D, [], upd_same, Nat.zero_le _, ?_⟩
    have sD : Same H (upd (upd H D (.dK [])) D (mdo w D (toM []))) := fun b o e => by
      have nb : b ≠ D := ne_of_none e nD
      rw [upd_ne nb, upd_ne nb]
      exact e
    have eD : (upd (upd H D (.dK [])) D (mdo w D (toM []))) D = some (mdo w D (rowsF [])) := upd_same
    refine ⟨.ref p, rfl, by show 4 ≤ sizeLine; decide, fun L0 nL0 => ?_⟩
    have s0 := same_upd (o := HO.lst (outL.map V.str)) nL0
    have hok : ∀ x ∈ outL, PyData.strOk x = true := by decide +kernel
    have s00 := sD.trans s0
    refine ⟨p, c, L0, ns, a, l, outL, rfl, pen.same s00, pn.few, pn.lo, by omega, hl, .inl (.inl upd_same), by decide, hok, fun H1 q1 ys a1 l1 sb1 nq1 pen1 g1 g2 g3 eq1 perm => ?_⟩
    refine ⟨.ref p, rfl, p, c, ns, a1, l1, 4, rfl, pen1, pn.few, by have := pn.lo; omega, by have : outL.length = 4 := rfl; omega, g3, by decide, by decide, fun H2 d a2 l2 sb2 pen2 i1 i2 i3 d0 d4 => ?_⟩
    obtain ⟨n, rfl⟩ := Int.eq_ofNat_of_zero_le d0
    have pn2 : Pn H2 p c ns a2 := ⟨⟨l2, pen2, i3⟩, pn.few, by have := pn.lo; omega⟩
    have nq1p : q1 ≠ p := fun z => by
      have y := pen1.row
      rw [← z, eq1] at y
      cases y
    have eq2 := sb2 q1 _ nq1p eq1
    refine ⟨_, rfl, q1, _, rfl, .inl (.inl eq2), fun L nL => ?_⟩
    have ec : cutV (List.map V.str ys) none (some ((n : Nat) : Int)) = (ys.take n).map V.str := by rw [cut_take, List.map_take]
    have n3 : n ≤ 3 := by omega
    have ynd : ys.Nodup := perm.nodup_iff.mpr (by decide +kernel)
    have osn : (ys.take n).Nodup := nd_take ynd n
    have osm : ∀ o ∈ ys.take n, o ∈ outL := fun o ho => perm.mem_iff.mp (List.mem_of_mem_take ho)
    have osl : (ys.take n).length ≤ 3 := by
      rw [List.length_take]
      omega
    rw [ec]
    generalize ys.take n = os at osn osm osl ⊢
    have sL := same_upd (o := HO.lst (os.map V.str)) nL
    have sbA : SameBut p H (upd H2 L (.lst (os.map V.str))) := (((Same.but s00 p).trans sb1).trans sb2).trans (Same.but sL p)
    have nDp : D ≠ p := fun z => pn.some.1 (z ▸ nD)
    have nbp : b ≠ p := pn.ne eb
    have eDA : (upd H2 L (.lst (os.map V.str))) D = some (mdo w D (rowsF [])) := sL _ _ (sb2 D _ nDp (sb1 D _ nDp (s0 _ _ eD)))
    have h01 : ((outL.length : Nat) : Int) = 4 := rfl
    refine ⟨L, rfl, ⟨_, .inl (.inl upd_same)⟩, ?_⟩
    refine for_list (xs := os.map V.str) (fun i σ Hi => ∃ y3, σ = [some (.ref p), some (.ref b), some (.ref D), y3] ∧ DpSt w H p c ns a2 words D L os i Hi) ⟨none, rfl, sbA, upd_same, [], a2, pn2.same sL, by omega, eDA, ⟨(fun _ z => nomatch z), (fun _ z => nomatch z), (fun _ z => nomatch z)⟩, rfl, by simp, (fun _ z => nomatch z)⟩ (fun i σ Hi _ S => ?_) (fun i x σ Hi hx S => ?_) (fun σ Hi S => ?_)
    · obtain ⟨_, _, S⟩ := S
      exact .inl (.inl S.hL)
    · obtain ⟨y3, rfl, sb, eL, fs, a3, pn3, b3, eD3, F, fk, nd, fr⟩ := S
      have hi : i < os.length := by
        have := (List.getElem?_eq_some_iff.mp hx).1
        rw [List.length_map] at this
        exact this
      have ex : x = V.str os[i] := by
        rw [List.getElem?_map, List.getElem?_eq_getElem hi] at hx
        exact (Option.some.inj hx).symm
      subst ex
      have hb3 : i * words.length + words.length ≤ 3 * words.length := by
        have : (i + 1) * words.length ≤ 3 * words.length := Nat.mul_le_mul_right _ (by omega)
        rw [Nat.succ_mul] at this
        exact this
      refine ⟨.ref p, rfl, .ref b, rfl, by show 3 ≤ sizeLine; decide, fun LL nLL => ?_⟩
      have sLL := same_upd (o := HO.lst (endL.map V.str)) nLL
      have eb3 := sLL _ _ (sb b _ nbp eb)
      have nLLp : LL ≠ p := fun z => pn3.some.1 (z ▸ nLL)
      refine ⟨p, c, b, LL, ns, a3, words, endL, rfl, pn3.same sLL, by omega, .inl (.inl eb3), nbp, wnd, w60, .inl (.inl upd_same), nLLp, upd_same, by decide, by decide, eb3, fun H4 E ls a4 sb4 pn4 b4 nE eE lk ll => ?_⟩
      have sb34 : SameBut p Hi H4 := (Same.but sLL p).trans sb4
      have nEi : Hi E = none := sLL.free nE
      have nEH : H E = none := free_but sb pn3.some.1 nEi
      have eD4 : H4 D = some (mdo w D (rowsF fs)) := sb34 D _ nDp eD3
      have fl : fs.length = i := by
        have := congrArg List.length fk
        rw [List.length_map, List.length_take] at this
        omega
      have nED : E ≠ D := fun z => by
        rw [z, eD3] at nEi
        cases nEi
      have nEL : E ≠ L := fun z => by
        rw [z, eL] at nEi
        cases nEi
      have nEf : ∀ q ∈ fs, q.2.1 ≠ E := fun q hq z => by
        have y := F.at_ q hq
        rw [z, nEi] at y
        cases y
      have ndf : ∀ q ∈ fs, q.2.1 ≠ D := fun q hq z => (List.nodup_cons.mp nd).1 (z ▸ List.mem_map_of_mem hq)
      have nfp : ∀ q ∈ fs, q.2.1 ≠ p := fun q hq z => pn.some.1 (z ▸ (fr q hq).1)
      refine ⟨.ref D, rfl, .str os[i], rfl, D, rowsF fs, .text os[i], rfl, eD4, by rw [rowsF_len]; omega, rowsF_all _ _, kAt.text _ _, ?_⟩
      have fresh : NestedKey.text os[i] ∉ (rowsF fs).map (·.1) := fun z => by
        rw [rowsF_keys, fk] at z
        obtain ⟨o, ho, e⟩ := List.mem_map.mp z
        injection e with e
        subst e
        exact not_take osn (List.getElem?_eq_getElem hi) ho
      rw [put_fresh fresh]
      refine ⟨_, rfl, fun d o nb z => ?_, ?_, fs ++ [(os[i], E, ls)], a4, pn4.off ?_ ?_, ?_, ?_, ⟨fun q hq => ?_, fun q hq => ?_, fun q hq => ?_⟩, ?_, ?_, fun q hq => ?_⟩
      · have n1 : d ≠ D := ne_of_none z nD
        rw [upd_ne n1]
        exact sb34 d o nb (sb d o nb z)
      · have n1 : L ≠ D := fun z => by
          rw [z, eD3] at eL
          cases eL
        have n2 : L ≠ p := pn3.ne eL
        rw [upd_ne n1]
        exact sb34 L _ n2 eL
      · rw [upd_ne (Ne.symm nDp)]
      · have n1 : c ≠ D := fun z => pn.some.2 (z ▸ nD)
        rw [upd_ne n1]
      · rw [Nat.succ_mul]
        omega
      · rw [upd_same]
        exact congrArg (fun r => some (mdo w D r)) (rowsF_app fs (os[i], E, ls))
      · rcases List.mem_append.mp hq with z | z
        · rw [upd_ne (ndf q z)]
          exact sb34 _ _ (nfp q z) (F.at_ q z)
        · rw [List.mem_singleton.mp z]
          rw [upd_ne nED]
          exact eE
      · rcases List.mem_append.mp hq with z | z
        · exact F.keys q z
        · rw [List.mem_singleton.mp z]
          exact lk
      · rcases List.mem_append.mp hq with z | z
        · exact F.lev q z
        · rw [List.mem_singleton.mp z]
          exact ll
      · rw [List.map_append, fk, List.take_add_one, List.getElem?_eq_getElem hi]
        rfl
      · rw [List.map_append, ← List.cons_append]
        refine List.nodup_append.mpr ⟨nd, by simp, fun x hx y hy e => ?_⟩
        subst e
        rw [List.mem_singleton.mp hy] at hx
        rcases List.mem_cons.mp hx with z | z
        · exact nED z
        · obtain ⟨q, hq, e⟩ := List.mem_map.mp z
          exact nEf q hq e
      · rcases List.mem_append.mp hq with z | z
        · exact fr q z
        · rw [List.mem_singleton.mp z]
          exact ⟨nEH, nEL⟩
    · obtain ⟨y3, rfl, sb, eL, fs, a3, pn3, b3, eD3, F, fk, nd, fr⟩ := S
      rw [List.length_map] at fk b3
      rw [List.take_length] at fk
      have fl : fs.length = os.length := by rw [← fk, List.length_map]
      have hb3 : os.length * words.length ≤ 3 * words.length := Nat.mul_le_mul_right _ osl
      refine ⟨.ref D, rfl, .ref p, rfl, .ref b, rfl, by show 3 ≤ sizeLine; decide, fun LL nLL => ?_⟩
      have sLL := same_upd (o := HO.lst (readL.map V.str)) nLL
      have eb3 := sLL _ _ (sb b _ nbp eb)
      have nLLp : LL ≠ p := fun z => pn3.some.1 (z ▸ nLL)
      refine ⟨p, c, b, LL, ns, a3, words, readL, rfl, pn3.same sLL, by omega, .inl (.inl eb3), nbp, wnd, w60, .inl (.inl upd_same), nLLp, upd_same, by decide, by decide, eb3, fun H4 R rs a4 sb4 pn4 b4 nR eR rk rl => ⟨by show 2 ≤ sizeLine; decide, fun T nT => ?_⟩⟩
      have sb34 : SameBut p Hi H4 := (Same.but sLL p).trans sb4
      have sT := same_upd (o := HO.tup [.ref D, .ref R]) nT
      have nRi : Hi R = none := sLL.free nR
      have sbH4 : SameBut p H H4 := sb.trans sb34
      have nRD : R ≠ D := fun z => by
        rw [z, eD3] at nRi
        cases nRi
      have nRf : ∀ q ∈ fs, q.2.1 ≠ R := fun q hq z => by
        have y := F.at_ q hq
        rw [z, nRi] at y
        cases y
      have nfp : ∀ q ∈ fs, q.2.1 ≠ p := fun q hq z => pn.some.1 (z ▸ (fr q hq).1)
      have nd' := List.nodup_cons.mp nd
      refine q _ T D R fs rs a4 (fun d o nb z => sT _ _ (sbH4 d o nb z)) (pn4.same sT) (by omega) upd_same (free_but sbH4 pn4.some.1 nT) ⟨sT _ _ (sb34 D _ nDp eD3), sT _ _ eR, ⟨fun q hq => sT _ _ (sb34 _ _ (nfp q hq) (F.at_ q hq)), F.keys, F.lev⟩, rk, rl, ?_, by rw [fk]; exact osn, fun q hq => osm _ (fk ▸ List.mem_map_of_mem hq), by omega⟩ fun x hx => ?_
      · refine List.nodup_cons.mpr ⟨fun z => ?_, List.nodup_cons.mpr ⟨fun z => ?_, nd'.2⟩⟩
        · rcases List.mem_cons.mp z with z | z
          · exact nRD z.symm
          · exact nd'.1 z
        · obtain ⟨q, hq, e⟩ := List.mem_map.mp z
          exact nRf q hq e
      · rcases List.mem_cons.mp hx with rfl | hx
        · exact nD
        rcases List.mem_cons.mp hx with rfl | hx
        · exact free_but sb pn3.some.1 nRi
        obtain ⟨q, hq, rfl⟩ := List.mem_map.mp hx
        exact (fr q hq).1
end
end KF
end L2
end
/-! ### PA0 -/
section
namespace L2
namespace KF
open PySem PySem.Spec PyProof.Rows PySem.KD KE KC PySem.KA KM TL
/-! ## data that nowhere holds itself -/
mutual
/-- as Rep, and no list or dict stands within itself -/
inductive RepA (w : World) (H : Hp) : V → PyData → List Addr → Prop
  | none : RepA w H .non .none []
  | bool (b : Bool) : RepA w H (.bl b) (.bool b) []
  | int (i : Int) : RepA w H (.int i) (.int i) []
  | str (x : Str) : RepA w H (.str x) (.str x) []
  | lst {a : Addr} {vs : List V} {ds : List PyData} {fp : List Addr} (e : H a = some (.lst vs)) (r : RepAA w H vs ds fp) (na : a ∉ fp) : RepA w H (.ref a) (.list ds) (a :: fp)
  | tup {a : Addr} {vs : List V} {ds : List PyData} {fp : List Addr} (e : H a = some (.tup vs)) (r : RepAA w H vs ds fp) : RepA w H (.ref a) (.tuple ds) fp
  | dct {a : Addr} {es : List MRow} {kvs : List (PyData × PyData)} {fv : List Addr} (e : H a = some (mdo w a es)) (ka : KAll H es) (nd : (es.map (·.1)).Nodup) (rk : RepAA w H (es.map fun r => r.2.1) (kvs.map (·.1)) []) (rv : RepAA w H (es.map fun r => r.2.2) (kvs.map (·.2)) fv) (na : a ∉ fv) : RepA w H (.ref a) (.dict kvs) (a :: fv)
inductive RepAA (w : World) (H : Hp) : List V → List PyData → List Addr → Prop
  | nil : RepAA w H [] [] []
  | cons {v : V} {d : PyData} {vs : List V} {ds : List PyData} {f1 f2 : List Addr} (h : RepA w H v d f1) (t : RepAA w H vs ds f2) : RepAA w H (v :: vs) (d :: ds) (f1 ++ f2)
end
mutual
theorem RepA.rep {w : World} {H : Hp} : ∀ {v : V} {d : PyData} {fp : List Addr}, RepA w H v d fp → Rep w H v d fp
  | _, _, _, .none => .none
  | _, _, _, .bool b => .bool b
  | _, _, _, .int i => .int i
  | _, _, _, .str x => .str x
  | _, _, _, .lst e r _ => .lst e r.rep
  | _, _, _, .tup e r => .tup e r.rep
  | _, _, _, .dct e ka nd rk rv _ => .dct e ka nd rfl rk.rep rv.rep
theorem RepAA.rep {w : World} {H : Hp} : ∀ {vs : List V} {ds : List PyData} {fp : List Addr}, RepAA w H vs ds fp → RepAll w H vs ds fp
  | _, _, _, .nil => .nil
  | _, _, _, .cons h t => .cons h.rep t.rep
end
theorem RepA.dom {w : World} {H : Hp} {v : V} {d : PyData} {fp : List Addr} (r : RepA w H v d fp) : ∀ a ∈ fp, H a ≠ Option.none := r.rep.dom
theorem RepAA.dom {w : World} {H : Hp} {vs : List V} {ds : List PyData} {fp : List Addr} (r : RepAA w H vs ds fp) : ∀ a ∈ fp, H a ≠ Option.none := r.rep.dom
theorem RepAA.length {w : World} {H : Hp} {vs : List V} {ds : List PyData} {fp : List Addr} (r : RepAA w H vs ds fp) : vs.length = ds.length := r.rep.length
mutual
theorem RepA.keep {w : World} {H H' : Hp} : ∀ {v : V} {d : PyData} {fp : List Addr}, RepA w H v d fp → Keep fp H H' → RepA w H' v d fp
  | _, _, _, .none, _ => .none
  | _, _, _, .bool b, _ => .bool b
  | _, _, _, .int i, _ => .int i
  | _, _, _, .str x, _ => .str x
  | _, _, _, .lst e r na, k => .lst ((k.at_ _ List.mem_cons_self).trans e) (r.keep (k.sub fun a h => List.mem_cons_of_mem _ h)) na
  | _, _, _, .tup e r, k => .tup (k.tup _ _ e) (r.keep k)
  | _, _, _, .dct e ka nd rk rv na, k => .dct ((k.at_ _ List.mem_cons_self).trans e) (KAll.keep ka k.tup) nd (rk.keep (k.sub fun a h => nomatch h)) (rv.keep (k.sub fun a h => List.mem_cons_of_mem _ h)) na
theorem RepAA.keep {w : World} {H H' : Hp} : ∀ {vs : List V} {ds : List PyData} {fp : List Addr}, RepAA w H vs ds fp → Keep fp H H' → RepAA w H' vs ds fp
  | _, _, _, .nil, _ => .nil
  | _, _, _, .cons r rs, k => .cons (r.keep (k.sub fun a h => List.mem_append_left _ h)) (rs.keep (k.sub fun a h => List.mem_append_right _ h))
end
theorem RepA.same {w : World} {H H' : Hp} {v : V} {d : PyData} {fp : List Addr} (r : RepA w H v d fp) (s : Same H H') : RepA w H' v d fp := r.keep (.same s r.dom)
theorem RepAA.same {w : World} {H H' : Hp} {vs : List V} {ds : List PyData} {fp : List Addr} (r : RepAA w H vs ds fp) (s : Same H H') : RepAA w H' vs ds fp := r.keep (.same s r.dom)
theorem repAA_snoc {w : World} {H : Hp} : ∀ {vs : List V} {ds : List PyData} {f : List Addr} {v : V} {d : PyData} {g : List Addr}, RepAA w H vs ds f → RepA w H v d g → RepAA w H (vs ++ [v]) (ds ++ [d]) (f ++ g)
  | _, _, _, v, d, g, .nil, r => by
    have z : RepAA w H [v] [d] (g ++ []) := .cons r .nil
    rw [List.append_nil] at z
    exact z
  | _, _, _, v, d, g, .cons (f1 := f1) (f2 := f2) h t, r => by
    rw [List.append_assoc]
    exact .cons h (repAA_snoc t r)
theorem repA_but {w : World} {p : Addr} {H H' : Hp} {rows : List (Key × V)} {vs : List V} {ds : List PyData} {f : List Addr} (sb : SameBut p H H') (hp : H p = some (.dK rows)) (r : RepAA w H vs ds f) (nf : ∀ a ∈ f, a ≠ p) : RepAA w H' vs ds f := by
  refine r.keep ⟨fun a ha => ?_, tup_but sb hp⟩
  cases e : H a with
  | none => exact absurd e (r.dom a ha)
  | some o => exact sb a o (nf a ha) e
theorem repA_updL {w : World} {D : Addr} {H : Hp} {xs : List V} {o : HO} {vs : List V} {ds : List PyData} {f : List Addr} (hD : H D = some (.lst xs)) (r : RepAA w H vs ds f) (nf : ∀ a ∈ f, a ≠ D) : RepAA w (upd H D o) vs ds f :=
  r.keep ⟨fun a ha => upd_ne (nf a ha), tup_updL hD⟩
end KF
end L2
end
/-! ### PN -/
section
namespace L2
namespace KF
open PySem PySem.Spec PyProof.Rows PySem.KD KE KC PySem.KA KM TL
/-! ## small data -/
/-- data that repr and copied take: D deep, N parts, W heavy -/
structure Nice (D N W : Nat) (d : PyData) : Prop where
  show_ : d.showable = true
  leaf : d.leavesShort 13 = true
  dep : d.depth ≤ D
  sz : sz d ≤ N
  wt : d.weight ≤ W
theorem Nice.mono {D N W D' N' W' : Nat} {d : PyData} (t : Nice D N W d) (h1 : D ≤ D') (h2 : N ≤ N') (h3 : W ≤ W') : Nice D' N' W' d := ⟨t.show_, t.leaf, Nat.le_trans t.dep h1, Nat.le_trans t.sz h2, Nat.le_trans t.wt h3⟩
theorem nice_all {D N W : Nat} : ∀ {ds : List PyData}, (∀ d ∈ ds, Nice D N W d) → PyData.showableAll ds = true ∧ PyData.leavesShortAll 13 ds = true ∧ PyData.depthAll ds ≤ D ∧ szAll ds ≤ ds.length * N ∧ PyData.weightAll ds ≤ ds.length * (W + 1)
  | [], _ => ⟨by simp only [PyData.showableAll], by simp only [PyData.leavesShortAll], by simp only [PyData.depthAll]; omega, by simp only [szAll]; omega, by simp only [PyData.weightAll]; omega⟩
  | d :: ds, h => by
    obtain ⟨h1, h2, h3, h4, h5⟩ := nice_all (ds := ds) fun x hx => h x (List.mem_cons_of_mem _ hx)
    have t := h d List.mem_cons_self
    have e : (ds.length + 1) * N = ds.length * N + N := Nat.succ_mul _ _
    have e2 : (ds.length + 1) * (W + 1) = ds.length * (W + 1) + (W + 1) := Nat.succ_mul _ _
    have t1 := t.sz
    have t2 := t.wt
    have t3 := t.dep
    refine ⟨by simp only [PyData.showableAll, t.show_, h1, Bool.and_self], by simp only [PyData.leavesShortAll, t.leaf, h2, Bool.and_self], by simp only [PyData.depthAll]; omega, by simp only [szAll, List.length_cons]; omega, by simp only [PyData.weightAll, List.length_cons]; omega⟩
theorem nice_kv {D N W : Nat} : ∀ {kvs : List (PyData × PyData)}, (∀ p ∈ kvs, Nice D N W p.1 ∧ Nice D N W p.2) → PyData.showableKv kvs = true ∧ PyData.leavesShortKv 13 kvs = true ∧ PyData.depthKv kvs ≤ D ∧ szKv kvs ≤ kvs.length * N ∧ PyData.weightKv kvs ≤ kvs.length * (2 * W + 2)
  | [], _ => ⟨by simp only [PyData.showableKv], by simp only [PyData.leavesShortKv], by simp only [PyData.depthKv]; omega, by simp only [szKv]; omega, by simp only [PyData.weightKv]; omega⟩
  | (k, v) :: r, h => by
    obtain ⟨h1, h2, h3, h4, h5⟩ := nice_kv (kvs := r) fun x hx => h x (List.mem_cons_of_mem _ hx)
    obtain ⟨kt, t⟩ := h (k, v) List.mem_cons_self
    have e : (r.length + 1) * N = r.length * N + N := Nat.succ_mul _ _
    have e2 : (r.length + 1) * (2 * W + 2) = r.length * (2 * W + 2) + (2 * W + 2) := Nat.succ_mul _ _
    have t1 : L2.KF.sz v ≤ N := t.sz
    have t2 : v.weight ≤ W := t.wt
    have t3 : v.depth ≤ D := t.dep
    have t4 : k.weight ≤ W := kt.wt
    have t5 : k.depth ≤ D := kt.dep
    have t6 : k.showable = true := kt.show_
    have t7 : v.showable = true := t.show_
    have t8 : k.leavesShort 13 = true := kt.leaf
    have t9 : v.leavesShort 13 = true := t.leaf
    refine ⟨by simp only [PyData.showableKv, t6, t7, h1, Bool.and_self], by simp only [PyData.leavesShortKv, t8, t9, h2, Bool.and_self], by simp only [PyData.depthKv]; omega, by simp only [szKv, List.length_cons]; omega, by simp only [PyData.weightKv, List.length_cons]; omega⟩
theorem Nice.list {D N W : Nat} {ds : List PyData} {k : Nat} (h : ∀ d ∈ ds, Nice D N W d) (l : ds.length ≤ k) : Nice (D + 1) (k * N + 1) (k * (W + 1)) (.list ds) := by
  obtain ⟨h1, h2, h3, h4, h5⟩ := nice_all h
  have m1 : ds.length * N ≤ k * N := Nat.mul_le_mul_right _ l
  have m2 : ds.length * (W + 1) ≤ k * (W + 1) := Nat.mul_le_mul_right _ l
  refine ⟨by simp only [PyData.showable, h1], by simp only [PyData.leavesShort, h2], by simp only [PyData.depth]; omega, ?_, ?_⟩
  · simp only [L2.KF.sz]
    omega
  · simp only [PyData.weight]
    omega
theorem Nice.tuple {D N W : Nat} {ds : List PyData} {k : Nat} (h : ∀ d ∈ ds, Nice D N W d) (l : ds.length ≤ k) : Nice (D + 1) (k * N + 1) (k * (W + 1)) (.tuple ds) := by
  obtain ⟨h1, h2, h3, h4, h5⟩ := nice_all h
  have m1 : ds.length * N ≤ k * N := Nat.mul_le_mul_right _ l
  have m2 : ds.length * (W + 1) ≤ k * (W + 1) := Nat.mul_le_mul_right _ l
  refine ⟨by simp only [PyData.showable, h1], by simp only [PyData.leavesShort, h2], by simp only [PyData.depth]; omega, ?_, ?_⟩
  · simp only [L2.KF.sz]
    omega
  · simp only [PyData.weight]
    omega
theorem Nice.dict {D N W : Nat} {kvs : List (PyData × PyData)} {k : Nat} (h : ∀ p ∈ kvs, Nice D N W p.1 ∧ Nice D N W p.2) (l : kvs.length ≤ k) : Nice (D + 1) (k * N + 1) (k * (2 * W + 2)) (.dict kvs) := by
  obtain ⟨h1, h2, h3, h4, h5⟩ := nice_kv h
  have m1 : kvs.length * N ≤ k * N := Nat.mul_le_mul_right _ l
  have m2 : kvs.length * (2 * W + 2) ≤ k * (2 * W + 2) := Nat.mul_le_mul_right _ l
  refine ⟨by simp only [PyData.showable, h1], by simp only [PyData.leavesShort, h2], by simp only [PyData.depth]; omega, ?_, ?_⟩
  · simp only [L2.KF.sz]
    omega
  · simp only [PyData.weight]
    omega
theorem nice_none : Nice 1 1 20 .none := ⟨by decide +kernel, by decide +kernel, by decide +kernel, by decide +kernel, by decide +kernel⟩
theorem nice_true : Nice 1 1 20 (.bool true) := ⟨by decide +kernel, by decide +kernel, by decide +kernel, by decide +kernel, by decide +kernel⟩
theorem nice_zero : Nice 1 1 20 (.int 0) := ⟨by decide +kernel, by decide +kernel, by decide +kernel, by decide +kernel, by decide +kernel⟩
theorem nice_one : Nice 1 1 20 (.int 1) := ⟨by decide +kernel, by decide +kernel, by decide +kernel, by decide +kernel, by decide +kernel⟩
theorem nice_str {x : Str} (h : (tl x).all (fun c => decide (c < 16 ^ 8)) = true) (l : (tl x).length ≤ 20) : Nice 1 1 20 (.str x) := by
  refine ⟨by simp only [PyData.showable], ?_, by simp only [PyData.depth]; omega, by simp only [L2.KF.sz]; omega, ?_⟩
  · simp only [PyData.leavesShort]
    exact h
  · simp only [PyData.weight]
    have : (tl x).length = x.cps.size := by simp
    omega
theorem nice_word {x : Str} (h : isWordL (tl x) = true) : Nice 1 1 20 (.str x) := by
  unfold isWordL at h
  rw [Bool.and_eq_true, Bool.and_eq_true] at h
  obtain ⟨⟨_, h2⟩, h3⟩ := h
  refine nice_str (List.all_eq_true.mpr fun c hc => ?_) (by have := of_decide_eq_true h2; omega)
  have := of_decide_eq_true (List.all_eq_true.mp h3 c hc)
  have lo : ∀ c ∈ low, c < 16 ^ 8 := by decide
  exact decide_eq_true (lo c this)
theorem strOk_word {x : Str} (h : isWordL (tl x) = true) : PyData.strOk x = true := by
  unfold isWordL at h
  rw [Bool.and_eq_true, Bool.and_eq_true] at h
  obtain ⟨_, h3⟩ := h
  have lo : ∀ c ∈ low, c < 0x110000 := by decide
  unfold PyData.strOk
  rw [Array.all_eq_true']
  intro c hc
  exact decide_eq_true (lo c (of_decide_eq_true (List.all_eq_true.mp h3 c (Array.mem_toList_iff.mpr hc))))
theorem Nice.len {D N W : Nat} {d : PyData} (t : Nice D N W d) (h : W ≤ 1000000) : d.shown.length ≤ sizeLine := PyData.shown_fits (by decide) (by decide) t.leaf (Nat.le_trans t.wt (Nat.le_trans h (by decide)))
/-! ## what is right -/
def wordD : PyData → Bool
  | .str x => isWordL (tl x)
  | _ => false
def levD (lv : List Str) : PyData → Bool
  | .str x => decide (x ∈ lv)
  | _ => false
def outD : PyData → Bool
  | .str x => decide (x = Str.ofString "done") || (decide ((tl x).take 5 = tl (Str.ofString "fail ")) && isWordL ((tl x).drop 5))
  | _ => false
/-- a row of words to levels -/
def rowD (lv : List Str) : PyData → Bool
  | .dict kvs => kvs.all fun p => wordD p.1 && levD lv p.2
  | _ => false
def eqT : PyData → PyData → Bool
  | .str x, .str y => decide (x = y)
  | _, _ => false
def kvOf : PyData → List (PyData × PyData)
  | .dict kvs => kvs
  | _ => []
/-- a key of a dict -/
def inK (k d : PyData) : Bool := (kvOf d).any fun p => eqT k p.1
def sameW (a b : PyData) : Bool := (kvOf a).all (fun p => inK p.1 b) && (kvOf b).all fun p => inK p.1 a
/-- outcomes to rows of ends, with the same words in all rows -/
def finD : PyData → Bool
  | .dict kvs => kvs.all (fun p => outD p.1 && rowD endL p.2) && kvs.all fun p => kvs.all fun q => sameW p.2 q.2
  | _ => false
def kvT (ls : List (Str × Str)) : List (PyData × PyData) := ls.map fun q => (.str q.1, .str q.2)
def kvF (fs : List Fin) : List (PyData × PyData) := fs.map fun q => (.str q.1, .dict (kvT q.2.2))
/-! ## rows as data -/
/-- what a dict holds, as data -/
structure DictAt (w : World) (H : Hp) (a : Addr) (es : List MRow) (kvs : List (PyData × PyData)) (fv : List Addr) : Prop where
  at_ : H a = some (mdo w a es)
  ka : KAll H es
  nd : (es.map (·.1)).Nodup
  rk : RepAA w H (es.map fun r => r.2.1) (kvs.map (·.1)) []
  rv : RepAA w H (es.map fun r => r.2.2) (kvs.map (·.2)) fv
  na : a ∉ fv
theorem DictAt.rep {w : World} {H : Hp} {a : Addr} {es : List MRow} {kvs : List (PyData × PyData)} {fv : List Addr} (d : DictAt w H a es kvs fv) : RepA w H (.ref a) (.dict kvs) (a :: fv) := .dct d.at_ d.ka d.nd d.rk d.rv d.na
theorem strs_rep {w : World} {H : Hp} : ∀ xs : List Str, RepAA w H (xs.map V.str) (xs.map .str) []
  | [] => .nil
  | x :: xs => .cons (.str x) (strs_rep xs)
theorem rowsT_at {w : World} {H : Hp} {a : Addr} {ls : List (Str × Str)} (e : H a = some (mdo w a (rowsT ls))) (nd : (ls.map (·.1)).Nodup) : DictAt w H a (rowsT ls) (kvT ls) [] := by
  refine ⟨e, rowsT_all _ _, by rw [rowsT_keys]; exact nd_text nd, ?_, ?_, fun z => nomatch z⟩
  · have e1 : (rowsT ls).map (fun r => r.2.1) = (ls.map (·.1)).map V.str := by
      unfold rowsT
      rw [List.map_map, List.map_map]
      rfl
    have e2 : (kvT ls).map (·.1) = (ls.map (·.1)).map .str := by
      unfold kvT
      rw [List.map_map, List.map_map]
      rfl
    rw [e1, e2]
    exact strs_rep _
  · have e1 : (rowsT ls).map (fun r => r.2.2) = (ls.map (·.2)).map V.str := by
      unfold rowsT
      rw [List.map_map, List.map_map]
      rfl
    have e2 : (kvT ls).map (·.2) = (ls.map (·.2)).map .str := by
      unfold kvT
      rw [List.map_map, List.map_map]
      rfl
    rw [e1, e2]
    exact strs_rep _
theorem rowsF_at {w : World} {H : Hp} {a : Addr} {words : List Str} {fs : List Fin} (e : H a = some (mdo w a (rowsF fs))) (F : FsAt w H words fs) (wnd : words.Nodup) (nd : (fs.map (·.1)).Nodup) (na : a ∉ fs.map (·.2.1)) : DictAt w H a (rowsF fs) (kvF fs) (fs.map (·.2.1)) := by
  refine ⟨e, rowsF_all _ _, by rw [rowsF_keys]; exact nd_text nd, ?_, ?_, na⟩
  · have e1 : (rowsF fs).map (fun r => r.2.1) = (fs.map (·.1)).map V.str := by
      unfold rowsF
      rw [List.map_map, List.map_map]
      rfl
    have e2 : (kvF fs).map (·.1) = (fs.map (·.1)).map .str := by
      unfold kvF
      rw [List.map_map, List.map_map]
      rfl
    rw [e1, e2]
    exact strs_rep _
  · obtain ⟨h1, h2, h3⟩ := F
    clear e nd h3 na
    induction fs with
    | nil => exact .nil
    | cons q fs ih =>
      have r : RepA w H (.ref q.2.1) (.dict (kvT q.2.2)) [q.2.1] := (rowsT_at (h1 q List.mem_cons_self) (by rw [h2 q List.mem_cons_self]; exact wnd)).rep
      exact .cons (f1 := [q.2.1]) r (ih (fun x hx => h1 x (List.mem_cons_of_mem _ hx)) fun x hx => h2 x (List.mem_cons_of_mem _ hx))
theorem kvT_nice {ls : List (Str × Str)} {lv : List Str} (hk : ∀ q ∈ ls, isWordL (tl q.1) = true) (hl : ∀ q ∈ ls, q.2 ∈ lv) (hv : lv = endL ∨ lv = readL) : ∀ p ∈ kvT ls, Nice 1 1 20 p.1 ∧ Nice 1 1 20 p.2 := fun p hp => by
  obtain ⟨q, hq, rfl⟩ := List.mem_map.mp hp
  refine ⟨nice_word (hk q hq), ?_⟩
  have h := hl q hq
  have all : ∀ x ∈ endL ++ readL, Nice 1 1 20 (.str x) := by
    intro x hx
    simp only [List.mem_append, List.mem_cons, List.not_mem_nil, or_false] at hx
    rcases hx with (rfl | rfl | rfl) | (rfl | rfl | rfl) <;> exact nice_str (by decide +kernel) (by decide +kernel)
  refine all q.2 (List.mem_append.mpr ?_)
  rcases hv with rfl | rfl
  · exact .inl h
  · exact .inr h
/-! ## more in a dict -/
theorem repAll_set0 {w : World} {H : Hp} {v : V} {d : PyData} {g : List Addr} (r : RepA w H v d g) : ∀ {vs : List V} {ds : List PyData} {f : List Addr} (j : Nat), RepAA w H vs ds f → j < vs.length → ∃ f', RepAA w H (vs.set j v) (ds.set j d) f' ∧ ∀ a ∈ f', a ∈ f ∨ a ∈ g
  | _, _, _, j, .nil, h => absurd h (Nat.not_lt_zero _)
  | _, _, _, 0, .cons (f1 := f1) (f2 := f2) h t, _ => ⟨g ++ f2, .cons r t, fun a ha => (List.mem_append.mp ha).elim .inr fun z => .inl (List.mem_append_right _ z)⟩
  | _, _, _, j + 1, .cons (f1 := f1) (f2 := f2) h t, hj => by
    obtain ⟨f', r1, r3⟩ := repAll_set0 r j t (Nat.lt_of_succ_lt_succ hj)
    refine ⟨f1 ++ f', .cons h r1, fun a ha => ?_⟩
    rcases List.mem_append.mp ha with h | h
    · exact .inl (List.mem_append_left _ h)
    · rcases r3 a h with z | z
      · exact .inl (List.mem_append_right _ z)
      · exact .inr z
/-- a new key behind -/
theorem DictAt.more {w : World} {H H' : Hp} {a M : Addr} {es : List MRow} {kvs : List (PyData × PyData)} {fv : List Addr} {k : NestedKey} {key v : V} {kd d : PyData} {f : List Addr} (D : DictAt w H a es kvs fv) (hk : kAt H k key) (rk : RepA w H key kd []) (r : RepA w H v d f)
    (fresh : k ∉ es.map (·.1)) (s : Same H H') (nM : H M = none) (e : H' M = some (mdo w M (mergeH [] (es ++ [(k, key, v)])))) : DictAt w H' M (es ++ [(k, key, v)]) (kvs ++ [(kd, d)]) (fv ++ f) := by
  have nd : ((es ++ [(k, key, v)]).map (·.1)).Nodup := by
    rw [List.map_append]
    refine List.nodup_append.mpr ⟨D.nd, by simp, fun x hx y hy e => ?_⟩
    subst e
    rw [List.map_cons, List.map_nil, List.mem_singleton] at hy
    have hy2 : x = k := hy
    exact fresh (hy2 ▸ hx)
  rw [merge_id nd] at e
  refine ⟨e, fun p hp => ?_, nd, ?_, ?_, fun z => ((List.mem_append.mp z).elim (fun y => D.rv.dom M y nM) fun y => r.dom M y nM)⟩
  · rcases List.mem_append.mp hp with z | z
    · exact (D.ka p z).mono (tup_same s)
    · rw [List.mem_singleton.mp z]
      exact hk.mono (tup_same s)
  · rw [List.map_append, List.map_append]
    exact (repAA_snoc D.rk rk).same s
  · rw [List.map_append, List.map_append]
    exact (repAA_snoc D.rv r).same s
/-- a key there, its value exchanged -/
theorem DictAt.other {w : World} {H H' : Hp} {a M : Addr} {ls : List (Str × Str)} {x : Str} {v : V} {d : PyData} {f : List Addr} (e0 : H a = some (mdo w a (rowsT ls))) (nd : (ls.map (·.1)).Nodup) (hx : x ∈ ls.map (·.1)) (r : RepA w H v d f)
    (s : Same H H') (nM : H M = none) (e : H' M = some (mdo w M (mergeH [] (rowsT ls ++ [(.text x, .str x, v)])))) : ∃ es j f', j < ls.length ∧ DictAt w H' M es ((kvT ls).set j (.str x, d)) f' ∧ ∀ a ∈ f', a ∈ f := by
  have D := rowsT_at e0 nd
  have e1 : mergeH [] (rowsT ls ++ [(.text x, .str x, v)]) = putH (rowsT ls) (.text x) (.str x) v := by
    have z : mergeH [] (rowsT ls ++ [(.text x, .str x, v)]) = putH (mergeH [] (rowsT ls)) (.text x) (.str x) v := by
      unfold mergeH
      rw [List.foldl_append]
      rfl
    rw [z, merge_id D.nd]
  rw [e1] at e
  obtain ⟨j, p, h1, h2, h3⟩ := put_set (k := .text x) (key := .str x) (v := v) D.nd (by rw [rowsT_keys]; exact List.mem_map_of_mem hx)
  rw [h3] at e
  obtain ⟨hj, hp⟩ := List.getElem?_eq_some_iff.mp h1
  have hjl : j < ls.length := by rw [rowsT_len] at hj; exact hj
  have pk : p = (.text x, .str x, p.2.2) := by
    obtain ⟨q, _, rfl⟩ := List.mem_map.mp (List.mem_of_getElem? h1)
    injection h2 with h2
    rw [h2]
  have kj : ((kvT ls).map (·.1))[j]? = some (.str x) := by
    have z : (rowsT ls)[j]? = some (.text ls[j].1, .str ls[j].1, .str ls[j].2) := by
      unfold rowsT
      rw [List.getElem?_map, List.getElem?_eq_getElem hjl]
      rfl
    rw [h1, pk] at z
    have y := Option.some.inj z
    injection y with y1 y2
    injection y1 with y1
    unfold kvT
    rw [List.map_map, List.getElem?_map, List.getElem?_eq_getElem hjl, y1]
    rfl
  obtain ⟨f', r1, r3⟩ := repAll_set0 r (vs := (rowsT ls).map fun r => r.2.2) (ds := (kvT ls).map (·.2)) (f := []) j D.rv (by rw [List.length_map]; exact hj)
  refine ⟨_, j, f', hjl, ⟨e, fun q hq => ?_, ?_, ?_, ?_, fun z => (r3 M z).elim (fun y => nomatch y) fun y => r.dom M y nM⟩, fun b hb => (r3 b hb).elim (fun z => nomatch z) id⟩
  · rcases List.mem_or_eq_of_mem_set hq with z | rfl
    · exact (D.ka q z).mono (tup_same s)
    · rw [pk]
      exact kAt.text _ _
  · rw [map_set_same h1 (by rfl)]
    exact D.nd
  · have m1 : ((rowsT ls).set j (p.1, p.2.1, v)).map (fun r => r.2.1) = (rowsT ls).map fun r => r.2.1 := map_set_same h1 (by rfl)
    have m2 : ((kvT ls).set j (.str x, d)).map (·.1) = (kvT ls).map (·.1) := by
      rw [List.map_set]
      refine List.ext_getElem? fun i => ?_
      by_cases hi : i = j
      · subst hi
        rw [List.getElem?_set_self (by unfold kvT; rw [List.length_map, List.length_map]; exact hjl)]
        exact kj.symm
      · rw [List.getElem?_set_ne (Ne.symm hi)]
    rw [m1, m2]
    exact D.rk.same s
  · rw [List.map_set, List.map_set]
    exact r1.same s
/-! ### a drawn profile where the heap goes on -/
theorem ProfAt.keep {w : World} {H H' : Hp} {D R : Addr} {words : List Str} {fs : List Fin} {rs : List (Str × Str)} (P : ProfAt w H D R words fs rs) (h : ∀ x o, (∃ es, o = mdo w x es) → H x = some o → H' x = some o) : ProfAt w H' D R words fs rs :=
  ⟨h _ _ ⟨_, rfl⟩ P.hD, h _ _ ⟨_, rfl⟩ P.hR, ⟨fun q hq => h _ _ ⟨_, rfl⟩ (P.rows.at_ q hq), P.rows.keys, P.rows.lev⟩, P.rk, P.rl, P.nd, P.fk, P.fo, P.few⟩
theorem ProfAt.same {w : World} {H H' : Hp} {D R : Addr} {words : List Str} {fs : List Fin} {rs : List (Str × Str)} (P : ProfAt w H D R words fs rs) (s : Same H H') : ProfAt w H' D R words fs rs := P.keep fun x o _ e => s x o e
theorem ProfAt.but {w : World} {H H' : Hp} {D R p : Addr} {words : List Str} {fs : List Fin} {rs : List (Str × Str)} {kv : List (Key × V)} (P : ProfAt w H D R words fs rs) (s : SameBut p H H') (hp : H p = some (.dK kv)) : ProfAt w H' D R words fs rs := P.keep fun x o ⟨es, eo⟩ e => s x o (fun z => by
  subst z
  rw [hp, eo] at e
  cases e) e
end KF
end L2
end
/-! ### PG -/
section
namespace L2
namespace KF
open PySem PySem.Spec PyProof.Rows PySem.KD KE KC PySem.KA KM TL
/-! ## expressions that make data out of nothing that changes -/
/-- free, or one of these -/
def Lo (S : Addr → Prop) (H : Hp) (a : Addr) : Prop := H a = none ∨ S a
theorem Lo.back {S : Addr → Prop} {H H' : Hp} {a : Addr} (s : Same H H') (l : Lo S H' a) : Lo S H a := l.imp (fun l => s.free l) id
theorem Lo.ne {S : Addr → Prop} {H : Hp} {a L : Addr} (l : Lo S H a) (e : H L ≠ none) (n : ¬ S L) : a ≠ L := fun z => by
  subst z
  exact l.elim e n
/-- t can be evaluated wherever H has grown to; only new things are made, and R holds of what comes out -/
def GivesR (t : TE) (σ : St) (H : Hp) (R : Hp → V → Hp → Prop) : Prop := ∀ H', Same H H' → ∀ Q : VK, (∀ v H'', Same H' H'' → R H' v H'' → Q v H'') → t σ H' Q
/-- just this value, nothing made -/
def Pure (v0 : V) : Hp → V → Hp → Prop := fun H' v H'' => v = v0 ∧ H'' = H'
/-- data with G, its parts new or dicts -/
def Dat (w : World) (S : Addr → Prop) (G : PyData → Prop) : Hp → V → Hp → Prop := fun H' v H'' => ∃ d f, RepA w H'' v d f ∧ G d ∧ ∀ a ∈ f, Lo S H' a
theorem same_refl (H : Hp) : Same H H := fun _ _ z => z
theorem GivesR.on {t : TE} {σ : St} {H H1 : Hp} {R : Hp → V → Hp → Prop} (g : GivesR t σ H R) (s : Same H H1) : GivesR t σ H1 R := fun H' s' Q q => g H' (s.trans s') Q q
theorem GivesR.weak {t : TE} {σ : St} {H : Hp} {R R' : Hp → V → Hp → Prop} (g : GivesR t σ H R) (h : ∀ H' v H'', R H' v H'' → R' H' v H'') : GivesR t σ H R' := fun H' s Q q => g H' s Q fun v H'' s2 r => q v H'' s2 (h _ _ _ r)
theorem pure_c {v : V} {σ : St} {H : Hp} : GivesR (tC v) σ H (Pure v) := fun H' s Q q => q v H' (same_refl _) ⟨rfl, rfl⟩
theorem dat_of {w : World} {S : Addr → Prop} {t : TE} {σ : St} {H : Hp} {v : V} {d : PyData} {f : List Addr} {G : PyData → Prop} (g : GivesR t σ H (Pure v)) (r : RepA w H v d f) (gd : G d) (lo : ∀ a ∈ f, S a) : GivesR t σ H (Dat w S G) := fun H' s Q q => g H' s Q fun u H'' s2 z => by
  obtain ⟨rfl, rfl⟩ := z
  exact q u _ (same_refl _) ⟨d, f, r.same s, gd, fun a ha => .inr (lo a ha)⟩
theorem dat_c {w : World} {S : Addr → Prop} {v : V} {d : PyData} {σ : St} {H : Hp} {G : PyData → Prop} (r : RepA w H v d []) (g : G d) : GivesR (tC v) σ H (Dat w S G) := dat_of pure_c r g fun _ z => nomatch z
/-- lists of such -/
def GivesA (w : World) (S : Addr → Prop) (t : TA) (σ : St) (H : Hp) (n : Nat) (G : PyData → Prop) : Prop := ∀ H', Same H H' → ∀ Q : List V → Hp → Prop, (∀ vs ds f H'', Same H' H'' → vs.length = n → RepAA w H'' vs ds f → (∀ d ∈ ds, G d) → (∀ a ∈ f, Lo S H' a) → Q vs H'') → t σ H' Q
theorem ga_nil {w : World} {S : Addr → Prop} {σ : St} {H : Hp} {G : PyData → Prop} : GivesA w S tNil σ H 0 G := fun H' s Q q => q [] [] [] H' (same_refl _) rfl .nil (fun _ z => nomatch z) fun _ z => nomatch z
theorem ga_cons {w : World} {S : Addr → Prop} {ta : TE} {tr : TA} {σ : St} {H : Hp} {n : Nat} {G : PyData → Prop} (h : GivesR ta σ H (Dat w S G)) (hr : GivesA w S tr σ H n G) : GivesA w S (tCons ta tr) σ H (n + 1) G := fun H' s Q q => h H' s _ fun v H1 s1 ⟨d, f, r, g, lo⟩ =>
  hr H1 (s.trans s1) _ fun vs ds f2 H2 s2 hl rs gs lo2 => q (v :: vs) (d :: ds) (f ++ f2) H2 (s1.trans s2) (congrArg Nat.succ hl) (.cons (r.same s2) rs) (fun x hx => by
    rcases List.mem_cons.mp hx with rfl | hx
    · exact g
    · exact gs x hx) fun a ha => by
    rcases List.mem_append.mp ha with z | z
    · exact lo a z
    · exact (lo2 a z).back s1
theorem dat_lst {w : World} {S : Addr → Prop} {t : TA} {σ : St} {H : Hp} {n : Nat} {G G' : PyData → Prop} (h : GivesA w S t σ H n G) (hn : n ≤ 1000) (gg : ∀ ds : List PyData, ds.length = n → (∀ d ∈ ds, G d) → G' (.list ds)) : GivesR (tLst t) σ H (Dat w S G') := fun H' s Q q =>
  h H' s _ fun vs ds f H1 s1 hl r g lo => ⟨by rw [hl]; exact Nat.le_of_lt (small1000 hn), fun L nL => q _ _ (s1.trans (same_upd nL)) ⟨.list ds, L :: f, .lst upd_same (r.same (same_upd nL)) (fun z => r.dom L z nL), gg ds (r.length.symm.trans hl) g, fun a ha => by
    rcases List.mem_cons.mp ha with rfl | z
    · exact .inl (s1.free nL)
    · exact lo a z⟩⟩
theorem dat_tup {w : World} {S : Addr → Prop} {t : TA} {σ : St} {H : Hp} {n : Nat} {G G' : PyData → Prop} (h : GivesA w S t σ H n G) (hn : n ≤ 1000) (gg : ∀ ds : List PyData, ds.length = n → (∀ d ∈ ds, G d) → G' (.tuple ds)) : GivesR (tTup t) σ H (Dat w S G') := fun H' s Q q =>
  h H' s _ fun vs ds f H1 s1 hl r g lo => ⟨by rw [hl]; exact Nat.le_of_lt (small1000 hn), fun L nL => q _ _ (s1.trans (same_upd nL)) ⟨.tuple ds, f, .tup upd_same (r.same (same_upd nL)), gg ds (r.length.symm.trans hl) g, lo⟩⟩
theorem DictAt.same {w : World} {H H' : Hp} {a : Addr} {es : List MRow} {kvs : List (PyData × PyData)} {fv : List Addr} (D : DictAt w H a es kvs fv) (s : Same H H') : DictAt w H' a es kvs fv := ⟨s _ _ D.at_, fun p hp => (D.ka p hp).mono (tup_same s), D.nd, D.rk.same s, D.rv.same s, D.na⟩
/-- list(r.items()) -/
theorem dat_items {w : World} {S : Addr → Prop} {tr : TE} {σ : St} {H : Hp} {r : Addr} {es : List MRow} {kvs : List (PyData × PyData)} {fv : List Addr} {G : PyData → Prop} (hr : GivesR tr σ H (Pure (.ref r))) (D : DictAt w H r es kvs fv) (lo : ∀ a ∈ fv, S a) (g : G (.list (kvs.map fun p => .tuple [p.1, p.2]))) :
    GivesR (tItemsM w tr) σ H (Dat w S G) := fun H' s Q q => hr H' s _ fun x H1 s1 z => by
  obtain ⟨rfl, rfl⟩ := z
  refine ⟨r, es, rfl, .inl (s _ _ D.at_), fun H2 p ts k1 n1 n2 n3 e1 pr => ?_⟩
  have s2 : Same H1 H2 := k1
  have D2 := D.same (s.trans s2)
  have all : ∀ {ts : List Addr} {es : List MRow} {kvs : List (PyData × PyData)} {fv : List Addr}, Paired (fun (t : Addr) (q : MRow) => H2 t = some (.tup [q.2.1, q.2.2])) ts es → RepAA w H2 (es.map fun r => r.2.1) (kvs.map (·.1)) [] → RepAA w H2 (es.map fun r => r.2.2) (kvs.map (·.2)) fv → RepAA w H2 (ts.map V.ref) (kvs.map fun p => .tuple [p.1, p.2]) fv := by
    intro ts es kvs fv pr
    induction pr generalizing kvs fv with
    | nil =>
      intro h1 h2
      cases kvs with
      | nil =>
        cases h2
        exact .nil
      | cons _ _ => cases h1
    | @cons t e ts es ht _ ih =>
      intro h1 h2
      cases kvs with
      | nil => cases h1
      | cons k ks =>
        have split : ∀ {v : V} {vs : List V} {d : PyData} {ds : List PyData} {f : List Addr}, RepAA w H2 (v :: vs) (d :: ds) f → ∃ f1 f2, f = f1 ++ f2 ∧ RepA w H2 v d f1 ∧ RepAA w H2 vs ds f2 := fun h => by
          cases h with
          | cons a b => exact ⟨_, _, rfl, a, b⟩
        obtain ⟨a1, a2, ea, ra, rsa⟩ := split h1
        obtain ⟨b1, b2, eb, rb, rsb⟩ := split h2
        obtain ⟨rfl, rfl⟩ := List.append_eq_nil_iff.mp ea.symm
        subst eb
        have two : RepAA w H2 [e.2.1, e.2.2] [k.1, k.2] b1 := by
          have z : RepAA w H2 [e.2.1, e.2.2] [k.1, k.2] ([] ++ (b1 ++ [])) := .cons ra (.cons rb .nil)
          rw [List.append_nil] at z
          exact z
        exact .cons (.tup ht two) (ih rsa rsb)
  refine q _ H2 s2 ⟨.list (kvs.map fun p => .tuple [p.1, p.2]), p :: fv, .lst e1 (all pr D2.rk D2.rv) (fun z => (D.same s).rv.dom p z n1), g, fun a ha => ?_⟩
  rcases List.mem_cons.mp ha with rfl | z
  · exact .inl n1
  · exact .inr (lo a z)
/-- dict(list(r.items()) + [(k, v)]) -/
abbrev tPlus (w : World) (tr tk tv : TE) : TE := tCB (fun ys H Q => ∃ (a : Addr) (ts : List Addr) (ps : List MRow), ys = [.ref a] ∧ H a = some (.lst (ts.map .ref)) ∧ Paired (fun (t : Addr) (p : MRow) => H t = some (.tup [p.2.1, p.2.2])) ts ps ∧ KAll H ps ∧ ps.length ≤ 900 ∧ ∀ d, H d = none → Q (.ref d) (upd H d (mdo w d (mergeH [] ps))))
  (tCons (tOp rCat (tItemsM w tr) (tLst (tCons (tTup (tCons tk (tCons tv tNil))) tNil))) tNil)
theorem plus_raw {w : World} {tr tk tv : TE} {σ : St} {H : Hp} {r : Addr} {es : List MRow} {k : NestedKey} {key : V} {R : Hp → V → Hp → Prop} (hr : GivesR tr σ H (Pure (.ref r))) (at_ : H r = some (mdo w r es)) (ka : KAll H es) (le : es.length ≤ 100)
    (hk : GivesR tk σ H (Pure key)) (kk : kAt H k key) (hv : GivesR tv σ H R) : GivesR (tPlus w tr tk tv) σ H (fun H' u H'' => ∃ H1 H2 v M, Same H' H1 ∧ Same H1 H2 ∧ R H1 v H2 ∧ Same H2 H'' ∧ u = .ref M ∧ H2 M = none ∧ H'' M = some (mdo w M (mergeH [] (es ++ [(k, key, v)])))) := fun H' s Q q => hr H' s _ fun x Hx s1 z => by
  obtain ⟨rfl, rfl⟩ := z
  refine ⟨r, es, rfl, .inl (s _ _ at_), fun H1 p ts k1 n1 n2 n3 e1 pr => ?_⟩
  have sb : Same Hx H1 := k1
  refine hk H1 (s.trans sb) _ fun y Hy s3 z => ?_
  obtain ⟨rfl, rfl⟩ := z
  refine hv Hy (s.trans sb) _ fun v H2 s4 rv => ⟨by show 2 ≤ sizeLine; decide, fun T nT => ⟨by show 1 ≤ sizeLine; decide, fun L nL => ?_⟩⟩
  have sT := same_upd (o := HO.tup [y, v]) nT
  have sL := same_upd (o := HO.lst [.ref T]) nL
  refine ⟨p, L, _, _, rfl, rfl, sL _ _ (sT _ _ (s4 _ _ e1)), upd_same, ?_, fun C nC => ?_⟩
  · have h1 := Paired.length pr
    rw [List.length_map]
    show _ + 1 ≤ sizeLine
    have := small1000 (n := ts.length + 1) (by omega)
    omega
  have sC := same_upd (o := HO.lst (ts.map V.ref ++ [.ref T])) nC
  have sAll := ((s4.trans sT).trans sL).trans sC
  refine ⟨C, ts ++ [T], es ++ [(k, y, v)], rfl, by rw [upd_same, List.map_append]; rfl, ?_, fun e he => ?_, by rw [List.length_append]; show _ + 1 ≤ 900; omega, fun M nM => ?_⟩
  · refine paired_append (paired_mono pr fun t q h => sAll _ _ h) (.cons (sC _ _ (sL _ _ upd_same)) .nil)
  · rcases List.mem_append.mp he with z | z
    · exact (ka e z).mono (tup_same ((s.trans sb).trans sAll))
    · rw [List.mem_singleton.mp z]
      exact kk.mono (tup_same ((s.trans sb).trans sAll))
  have sM := same_upd (o := mdo w M (mergeH [] (es ++ [(k, y, v)]))) nM
  refine q _ _ ((sb.trans sAll).trans sM) ⟨Hy, H2, v, M, sb, s4, rv, ((sT.trans sL).trans sC).trans sM, rfl, ?_, upd_same⟩
  exact ((sT.trans sL).trans sC).free nM
/-- with a new key -/
theorem plus_new {w : World} {S : Addr → Prop} {tr tk tv : TE} {σ : St} {H : Hp} {r : Addr} {es : List MRow} {kvs : List (PyData × PyData)} {fv : List Addr} {k : NestedKey} {key : V} {kd : PyData} {G G' : PyData → Prop} (hr : GivesR tr σ H (Pure (.ref r))) (D : DictAt w H r es kvs fv) (lo : ∀ a ∈ fv, S a) (le : es.length ≤ 100)
    (hk : GivesR tk σ H (Pure key)) (kk : kAt H k key) (rk : RepA w H key kd []) (fresh : k ∉ es.map (·.1)) (hv : GivesR tv σ H (Dat w S G)) (gg : ∀ d, G d → G' (.dict (kvs ++ [(kd, d)]))) : GivesR (tPlus w tr tk tv) σ H (Dat w S G') := fun H' s Q q =>
  plus_raw hr D.at_ D.ka le hk kk hv H' s Q fun u H'' s2 ⟨H1, H2, v, M, t1, t12, ⟨d, f, rv, gd, lf⟩, t2, e1, nM, eM⟩ => by
    subst e1
    have sH2 := s.trans (t1.trans t12)
    refine q _ _ s2 ⟨_, M :: (fv ++ f), ((D.same sH2).more (kk.mono (tup_same sH2)) (rk.same sH2) rv fresh t2 nM eM).rep, gg d gd, fun a ha => ?_⟩
    rcases List.mem_cons.mp ha with rfl | z
    · exact .inl ((t1.trans t12).free nM)
    rcases List.mem_append.mp z with z | z
    · exact .inr (lo a z)
    · exact (lf a z).back t1
/-- with a value for a key that is there -/
theorem plus_other {w : World} {S : Addr → Prop} {tr tk tv : TE} {σ : St} {H : Hp} {r : Addr} {ls : List (Str × Str)} {x : Str} {v : V} {d : PyData} {f : List Addr} {G' : PyData → Prop} (hr : GivesR tr σ H (Pure (.ref r))) (e0 : H r = some (mdo w r (rowsT ls))) (nd : (ls.map (·.1)).Nodup) (le : ls.length ≤ 100)
    (hk : GivesR tk σ H (Pure (.str x))) (hx : x ∈ ls.map (·.1)) (hv : GivesR tv σ H (Pure v)) (rv : RepA w H v d f) (lf : ∀ a ∈ f, S a) (gg : ∀ j, j < ls.length → G' (.dict ((kvT ls).set j (.str x, d)))) : GivesR (tPlus w tr tk tv) σ H (Dat w S G') := fun H' s Q q =>
  plus_raw hr e0 (rowsT_all _ _) (by rw [rowsT_len]; exact le) hk (kAt.text H x) hv H' s Q fun u H'' s2 ⟨H1, H2, v', M, t1, t12, ⟨ev, eH⟩, t2, e1, nM, eM⟩ => by
    subst e1 ev eH
    have sH2 := s.trans t1
    obtain ⟨es, j, f', hj, D, sub⟩ := DictAt.other (sH2 _ _ e0) nd hx (rv.same sH2) t2 nM eM
    refine q _ _ s2 ⟨_, M :: f', D.rep, gg j hj, fun a ha => ?_⟩
    rcases List.mem_cons.mp ha with rfl | z
    · exact .inl (t1.free nM)
    · exact .inr (lf a (sub a z))
/-- an item of a list that stands -/
theorem pure_ix {K : PySem.W.Frag} {i : Nat} {n : Int} {j : Nat} {σ : St} {H : Hp} {l : Addr} {xs : List V} {v : V} (hi : GivesR (tVar i) σ H (Pure (.ref l))) (e : H l = some (.lst xs)) (hn : n = ((j : Nat) : Int)) (hv : xs[j]? = some v) : GivesR (tOp (rIxL K) (tVar i) (tC (.int n))) σ H (Pure v) := fun H' s Q q =>
  hi H' s _ fun x Hx s1 z => by
    obtain ⟨rfl, rfl⟩ := z
    subst hn
    exact ⟨l, xs, _, v, rfl, rfl, .inl (.inl (s _ _ e)), atN hv, q v _ (same_refl _) ⟨rfl, rfl⟩⟩
theorem pure_var {i : Nat} {σ : St} {H : Hp} {v : V} (e : σ[i]? = some (some v)) : GivesR (tVar i) σ H (Pure v) := fun H' s Q q => ⟨v, e, q v H' (same_refl _) ⟨rfl, rfl⟩⟩
/-- a bag of drawn things -/
structure Bag (w : World) (S : Addr → Prop) (H : Hp) (L : Addr) (G : PyData → Prop) (vs : List V) : Prop where
  at_ : H L = some (.lst vs)
  ex : ∃ ds f, RepAA w H vs ds f ∧ (∀ d ∈ ds, G d) ∧ ∀ a ∈ f, S a ∧ a ≠ L
theorem repAll_mem {w : World} {H : Hp} : ∀ {vs : List V} {ds : List PyData} {f : List Addr} {v : V}, RepAA w H vs ds f → v ∈ vs → ∃ d g, RepA w H v d g ∧ d ∈ ds ∧ ∀ a ∈ g, a ∈ f
  | _, _, _, _, .nil, h => nomatch h
  | _, _, _, _, .cons (f1 := f1) (f2 := f2) r rs, h => by
    rcases List.mem_cons.mp h with rfl | h
    · exact ⟨_, f1, r, List.mem_cons_self, fun a ha => List.mem_append_left _ ha⟩
    · obtain ⟨d, g, r2, hd, sub⟩ := repAll_mem rs h
      exact ⟨d, g, r2, List.mem_cons_of_mem _ hd, fun a ha => List.mem_append_right _ (sub a ha)⟩
/-- one of it -/
theorem Bag.one {w : World} {S : Addr → Prop} {H : Hp} {L : Addr} {G : PyData → Prop} {vs : List V} {v : V} (b : Bag w S H L G vs) (h : v ∈ vs) : ∃ d f, RepA w H v d f ∧ G d ∧ ∀ a ∈ f, S a := by
  obtain ⟨ds, f, rs, gs, lo⟩ := b.ex
  obtain ⟨d, g, r, hd, sub⟩ := repAll_mem rs h
  exact ⟨d, g, r, gs d hd, fun a ha => (lo a (sub a ha)).1⟩
/-- one more -/
theorem Bag.snoc {w : World} {S : Addr → Prop} {H : Hp} {L : Addr} {G : PyData → Prop} {vs : List V} {v : V} {d : PyData} {f : List Addr} (b : Bag w S H L G vs) (r : RepA w H v d f) (g : G d) (lo : ∀ a ∈ f, S a ∧ a ≠ L) : Bag w S (upd H L (.lst (vs ++ [v]))) L G (vs ++ [v]) := by
  obtain ⟨at_, ds, f0, rs, gs, lo0⟩ := b
  have all : ∀ a ∈ f0 ++ f, S a ∧ a ≠ L := fun a ha => (List.mem_append.mp ha).elim (lo0 a) (lo a)
  refine ⟨upd_same, ds ++ [d], f0 ++ f, repA_updL at_ (repAA_snoc rs r) fun a ha => (all a ha).2, fun x hx => ?_, all⟩
  rcases List.mem_append.mp hx with z | z
  · exact gs x z
  · rw [List.mem_singleton.mp z]
    exact g
theorem Bag.same {w : World} {S : Addr → Prop} {H H' : Hp} {L : Addr} {G : PyData → Prop} {vs : List V} (b : Bag w S H L G vs) (s : Same H H') : Bag w S H' L G vs := by
  obtain ⟨at_, ds, f0, rs, gs, lo0⟩ := b
  exact ⟨s _ _ at_, ds, f0, rs.same s, gs, lo0⟩
theorem Bag.but {w : World} {S : Addr → Prop} {H H' : Hp} {L p : Addr} {G : PyData → Prop} {vs : List V} {rows : List (Key × V)} (b : Bag w S H L G vs) (s : SameBut p H H') (hp : H p = some (.dK rows)) (np : ¬ S p) : Bag w S H' L G vs := by
  obtain ⟨at_, ds, f0, rs, gs, lo0⟩ := b
  refine ⟨s L _ (fun z => ?_) at_, ds, f0, repA_but s hp rs (fun a ha z => ?_), gs, lo0⟩
  · subst z
    rw [hp] at at_
    cases at_
  · subst z
    exact np (lo0 a ha).1
theorem repAll_app {w : World} {H : Hp} : ∀ {vs : List V} {ds : List PyData} {f : List Addr} {us : List V} {es : List PyData} {g : List Addr}, RepAA w H vs ds f → RepAA w H us es g → RepAA w H (vs ++ us) (ds ++ es) (f ++ g)
  | _, _, _, _, _, _, .nil, r => r
  | _, _, _, _, _, _, .cons (f1 := f1) (f2 := f2) h t, r => by
    rw [List.append_assoc]
    exact .cons h (repAll_app t r)
theorem Bag.of {w : World} {S : Addr → Prop} {H : Hp} {L : Addr} {G : PyData → Prop} {vs : List V} {ds : List PyData} {f : List Addr} (r : RepAA w H vs ds f) (g : ∀ d ∈ ds, G d) (lo : ∀ a ∈ f, S a) (n : H L = none) : Bag w S (upd H L (.lst vs)) L G vs :=
  ⟨upd_same, ds, f, r.same (same_upd n), g, fun a ha => ⟨lo a ha, fun z => r.dom a ha (z ▸ n)⟩⟩
theorem Bag.cat {w : World} {S : Addr → Prop} {H H1 : Hp} {L L2 : Addr} {G : PyData → Prop} {vs us : List V} {es : List PyData} {g : List Addr} (b : Bag w S H L G vs) (s : Same H H1) (r : RepAA w H1 us es g) (ge : ∀ d ∈ es, G d) (lo : ∀ a ∈ g, S a) (n : H1 L2 = none) : Bag w S (upd H1 L2 (.lst (vs ++ us))) L2 G (vs ++ us) := by
  obtain ⟨at_, ds, f, rs, gs, lf⟩ := b
  refine Bag.of (repAll_app (rs.same s) r) (fun d hd => ?_) (fun a ha => ?_) n
  · rcases List.mem_append.mp hd with z | z
    · exact gs d z
    · exact ge d z
  · rcases List.mem_append.mp ha with z | z
    · exact (lf a z).1
    · exact lo a z
/-- all but a list that is not among them stays -/
theorem repL_but {w : World} {L : Addr} {H H' : Hp} {xs : List V} {vs : List V} {ds : List PyData} {f : List Addr} (sb : SameBut L H H') (hL : H L = some (.lst xs)) (r : RepAA w H vs ds f) (nf : ∀ a ∈ f, a ≠ L) : RepAA w H' vs ds f := by
  refine r.keep ⟨fun a ha => ?_, fun a xs e => sb a _ (fun z => ?_) e⟩
  · cases e : H a with
    | none => exact absurd e (r.dom a ha)
    | some o => exact sb a o (nf a ha) e
  · rw [z, hL] at e
    cases e
end KF
end L2
end
/-! ### CL -/
section
namespace L2
namespace KF
open PySem PySem.Spec PyProof.Rows
/-! ## readings opened step by step -/
theorem c_next {D : Ends} {σ : St} {H : Hp} (h : D.nx σ H) : tNext D σ H := h
theorem c_seq {t u : TS} {D : Ends} {σ : St} {H : Hp} (h : t { D with nx := u D } σ H) : tSeq t u D σ H := h
theorem c_ret {t : TE} {D : Ends} {σ : St} {H : Hp} (h : t σ H D.rt) : tRet t D σ H := h
theorem c_lst {t : TA} {σ : St} {H : Hp} {Q : VK} (h : t σ H fun xs H1 => xs.length ≤ sizeLine ∧ ∀ p, H1 p = none → Q (.ref p) (upd H1 p (.lst xs))) : tLst t σ H Q := h
theorem c_cons {t : TE} {u : TA} {σ : St} {H : Hp} {Q : List V → Hp → Prop} (h : t σ H fun x H1 => u σ H1 fun xs H2 => Q (x :: xs) H2) : tCons t u σ H Q := h
theorem c_asg {t : TE} {g : TG} {D : Ends} {σ : St} {H : Hp} (h : t σ H fun x H1 => g x σ H1 D.nx) : tAsg t g D σ H := h
theorem c_name {i : Nat} {x : V} {σ : St} {H : Hp} {Q : St → Hp → Prop} (h : Q (σ.set i (some x)) H) : gName i x σ H Q := h
theorem c_nx {nx bk ct : St → Hp → Prop} {rt : VK} {σ : St} {H : Hp} (h : nx σ H) : (Ends.mk nx rt bk ct).nx σ H := h
theorem c_for {K : PySem.W.Frag} {te : TE} {g : TG} {tb : TS} {D : Ends} {σ : St} {H : Hp} (h : te σ H fun x H1 => ∃ a, x = .ref a ∧ (∃ xs, SqL K H1 a xs) ∧ ∃ W : Nat → Nat → St → Hp → Prop, (∃ m, W 0 m σ H1) ∧ ∀ i m σ H, W i m σ H →
    ((Itl K a).stop i H ∧ D.nx σ H) ∨ ((Itl K a).go i H ∧ ∃ N : St → Hp → Prop, (∀ σ' H', N σ' H' → ∃ m', m' < m ∧ W (i + 1) m' σ' H') ∧ ∀ x H', (Itl K a).yld i H x H' → g x σ H' fun σ2 H2 => tb { D with nx := N, ct := N, bk := D.nx } σ2 H2)) : tFor (iList K te) g tb D σ H := h
theorem c_op {r : R2} {ta tb : TE} {σ : St} {H : Hp} {Q : VK} (h : ta σ H fun x H1 => tb σ H1 fun y H2 => r x y H2 Q) : tOp r ta tb σ H Q := h
theorem c_cut {t u : TS} {D : Ends} {σ : St} {H : Hp} (P : St → Hp → Prop) (tail : ∀ σ H, P σ H → u D σ H) (h : (∀ σ H, P σ H → u D σ H) → t { D with nx := u D } σ H) : tSeq t u D σ H := h tail
theorem c_const {v : V} {σ : St} {H : Hp} {Q : VK} (h : Q v H) : tC v σ H Q := h
theorem c_lc {wi : TI} {g : TG} {tt : TT} {te : TE} {vs : List Nat} {σ : St} {H : Hp} {Q : VK} (h : wi σ H fun J H1 => ∀ D, H1 D = none → ∃ W : Nat → Nat → Hp → Prop, (∃ m, W 0 m (upd H1 D (.lst []))) ∧ ∀ i m H, W i m H →
    (J.stop i H ∧ Q (.ref D) H) ∨ (J.go i H ∧ ∃ Nx : Hp → Prop, (∀ H', Nx H' → ∃ m', m' < m ∧ W (i + 1) m' H') ∧ ∀ x H', J.yld i H x H' → g x (wipe σ vs) H' fun σ2 H2 => wipe σ2 vs = wipe σ vs ∧ tt σ2 H2 fun b H3 =>
      if b = true then te σ2 H3 fun y H4 => ∃ acc, H4 D = some (.lst acc) ∧ acc.length < sizeLine ∧ Nx (upd H4 D (.lst (acc ++ [y]))) else Nx H3)) : tLc wi g tt te vs σ H Q := h
end KF
end L2
end
/-! ### PB -/
section
namespace L2
namespace KF
open PySem PySem.Spec PyProof.Rows PySem.KD KE KC PySem.KA KM TL
/-! ## _law_bent_row -/
abbrev sBR : Stmt := topS 34
abbrev brN : List Str := ["_law_pen", "_law_row", "_law_levels_here", "_law_words", "_law_some", "_law_word", "_law_level"]
theorem scBR : FnScope brN ["_law_pen", "_law_row", "_law_levels_here"] (defScope sBR) := ⟨rfl, rfl, rfl, by decide +kernel, rfl, by decide +kernel, by decide +kernel⟩
/-! ### rows of levels -/
structure RowOk (lv : List Str) (ls : List (Str × Str)) : Prop where
  nd : (ls.map (·.1)).Nodup
  few : ls.length ≤ 3
  word : ∀ q ∈ ls, isWordL (tl q.1) = true ∧ (tl q.1).take 2 ≠ [113, 113]
  lev : ∀ q ∈ ls, q.2 ∈ lv
  lv_ : lv = endL ∨ lv = readL
/-- a bent row -/
def BentR (lv : List Str) (d : PyData) : Prop := Nice 3 10 200 d ∧ rowD lv d = false
theorem rowD_key {lv : List Str} {kvs : List (PyData × PyData)} {k d : PyData} (h : wordD k = false) : rowD lv (.dict (kvs ++ [(k, d)])) = false := by
  simp only [rowD, List.all_append, List.all_cons, List.all_nil, h, Bool.false_and, Bool.and_false]
theorem rowD_val {lv : List Str} {kvs : List (PyData × PyData)} {k d : PyData} (h : levD lv d = false) : rowD lv (.dict (kvs ++ [(k, d)])) = false := by
  simp only [rowD, List.all_append, List.all_cons, List.all_nil, h, Bool.false_and, Bool.and_false]
theorem rowD_set {lv : List Str} {kvs : List (PyData × PyData)} {k d : PyData} {j : Nat} (hj : j < kvs.length) (h : levD lv d = false) : rowD lv (.dict (kvs.set j (k, d))) = false := by
  simp only [rowD]
  refine List.all_eq_false.mpr ⟨(k, d), List.mem_set hj _, ?_⟩
  simp only [h, Bool.and_false, Bool.false_eq_true, not_false_eq_true]
theorem RowOk.fresh {lv : List Str} {ls : List (Str × Str)} (R : RowOk lv ls) {x : Str} (h : isWordL (tl x) = false ∨ (tl x).take 2 = [113, 113]) : NestedKey.text x ∉ (rowsT ls).map (·.1) := fun z => by
  rw [rowsT_keys] at z
  obtain ⟨y, hy, e⟩ := List.mem_map.mp z
  injection e with e
  subst e
  obtain ⟨q, hq, e⟩ := List.mem_map.mp hy
  subst e
  obtain ⟨h1, h2⟩ := R.word q hq
  rcases h with h | h
  · rw [h1] at h
    cases h
  · exact h2 h
theorem fresh_num (ls : List (Str × Str)) (i : Int) : NestedKey.num i ∉ (rowsT ls).map (·.1) := fun z => by
  rw [rowsT_keys] at z
  obtain ⟨y, _, e⟩ := List.mem_map.mp z
  cases e
theorem kvT_len (ls : List (Str × Str)) : (kvT ls).length = ls.length := List.length_map ..
theorem RowOk.nice {lv : List Str} {ls : List (Str × Str)} (R : RowOk lv ls) : ∀ p ∈ kvT ls, Nice 1 1 20 p.1 ∧ Nice 1 1 20 p.2 := kvT_nice (fun q hq => (R.word q hq).1) R.lev R.lv_
theorem RowOk.more {lv : List Str} {ls : List (Str × Str)} (R : RowOk lv ls) {k d : PyData} (hk : Nice 1 1 20 k) (hd : Nice 2 2 21 d) : Nice 3 10 200 (.dict (kvT ls ++ [(k, d)])) := by
  have few := R.few
  refine (Nice.dict (D := 2) (N := 2) (W := 21) (k := 4) (fun p hp => ?_) (by rw [List.length_append, kvT_len]; show _ + 1 ≤ 4; omega)).mono (by decide) (by decide) (by decide)
  rcases List.mem_append.mp hp with z | z
  · have := R.nice p z
    exact ⟨this.1.mono (by decide) (by decide) (by decide), this.2.mono (by decide) (by decide) (by decide)⟩
  · rw [List.mem_singleton.mp z]
    exact ⟨hk.mono (by decide) (by decide) (by decide), hd⟩
theorem RowOk.set {lv : List Str} {ls : List (Str × Str)} (R : RowOk lv ls) {k d : PyData} {j : Nat} (hk : Nice 1 1 20 k) (hd : Nice 2 2 21 d) : Nice 3 10 200 (.dict ((kvT ls).set j (k, d))) := by
  have few := R.few
  refine (Nice.dict (D := 2) (N := 2) (W := 21) (k := 4) (fun p hp => ?_) (by rw [List.length_set, kvT_len]; omega)).mono (by decide) (by decide) (by decide)
  rcases List.mem_or_eq_of_mem_set hp with z | z
  · have := R.nice p z
    exact ⟨this.1.mono (by decide) (by decide) (by decide), this.2.mono (by decide) (by decide) (by decide)⟩
  · rw [z]
    exact ⟨hk.mono (by decide) (by decide) (by decide), hd⟩
theorem RowOk.items {lv : List Str} {ls : List (Str × Str)} (R : RowOk lv ls) : Nice 3 10 200 (.list ((kvT ls).map fun p => .tuple [p.1, p.2])) := by
  have few := R.few
  refine (Nice.list (D := 2) (N := 3) (W := 42) (k := 3) (fun d hd => ?_) (by rw [List.length_map, kvT_len]; exact few)).mono (by decide) (by decide) (by decide)
  obtain ⟨p, hp, rfl⟩ := List.mem_map.mp hd
  obtain ⟨h1, h2⟩ := R.nice p hp
  refine (Nice.tuple (D := 1) (N := 1) (W := 20) (k := 2) (fun x hx => ?_) (Nat.le_refl _)).mono (by decide) (by decide) (by decide)
  rcases List.mem_cons.mp hx with rfl | hx
  · exact h1
  · rw [List.mem_singleton.mp hx]
    exact h2
section
variable {P : Program} {w : World} {K : PySem.W.Frag} {mg : Str → Option Value} {base : Heap}
def spBR (K : PySem.W.Frag) (w : World) : Sp := fun vs H Q _ => ∃ (p c r l : Addr) (ns : List Int) (a : Int) (ls : List (Str × Str)) (lv : List Str), vs = [.ref p, .ref r, .ref l] ∧ Pn H p c ns a ∧ a ≤ 900000 ∧ H r = some (mdo w r (rowsT ls)) ∧ H l = some (.lst (lv.map V.str)) ∧ RowOk lv ls ∧
  ∀ H' v d f a', SameBut p H H' → Pn H' p c ns a' → a' ≤ a + 2 → RepA w H' v d f → BentR lv d → (∀ x ∈ f, Lo (fun a => ∃ es, H a = some (mdo w a es)) H x) → Q v H'
theorem ok_br {f fD fP : Addr} {fd fdD fdP : FuncData} (F : Fun K "_law_bent_row" "_law_bent_row" sBR f fd) (FD : Fun K "_law_draw" "_law_draw" sDraw fD fdD) (gD : mg "_law_draw" = some (.ref fD)) (bD : Binds K fdD ["_law_pen", "_law_many"] [])
    (FP : Fun K "_law_pick" "_law_pick" sPick fP fdP) (gP : mg "_law_pick" = some (.ref fP)) (bP : Binds K fdP ["_law_pen", "_law_items"] []) (B : BltD mg) (L : BltL mg) : FnOk P w K mg base CX0 3 f fd ["_law_pen", "_law_row", "_law_levels_here"] (spBR K w) := by
  have GP : FnOk P w K mg base CX0 2 fP fdP ["_law_pen", "_law_items"] (spPick K) := ok_pick FP FD gD bD B
  refine F.ok scBR (fun vs H Q E h => ?_) (fun cdv A outer s H vs Q E hr h => ?_)
  · obtain ⟨p, c, r, l, ns, a, ls, lv, rfl, _⟩ := h
    rfl
  · obtain ⟨p, c, r, l, ns, a, ls, lv, rfl, pn, ha, er, el, RO, q⟩ := h
    have hc : (cxOf CX0 P w K mg base brN "_law_bent_row" (defScope sBR) f cdv A outer s H E).nox.calm = true := rfl
    have hu64 : (cxOf CX0 P w K mg base brN "_law_bent_row" (defScope sBR) f cdv A outer s H E).nox.A.units + 64 < cLine := by
      have := hr.un
      show (A.deeper _).units + 64 < cLine
      omega
    have hu20 : (cxOf CX0 P w K mg base brN "_law_bent_row" (defScope sBR) f cdv A outer s H E).nox.A.units + 20 < cLine := by
      have := hr.un
      show (A.deeper _).units + 20 < cLine
      omega
    refine ⟨_, (pss_cons (ps_set (i := 3) scBR.nd rfl (.inl rfl) (pe_callTy (callListM hc) (by rfl) L.list boot_list (pa_cons (pv 1) pa_nil)))
      (pss_cons (ps_set (i := 4) scBR.nd rfl (.inl rfl) (pe_lst (pa_cons pe_non (pa_cons (pe_lst pa_nil) (pa_cons (pe_tup pa_nil) (pa_cons pe_int (pa_cons pe_str (pa_cons pe_bl (pa_cons (pe_callTy (callDictM hu20 hc) (by rfl) L.dict boot_dict (pa_cons (pe_op op_cat (peItemsM hc (pv 1) (by rfl) L.list boot_list) (pe_lst (pa_cons (pe_tup (pa_cons pe_str (pa_cons (pe_ix ix_list (pv 2) pe_int (fun _ _ => rfl)) pa_nil))) pa_nil))) pa_nil)) pa_nil)))))))))
      (pss_cons (ps_set (i := 4) scBR.nd rfl (.inl rfl) (pe_op op_cat (pv 4) (pe_lst (pa_cons (pe_callTy (callDictM hu20 hc) (by rfl) L.dict boot_dict (pa_cons (pe_op op_cat (peItemsM hc (pv 1) (by rfl) L.list boot_list) (pe_lst (pa_cons (pe_tup (pa_cons pe_str (pa_cons (pe_ix ix_list (pv 2) pe_int (fun _ _ => rfl)) pa_nil))) pa_nil))) pa_nil)) (pa_cons (pe_callTy (callDictM hu20 hc) (by rfl) L.dict boot_dict (pa_cons (pe_op op_cat (peItemsM hc (pv 1) (by rfl) L.list boot_list) (pe_lst (pa_cons (pe_tup (pa_cons pe_str (pa_cons (pe_ix ix_list (pv 2) pe_int (fun _ _ => rfl)) pa_nil))) pa_nil))) pa_nil)) pa_nil)))))
      (pss_cons (ps_set (i := 4) scBR.nd rfl (.inl rfl) (pe_op op_cat (pv 4) (pe_lst (pa_cons (pe_callTy (callDictM hu20 hc) (by rfl) L.dict boot_dict (pa_cons (pe_op op_cat (peItemsM hc (pv 1) (by rfl) L.list boot_list) (pe_lst (pa_cons (pe_tup (pa_cons pe_int (pa_cons (pe_ix ix_list (pv 2) pe_int (fun _ _ => rfl)) pa_nil))) pa_nil))) pa_nil)) (pa_cons (peItemsM hc (pv 1) (by rfl) L.list boot_list) pa_nil)))))
      (pss_cons (ps_expr (pe_bm PySem.F.plainAttrs_list PySem.F.slot_list_append PySem.F.type_list_append mt_append (pv 4) (pa_cons (pe_callTy (callDictM hu20 hc) (by rfl) L.dict boot_dict (pa_cons (pe_op op_cat (peItemsM hc (pv 1) (by rfl) L.list boot_list) (pe_lst (pa_cons (pe_tup (pa_cons pe_str (pa_cons pe_str pa_nil))) pa_nil))) pa_nil)) pa_nil)))
      (pss_cons (ps_if (pt_cmpR (op_neD hu64) (pv 3) (pe_lst pa_nil) (nomark _)) (pss_cons (ps_set (i := 5) scBR.nd rfl (.inl rfl) (pe_call GP hr (by rfl) gP FP.kp bP .nil pass0 (pa_cons (pv 0) (pa_cons (pv 3) pa_nil)))) (pss_one (ps_for PassesOwn.never rfl (pi_list (pe_lst (pa_cons pe_non (pa_cons pe_bl (pa_cons pe_int (pa_cons (pe_lst pa_nil) (pa_cons pe_str (pa_cons pe_str (pa_cons (pe_tup (pa_cons pe_str pa_nil)) (pa_cons (pe_ifExp (pt_cmpR op_eq (pe_ix ix_list (pv 2) pe_int (fun _ _ => rfl)) pe_str (nomark _)) pe_str pe_str) pa_nil)))))))))) (pg_name (i := 6) scBR.nd rfl (.inl rfl)) (pss_one (ps_expr (pe_bm PySem.F.plainAttrs_list PySem.F.slot_list_append PySem.F.type_list_append mt_append (pv 4) (pa_cons (pe_callTy (callDictM hu20 hc) (by rfl) L.dict boot_dict (pa_cons (pe_op op_cat (peItemsM hc (pv 1) (by rfl) L.list boot_list) (pe_lst (pa_cons (pe_tup (pa_cons (pv 5) (pa_cons (pv 6) pa_nil))) pa_nil))) pa_nil)) pa_nil))))))) pss_nil)
      (pss_one (ps_ret (pe_call GP hr (by rfl) gP FP.kp bP .nil pass0 (pa_cons (pv 0) (pa_cons (pv 4) pa_nil))))))))))), ?_⟩
    have DR := rowsT_at er RO.nd
    have le : (rowsT ls).length ≤ 100 := by
      rw [rowsT_len]
      have := RO.few
      omega
    obtain ⟨l0, l1, l2, elv⟩ : ∃ l0 l1 l2, lv = [l0, l1, l2] := by
      rcases RO.lv_ with h | h
      · exact ⟨_, _, _, h⟩
      · exact ⟨_, _, _, h⟩
    have n0 : Nice 1 1 20 (.str l0) := by
      rcases RO.lv_ with h | h
      · rw [h] at elv; injection elv with e _; rw [← e]; exact nice_str (by decide +kernel) (by decide +kernel)
      · rw [h] at elv; injection elv with e _; rw [← e]; exact nice_str (by decide +kernel) (by decide +kernel)
    have n1 : Nice 1 1 20 (.str l1) := by
      rcases RO.lv_ with h | h
      · rw [h] at elv; injection elv with _ e; injection e with e _; rw [← e]; exact nice_str (by decide +kernel) (by decide +kernel)
      · rw [h] at elv; injection elv with _ e; injection e with e _; rw [← e]; exact nice_str (by decide +kernel) (by decide +kernel)
    have gr : ∀ {σ : St}, σ[1]? = some (some (.ref r)) → GivesR (tVar 1) σ H (Pure (.ref r)) := fun e => pure_var e
    have g0 : ∀ {σ : St}, σ[2]? = some (some (.ref l)) → GivesR (tOp (rIxL K) (tVar 2) (tC (.int 0))) σ H (Pure (.str l0)) := fun e => pure_ix (j := 0) (pure_var e) el rfl (by rw [elv]; rfl)
    have g1 : ∀ {σ : St}, σ[2]? = some (some (.ref l)) → GivesR (tOp (rIxL K) (tVar 2) (tC (.int 1))) σ H (Pure (.str l1)) := fun e => pure_ix (j := 1) (pure_var e) el rfl (by rw [elv]; rfl)
    let S : Addr → Prop := fun a => ∃ es, H a = some (mdo w a es)
    have plK : ∀ {σ : St} {tv : TE} {x y : Str}, σ[1]? = some (some (.ref r)) → isWordL (tl x) = false → Nice 1 1 20 (.str x) → GivesR tv σ H (Pure (.str y)) → Nice 1 1 20 (.str y) → GivesR (tPlus w (tVar 1) (tC (.str x)) tv) σ H (Dat w S (BentR lv)) := fun {σ tv x y} e hx nx hv ny =>
      plus_new (G := fun d => d = .str y) (gr e) DR (fun _ z => nomatch z) le pure_c (kAt.text H x) (.str x) (RO.fresh (.inl hx)) (dat_of hv (.str y) rfl (fun _ z => nomatch z)) fun d hd => by
        subst hd
        exact ⟨RO.more nx (ny.mono (by decide) (by decide) (by decide)), rowD_key (by simp only [wordD, hx])⟩
    -- words = list(row)
    refine ⟨.ref r, rfl, r, rowsT ls, rfl, .inl er, fun W nW => ?_⟩
    have ew : (rowsT ls).map (fun r => r.2.1) = (ls.map (·.1)).map V.str := by
      unfold rowsT
      rw [List.map_map, List.map_map]
      rfl
    rw [ew]
    have sW := same_upd (o := HO.lst ((ls.map (·.1)).map V.str)) nW
    have eW : (upd H W (.lst ((ls.map (·.1)).map V.str))) W = some (.lst ((ls.map (·.1)).map V.str)) := upd_same
    generalize upd H W (.lst ((ls.map (·.1)).map V.str)) = H1 at sW eW ⊢
    -- some = [..]
    have ga1 : ∀ {σ : St}, σ[1]? = some (some (.ref r)) → σ[2]? = some (some (.ref l)) → GivesA w S (tCons (tC .non) (tCons (tLst tNil) (tCons (tTup tNil) (tCons (tC (.int 0)) (tCons (tC (.str "set")) (tCons (tC (.bl true)) (tCons (tPlus w (tVar 1) (tC (.str "A")) (tOp (rIxL K) (tVar 2) (tC (.int 0)))) tNil))))))) σ H 7 (BentR lv) := fun {σ} e1 e2 =>
      ga_cons (dat_c .none ⟨nice_none.mono (by decide) (by decide) (by decide), rfl⟩)
      (ga_cons (dat_lst (G := fun _ => True) ga_nil (by decide) fun ds hl _ => by
        rw [List.length_eq_zero_iff.mp hl]
        exact ⟨(Nice.list (ds := []) (D := 1) (N := 1) (W := 1) (k := 0) (fun _ z => nomatch z) (Nat.le_refl _)).mono (by decide) (by decide) (by decide), rfl⟩)
      (ga_cons (dat_tup (G := fun _ => True) ga_nil (by decide) fun ds hl _ => by
        rw [List.length_eq_zero_iff.mp hl]
        exact ⟨(Nice.tuple (ds := []) (D := 1) (N := 1) (W := 1) (k := 0) (fun _ z => nomatch z) (Nat.le_refl _)).mono (by decide) (by decide) (by decide), rfl⟩)
      (ga_cons (dat_c (.int 0) ⟨nice_zero.mono (by decide) (by decide) (by decide), rfl⟩)
      (ga_cons (dat_c (.str _) ⟨(nice_str (by decide +kernel) (by decide +kernel)).mono (by decide) (by decide) (by decide), rfl⟩)
      (ga_cons (dat_c (.bool true) ⟨nice_true.mono (by decide) (by decide) (by decide), rfl⟩)
      (ga_cons (plK e1 (by decide +kernel) (nice_str (by decide +kernel) (by decide +kernel)) (g0 e2) n0) ga_nil))))))
    refine c_seq (c_asg (c_lst (ga1 rfl rfl H1 sW _ fun vs ds f H2 s2 hl rs gs lo => ⟨by rw [hl]; decide, fun L1 nL1 => ?_⟩)))
    have b1 : Bag w (Lo S H) (upd H2 L1 (.lst vs)) L1 (BentR lv) vs := Bag.of rs gs (fun a ha => (lo a ha).back sW) nL1
    have s3 : Same H (upd H2 L1 (.lst vs)) := (sW.trans s2).trans (same_upd nL1)
    have eW3 := (s2.trans (same_upd (o := HO.lst vs) nL1)) _ _ eW
    generalize upd H2 L1 (.lst vs) = H3 at b1 s3 eW3 ⊢
    -- some + [.., ..]
    have ga2 : ∀ {σ : St}, σ[1]? = some (some (.ref r)) → σ[2]? = some (some (.ref l)) → GivesA w S (tCons (tPlus w (tVar 1) (tC (.str "zzzzzzzzz")) (tOp (rIxL K) (tVar 2) (tC (.int 0)))) (tCons (tPlus w (tVar 1) (tC (.str "")) (tOp (rIxL K) (tVar 2) (tC (.int 1)))) tNil)) σ H 2 (BentR lv) := fun {σ} e1 e2 =>
      ga_cons (plK e1 (by decide +kernel) (nice_str (by decide +kernel) (by decide +kernel)) (g0 e2) n0)
      (ga_cons (plK e1 (by decide +kernel) (nice_str (by decide +kernel) (by decide +kernel)) (g1 e2) n1) ga_nil)
    refine c_name (c_nx (c_seq (c_asg (c_op ⟨.ref L1, rfl, c_lst (ga2 rfl rfl H3 s3 _ fun vs2 ds2 f2 H4 s4 hl2 rs2 gs2 lo2 => ⟨by rw [hl2]; decide, fun L2 nL2 => ⟨L1, L2, vs, vs2, rfl, rfl, ?_, upd_same, by rw [hl, hl2]; decide, fun L3 nL3 => ?_⟩⟩)⟩))))
    · exact same_upd nL2 _ _ (s4 _ _ b1.at_)
    have sL2 := same_upd (o := HO.lst vs2) nL2
    have b2 : Bag w (Lo S H) (upd (upd H4 L2 (.lst vs2)) L3 (.lst (vs ++ vs2))) L3 (BentR lv) (vs ++ vs2) := b1.cat (s4.trans sL2) (rs2.same sL2) gs2 (fun a ha => (lo2 a ha).back s3) nL3
    have s5 : Same H (upd (upd H4 L2 (.lst vs2)) L3 (.lst (vs ++ vs2))) := ((s3.trans s4).trans sL2).trans (same_upd nL3)
    have eW5 := ((s4.trans sL2).trans (same_upd (o := HO.lst (vs ++ vs2)) nL3)) _ _ eW3
    have hl5 : (vs ++ vs2).length = 9 := by rw [List.length_append, hl, hl2]
    generalize upd (upd H4 L2 (.lst vs2)) L3 (.lst (vs ++ vs2)) = H5 at b2 s5 eW5 ⊢
    generalize vs ++ vs2 = us at b2 hl5 ⊢
    -- some + [.., list(row.items())]
    have ga3 : ∀ {σ : St}, σ[1]? = some (some (.ref r)) → σ[2]? = some (some (.ref l)) → GivesA w S (tCons (tPlus w (tVar 1) (tC (.int 0)) (tOp (rIxL K) (tVar 2) (tC (.int 1)))) (tCons (tItemsM w (tVar 1)) tNil)) σ H 2 (BentR lv) := fun {σ} e1 e2 =>
      ga_cons (plus_new (G := fun d => d = .str l1) (gr e1) DR (fun _ z => nomatch z) le pure_c (kAt.num H 0) (.int 0) (fresh_num _ _) (dat_of (g1 e2) (.str l1) rfl (fun _ z => nomatch z)) fun d hd => by
        subst hd
        exact ⟨RO.more nice_zero (n1.mono (by decide) (by decide) (by decide)), rowD_key rfl⟩)
      (ga_cons (dat_items (gr e1) DR (fun _ z => nomatch z) ⟨RO.items, rfl⟩) ga_nil)
    refine c_name (c_nx (c_seq (c_asg (c_op ⟨.ref L3, rfl, c_lst (ga3 rfl rfl H5 s5 _ fun vs3 ds3 f3 H6 s6 hl3 rs3 gs3 lo3 => ⟨by rw [hl3]; decide, fun L4 nL4 => ⟨L3, L4, us, vs3, rfl, rfl, ?_, upd_same, by rw [hl5, hl3]; decide, fun L5 nL5 => ?_⟩⟩)⟩))))
    · exact same_upd nL4 _ _ (s6 _ _ b2.at_)
    have sL4 := same_upd (o := HO.lst vs3) nL4
    have b3 : Bag w (Lo S H) (upd (upd H6 L4 (.lst vs3)) L5 (.lst (us ++ vs3))) L5 (BentR lv) (us ++ vs3) := b2.cat (s6.trans sL4) (rs3.same sL4) gs3 (fun a ha => (lo3 a ha).back s5) nL5
    have s7 : Same H (upd (upd H6 L4 (.lst vs3)) L5 (.lst (us ++ vs3))) := ((s5.trans s6).trans sL4).trans (same_upd nL5)
    have eW7 := ((s6.trans sL4).trans (same_upd (o := HO.lst (us ++ vs3)) nL5)) _ _ eW5
    have hl7 : (us ++ vs3).length = 11 := by rw [List.length_append, hl5, hl3]
    have nWL : W ≠ L5 := ne_of_none ((s6.trans sL4) _ _ eW5) nL5
    have nL5H : H L5 = none := ((s5.trans s6).trans sL4).free nL5
    generalize upd (upd H6 L4 (.lst vs3)) L5 (.lst (us ++ vs3)) = H7 at b3 s7 eW7 ⊢
    generalize us ++ vs3 = xs at b3 hl7 ⊢
    have nSL : ¬ S L5 := fun ⟨es, z⟩ => by
      rw [nL5H] at z
      cases z
    have neL5 : ∀ {a : Addr} {H' : Hp}, Lo S H' a → H' L5 ≠ none → a ≠ L5 := fun l n => l.ne n nSL
    -- some.append(..)
    have gp : ∀ {σ : St}, σ[1]? = some (some (.ref r)) → GivesR (tPlus w (tVar 1) (tC (.str "qqx")) (tC (.str "none of it"))) σ H (Dat w S (BentR lv)) := fun {σ} e1 =>
      plus_new (G := fun d => d = .str "none of it") (gr e1) DR (fun _ z => nomatch z) le pure_c (kAt.text H _) (.str _) (RO.fresh (.inr (by decide +kernel))) (dat_of pure_c (.str _) rfl (fun _ z => nomatch z)) fun d hd => by
        subst hd
        refine ⟨RO.more (nice_str (by decide +kernel) (by decide +kernel)) ((nice_str (by decide +kernel) (by decide +kernel)).mono (by decide) (by decide) (by decide)), rowD_val ?_⟩
        rcases RO.lv_ with h | h
        · rw [h]; decide +kernel
        · rw [h]; decide +kernel
    refine c_name (c_nx (c_seq ⟨.ref L5, rfl, .inl ⟨rfl, _, .inl (.inl b3.at_)⟩, c_cons (gp rfl H7 s7 _ fun v H8 s8 ⟨d, f, rv, gd, lo⟩ => ⟨L5, _, v, rfl, rfl, s8 _ _ b3.at_, by rw [hl7]; decide, ?_⟩)⟩))
    have b4 := (b3.same s8).snoc rv gd fun a ha => ⟨(lo a ha).back s7, neL5 (lo a ha) (by rw [b3.at_]; simp)⟩
    have hl9 : (xs ++ [v]).length = 12 := by rw [List.length_append, hl7]; rfl
    have s9 : Same H (upd H8 L5 (.lst (xs ++ [v]))) := fun b o e => by
      rw [upd_ne (ne_of_none e nL5H)]
      exact s8 _ _ (s7 _ _ e)
    have eW9 : (upd H8 L5 (.lst (xs ++ [v]))) W = some (.lst ((ls.map (·.1)).map V.str)) := by
      rw [upd_ne nWL]
      exact s8 _ _ eW7
    generalize upd H8 L5 (.lst (xs ++ [v])) = H9 at b4 s9 eW9 ⊢
    generalize xs ++ [v] = ys at b4 hl9 ⊢
    clear b3 s7 eW7 b2 s5 eW5 b1 s3 eW3 s2 s4 s6 s8
    obtain ⟨lp, pen, hlp⟩ := pn.at_
    have npS : ¬ Lo S H p := fun z => by
      rcases z with z | ⟨es, z⟩
      · rw [pen.row] at z
        cases z
      · rw [pen.row] at z
        cases z
    have fin : ∀ (σ : St) (Hf : Hp) (ys : List V) (a9 : Int), σ[0]? = some (some (.ref p)) → σ[4]? = some (some (.ref L5)) → SameBut p H Hf → Pn Hf p c ns a9 → a9 ≤ a + 1 → Bag w (Lo S H) Hf L5 (BentR lv) ys → 1 ≤ ys.length → ys.length ≤ 100 → tCall (spPick K) [] E0 (tCons (tVar 0) (tCons (tVar 4) tNil)) σ Hf Q := fun σ Hf ys a9 e0 e4 sb9 pn9 h9 b h1 h2 =>
      ⟨.ref p, e0, .ref L5, e4, p, c, ns, a9, .ref L5, rfl, pn9, by omega, .inl ⟨L5, ys, rfl, b.at_, h1, h2, fun H' y a' sb pn' hb hy => by
        obtain ⟨l9, pen9, _⟩ := pn9.at_
        obtain ⟨d, f, rv, gd, lo⟩ := (b.but sb pen9.row npS).one hy
        exact q H' y d f a' (sb9.trans sb) pn' (by omega) rv gd lo⟩⟩
    have wok : ∀ x ∈ ls.map (·.1), PyData.strOk x = true := fun x hx => by
      obtain ⟨q, hq, rfl⟩ := List.mem_map.mp hx
      exact strOk_word (RO.word q hq).1
    refine c_nx (c_seq ⟨.ref W, rfl, Nat.zero_le _, fun o no => ?_⟩)
    have so := same_upd (o := HO.lst []) no
    refine ⟨.list ((ls.map (·.1)).map PyData.str), .list [], .lst (.inl (.inl (so _ _ eW9))) (strs_dp _), .lst (.inl (.inl upd_same)) .nil, strs_shaped wok, ints_shaped [], !(ls.map (·.1)).isEmpty, by rw [strs_eqv], ?_⟩
    have b5 := b4.same so
    have s10 := s9.trans so
    have eW10 := so _ _ eW9
    generalize upd H9 o (.lst []) = H10 at b5 s10 eW10 ⊢
    cases hne : (ls.map (·.1)).isEmpty with
    | true =>
      refine iteF (c_next (c_nx (c_ret (fin _ H10 ys a rfl rfl (Same.but s10 p) (pn.same s10) (by omega) b5 (by omega) (by omega)))))
    | false =>
      refine iteT (c_seq (c_asg ⟨.ref p, rfl, .ref W, rfl, p, c, ns, a, .ref W, rfl, pn.same s10, by omega, .inl ⟨W, _, rfl, eW10, ?_, ?_, fun H11 y a11 sb11 pn11 hb11 hy => ?_⟩⟩))
      · rw [List.length_map]
        cases hls : ls.map (·.1) with
        | nil =>
          rw [hls] at hne
          cases hne
        | cons _ _ => exact Nat.succ_le_succ (Nat.zero_le _)
      · rw [List.length_map, List.length_map]
        have := RO.few
        omega
      obtain ⟨x, hx, rfl⟩ := List.mem_map.mp hy
      obtain ⟨l10, pen10, _⟩ := (pn.same s10).at_
      have b11 := b5.but sb11 pen10.row npS
      have sbH : SameBut p H H11 := (Same.but s10 p).trans sb11
      have nrp : r ≠ p := fun z => by
        rw [z, pen.row] at er
        cases er
      have nlp : l ≠ p := fun z => by
        rw [z, pen.row] at el
        cases el
      have er11 := sbH r _ nrp er
      have el11 := sbH l _ nlp el
      have bad : ∀ z : Str, z ≠ "set" → z ≠ "keep" → z ≠ "unset" → z ≠ "none" → z ≠ "entry" → z ≠ "always" → levD lv (.str z) = false := fun z h1 h2 h3 h4 h5 h6 => by
        unfold levD
        refine decide_eq_false fun hz => ?_
        rcases RO.lv_ with h | h
        · rw [h] at hz
          simp only [List.mem_cons, List.not_mem_nil, or_false] at hz
          rcases hz with hz | hz | hz
          · exact h1 hz
          · exact h2 hz
          · exact h3 hz
        · rw [h] at hz
          simp only [List.mem_cons, List.not_mem_nil, or_false] at hz
          rcases hz with hz | hz | hz
          · exact h4 hz
          · exact h5 hz
          · exact h6 hz
      have g011 : ∀ {σ : St}, σ[2]? = some (some (.ref l)) → GivesR (tOp (rIxL K) (tVar 2) (tC (.int 0))) σ H11 (Pure (.str l0)) := fun e => pure_ix (j := 0) (pure_var e) el11 rfl (by rw [elv]; rfl)
      have gl : ∀ {σ : St}, σ[2]? = some (some (.ref l)) → GivesA w S (tCons (tC .non) (tCons (tC (.bl true)) (tCons (tC (.int 1)) (tCons (tLst tNil) (tCons (tC (.str "Set")) (tCons (tC (.str "")) (tCons (tTup (tCons (tC (.str "set")) tNil)) (tCons (tIf (tTest (tOp rEq (tOp (rIxL K) (tVar 2) (tC (.int 0))) (tC (.str "set")))) (tC (.str "entry")) (tC (.str "keep"))) tNil)))))))) σ H11 8 (fun d => levD lv d = false ∧ Nice 2 2 21 d) := fun {σ} e =>
        ga_cons (dat_c .none ⟨rfl, nice_none.mono (by decide) (by decide) (by decide)⟩)
        (ga_cons (dat_c (.bool true) ⟨rfl, nice_true.mono (by decide) (by decide) (by decide)⟩)
        (ga_cons (dat_c (.int 1) ⟨rfl, nice_one.mono (by decide) (by decide) (by decide)⟩)
        (ga_cons (dat_lst (G := fun _ => True) ga_nil (by decide) fun ds hl _ => by
          rw [List.length_eq_zero_iff.mp hl]
          exact ⟨rfl, (Nice.list (ds := []) (D := 1) (N := 1) (W := 1) (k := 0) (fun _ z => nomatch z) (Nat.le_refl _)).mono (by decide) (by decide) (by decide)⟩)
        (ga_cons (dat_c (.str _) ⟨bad _ (by decide +kernel) (by decide +kernel) (by decide +kernel) (by decide +kernel) (by decide +kernel) (by decide +kernel), (nice_str (by decide +kernel) (by decide +kernel)).mono (by decide) (by decide) (by decide)⟩)
        (ga_cons (dat_c (.str _) ⟨bad _ (by decide +kernel) (by decide +kernel) (by decide +kernel) (by decide +kernel) (by decide +kernel) (by decide +kernel), (nice_str (by decide +kernel) (by decide +kernel)).mono (by decide) (by decide) (by decide)⟩)
        (ga_cons (dat_tup (G := fun d => Nice 1 1 20 d) (ga_cons (dat_c (.str _) (nice_str (by decide +kernel) (by decide +kernel))) ga_nil) (by decide) fun ds hl gs => ⟨rfl, (Nice.tuple (D := 1) (N := 1) (W := 20) (k := 1) gs (by omega)).mono (by decide) (by decide) (by decide)⟩)
        (ga_cons (fun H' s' Q' q' => g011 e H' s' _ fun v H'' s2 z => by
          obtain ⟨rfl, rfl⟩ := z
          refine ⟨rfl, _, rfl, ?_⟩
          have n2 : ∀ z : Str, Nice 1 1 20 (.str z) → Nice 2 2 21 (.str z) := fun z t => t.mono (by decide) (by decide) (by decide)
          rcases RO.lv_ with h | h
          · have e0 : l0 = Str.ofString "set" := by
              rw [h] at elv
              injection elv with e _
              exact e.symm
            subst e0
            refine iteT (q' _ _ (same_refl _) ⟨.str _, [], .str _, ⟨?_, n2 _ (nice_str (by decide +kernel) (by decide +kernel))⟩, fun _ z => nomatch z⟩)
            rw [h]
            decide +kernel
          · have e0 : l0 = Str.ofString "none" := by
              rw [h] at elv
              injection elv with e _
              exact e.symm
            subst e0
            refine iteF (q' _ _ (same_refl _) ⟨.str _, [], .str _, ⟨?_, n2 _ (nice_str (by decide +kernel) (by decide +kernel))⟩, fun _ z => nomatch z⟩)
            rw [h]
            decide +kernel) ga_nil)))))))
      refine c_name (c_nx (c_for (c_lst (gl rfl H11 (same_refl _) _ fun us es g H12 s12 hl12 rs gs lo => ⟨by rw [hl12]; decide, fun LB nLB => ⟨LB, rfl, ⟨_, .inl (.inl upd_same)⟩, ?_⟩⟩))))
      have sLB := same_upd (o := HO.lst us) nLB
      have b13 := b11.same (s12.trans sLB)
      have nLBL : LB ≠ L5 := Ne.symm (ne_of_none (s12 _ _ b11.at_) nLB)
      have rs13 := rs.same sLB
      have er13 := (s12.trans sLB) _ _ er11
      have eLB : (upd H12 LB (.lst us)) LB = some (.lst us) := upd_same
      have nrL : r ≠ L5 := ne_of_none er nL5H
      have pn13 := (pn11.same s12).same sLB
      have sb13 : SameBut p H (upd H12 LB (.lst us)) := sbH.trans (Same.but (s12.trans sLB) p)
      have gne : ∀ z ∈ g, Lo S H z ∧ z ≠ L5 := fun z hz => by
        have h := lo z hz
        refine ⟨h.imp (fun e => free_but sbH (by obtain ⟨l11, pen11, _⟩ := pn11.at_; rw [pen11.row]; simp) e) id, neL5 h (by rw [b11.at_]; simp)⟩
      generalize upd H12 LB (.lst us) = H13 at b13 rs13 er13 eLB pn13 sb13 ⊢
      refine for_list (xs := us) (fun i σ Hi => ∃ y6 zs, σ = [some (.ref p), some (.ref r), some (.ref l), some (.ref W), some (.ref L5), some (.str x), y6] ∧ SameBut L5 H13 Hi ∧ Bag w (Lo S H) Hi L5 (BentR lv) zs ∧ zs.length = 12 + i) ⟨none, ys, rfl, (fun _ _ _ z => z), b13, hl9⟩ (fun i σ Hi _ S' => ?_) (fun i v σ Hi hv S' => ?_) (fun σ Hi S' => ?_)
      · obtain ⟨_, _, _, sb, _⟩ := S'
        exact .inl (.inl (sb LB _ nLBL eLB))
      · obtain ⟨y6, zs, rfl, sb, bz, lz⟩ := S'
        have hi8 : i < 8 := by
          have := (List.getElem?_eq_some_iff.mp hv).1
          omega
        have rsi := repL_but sb b13.at_ rs13 fun z hz => (gne z hz).2
        obtain ⟨d, g2, rd, hd, sub⟩ := repAll_mem rsi (List.mem_of_getElem? hv)
        obtain ⟨gd1, gd2⟩ := gs d hd
        have eri := sb r _ nrL er13
        refine c_name ⟨.ref L5, rfl, .inl ⟨rfl, _, .inl (.inl bz.at_)⟩, c_cons (plus_other (S := fun z => Lo S H z ∧ z ≠ L5) (G' := BentR lv) (pure_var rfl) eri RO.nd (by have := RO.few; omega) (pure_var rfl) hx (pure_var rfl) rd (fun z hz => gne z (sub z hz)) (fun j hj => ⟨RO.set (nice_word (by
            obtain ⟨q, hq, e⟩ := List.mem_map.mp hx
            rw [← e]
            exact (RO.word q hq).1)) gd2, rowD_set (by rw [kvT_len]; exact hj) gd1⟩) Hi (same_refl _) _ fun u Hj sj ⟨du, fu, ru, gu, lu⟩ => ⟨L5, _, u, rfl, rfl, sj _ _ bz.at_, by rw [lz]; exact small1000 (by omega), ⟨_, _, rfl, fun b o nb e => ?_, (bz.same sj).snoc ru gu fun z hz => ?_, by rw [List.length_append, lz]; rfl⟩⟩)⟩
        · rw [upd_ne nb]
          exact sj _ _ (sb b o nb e)
        · rcases lu z hz with h | h
          · have nz : z ≠ L5 := fun y => by
              rw [y, bz.at_] at h
              cases h
            refine ⟨.inl ?_, nz⟩
            have h13 : H13 z = none := by
              cases e : H13 z with
              | none => rfl
              | some o =>
                rw [sb z o nz e] at h
                cases h
            exact free_but sb13 pn13.some.1 h13
          · exact h
      · obtain ⟨y6, zs, rfl, sb, bz, lz⟩ := S'
        rw [hl12] at lz
        have nLp : L5 ≠ p := fun z => pn.some.1 (z ▸ nL5H)
        have ncL : c ≠ L5 := fun z => pn.some.2 (z ▸ nL5H)
        have pne : Hi p = H13 p := by
          cases e : H13 p with
          | none => exact absurd e pn13.some.1
          | some o => exact sb p o (Ne.symm nLp) e
        have cne : Hi c = H13 c := by
          cases e : H13 c with
          | none => exact absurd e pn13.some.2
          | some o => exact sb c o ncL e
        refine c_nx (c_ret (fin _ Hi zs a11 rfl rfl (fun b o nb e => ?_) (pn13.off pne cne) hb11 bz (by omega) (by omega)))
        exact sb b o (ne_of_none e nL5H) (sb13 b o nb e)
end
end KF
end L2
end
/-! ### PF -/
section
namespace L2
namespace KF
open PySem PySem.Spec PyProof.Rows PySem.KD KE KC PySem.KA KM TL
/-! ## bent finals -/
/-- drawn finals as they are handed on -/
structure FinOk (words : List Str) (fs : List Fin) : Prop where
  wnd : words.Nodup
  few : words.length ≤ 3
  word : ∀ x ∈ words, isWordL (tl x) = true ∧ (tl x).take 2 ≠ [113, 113]
  fk : (fs.map (·.1)).Nodup
  fo : ∀ q ∈ fs, q.1 ∈ outL
  n3 : fs.length ≤ 3
def BentO (d : PyData) : Prop := Nice 5 70 3000 d ∧ finD d = false
theorem FinOk.row {w : World} {H : Hp} {words : List Str} {fs : List Fin} (FO : FinOk words fs) (FA : FsAt w H words fs) {q : Fin} (hq : q ∈ fs) : RowOk endL q.2.2 := by
  have k := FA.keys q hq
  refine ⟨by rw [k]; exact FO.wnd, ?_, fun z hz => FO.word z.1 (by rw [← k]; exact List.mem_map_of_mem hz), FA.lev q hq, .inl rfl⟩
  have := FO.few
  rw [← k, List.length_map] at this
  exact this
theorem row_empty : RowOk endL [] := ⟨List.nodup_nil, by decide, (fun _ z => nomatch z), (fun _ z => nomatch z), .inl rfl⟩
theorem RowOk.self {lv : List Str} {ls : List (Str × Str)} (R : RowOk lv ls) : Nice 3 10 200 (.dict (kvT ls)) :=
  (Nice.dict (D := 1) (N := 1) (W := 20) (k := 3) R.nice (by rw [kvT_len]; exact R.few)).mono (by decide) (by decide) (by decide)
theorem out_nice : ∀ x ∈ outL, Nice 1 1 20 (.str x) := by
  intro x hx
  simp only [List.mem_cons, List.not_mem_nil, or_false] at hx
  rcases hx with rfl | rfl | rfl | rfl <;> exact nice_str (by decide +kernel) (by decide +kernel)
theorem kvF_nice {w : World} {H : Hp} {words : List Str} {fs : List Fin} (FO : FinOk words fs) (FA : FsAt w H words fs) : ∀ p ∈ kvF fs, Nice 3 10 200 p.1 ∧ Nice 3 10 200 p.2 := fun p hp => by
  obtain ⟨q, hq, rfl⟩ := List.mem_map.mp hp
  exact ⟨(out_nice _ (FO.fo q hq)).mono (by decide) (by decide) (by decide), (FO.row FA hq).self⟩
theorem kvF_len (fs : List Fin) : (kvF fs).length = fs.length := List.length_map ..
theorem fin_nice {kvs : List (PyData × PyData)} (h : ∀ p ∈ kvs, Nice 3 10 200 p.1 ∧ Nice 3 10 200 p.2) (l : kvs.length ≤ 4) : Nice 5 70 3000 (.dict kvs) := (Nice.dict (k := 4) h l).mono (by decide) (by decide) (by decide)
theorem fin_more {w : World} {H : Hp} {words : List Str} {fs : List Fin} (FO : FinOk words fs) (FA : FsAt w H words fs) {k d : PyData} (hk : Nice 3 10 200 k) (hd : Nice 3 10 200 d) : Nice 5 70 3000 (.dict (kvF fs ++ [(k, d)])) := by
  have := FO.n3
  refine fin_nice (fun p hp => ?_) (by rw [List.length_append, kvF_len]; show _ + 1 ≤ 4; omega)
  rcases List.mem_append.mp hp with z | z
  · exact kvF_nice FO FA p z
  · rw [List.mem_singleton.mp z]
    exact ⟨hk, hd⟩
theorem fin_items {w : World} {H : Hp} {words : List Str} {fs : List Fin} (FO : FinOk words fs) (FA : FsAt w H words fs) : BentO (.list ((kvF fs).map fun p => .tuple [p.1, p.2])) := by
  refine ⟨(Nice.list (D := 4) (N := 21) (W := 402) (k := 3) (fun d hd => ?_) (by rw [List.length_map, kvF_len]; exact FO.n3)).mono (by decide) (by decide) (by decide), rfl⟩
  obtain ⟨p, hp, rfl⟩ := List.mem_map.mp hd
  obtain ⟨h1, h2⟩ := kvF_nice FO FA p hp
  refine (Nice.tuple (D := 3) (N := 10) (W := 200) (k := 2) (fun x hx => ?_) (Nat.le_refl _)).mono (by decide) (by decide) (by decide)
  rcases List.mem_cons.mp hx with rfl | hx
  · exact h1
  · rw [List.mem_singleton.mp hx]
    exact h2
theorem finD_key {kvs : List (PyData × PyData)} {k d : PyData} (h : outD k = false) : finD (.dict (kvs ++ [(k, d)])) = false := by
  show ((kvs ++ [(k, d)]).all (fun p => outD p.1 && rowD endL p.2) && (kvs ++ [(k, d)]).all fun p => (kvs ++ [(k, d)]).all fun q => sameW p.2 q.2) = false
  rw [List.all_append, List.all_cons, h, Bool.false_and, Bool.false_and, Bool.and_false, Bool.false_and]
theorem finD_row {kvs : List (PyData × PyData)} {k d : PyData} (hm : (k, d) ∈ kvs) (h : rowD endL d = false) : finD (.dict kvs) = false := by
  show (kvs.all (fun p => outD p.1 && rowD endL p.2) && kvs.all fun p => kvs.all fun q => sameW p.2 q.2) = false
  have : kvs.all (fun p => outD p.1 && rowD endL p.2) = false := List.all_eq_false.mpr ⟨(k, d), hm, by simp only [h, Bool.and_false, Bool.false_eq_true, not_false_eq_true]⟩
  rw [this, Bool.false_and]
theorem finD_words {kvs : List (PyData × PyData)} {p : PyData × PyData} {k d : PyData} (hp : p ∈ kvs) (h : sameW p.2 d = false) : finD (.dict (kvs ++ [(k, d)])) = false := by
  show ((kvs ++ [(k, d)]).all (fun p => outD p.1 && rowD endL p.2) && (kvs ++ [(k, d)]).all fun p => (kvs ++ [(k, d)]).all fun q => sameW p.2 q.2) = false
  have : (kvs ++ [(k, d)]).all (fun p => (kvs ++ [(k, d)]).all fun q => sameW p.2 q.2) = false := by
    refine List.all_eq_false.mpr ⟨p, List.mem_append_left _ hp, ?_⟩
    have : (kvs ++ [(k, d)]).all (fun q => sameW p.2 q.2) = false := List.all_eq_false.mpr ⟨(k, d), by simp, by simp only [h, Bool.false_eq_true, not_false_eq_true]⟩
    rw [this]
    exact Bool.false_ne_true
  rw [this, Bool.and_false]
/-- a row with a word that the other one has not -/
theorem same_not {a b : PyData} {p : PyData × PyData} (hp : p ∈ kvOf b) (h : inK p.1 a = false) : sameW a b = false := by
  unfold sameW
  have : (kvOf b).all (fun p => inK p.1 a) = false := List.all_eq_false.mpr ⟨p, hp, by simp only [h, Bool.false_eq_true, not_false_eq_true]⟩
  rw [this, Bool.and_false]
theorem not_inK {lv : List Str} {ls : List (Str × Str)} (R : RowOk lv ls) {x : Str} (h : isWordL (tl x) = false ∨ (tl x).take 2 = [113, 113]) : inK (.str x) (.dict (kvT ls)) = false := by
  unfold inK
  refine List.any_eq_false.mpr fun p hp => ?_
  obtain ⟨q, hq, rfl⟩ := List.mem_map.mp hp
  obtain ⟨h1, h2⟩ := R.word q hq
  show ¬ decide (x = q.1) = true
  intro z
  have e := of_decide_eq_true z
  rw [← e] at h1 h2
  rcases h with h | h
  · rw [h1] at h
    cases h
  · exact h2 h
/-- what stands there of finals and a row -/
structure FinB (w : World) (H : Hp) (D r : Addr) (words : List Str) (fs : List Fin) (ls : List (Str × Str)) : Prop where
  hD : H D = some (mdo w D (rowsF fs))
  FA : FsAt w H words fs
  hr : H r = some (mdo w r (rowsT ls))
  na : D ∉ fs.map (·.2.1)
theorem FinB.keep {w : World} {H H' : Hp} {D r : Addr} {words : List Str} {fs : List Fin} {ls : List (Str × Str)} (b : FinB w H D r words fs ls) (h : ∀ x o, (∃ es, o = mdo w x es) → H x = some o → H' x = some o) : FinB w H' D r words fs ls :=
  ⟨h _ _ ⟨_, rfl⟩ b.hD, ⟨fun q hq => h _ _ ⟨_, rfl⟩ (b.FA.at_ q hq), b.FA.keys, b.FA.lev⟩, h _ _ ⟨_, rfl⟩ b.hr, b.na⟩
theorem FinB.same {w : World} {H H' : Hp} {D r : Addr} {words : List Str} {fs : List Fin} {ls : List (Str × Str)} (b : FinB w H D r words fs ls) (s : Same H H') : FinB w H' D r words fs ls := b.keep fun x o _ e => s x o e
theorem FinB.but {w : World} {H H' : Hp} {D r p : Addr} {words : List Str} {fs : List Fin} {ls : List (Str × Str)} (b : FinB w H D r words fs ls) (s : SameBut p H H') (hp : ∀ es, H p ≠ some (mdo w p es)) : FinB w H' D r words fs ls := b.keep fun x o ⟨es, eo⟩ e => s x o (fun z => by
  subst z eo
  exact hp es e) e
theorem FinB.dict {w : World} {H : Hp} {D r : Addr} {words : List Str} {fs : List Fin} {ls : List (Str × Str)} (b : FinB w H D r words fs ls) (FO : FinOk words fs) : DictAt w H D (rowsF fs) (kvF fs) (fs.map (·.2.1)) := rowsF_at b.hD b.FA FO.wnd FO.fk b.na
theorem fin_fresh {words : List Str} {fs : List Fin} (FO : FinOk words fs) {k : NestedKey} (h : ∀ x ∈ outL, k ≠ .text x) : k ∉ (rowsF fs).map (·.1) := fun z => by
  rw [rowsF_keys] at z
  obtain ⟨y, hy, e⟩ := List.mem_map.mp z
  obtain ⟨q, hq, e2⟩ := List.mem_map.mp hy
  exact h y (e2 ▸ FO.fo q hq) e.symm
/-- one key more -/
theorem plus_fin {w : World} {H : Hp} {D r : Addr} {words : List Str} {fs : List Fin} {ls : List (Str × Str)} {tr tk tv : TE} {σ : St} {S : Addr → Prop} {k : NestedKey} {key : V} {kd : PyData} {G G' : PyData → Prop} (b : FinB w H D r words fs ls) (FO : FinOk words fs) (hS : ∀ q ∈ fs, S q.2.1)
    (hr : GivesR tr σ H (Pure (.ref D))) (hk : GivesR tk σ H (Pure key)) (kk : kAt H k key) (rk : RepA w H key kd []) (fresh : ∀ x ∈ outL, k ≠ .text x) (hv : GivesR tv σ H (Dat w S G)) (gg : ∀ d, G d → G' (.dict (kvF fs ++ [(kd, d)]))) : GivesR (tPlus w tr tk tv) σ H (Dat w S G') :=
  plus_new hr (b.dict FO) (fun a ha => by
    obtain ⟨q, hq, rfl⟩ := List.mem_map.mp ha
    exact hS q hq) (by rw [rowsF_len]; have := FO.n3; omega) hk kk rk (fin_fresh FO fresh) hv gg
/-! ## a row put in between -/
theorem repAll_ins {w : World} {H : Hp} {v : V} {d : PyData} {g : List Addr} (r : RepA w H v d g) : ∀ {vs : List V} {ds : List PyData} {f : List Addr} (n : Nat), RepAA w H vs ds f → ∃ f', RepAA w H (vs.take n ++ [v] ++ vs.drop n) (ds.take n ++ [d] ++ ds.drop n) f' ∧ ∀ a ∈ f', a ∈ f ∨ a ∈ g
  | vs, ds, f, 0, h => ⟨g ++ f, .cons r h, fun a ha => (List.mem_append.mp ha).elim .inr .inl⟩
  | _, _, _, n + 1, .nil => ⟨g ++ [], .cons r .nil, fun a ha => (List.mem_append.mp ha).elim .inr fun z => nomatch z⟩
  | _, _, _, n + 1, .cons (f1 := f1) (f2 := f2) h t => by
    obtain ⟨f', r1, r2⟩ := repAll_ins r n t
    refine ⟨f1 ++ f', .cons h r1, fun a ha => ?_⟩
    rcases List.mem_append.mp ha with z | z
    · exact .inl (List.mem_append_left _ z)
    · rcases r2 a z with y | y
      · exact .inl (List.mem_append_right _ y)
      · exact .inr y
theorem paired_ins {α β : Type} {R : α → β → Prop} {x : α} {y : β} (r : R x y) : ∀ {xs : List α} {ys : List β} (n : Nat), Paired R xs ys → Paired R (xs.take n ++ [x] ++ xs.drop n) (ys.take n ++ [y] ++ ys.drop n)
  | xs, ys, 0, h => .cons r h
  | _, _, n + 1, .nil => .cons r .nil
  | _, _, n + 1, .cons h t => .cons h (paired_ins r n t)
theorem mem_ins {α : Type} {l : List α} {n : Nat} {x y : α} (h : y ∈ l.take n ++ [x] ++ l.drop n) : y = x ∨ y ∈ l := by
  rcases List.mem_append.mp h with z | z
  · rcases List.mem_append.mp z with z | z
    · exact .inr (List.mem_of_mem_take z)
    · exact .inl (List.mem_singleton.mp z)
  · exact .inr (List.mem_of_mem_drop z)
theorem nodup_ins {α : Type} {l : List α} {n : Nat} {x : α} (h : l.Nodup) (hx : x ∉ l) : (l.take n ++ [x] ++ l.drop n).Nodup := by
  have p : (l.take n ++ [x] ++ l.drop n).Perm (x :: l) := by
    rw [List.append_assoc]
    have z : (l.take n ++ ([x] ++ l.drop n)).Perm (x :: (l.take n ++ l.drop n)) := List.perm_middle
    rw [List.take_append_drop] at z
    exact z
  exact p.nodup_iff.mpr (List.nodup_cons.mpr ⟨hx, h⟩)
theorem map_ins {α β : Type} (f : α → β) (l : List α) (n : Nat) (x : α) : (l.take n ++ [x] ++ l.drop n).map f = (l.map f).take n ++ [f x] ++ (l.map f).drop n := by
  rw [List.map_append, List.map_append, List.map_take, List.map_drop]
  rfl
theorem len_ins {α : Type} (l : List α) (n : Nat) (x : α) : (l.take n ++ [x] ++ l.drop n).length = l.length + 1 := by
  rw [List.length_append, List.length_append, List.length_take, List.length_drop]
  show _ + 1 + _ = _
  omega
theorem DictAt.ins {w : World} {H : Hp} {D M : Addr} {es : List MRow} {kvs : List (PyData × PyData)} {fv : List Addr} {x : Str} {v : V} {d : PyData} {g : List Addr} (n : Nat) (B : DictAt w H D es kvs fv) (r : RepA w H v d g) (fresh : NestedKey.text x ∉ es.map (·.1)) (n1 : M ∉ fv) (n2 : M ∉ g)
    (e : H M = some (mdo w M (mergeH [] (es.take n ++ [(.text x, .str x, v)] ++ es.drop n)))) : ∃ f', DictAt w H M (es.take n ++ [(.text x, .str x, v)] ++ es.drop n) (kvs.take n ++ [(.str x, d)] ++ kvs.drop n) f' ∧ ∀ a ∈ f', a ∈ fv ∨ a ∈ g := by
  have nd : ((es.take n ++ [(NestedKey.text x, V.str x, v)] ++ es.drop n).map (·.1)).Nodup := by
    rw [map_ins]
    exact nodup_ins B.nd fresh
  rw [merge_id nd] at e
  obtain ⟨f1, k1, k2⟩ := repAll_ins (w := w) (H := H) (.str x) n B.rk
  obtain ⟨f2, v1, v2⟩ := repAll_ins r n B.rv
  have f10 : f1 = [] := List.eq_nil_iff_forall_not_mem.mpr fun a ha => (k2 a ha).elim (fun z => nomatch z) fun z => nomatch z
  subst f10
  refine ⟨f2, ⟨e, fun p hp => ?_, nd, ?_, ?_, fun z => (v2 M z).elim n1 n2⟩, v2⟩
  · rcases mem_ins hp with z | z
    · rw [z]
      exact kAt.text _ _
    · exact B.ka p z
  · rw [map_ins, map_ins]
    exact k1
  · rw [map_ins, map_ins]
    exact v1
theorem finD_ins {kvs : List (PyData × PyData)} {k d : PyData} {n : Nat} (h : rowD endL d = false) : finD (.dict (kvs.take n ++ [(k, d)] ++ kvs.drop n)) = false := finD_row (k := k) (d := d) (by simp) h
theorem nice_ins {w : World} {H : Hp} {words : List Str} {fs : List Fin} (FO : FinOk words fs) (FA : FsAt w H words fs) {k d : PyData} {n : Nat} (hk : Nice 3 10 200 k) (hd : Nice 3 10 200 d) : Nice 5 70 3000 (.dict ((kvF fs).take n ++ [(k, d)] ++ (kvF fs).drop n)) := by
  have := FO.n3
  refine fin_nice (fun p hp => ?_) (by rw [len_ins, kvF_len]; omega)
  rcases mem_ins hp with z | z
  · rw [z]
    exact ⟨hk, hd⟩
  · exact kvF_nice FO FA p z
/-! ## dict(list(r.items())[1:] + [(k, v)]) -/
abbrev tPlusC (w : World) (K : PySem.W.Frag) (tr tk tv : TE) : TE := tCB (fun ys H Q => ∃ (a : Addr) (ts : List Addr) (ps : List MRow), ys = [.ref a] ∧ H a = some (.lst (ts.map .ref)) ∧ Paired (fun (t : Addr) (p : MRow) => H t = some (.tup [p.2.1, p.2.2])) ts ps ∧ KAll H ps ∧ ps.length ≤ 900 ∧ ∀ d, H d = none → Q (.ref d) (upd H d (mdo w d (mergeH [] ps))))
  (tCons (tOp rCat (tSl (rSlL K) (tItemsM w tr) (tPart (tC (.int 1))) tNoPart) (tLst (tCons (tTup (tCons tk (tCons tv tNil))) tNil))) tNil)
theorem cut_tail (xs : List V) : cutV xs (some 1) none = xs.drop 1 := by
  unfold cutV
  rw [HT.sIx_none, show (1 : Int) = ((1 : Nat) : Int) from rfl, HT.sIx_nat]
  cases xs with
  | nil => rfl
  | cons x xs =>
    have e : min 1 (x :: xs).length = 1 := by
      rw [List.length_cons]
      omega
    rw [e]
    exact List.take_of_length_le (Nat.le_of_eq List.length_drop)
theorem paired_drop {α β : Type} {R : α → β → Prop} : ∀ {xs : List α} {ys : List β}, Paired R xs ys → Paired R (xs.drop 1) (ys.drop 1)
  | _, _, .nil => .nil
  | _, _, .cons _ t => t
theorem plus_cut {w : World} {K : PySem.W.Frag} {S : Addr → Prop} {tr tk tv : TE} {σ : St} {H : Hp} {r : Addr} {ls : List (Str × Str)} {x y : Str} {G' : PyData → Prop} (hr : GivesR tr σ H (Pure (.ref r))) (e0 : H r = some (mdo w r (rowsT ls))) (nd : (ls.map (·.1)).Nodup) (le : ls.length ≤ 100)
    (hk : GivesR tk σ H (Pure (.str x))) (fresh : NestedKey.text x ∉ (rowsT ls).map (·.1)) (hv : GivesR tv σ H (Pure (.str y))) (gg : G' (.dict (kvT (ls.drop 1 ++ [(x, y)])))) : GivesR (tPlusC w K tr tk tv) σ H (Dat w S G') := fun H' s Q q => hr H' s _ fun z Hx s1 z2 => by
  obtain ⟨rfl, rfl⟩ := z2
  refine ⟨r, rowsT ls, rfl, .inl (s _ _ e0), fun H1 p ts k1 n1 n2 n3 e1 pr => ?_⟩
  have sb : Same Hx H1 := k1
  refine ⟨1, rfl, p, _, rfl, .inl (.inl e1), fun p2 np2 => ?_⟩
  rw [cut_tail]
  have s2 := same_upd (o := HO.lst ((ts.map V.ref).drop 1)) np2
  refine hk _ ((s.trans sb).trans s2) _ fun u Hy s3 z => ?_
  obtain ⟨rfl, rfl⟩ := z
  refine hv _ ((s.trans sb).trans s2) _ fun v H2 s4 z => ?_
  obtain ⟨rfl, rfl⟩ := z
  refine ⟨by show 2 ≤ sizeLine; decide, fun T nT => ⟨by show 1 ≤ sizeLine; decide, fun L nL => ?_⟩⟩
  have sT := same_upd (o := HO.tup [.str x, .str y]) nT
  have sL := same_upd (o := HO.lst [.ref T]) nL
  have lts := Paired.length pr
  rw [rowsT_len] at lts
  refine ⟨p2, L, _, _, rfl, rfl, sL _ _ (sT _ _ upd_same), upd_same, ?_, fun C nC => ?_⟩
  · rw [List.length_drop, List.length_map]
    show _ + 1 ≤ sizeLine
    have := small1000 (n := ts.length + 1) (by omega)
    omega
  have sC := same_upd (o := HO.lst ((ts.map V.ref).drop 1 ++ [.ref T])) nC
  have sAll := ((s2.trans sT).trans sL).trans sC
  have ep : (rowsT ls).drop 1 ++ [(.text x, .str x, .str y)] = rowsT (ls.drop 1 ++ [(x, y)]) := by
    unfold rowsT
    rw [List.map_append, List.map_drop]
    rfl
  have nd2 : ((ls.drop 1 ++ [(x, y)]).map (·.1)).Nodup := by
    rw [List.map_append, List.map_drop]
    refine List.nodup_append.mpr ⟨List.Sublist.nodup (List.drop_sublist 1 _) nd, by simp, fun a ha b hb e => ?_⟩
    rw [List.map_cons, List.map_nil, List.mem_singleton] at hb
    have e2 : a = x := e.trans hb
    subst e2
    refine fresh ?_
    rw [rowsT_keys]
    exact List.mem_map_of_mem (List.mem_of_mem_drop ha)
  have ndm : ((rowsT (ls.drop 1 ++ [(x, y)])).map (·.1)).Nodup := by
    rw [rowsT_keys]
    exact nd_text nd2
  refine ⟨C, ts.drop 1 ++ [T], (rowsT ls).drop 1 ++ [(.text x, .str x, .str y)], rfl, by rw [upd_same, List.map_append, List.map_drop]; rfl, ?_, ?_, ?_, fun M nM => ?_⟩
  · refine paired_append (paired_mono (paired_drop pr) fun t q h => sAll _ _ h) (.cons (sC _ _ (sL _ _ upd_same)) .nil)
  · rw [ep]
    exact rowsT_all _ _
  · rw [List.length_append, List.length_drop, rowsT_len]
    show _ + 1 ≤ 900
    omega
  rw [ep, merge_id ndm]
  have sM := same_upd (o := mdo w M (rowsT (ls.drop 1 ++ [(x, y)]))) nM
  refine q _ _ ((sb.trans sAll).trans sM) ⟨_, [M], (rowsT_at upd_same nd2).rep, gg, fun a ha => ?_⟩
  rw [List.mem_singleton.mp ha]
  exact .inl ((sb.trans sAll).free nM)
end KF
end L2
end
/-! ### PC -/
section
namespace L2
namespace KF
open PySem PySem.Spec PyProof.Rows PySem.KD KE KC PySem.KA KM TL
/-! ## _law_bent_outcomes -/
abbrev sBO : Stmt := topS 35
abbrev boN : List Str := ["_law_pen", "_law_finals", "_law_row", "_law_some", "_law_key", "_law_k", "_law_rows", "_law_at"]
theorem scBO : FnScope boN ["_law_pen", "_law_finals"] (defScope sBO) := ⟨rfl, rfl, rfl, by decide +kernel, rfl, by decide +kernel, by decide +kernel⟩
/-- a wrong key -/
def KeyG (w : World) (d : PyData) : Prop := outD d = false ∧ Nice 3 10 200 d ∧ ∃ k : NestedKey, (∀ x ∈ outL, k ≠ .text x) ∧ ∀ (H : Hp) (v : V) (f : List Addr), RepA w H v d f → kAt H k v ∧ f = []
theorem keyG_str {w : World} {x : Str} (h : outD (.str x) = false) (n : Nice 3 10 200 (.str x)) (ne : x ∉ outL) : KeyG w (.str x) := ⟨h, n, .text x, fun y hy e => by
  injection e with e
  exact ne (e ▸ hy), fun H v f r => by
  cases r
  exact ⟨kAt.text _ _, rfl⟩⟩
theorem keyG_zero {w : World} : KeyG w (.int 0) := ⟨rfl, nice_zero.mono (by decide) (by decide) (by decide), .num 0, (fun _ _ e => nomatch e), fun H v f r => by
  cases r
  exact ⟨kAt.num _ _, rfl⟩⟩
theorem keyG_none {w : World} : KeyG w .none := ⟨rfl, nice_none.mono (by decide) (by decide) (by decide), .none, (fun _ _ e => nomatch e), fun H v f r => by
  cases r
  exact ⟨kAt.none _, rfl⟩⟩
theorem keyG_true {w : World} : KeyG w (.bool true) := ⟨rfl, nice_true.mono (by decide) (by decide) (by decide), .num 1, (fun _ _ e => nomatch e), fun H v f r => by
  cases r
  exact ⟨kAt.bool _ true, rfl⟩⟩
theorem keyG_tup {w : World} {ds : List PyData} (hl : ds.length = 1) (gs : ∀ d ∈ ds, d = .str "done") : KeyG w (.tuple ds) := by
  match ds, hl with
  | [d], _ =>
    obtain rfl := gs d List.mem_cons_self
    refine ⟨rfl, (Nice.tuple (D := 1) (N := 1) (W := 20) (k := 1) (fun x hx => ?_) (Nat.le_refl _)).mono (by decide) (by decide) (by decide), .tup [.text "done"], (fun _ _ e => nomatch e), fun H v f r => ?_⟩
    · rw [List.mem_singleton.mp hx]
      exact nice_str (by decide +kernel) (by decide +kernel)
    · cases r with
      | tup e rs =>
        cases rs with
        | cons h t =>
          cases h
          cases t
          exact ⟨⟨.tup e (.cons (.text _) .nil), by decide⟩, rfl⟩
section
variable {P : Program} {w : World} {K : PySem.W.Frag} {mg : Str → Option Value} {base : Heap}
def spBO (K : PySem.W.Frag) (w : World) : Sp := fun vs H Q _ => ∃ (p c D : Addr) (ns : List Int) (a : Int) (words : List Str) (fs : List Fin), vs = [.ref p, .ref D] ∧ Pn H p c ns a ∧ a ≤ 800000 ∧ H D = some (mdo w D (rowsF fs)) ∧ D ∉ fs.map (·.2.1) ∧ FsAt w H words fs ∧ FinOk words fs ∧
  ∀ H' v d f a', SameBut p H H' → Pn H' p c ns a' → a' ≤ a + 30 → RepA w H' v d f → BentO d → (∀ x ∈ f, Lo (fun a => ∃ es, H a = some (mdo w a es)) H x) → Q v H'
theorem ok_bo {f fD fP fR : Addr} {fd fdD fdP fdR : FuncData} (F : Fun K "_law_bent_outcomes" "_law_bent_outcomes" sBO f fd) (FD : Fun K "_law_draw" "_law_draw" sDraw fD fdD) (gD : mg "_law_draw" = some (.ref fD)) (bD : Binds K fdD ["_law_pen", "_law_many"] [])
    (FP : Fun K "_law_pick" "_law_pick" sPick fP fdP) (gP : mg "_law_pick" = some (.ref fP)) (bP : Binds K fdP ["_law_pen", "_law_items"] []) (FR : Fun K "_law_bent_row" "_law_bent_row" sBR fR fdR) (gR : mg "_law_bent_row" = some (.ref fR)) (bR : Binds K fdR ["_law_pen", "_law_row", "_law_levels_here"] [])
    (B : BltD mg) (L : BltL mg) (W : BltW mg) : FnOk P w K mg base CX0 4 f fd ["_law_pen", "_law_finals"] (spBO K w) := by
  have GD : FnOk P w K mg base CX0 1 fD fdD ["_law_pen", "_law_many"] spDraw := ok_draw FD B
  have GP : FnOk P w K mg base CX0 2 fP fdP ["_law_pen", "_law_items"] (spPick K) := ok_pick FP FD gD bD B
  have GR : FnOk P w K mg base CX0 3 fR fdR ["_law_pen", "_law_row", "_law_levels_here"] (spBR K w) := ok_br FR FD gD bD FP gP bP B L
  refine F.ok scBO (fun vs H Q E h => ?_) (fun cdv A outer s H vs Q E hr h => ?_)
  · obtain ⟨p, c, D, ns, a, words, fs, rfl, _⟩ := h
    rfl
  · obtain ⟨p, c, D, ns, a, words, fs, rfl, pn, ha, eD, naD, FA, FO, q⟩ := h
    have hr1 := hr.mono (show 1 ≤ 3 by decide)
    have hr2 := hr.mono (show 2 ≤ 3 by decide)
    have hc : (cxOf CX0 P w K mg base boN "_law_bent_outcomes" (defScope sBO) f cdv A outer s H E).nox.calm = true := rfl
    have hu1 : (cxOf CX0 P w K mg base boN "_law_bent_outcomes" (defScope sBO) f cdv A outer s H E).nox.A.units < cLine := by
      have := hr.un
      show (A.deeper _).units < cLine
      omega
    have hu10 : (cxOf CX0 P w K mg base boN "_law_bent_outcomes" (defScope sBO) f cdv A outer s H E).nox.A.units + 10 < cLine := by
      have := hr.un
      show (A.deeper _).units + 10 < cLine
      omega
    have hu20 : (cxOf CX0 P w K mg base boN "_law_bent_outcomes" (defScope sBO) f cdv A outer s H E).nox.A.units + 20 < cLine := by
      have := hr.un
      show (A.deeper _).units + 20 < cLine
      omega
    refine ⟨_, (pss_cons (ps_set (i := 2) scBO.nd rfl (.inl rfl) (pe_ifExp (pt_cmpR (op_neM hu1) (pv 1) pe_dnewK (nomark _)) (pe_ix (ixM hu10) (pv 1) (pe_ix ix_list (pe_callTy (callListM hc) (by rfl) L.list boot_list (pa_cons (pv 1) pa_nil)) pe_int (fun _ _ => rfl)) (fun _ _ => rfl)) (pe_mdoR pe_dnewK)))
      (pss_cons (ps_set (i := 3) scBO.nd rfl (.inl rfl) (pe_lst (pa_cons pe_non (pa_cons (pe_lst pa_nil) (pa_cons pe_int (pa_cons pe_str (pa_cons (peItemsM hc (pv 1) (by rfl) L.list boot_list) (pa_cons (pe_callTy (callDictM hu20 hc) (by rfl) L.dict boot_dict (pa_cons (pe_op op_cat (peItemsM hc (pv 1) (by rfl) L.list boot_list) (pe_lst (pa_cons (pe_tup (pa_cons pe_str (pa_cons (pv 2) pa_nil))) pa_nil))) pa_nil)) pa_nil))))))))
      (pss_cons (ps_for PassesOwn.never rfl (pi_list (pe_lst (pa_cons pe_str (pa_cons pe_str (pa_cons pe_str (pa_cons pe_str (pa_cons pe_str (pa_cons pe_str (pa_cons pe_str (pa_cons pe_int (pa_cons pe_non (pa_cons pe_bl (pa_cons (pe_tup (pa_cons pe_str pa_nil)) (pa_cons pe_str pa_nil)))))))))))))) (pg_name (i := 4) scBO.nd rfl (.inl rfl)) (pss_one (ps_expr (pe_bm PySem.F.plainAttrs_list PySem.F.slot_list_append PySem.F.type_list_append mt_append (pv 3) (pa_cons (pe_callTy (callDictM hu20 hc) (by rfl) L.dict boot_dict (pa_cons (pe_op op_cat (peItemsM hc (pv 1) (by rfl) L.list boot_list) (pe_lst (pa_cons (pe_tup (pa_cons (pv 4) (pa_cons (pv 2) pa_nil))) pa_nil))) pa_nil)) pa_nil)))))
      (pss_cons (ps_for PassesOwn.never rfl (pi_range1 (by rfl) W.range (pa_cons pe_int pa_nil)) (pg_name (i := 5) scBO.nd rfl (.inl rfl)) (pss_cons (ps_par (i := 6) (j := 7) hc scBO.nd rfl rfl (by decide) rfl rfl (pa_cons (peItemsM hc (pv 1) (by rfl) L.list boot_list) (pa_cons (pe_call GD hr1 (by rfl) gD FD.kp bD .nil pass0 (pa_cons (pv 0) (pa_cons (pe_op op_add (pe_callB callLenM (by rfl) B.len PySem.boot_len (pa_cons (pv 1) pa_nil)) pe_int) pa_nil))) pa_nil)) (by rfl))
      (pss_cons (ps_expr (pe_bm PySem.F.plainAttrs_list PySem.F.slot_list_insert PySem.F.type_list_insert mt_insert (pv 6) (pa_cons (pv 7) (pa_cons (pe_tup (pa_cons pe_str (pa_cons (pe_call GR hr (by rfl) gR FR.kp bR .nil pass0 (pa_cons (pv 0) (pa_cons (pv 2) (pa_cons (pe_lst (pa_cons pe_str (pa_cons pe_str (pa_cons pe_str pa_nil)))) pa_nil)))) pa_nil))) pa_nil))))
      (pss_one (ps_expr (pe_bm PySem.F.plainAttrs_list PySem.F.slot_list_append PySem.F.type_list_append mt_append (pv 3) (pa_cons (pe_callTy (callDictM hu20 hc) (by rfl) L.dict boot_dict (pa_cons (pv 6) pa_nil)) pa_nil)))))))
      (pss_cons (ps_if (pt_cmpR (op_neM hu1) (pv 1) pe_dnewK (nomark _)) (pss_cons (ps_expr (pe_bm PySem.F.plainAttrs_list PySem.F.slot_list_append PySem.F.type_list_append mt_append (pv 3) (pa_cons (pe_callTy (callDictM hu20 hc) (by rfl) L.dict boot_dict (pa_cons (pe_op op_cat (peItemsM hc (pv 1) (by rfl) L.list boot_list) (pe_lst (pa_cons (pe_tup (pa_cons pe_str (pa_cons (pe_callTy (callDictM hu20 hc) (by rfl) L.dict boot_dict (pa_cons (pe_op op_cat (peItemsM hc (pv 2) (by rfl) L.list boot_list) (pe_lst (pa_cons (pe_tup (pa_cons pe_str (pa_cons pe_str pa_nil))) pa_nil))) pa_nil)) pa_nil))) pa_nil))) pa_nil)) pa_nil)))
      (pss_one (ps_expr (pe_bm PySem.F.plainAttrs_list PySem.F.slot_list_append PySem.F.type_list_append mt_append (pv 3) (pa_cons (pe_callTy (callDictM hu20 hc) (by rfl) L.dict boot_dict (pa_cons (pe_op op_cat (peItemsM hc (pv 1) (by rfl) L.list boot_list) (pe_lst (pa_cons (pe_tup (pa_cons pe_str (pa_cons (pe_callTy (callDictM hu20 hc) (by rfl) L.dict boot_dict (pa_cons (pe_op op_cat (pe_slice sl_list (peItemsM hc (pv 2) (by rfl) L.list boot_list) (po_some pe_int) po_none) (pe_lst (pa_cons (pe_tup (pa_cons pe_str (pa_cons pe_str pa_nil))) pa_nil))) pa_nil)) pa_nil))) pa_nil))) pa_nil)) pa_nil))))) pss_nil)
      (pss_one (ps_ret (pe_call GP hr2 (by rfl) gP FP.kp bP .nil pass0 (pa_cons (pv 0) (pa_cons (pv 3) pa_nil)))))))))), ?_⟩
    obtain ⟨lp, pen, hlp⟩ := pn.at_
    have gvr : ∀ {σ : St}, σ[1]? = some (some (.ref D)) → GivesR (tIf (tTest (tOp (rNeM w) (tVar 1) tDNewK)) (tOp (rIxM w) (tVar 1) (tOp (rIxL K) (tCB (fun ys H Q => ∃ a es, ys = [V.ref a] ∧ Rd H a (mdo w a es) ∧ ∀ l, H l = none → Q (.ref l) (upd H l (.lst (es.map (·.2.1))))) (tCons (tVar 1) tNil)) (tC (.int 0))))
        (fun σ H Q => tDNewK σ H fun v H1 => ∃ d kvs, H1 d = some (.dK kvs) ∧ kvs.length ≤ 1000 ∧ Q v (upd H1 d (mdo w d (toM kvs))))) σ H (fun H' v H'' => ∃ r ls, v = .ref r ∧ FinB w H'' D r words fs ls ∧ RowOk endL ls ∧ (fs ≠ [] → ∃ k, (k, r, ls) ∈ fs)) := by
      intro σ e H' s Q' q'
      refine ⟨.ref D, e, fun o no => ⟨D, o, rowsF fs, rfl, rfl, (s.trans (same_upd no)) _ _ eD, rowsF_txts fs, upd_same, _, rfl, ?_⟩⟩
      have so := same_upd (o := HO.dK []) no
      have eD2 := (s.trans so) _ _ eD
      have FA2 : FsAt w (upd H' o (.dK [])) words fs := ⟨fun q hq => (s.trans so) _ _ (FA.at_ q hq), FA.keys, FA.lev⟩
      generalize upd H' o (.dK []) = H2 at so eD2 FA2 ⊢
      cases hf : fs with
      | nil =>
        show (if false = true then _ else _)
        refine iteF fun r nr => ⟨r, [], upd_same, Nat.zero_le _, ?_⟩
        have s2 : Same H2 (upd (upd H2 r (.dK [])) r (mdo w r (toM []))) := fun b o e => by
          have nb : b ≠ r := ne_of_none e nr
          rw [upd_ne nb, upd_ne nb]
          exact e
        subst hf
        exact q' _ _ (so.trans s2) ⟨r, [], rfl, ⟨s2 _ _ eD2, ⟨(fun _ z => nomatch z), (fun _ z => nomatch z), (fun _ z => nomatch z)⟩, upd_same, fun z => nomatch z⟩, row_empty, fun h => absurd rfl h⟩
      | cons q0 fs' =>
        have eD3 := eD2
        have FA3 := FA2
        rw [hf] at eD3 FA3
        show (if true = true then _ else _)
        refine iteT ⟨.ref D, e, .ref D, e, D, _, rfl, .inl eD3, fun l nl => ⟨l, _, 0, .str q0.1, rfl, rfl, .inl (.inl upd_same), atN (i := 0) rfl, D, rowsF (q0 :: fs'), .text q0.1, (.text q0.1, .str q0.1, .ref q0.2.1), rfl, .inl ?_, rowsF_all _ _, kAt.text _ _, ?_, ?_⟩⟩
        · exact same_upd nl _ _ eD3
        · unfold lookH rowsF
          rw [List.map_cons, List.find?_cons, (beq_iff _ _).mpr rfl]
        · have sl := same_upd (o := HO.lst ((rowsF (q0 :: fs')).map (·.2.1))) nl
          refine q' _ _ (so.trans sl) ⟨q0.2.1, q0.2.2, rfl, ⟨?_, ?_, ?_, naD⟩, FO.row FA (hf ▸ List.mem_cons_self), fun _ => ⟨q0.1, hf ▸ List.mem_cons_self⟩⟩
          · exact sl _ _ eD2
          · exact ⟨fun q hq => sl _ _ (FA2.at_ q hq), FA2.keys, FA2.lev⟩
          · exact sl _ _ (FA3.at_ q0 List.mem_cons_self)
    refine c_seq (c_asg (gvr rfl H (same_refl _) _ fun v H1 s1 ⟨r, ls, ev, FB, RO, inF⟩ => ?_))
    subst ev
    let S : Addr → Prop := fun a => ∃ es, H1 a = some (mdo w a es)
    have hS : ∀ q ∈ fs, S q.2.1 := fun q hq => ⟨_, FB.FA.at_ q hq⟩
    have hSr : S r := ⟨_, FB.hr⟩
    have eP1 := s1 _ _ pen.row
    have nmd1 : ∀ es, H1 p ≠ some (mdo w p es) := fun es z => by
      rw [eP1] at z
      cases z
    have npS : ¬ Lo S H1 p := fun z => by
      rcases z with z | ⟨es, z⟩
      · rw [eP1] at z
        cases z
      · exact nmd1 es z
    have pn1 := pn.same s1
    have gRow : ∀ {σ : St} {Hi : Hp} {S' : Addr → Prop}, FinB w Hi D r words fs ls → S' r → σ[2]? = some (some (.ref r)) → GivesR (tVar 2) σ Hi (Dat w S' (fun d => d = .dict (kvT ls))) := fun b h e =>
      dat_of (pure_var e) (rowsT_at b.hr RO.nd).rep rfl fun a ha => by
        rw [List.mem_singleton.mp ha]
        exact h
    have plK : ∀ {σ : St} {Hi : Hp} {S' : Addr → Prop} {tk : TE} {key : V} {k : NestedKey} {kd : PyData}, FinB w Hi D r words fs ls → (∀ q ∈ fs, S' q.2.1) → S' r → σ[1]? = some (some (.ref D)) → σ[2]? = some (some (.ref r)) → GivesR tk σ Hi (Pure key) → kAt Hi k key → RepA w Hi key kd [] → (∀ x ∈ outL, k ≠ .text x) → Nice 3 10 200 kd → outD kd = false →
        GivesR (tPlus w (tVar 1) tk (tVar 2)) σ Hi (Dat w S' BentO) := fun {σ Hi S' tk key k kd} b h1 h2 e1 e2 hk kk rk fr nk ok =>
      plus_fin b FO h1 (pure_var e1) hk kk rk fr (gRow b h2 e2) fun d hd => by
        subst hd
        exact ⟨fin_more FO b.FA nk RO.self, finD_key ok⟩
    have nstr : ∀ {x : Str}, (tl x).all (fun c => decide (c < 16 ^ 8)) = true → (tl x).length ≤ 20 → Nice 3 10 200 (.str x) := fun h1 h2 => (nice_str h1 h2).mono (by decide) (by decide) (by decide)
    -- some = [..]
    have ga1 : ∀ {σ : St}, σ[1]? = some (some (.ref D)) → σ[2]? = some (some (.ref r)) → GivesA w S (tCons (tC .non) (tCons (tLst tNil) (tCons (tC (.int 0)) (tCons (tC (.str "")) (tCons (tItemsM w (tVar 1)) (tCons (tPlus w (tVar 1) (tC (.str "back")) (tVar 2)) tNil)))))) σ H1 6 BentO := fun {σ} e1 e2 =>
      ga_cons (dat_c .none ⟨nice_none.mono (by decide) (by decide) (by decide), rfl⟩)
      (ga_cons (dat_lst (G := fun _ => True) ga_nil (by decide) fun ds hl _ => by
        rw [List.length_eq_zero_iff.mp hl]
        exact ⟨(Nice.list (ds := []) (D := 1) (N := 1) (W := 1) (k := 0) (fun _ z => nomatch z) (Nat.le_refl _)).mono (by decide) (by decide) (by decide), rfl⟩)
      (ga_cons (dat_c (.int 0) ⟨nice_zero.mono (by decide) (by decide) (by decide), rfl⟩)
      (ga_cons (dat_c (.str _) ⟨(nice_str (by decide +kernel) (by decide +kernel)).mono (by decide) (by decide) (by decide), rfl⟩)
      (ga_cons (dat_items (pure_var e1) (FB.dict FO) (fun a ha => by
        obtain ⟨q, hq, rfl⟩ := List.mem_map.mp ha
        exact hS q hq) (fin_items FO FB.FA))
      (ga_cons (plK FB hS hSr e1 e2 pure_c (kAt.text _ _) (.str _) (fun x hx e => by
        injection e with e
        revert hx
        rw [← e]
        decide +kernel) (nstr (by decide +kernel) (by decide +kernel)) (by decide +kernel)) ga_nil)))))
    refine c_name (c_nx (c_seq (c_asg (c_lst (ga1 rfl rfl H1 (same_refl _) _ fun vs ds f H2 s2 hl rs gs lo => ⟨by rw [hl]; decide, fun Lb nLb => ?_⟩)))))
    have b1 : Bag w (Lo S H1) (upd H2 Lb (.lst vs)) Lb BentO vs := Bag.of rs gs lo nLb
    have nLb1 : H1 Lb = none := s2.free nLb
    have s3 : Same H1 (upd H2 Lb (.lst vs)) := s2.trans (same_upd nLb)
    generalize upd H2 Lb (.lst vs) = H3 at b1 s3 ⊢
    have nSL : ¬ S Lb := fun ⟨es, z⟩ => by
      rw [nLb1] at z
      cases z
    have neL : ∀ {z : Addr}, H1 z ≠ none → z ≠ Lb := fun h e => h (e ▸ nLb1)
    have nLp : Lb ≠ p := fun z => pn1.some.1 (z ▸ nLb1)
    have ncL : c ≠ Lb := fun z => pn1.some.2 (z ▸ nLb1)
    let S2 : Addr → Prop := fun z => Lo S H1 z ∧ z ≠ Lb
    have hS2 : ∀ q ∈ fs, S2 q.2.1 := fun q hq => ⟨.inr (hS q hq), neL (by rw [FB.FA.at_ q hq]; simp)⟩
    have hS2r : S2 r := ⟨.inr hSr, neL (by rw [FB.hr]; simp)⟩
    -- the keys
    have gk : ∀ {σ : St}, GivesA w S (tCons (tC (.str "")) (tCons (tC (.str "fail")) (tCons (tC (.str "fail ")) (tCons (tC (.str "fail A")) (tCons (tC (.str "failw")) (tCons (tC (.str "Done")) (tCons (tC (.str "fail zzzzzzzzz")) (tCons (tC (.int 0)) (tCons (tC .non) (tCons (tC (.bl true)) (tCons (tTup (tCons (tC (.str "done")) tNil)) (tCons (tC (.str "fail a b")) tNil)))))))))))) σ H3 12 (KeyG w) := fun {σ} =>
      ga_cons (dat_c (.str _) (keyG_str (by decide +kernel) (nstr (by decide +kernel) (by decide +kernel)) (by decide +kernel)))
      (ga_cons (dat_c (.str _) (keyG_str (by decide +kernel) (nstr (by decide +kernel) (by decide +kernel)) (by decide +kernel)))
      (ga_cons (dat_c (.str _) (keyG_str (by decide +kernel) (nstr (by decide +kernel) (by decide +kernel)) (by decide +kernel)))
      (ga_cons (dat_c (.str _) (keyG_str (by decide +kernel) (nstr (by decide +kernel) (by decide +kernel)) (by decide +kernel)))
      (ga_cons (dat_c (.str _) (keyG_str (by decide +kernel) (nstr (by decide +kernel) (by decide +kernel)) (by decide +kernel)))
      (ga_cons (dat_c (.str _) (keyG_str (by decide +kernel) (nstr (by decide +kernel) (by decide +kernel)) (by decide +kernel)))
      (ga_cons (dat_c (.str _) (keyG_str (by decide +kernel) (nstr (by decide +kernel) (by decide +kernel)) (by decide +kernel)))
      (ga_cons (dat_c (.int 0) keyG_zero)
      (ga_cons (dat_c .none keyG_none)
      (ga_cons (dat_c (.bool true) keyG_true)
      (ga_cons (dat_tup (G := fun d => d = .str "done") (ga_cons (dat_c (.str _) rfl) ga_nil) (by decide) fun ds hl gs => keyG_tup hl gs)
      (ga_cons (dat_c (.str _) (keyG_str (by decide +kernel) (nstr (by decide +kernel) (by decide +kernel)) (by decide +kernel))) ga_nil)))))))))))
    refine c_name (c_nx (c_seq (c_for (c_lst (gk H3 (same_refl _) _ fun us es g H4 s4 hl4 rs4 gs4 lo4 => ⟨by rw [hl4]; decide, fun LB nLB => ⟨LB, rfl, ⟨_, .inl (.inl upd_same)⟩, ?_⟩⟩)))))
    have sLB := same_upd (o := HO.lst us) nLB
    have b5 := b1.same (s4.trans sLB)
    have nLBL : LB ≠ Lb := Ne.symm (ne_of_none (s4 _ _ b1.at_) nLB)
    have rs5 := rs4.same sLB
    have s5 : Same H1 (upd H4 LB (.lst us)) := s3.trans (s4.trans sLB)
    have eLB : (upd H4 LB (.lst us)) LB = some (.lst us) := upd_same
    have gne : ∀ z ∈ g, z ≠ Lb := fun z hz => (lo4 z hz).ne (by rw [b1.at_]; simp) nSL
    generalize upd H4 LB (.lst us) = H5 at b5 rs5 s5 eLB ⊢
    refine for_list (xs := us) (fun i σ Hi => ∃ y4 zs, σ = [some (.ref p), some (.ref D), some (.ref r), some (.ref Lb), y4, none, none, none] ∧ SameBut Lb H5 Hi ∧ Bag w (Lo S H1) Hi Lb BentO zs ∧ zs.length = 6 + i) ⟨none, vs, rfl, (fun _ _ _ z => z), b5, hl⟩ (fun i σ Hi _ S' => ?_) (fun i v σ Hi hv S' => ?_) (fun σ Hi S' => ?_)
    · obtain ⟨_, _, _, sb, _⟩ := S'
      exact .inl (.inl (sb LB _ nLBL eLB))
    · obtain ⟨y4, zs, rfl, sb, bz, lz⟩ := S'
      have hi12 : i < 12 := by
        have := (List.getElem?_eq_some_iff.mp hv).1
        omega
      have si : Same H1 Hi := fun b o e => sb b o (ne_of_none e nLb1) (s5 _ _ e)
      have rsi := repL_but sb b5.at_ rs5 gne
      obtain ⟨d, g2, rd, hd, sub⟩ := repAll_mem rsi (List.mem_of_getElem? hv)
      obtain ⟨k1, k2, k, k3, k4⟩ := gs4 d hd
      obtain ⟨k5, rfl⟩ := k4 _ _ _ rd
      refine c_name ⟨.ref Lb, rfl, .inl ⟨rfl, _, .inl (.inl bz.at_)⟩, c_cons (plK (S' := S2) (FB.same si) hS2 hS2r rfl rfl (pure_var rfl) k5 rd k3 k2 k1 Hi (same_refl _) _ fun u Hj sj ⟨du, fu, ru, gu, lu⟩ => ⟨Lb, _, u, rfl, rfl, sj _ _ bz.at_, by rw [lz]; exact small1000 (by omega), ⟨_, _, rfl, fun b o nb e => ?_, (bz.same sj).snoc ru gu fun z hz => ?_, by rw [List.length_append, lz]; rfl⟩⟩)⟩
      · rw [upd_ne nb]
        exact sj _ _ (sb b o nb e)
      · rcases lu z hz with h | h
        · exact ⟨.inl (si.free h), fun y => by
            rw [y, bz.at_] at h
            cases h⟩
        · exact h
    obtain ⟨y4, zs, rfl, sb, bz, lz⟩ := S'
    rw [hl4] at lz
    have s6 : Same H1 Hi := fun b o e => sb b o (ne_of_none e nLb1) (s5 _ _ e)
    have pn6 := pn1.same s6
    clear sb rs5 b5 gne rs4 lo4 gs4 eLB
    refine c_nx (c_seq ⟨8, rfl, by decide, by decide, ?_⟩)
    refine for_range (lo := 0) (fun i σ Hi => ∃ y4 y5 y6 y7 zs, σ = [some (.ref p), some (.ref D), some (.ref r), some (.ref Lb), y4, y5, y6, y7] ∧ SameBut p H1 Hi ∧ (∃ a', Pn Hi p c ns a' ∧ a' ≤ a + 3 * i) ∧ Bag w (Lo S H1) Hi Lb BentO zs ∧ zs.length = 18 + i) ⟨y4, none, none, none, zs, rfl, Same.but s6 p, ⟨a, pn6, by omega⟩, bz, lz⟩ (fun i σ Hi hi S' => ?_) (fun σ Hi S' => ?_)
    · obtain ⟨y4, y5, y6, y7, zs, rfl, sb, ⟨a2, pn2, ha2⟩, bz, lz⟩ := S'
      have hi8 : i < 8 := hi
      have FBi := FB.but sb nmd1
      obtain ⟨l2, pen2, hl2⟩ := pn2.at_
      have lo2 := pn2.lo
      have few := pn2.few
      have n3 := FO.n3
      refine c_name (c_seq ⟨.ref D, rfl, D, rowsF fs, rfl, .inl FBi.hD, fun H6 R ts k1 n1 n2 n3' e6 pr => ?_⟩)
      have s6' : Same Hi H6 := k1
      refine ⟨.ref p, rfl, .ref D, rfl, D, rowsF fs, rfl, .inl (s6' _ _ FBi.hD), _, 1, rfl, rfl, p, c, ns, a2, l2, _, rfl, pen2.same s6', few, lo2, by omega, hl2, by omega, by rw [rowsF_len]; omega, fun H7 at0 a7 l7 sb7 pen7 g1 g2 g3 d0 d1 => ⟨_, _, rfl, ?_⟩⟩
      obtain ⟨n, rfl⟩ := Int.eq_ofNat_of_zero_le d0
      have hn : n ≤ fs.length := by
        rw [rowsF_len] at d1
        omega
      have nRp : R ≠ p := fun z => pn2.some.1 (z ▸ n1)
      have nRL : R ≠ Lb := Ne.symm (ne_of_none bz.at_ n1)
      have e7 := sb7 R _ nRp e6
      have pn7 : Pn H7 p c ns a7 := ⟨⟨l7, pen7, g3⟩, few, by omega⟩
      have sb27 : SameBut p Hi H7 := (Same.but s6' p).trans sb7
      have pr7 := paired_mono pr fun t q h => tup_but sb7 (pen2.same s6').row _ _ h
      have FB7 := FBi.but sb27 fun es z => by
        rw [pen2.row] at z
        cases z
      refine c_nx (c_seq ⟨.ref R, rfl, .inl ⟨rfl, _, .inl (.inl e7)⟩, .int n, rfl, .ref p, rfl, .ref r, rfl, by show 3 ≤ sizeLine; decide, fun LL nLL => ?_⟩)
      have sLL := same_upd (o := HO.lst [.str "set", .str "keep", .str "unset"]) nLL
      have FB8 := FB7.same sLL
      have pn8 := pn7.same sLL
      have e8 := sLL _ _ e7
      have pr8 := paired_mono pr7 fun t q h => sLL _ _ h
      have sb28 : SameBut p Hi (upd H7 LL (.lst [.str "set", .str "keep", .str "unset"])) := sb27.trans (Same.but sLL p)
      have eLL : (upd H7 LL (.lst [.str "set", .str "keep", .str "unset"])) LL = some (.lst (endL.map V.str)) := upd_same
      generalize upd H7 LL (.lst [.str "set", .str "keep", .str "unset"]) = H8 at FB8 pn8 e8 pr8 sb28 eLL ⊢
      refine ⟨p, c, r, LL, ns, a7, ls, endL, rfl, pn8, by omega, FB8.hr, eLL, RO, fun H9 v d f a9 sb9 pn9 h9 rv BR lo9 => ⟨by show 2 ≤ sizeLine; decide, fun T nT => ?_⟩⟩
      obtain ⟨l8, pen8, _⟩ := pn8.at_
      have e9 := sb9 R _ nRp e8
      have pr9 := paired_mono pr8 fun t q h => tup_but sb9 pen8.row _ _ h
      have sT := same_upd (o := HO.tup [.str "fail x", v]) nT
      have eT : (upd H9 T (.tup [.str "fail x", v])) T = some (.tup [.str "fail x", v]) := upd_same
      have e10 := sT _ _ e9
      have pr10 := paired_mono pr9 fun t q h => sT _ _ h
      have rv10 := rv.same sT
      have pn10 := pn9.same sT
      have sb2A : SameBut p Hi (upd H9 T (.tup [.str "fail x", v])) := (sb28.trans sb9).trans (Same.but sT p)
      generalize upd H9 T (.tup [.str "fail x", v]) = HA at eT e10 pr10 rv10 pn10 sb2A ⊢
      refine ⟨R, _, ((n : Nat) : Int), .ref T, rfl, rfl, e10, ?_, by omega, by omega, ?_⟩
      · have h1 := Paired.length pr
        rw [rowsF_len] at h1
        rw [List.length_map]
        exact small1000 (by omega)
      have nfR : ∀ x ∈ f, x ≠ R := fun x hx z => by
        rcases lo9 x hx with y | ⟨es, y⟩
        · rw [z, e8] at y
          cases y
        · rw [z, e8] at y
          cases y
      have eIns : (ts.map V.ref).take ((n : Nat) : Int).toNat ++ [.ref T] ++ (ts.map V.ref).drop ((n : Nat) : Int).toNat = (ts.take n ++ [T] ++ ts.drop n).map V.ref := by
        rw [map_ins, Int.toNat_natCast]
      rw [eIns]
      have tkR := tup_updL (o := HO.lst ((ts.take n ++ [T] ++ ts.drop n).map V.ref)) e10
      have eRB : (upd HA R (.lst ((ts.take n ++ [T] ++ ts.drop n).map V.ref))) R = some (.lst ((ts.take n ++ [T] ++ ts.drop n).map V.ref)) := upd_same
      have prB : Paired (fun (t : Addr) (q : MRow) => (upd HA R (.lst ((ts.take n ++ [T] ++ ts.drop n).map V.ref))) t = some (.tup [q.2.1, q.2.2])) (ts.take n ++ [T] ++ ts.drop n) ((rowsF fs).take n ++ [(.text "fail x", .str "fail x", v)] ++ (rowsF fs).drop n) :=
        by
          have z := paired_mono (S := fun (t : Addr) (q : MRow) => (upd HA R (.lst ((ts.take n ++ [T] ++ ts.drop n).map V.ref))) t = some (.tup [q.2.1, q.2.2])) pr10 fun t q h => tkR _ _ h
          exact paired_ins (x := T) (y := (.text "fail x", .str "fail x", v)) (tkR _ _ eT) n z
      have rvB : RepA w (upd HA R (.lst ((ts.take n ++ [T] ++ ts.drop n).map V.ref))) v d f := rv10.keep ⟨fun x hx => upd_ne (nfR x hx), tkR⟩
      have sb2B : SameBut p Hi (upd HA R (.lst ((ts.take n ++ [T] ++ ts.drop n).map V.ref))) := fun b o nb e => by
        rw [upd_ne (ne_of_none e n1)]
        exact sb2A b o nb e
      have pnB : Pn (upd HA R (.lst ((ts.take n ++ [T] ++ ts.drop n).map V.ref))) p c ns a9 := pn10.off (upd_ne (Ne.symm nRp)) (upd_ne fun z => pn2.some.2 (z ▸ n1))
      generalize upd HA R (.lst ((ts.take n ++ [T] ++ ts.drop n).map V.ref)) = HB at eRB prB rvB sb2B pnB ⊢
      have bzB := bz.but sb2B pen2.row npS
      have FBB := FBi.but sb2B fun es z => by
        rw [pen2.row] at z
        cases z
      refine c_nx ⟨.ref Lb, rfl, .inl ⟨rfl, _, .inl (.inl bzB.at_)⟩, .ref R, rfl, R, _, _, rfl, eRB, prB, fun x hx => ?_, ?_, fun M nM => ?_⟩
      · rcases mem_ins hx with z | z
        · rw [z]
          exact kAt.text _ _
        · exact rowsF_all _ _ x z
      · rw [len_ins, rowsF_len]
        omega
      have sM := same_upd (o := mdo w M (mergeH [] ((rowsF fs).take n ++ [(.text "fail x", .str "fail x", v)] ++ (rowsF fs).drop n))) nM
      obtain ⟨f', DA, sub⟩ := DictAt.ins (M := M) n ((FBB.same sM).dict FO) (rvB.same sM) (fin_fresh FO fun x hx e => by
        injection e with e
        revert hx
        rw [← e]
        decide +kernel) (fun z => (FBB.dict FO).rv.dom M z nM) (fun z => rvB.dom M z nM) upd_same
      have bzM := bzB.same sM
      have nMi : Hi M = none := free_but sb2B pnB.some.1 nM
      have nM1 : H1 M = none := free_but sb pn2.some.1 nMi
      have nML : M ≠ Lb := Ne.symm (ne_of_none bzB.at_ nM)
      refine ⟨Lb, _, .ref M, rfl, rfl, bzM.at_, by rw [lz]; exact small1000 (by omega), ⟨_, _, _, _, _, rfl, fun b o nb e => ?_, ⟨a9, (pnB.same sM).off (upd_ne (Ne.symm nLp)) (upd_ne ncL), by omega⟩, bzM.snoc DA.rep ⟨nice_ins FO FB.FA (nstr (by decide +kernel) (by decide +kernel)) BR.1, finD_ins BR.2⟩ fun z hz => ?_, by rw [List.length_append, lz]; rfl⟩⟩
      · rw [upd_ne (ne_of_none e nLb1)]
        exact sM _ _ (sb2B b o nb (sb b o nb e))
      · rcases List.mem_cons.mp hz with rfl | hz
        · exact ⟨.inl nM1, nML⟩
        rcases sub z hz with hz | hz
        · obtain ⟨q, hq, rfl⟩ := List.mem_map.mp hz
          exact hS2 q hq
        · have h8 : H8 Lb = some (.lst zs) := sb28 Lb _ nLp bz.at_
          have zp : z ≠ p := fun y => by
            rcases lo9 z hz with x | ⟨es, x⟩
            · rw [y, pen8.row] at x
              cases x
            · rw [y, pen8.row] at x
              cases x
          refine ⟨?_, fun y => ?_⟩
          · cases e : H1 z with
            | none => exact .inl e
            | some o =>
              have y := sb28 z o zp (sb z o zp e)
              rcases lo9 z hz with x | ⟨es, x⟩
              · rw [x] at y
                cases y
              · rw [x] at y
                exact .inr ⟨es, by rw [e]; exact y.symm⟩
          · rcases lo9 z hz with x | ⟨es, x⟩
            · rw [y, h8] at x
              cases x
            · rw [y, h8] at x
              cases x
    · obtain ⟨y4, y5, y6, y7, zs, rfl, sb, ⟨a2, pn2, ha2⟩, bz, lz⟩ := S'
      have FBi := FB.but sb nmd1
      have fin : ∀ (σ : St) (Hf : Hp) (ys : List V), σ[0]? = some (some (.ref p)) → σ[3]? = some (some (.ref Lb)) → SameBut p H1 Hf → Pn Hf p c ns a2 → Bag w (Lo S H1) Hf Lb BentO ys → 1 ≤ ys.length → ys.length ≤ 100 → tCall (spPick K) [] E0 (tCons (tVar 0) (tCons (tVar 3) tNil)) σ Hf Q := fun σ Hf ys e0 e4 sb9 pn9 b h1 h2 =>
        ⟨.ref p, e0, .ref Lb, e4, p, c, ns, a2, .ref Lb, rfl, pn9, by omega, .inl ⟨Lb, ys, rfl, b.at_, h1, h2, fun H' y a' sb' pn' hb hy => by
          obtain ⟨l9, pen9, _⟩ := pn9.at_
          obtain ⟨d, f, rv, gd, lo⟩ := (b.but sb' pen9.row npS).one hy
          refine q H' y d f a' ((Same.but s1 p).trans (sb9.trans sb')) pn' (by omega) rv gd fun x hx => ?_
          rcases lo x hx with z | ⟨es, z⟩
          · exact .inl (s1.free z)
          · cases e : H x with
            | none => exact .inl e
            | some o =>
              have y := s1 x o e
              rw [z] at y
              exact .inr ⟨es, by rw [e]; exact y.symm⟩⟩⟩
      refine c_nx (c_seq ⟨.ref D, rfl, fun o no => ⟨D, o, rowsF fs, rfl, rfl, same_upd no _ _ FBi.hD, rowsF_txts fs, upd_same, _, rfl, ?_⟩⟩)
      have so := same_upd (o := HO.dK []) no
      have FBo := FBi.same so
      have pno := pn2.same so
      have bzo := bz.same so
      have sbo : SameBut p H1 (upd Hi o (.dK [])) := sb.trans (Same.but so p)
      generalize upd Hi o (.dK []) = H2' at FBo pno bzo sbo ⊢
      cases hf : fs with
      | nil =>
        show (if false = true then _ else _)
        exact iteF (c_next (c_nx (c_ret (fin _ H2' zs rfl rfl sbo pno bzo (by omega) (by omega)))))
      | cons q0 fs' =>
        show (if true = true then _ else _)
        obtain ⟨k0, hk0⟩ := inF (by rw [hf]; exact List.cons_ne_nil _ _)
        have p0 : ((.str k0, .dict (kvT ls)) : PyData × PyData) ∈ kvF fs := List.mem_map_of_mem (f := fun (q : Fin) => ((.str q.1, .dict (kvT q.2.2)) : PyData × PyData)) hk0
        have bq : isWordL (tl (Str.ofString "qqy")) = false ∨ (tl (Str.ofString "qqy")).take 2 = [113, 113] := .inr (by decide +kernel)
        have fx : ∀ x ∈ outL, NestedKey.text "fail x" ≠ .text x := fun x hx e => by
          injection e with e
          revert hx
          rw [← e]
          decide +kernel
        have nset : Nice 1 1 20 (.str "set") := nice_str (by decide +kernel) (by decide +kernel)
        have nqq : Nice 1 1 20 (.str "qqy") := nice_str (by decide +kernel) (by decide +kernel)
        let Gr : PyData → Prop := fun d => Nice 3 10 200 d ∧ sameW (.dict (kvT ls)) d = false
        have gg : ∀ {Hi : Hp}, FinB w Hi D r words fs ls → ∀ d, Gr d → BentO (.dict (kvF fs ++ [(.str "fail x", d)])) := fun b d hd => ⟨fin_more FO b.FA (nstr (by decide +kernel) (by decide +kernel)) hd.1, finD_words p0 hd.2⟩
        have w1 : ∀ {σ : St} {Hi : Hp}, FinB w Hi D r words fs ls → σ[1]? = some (some (.ref D)) → σ[2]? = some (some (.ref r)) → GivesR (tPlus w (tVar 1) (tC (.str "fail x")) (tPlus w (tVar 2) (tC (.str "qqy")) (tC (.str "set")))) σ Hi (Dat w S2 BentO) := fun {σ Hi} b e1 e2 =>
          plus_fin (G := Gr) b FO hS2 (pure_var e1) pure_c (kAt.text _ _) (.str _) fx
            (plus_new (G := fun d => d = .str "set") (pure_var e2) (rowsT_at b.hr RO.nd) (fun _ z => nomatch z) (by rw [rowsT_len]; have := RO.few; omega) pure_c (kAt.text _ _) (.str _) (RO.fresh bq) (dat_of pure_c (.str _) rfl (fun _ z => nomatch z)) fun d hd => by
              subst hd
              exact ⟨RO.more nqq (nset.mono (by decide) (by decide) (by decide)), same_not (p := (.str "qqy", .str "set")) (List.mem_append_right _ List.mem_cons_self) (not_inK RO bq)⟩) (gg b)
        have rc : RowOk endL (ls.drop 1) := ⟨by rw [List.map_drop]; exact List.Sublist.nodup (List.drop_sublist 1 _) RO.nd, by have := RO.few; rw [List.length_drop]; omega, fun q hq => RO.word q (List.mem_of_mem_drop hq), fun q hq => RO.lev q (List.mem_of_mem_drop hq), .inl rfl⟩
        have kc : kvT (ls.drop 1 ++ [(Str.ofString "qqy", Str.ofString "set")]) = kvT (ls.drop 1) ++ [(.str "qqy", .str "set")] := by
          unfold kvT
          rw [List.map_append]
          rfl
        have gc : Gr (.dict (kvT (ls.drop 1 ++ [(Str.ofString "qqy", Str.ofString "set")]))) := by
          rw [kc]
          exact ⟨rc.more nqq (nset.mono (by decide) (by decide) (by decide)), same_not (p := (.str "qqy", .str "set")) (List.mem_append_right _ List.mem_cons_self) (not_inK RO bq)⟩
        have w2 : ∀ {σ : St} {Hi : Hp}, FinB w Hi D r words fs ls → σ[1]? = some (some (.ref D)) → σ[2]? = some (some (.ref r)) → GivesR (tPlus w (tVar 1) (tC (.str "fail x")) (tPlusC w K (tVar 2) (tC (.str "qqy")) (tC (.str "set")))) σ Hi (Dat w S2 BentO) := fun {σ Hi} b e1 e2 =>
          plus_fin (G := Gr) b FO hS2 (pure_var e1) pure_c (kAt.text _ _) (.str _) fx
            (plus_cut (pure_var e2) b.hr RO.nd (by have := RO.few; omega) pure_c (RO.fresh bq) pure_c gc) (gg b)
        have lift : ∀ {Hx : Hp} {z : Addr}, SameBut p H1 Hx → Hx p ≠ none → Hx Lb ≠ none → Lo S2 Hx z → Lo S H1 z ∧ z ≠ Lb := fun {Hx z} sx px lx h => by
          rcases h with h | h
          · exact ⟨.inl (free_but sx px h), fun y => lx (y ▸ h)⟩
          · exact h
        refine iteT (c_seq ⟨.ref Lb, rfl, .inl ⟨rfl, _, .inl (.inl bzo.at_)⟩, c_cons (w1 FBo rfl rfl H2' (same_refl _) _ fun u Hj sj ⟨du, fu, ru, gu, lu⟩ => ⟨Lb, _, u, rfl, rfl, sj _ _ bzo.at_, by rw [lz]; decide, ?_⟩)⟩)
        have bz1 := (bzo.same sj).snoc ru gu fun z hz => lift sbo pno.some.1 (by rw [bzo.at_]; simp) (lu z hz)
        have sb1 : SameBut p H1 (upd Hj Lb (.lst (zs ++ [u]))) := fun b o nb e => by
          rw [upd_ne (ne_of_none e nLb1)]
          exact sj _ _ (sbo b o nb e)
        have pn1' : Pn (upd Hj Lb (.lst (zs ++ [u]))) p c ns a2 := (pno.same sj).off (upd_ne (Ne.symm nLp)) (upd_ne ncL)
        have l1 : (zs ++ [u]).length = 27 := by rw [List.length_append, lz]; rfl
        generalize upd Hj Lb (.lst (zs ++ [u])) = HX at bz1 sb1 pn1' ⊢
        generalize zs ++ [u] = zs1 at bz1 l1 ⊢
        have FB1 := FB.but sb1 nmd1
        refine c_nx ⟨.ref Lb, rfl, .inl ⟨rfl, _, .inl (.inl bz1.at_)⟩, c_cons (w2 FB1 rfl rfl HX (same_refl _) _ fun u2 Hk sk ⟨du2, fu2, ru2, gu2, lu2⟩ => ⟨Lb, _, u2, rfl, rfl, sk _ _ bz1.at_, by rw [l1]; decide, ?_⟩)⟩
        have bz2 := (bz1.same sk).snoc ru2 gu2 fun z hz => lift sb1 pn1'.some.1 (by rw [bz1.at_]; simp) (lu2 z hz)
        have sb2 : SameBut p H1 (upd Hk Lb (.lst (zs1 ++ [u2]))) := fun b o nb e => by
          rw [upd_ne (ne_of_none e nLb1)]
          exact sk _ _ (sb1 b o nb e)
        have pn2' : Pn (upd Hk Lb (.lst (zs1 ++ [u2]))) p c ns a2 := (pn1'.same sk).off (upd_ne (Ne.symm nLp)) (upd_ne ncL)
        have l2 : (zs1 ++ [u2]).length = 28 := by rw [List.length_append, l1]; rfl
        exact c_nx (c_ret (fin _ _ _ rfl rfl sb2 pn2' bz2 (by omega) (by omega)))
end
end KF
end L2
end
/-! ### PH -/
section
namespace L2
namespace KF
open PySem PySem.Spec PyProof.Rows PySem.KD KE KC PySem.KA
/-! ## defs that call repr: their promise holds from callers that show nothing -/
structure FnOkG (P : Program) (w : World) (K : PySem.W.Frag) (mg : Str → Option Value) (base : Heap) (CX : CXT) (k : Nat) (f : Addr) (fd : FuncData) (ps : List Str) (sp : Sp) : Prop where
  len : ∀ vs H Q E, sp vs H Q E → vs.length = ps.length
  run : ∀ (A : Around) (outer : List Env) (s : Shared) (H : Hp) (args : Args) (us : List Value) (vs : List V) (Q : VK) (E : XK), A.guards = some [] → Room k A → Env0 P w K mg base A outer s H → BindsTo s fd args (ps.zip us) → Vals vs us → sp vs H Q E →
    codeAny (model P w) A (.call (.ref f) args) (CR CX outer P w H s Q E) s
/-- a def of no default keeps its promise, if its body does so below a caller that shows nothing -/
theorem _root_.L2.Fun.okG {P : Program} {w : World} {K : PySem.W.Frag} {mg : Str → Option Value} {base : Heap} {x qual : Str} {st : Stmt} {f : Addr} {fd : FuncData} {N ps : List Str} {k : Nat} {sp : Sp} (F : Fun K x qual st f fd) (scope : FnScope N ps (defScope st)) (count : ∀ vs H Q E, sp vs H Q E → vs.length = ps.length)
    (keeps : ∀ (cdv : Value) (A : Around) (outer : List Env) (s : Shared) (H : Hp) (vs : List V) (Q : VK) (E : XK), A.guards = some [] → Room k (A.deeper (envOfC qual (defScope st) s.heap.objs.size f cdv)) → sp vs H Q E →
      ∃ t, PSs (cxOf CX0 P w K mg base N qual (defScope st) f cdv A outer s H E).nox (defBody st) t ∧ t { nx := fun _ H' => Q .non H', rt := Q } (start N vs) H) : FnOkG P w K mg base CX0 (k + 1) f fd ps sp := by
  obtain ⟨_, _, _, _, _, _, cdv, _, _, rfl, lk, code⟩ := F.ex
  constructor
  · exact count
  intro A outer s H args us vs Q E quiet room here bound rel asks
  have stay : ∀ b o, base.get? b = some o → s.heap.get? b = some o := fun b o e => (here.bs b o e).1
  have live : K.In s.heap := here.mod.kin.keeps stay
  have free : s.heap.NoLimit := here.mod.nolimit.keeps stay
  have kinds : ∀ y ∈ ps.zip us, (defScope st).names.lookup y.1 = some .local ∨ ((defScope st).names.lookup y.1 = some .cell ∧ ((cellsFrom (s.heap.objs.size + 1) (defScope st).names []).lookup y.1).isSome = true) := by
    rintro ⟨n, v⟩ hy
    cases scope.par n (List.of_mem_zip hy).1 with
    | inl z => exact .inl z
    | inr z => exact .inr ⟨z, PySem.W.cellsFrom_some _ _ _ (.inl z)⟩
  refine codeAny_call_function room.depth (live _ _ lk) rfl scope.co scope.gen rfl (PySem.W.codeRec_of live code) (bound _ _ _ _ ?_)
  refine wpAny_newFunctionEnv_cells scope.kind kinds fun env env_eq s1 x => ?_
  subst env_eq
  refine ⟨free.keeps x.toInCall.keep, codeAny_func ?_⟩
  obtain ⟨t, body, meets⟩ := keeps cdv A outer s H vs Q E quiet (room.deeper _) asks
  have begin_ : Inv (cxOf CX0 P w K mg base N qual (defScope st) f cdv A outer s H E) [] (start N vs) H s1 := inv_start scope room.hd here (count _ _ _ _ asks) rel x
  refine wpAny_mono (body.nox.run [] s1 (start N vs) H _ begin_ meets) (fun fl s' told => ?_) fun _ _ e => e
  cases fl with
  | ret u => exact let ⟨v, _, H', J, rv, q⟩ := told; ⟨v, H', J.os, J.bare, J.base, J.hok, rv, q⟩
  | next => exact let ⟨_, H', J, q⟩ := told; ⟨V.non, H', J.os, J.bare, J.base, J.hok, rfl, q⟩
  | brk => exact (told.elim fun _ z => z.elim fun _ y => y.2).elim
  | cont => exact (told.elim fun _ z => z.elim fun _ y => y.2).elim
/-- such a def, called by its name with arguments by position -/
theorem pe_callG {X : Cx} {CX : CXT} {k : Nat} {f : Addr} {fd : FuncData} {ps : List Str} {sp : Sp} {dvs : List V} {ds : List Value} {E : XK} {x : Str} {p pos : Pos} {e : Expr} {es : List Expr} {t : TA}
    (F : FnOkG X.prog X.w X.K X.mg X.base CX k f fd ps sp) (quiet : X.A.guards = some []) (room : Room k X.A) (glob : Gl X x) (at_ : X.mg x = some (.ref f)) (keep : PySem.W.keepIn X.K (.ref f) = true) (bound : Binds X.K fd ps ds) (dv : Vals dvs ds) (out : Passes CX X E) (given : PA X (e :: es) t)
    (n1 : (x == ("__debug__" : Str)) = false := by decide) (n2 : starEach (e :: es) X.env = (false, eval e X.env) :: starEach es X.env := by rfl) (n3 : (backTo pos (starEach es X.env)).any (·.1) = false := by rfl) : PE X (.Call (.Name x p) (e :: es) [] pos) (tCall sp dvs E t) := by
  constructor
  intro pins s σ H Q I asks
  refine wpAny_Call_Name_kw (ld_glob I glob at_ (PySem.W.callWith_K (h₀ := X.base) I.ok.mod.kin keep (thn (given.run pos pins s σ H _ I asks) ?_) n2 n3) n1)
  rintro us s1 ⟨vs, H1, J, rel, meets⟩
  refine ⟨J.kIn, ?_⟩
  have both : Vals (vs ++ dvs) (us ++ ds) := rel.append dv
  have many : (us ++ ds).length = ps.length := both.length.symm.trans (F.len _ _ _ _ meets)
  refine wpAny_call (codeAny_mono (F.run X.A X.stack s1 H1 ⟨us, []⟩ _ _ Q E quiet room J.env0 (bound s1 us J.kIn many) both meets) ?_)
  rintro (er | fl) s' told
  · exact out pins σ H1 s1 er s' J told
  · cases fl with
    | ret u => exact J.after told
    | _ => exact told.elim
/-! ## the law's call -/
section
variable {P : Program} {w : World} {K : PySem.W.Frag} {mg mb : Str → Option Value} {base : Heap}
def spLawG (K : PySem.W.Frag) : Sp := fun vs H Q _ => ∃ a ns, vs = [.ref a] ∧ SqL K H a (List.map V.int ns) ∧ ns.length ≤ 63 ∧ ∀ H', Q (.bl true) H'
/-- the law's call from the caller itself -/
theorem told_of {k : Nat} {f a : Addr} {fd : FuncData} {s₁ : Shared} {vs : List Value} {ns : List Int} (hk : k ≤ 12) (F : ∀ base : Heap, K.In base → base.Ns mainGlobals mg → FnOkG P w K mg base CX0 k f fd ["_law_script"] (spLawG K)) (binds : ∀ (s : Shared) (u : Value), BindsTo s fd ⟨[u], []⟩ [("_law_script", u)])
    (live : K.In s₁.heap) (glob : s₁.heap.Ns mainGlobals mg) (blt : s₁.heap.Ns builtinsNs mb) (boot : ∀ x : Str, x ≠ "__name__" → mb x = bootBuiltins x)
    (free : s₁.heap.NoLimit) (nogen : s₁.gens = #[]) (script : s₁.heap.get? a = some { cls := .type "list", data := .seq vs.toArray }) (intsA : IntsAre vs ns) (short : ns.length ≤ 63) :
    codeAny (model P w) callerA (.call (.ref f) ⟨[.ref a], []⟩) (fun r s' => r = .ok (.ret (.bool true)) ∧ OldK s₁.heap s'.heap ∧ s'.os = s₁.os ∧ AllBare s'.gens) s₁ := by
  have rv := vals_ints intsA
  have lenV := intsA.length
  have fits : ns.length ≤ sizeLine := Nat.le_trans short (by decide)
  have room : Room k callerA := Room.mono (k := 12) ⟨rfl, by decide, by decide⟩ hk
  have go : ∀ H : Hp, SqL K H a (ns.map V.int) → HOk P w H s₁.heap → (∀ b, H b ≠ none → b = a ∧ K.lookup a = none) → (∀ b o, H b = some o → ∃ ob xs, o = .frz ob (.lst xs)) →
      codeAny (model P w) callerA (.call (.ref f) ⟨[.ref a], []⟩) (fun r s' => r = .ok (.ret (.bool true)) ∧ OldK s₁.heap s'.heap ∧ s'.os = s₁.os ∧ AllBare s'.gens) s₁ := by
    intro H seq ok only frz
    have hidden : ∀ {b : Addr} {m : Str → Option Value}, s₁.heap.Ns b m → (hidT s₁.heap H).Ns b m := by
      rintro b m ⟨o, es, ep, e, d, more⟩
      refine ⟨o, es, ep, hidT_get e ?_, d, more⟩
      cases q : H b with
      | none => rfl
      | some u =>
        obtain ⟨rfl, _⟩ := only b (by rw [q]; exact fun z => nomatch z)
        rw [script] at e
        cases e
        cases d
    have kept : K.In (hidT s₁.heap H) := fun b o e => hidT_get (live b o e) (by
      cases q : H b with
      | none => rfl
      | some u =>
        obtain ⟨rfl, z⟩ := only b (by rw [q]; exact fun z => nomatch z)
        rw [z] at e
        cases e)
    have mod : Mod K mg (hidT s₁.heap H) := ⟨kept, hidden glob, ⟨mb, hidden blt, boot⟩, by
      obtain ⟨mc, h1, h2⟩ := free
      exact ⟨mc, hidden h1, h2⟩⟩
    have env0 : Env0 P w K mg (hidT s₁.heap H) callerA [] s₁ H :=
      { frames := rfl, mod := mod, bs := fun b o e => of_hidT e, bsz := Nat.le_of_eq (hidT_size _ _), funs := trivial, frf := (fun b hb => nomatch hb), hok := ok, bare := .of_eq nogen }
    refine codeAny_mono ((F _ kept (hidden glob)).run callerA [] s₁ H ⟨[.ref a], []⟩ [.ref a] [.ref a] (fun v _ => v = .bl true) E0 rfl room env0 (binds s₁ (.ref a)) (show Vals [V.ref a] [Value.ref a] from .cons rfl .nil) ⟨a, ns, rfl, seq, short, fun _ => rfl⟩) fun r s' told => ?_
    cases r with
    | error e => exact False.elim told
    | ok fl =>
      cases fl with
      | next => exact False.elim told
      | brk => exact False.elim told
      | cont => exact False.elim told
      | ret u =>
        obtain ⟨v, H', os, bare, un, ok', rel, rfl⟩ := told
        obtain rfl : u = Value.bool true := rel
        refine ⟨rfl, OldK.of_keep fun b o e => ?_, os, bare⟩
        cases q : H b with
        | none => exact un.keep b o e q (fun z => nomatch z) (by simp)
        | some u =>
          obtain ⟨ob, xs, rfl⟩ := frz b u q
          have later := un.frzs b ob _ q
          have e1 := (ok b _ q).1
          have e2 := (ok' b _ later).1
          rw [e] at e1
          cases e1
          exact e2
  cases inK : K.lookup a with
  | some o =>
    have e := live a o inK
    rw [script] at e
    cases e
    exact go (fun _ => none) (.inr ⟨_, vs.toArray, _, inK, rfl, rfl, rfl, by rw [List.size_toArray, lenV]; exact fits, by simpa using rv⟩) (fun b u z => nomatch z) (fun b z => absurd rfl z) fun b o z => nomatch z
  | none =>
    refine go (fun b => if b = a then some (.frz { cls := .type "list", data := .seq vs.toArray } (.lst (ns.map V.int))) else none) (.inl (.inr ⟨_, if_pos rfl⟩)) (fun b u z => ?_) (fun b z => ?_) fun b o z => ?_
    · dsimp only at z
      split at z
      · rename_i hb
        cases z
        subst hb
        exact ⟨script, by rw [List.length_map]; exact fits, vs, _, rv, script⟩
      · cases z
    · refine ⟨?_, inK⟩
      split at z
      · assumption
      · exact absurd rfl z
    · split at z
      · cases z
        exact ⟨_, _, rfl⟩
      · cases z
end
end KF
end L2
end
/-! ### PK2 -/
section
namespace L2
namespace KE
open PySem PySem.Spec PyProof.Rows PySem.KD
section
variable {X : Cx} {pins : List (Addr × Obj)} {σ : St} {H : Hp} {s : Shared} {d : Addr} {xs : List MRow}
/-- d.clear() of a dict with keys of several sorts -/
def tClearM (w : World) (td : TE) : TE := fun σ H Q => td σ H fun x H1 => ∃ a es, x = .ref a ∧ H1 a = some (mdo w a es) ∧ Q .non (upd H1 a (mdo w a []))
theorem pe_clearM {o : Expr} {to : TE} {apos cpos : Pos} (ho : PE X o to) (hbase : attributeBase o "clear" X.env (eval o X.env) = eval o X.env := by rfl) (hline : (apos.endLine == cpos.line) = true := by rfl) : PE X (.Call (.Attribute o "clear" apos) [] [] cpos) (tClearM X.w to) := by
  refine ⟨fun pins s σ H Q I h => ?_⟩
  refine wpAny_Call_method (T := "dict") (id := "dict.clear") hbase rfl hline F.plainAttrs_dict F.slot_dict_clear F.type_dict_clear (thn (ho.run pins s σ H _ I h) fun u s1 ⟨x, H1, I1, rx, d, es, ex, hd, q⟩ => ?_)
  subst ex
  obtain rfl : u = Value.ref d := rx
  obtain ⟨l, sy, rows, rr, D⟩ := mdo_rd I1.hok (.inl hd)
  obtain ⟨ens, ep, raw, he⟩ := D.raw
  have hl : ens.size = es.length := by
    rw [row_size he]
    exact (Paired.length rr).symm
  refine ⟨raw.typeIs, fun b eb => ?_, ?_⟩
  · cases eb
    obtain ⟨o, ho, ex, _⟩ := raw
    exact ⟨o, ho, ex.2.1⟩
  show wpAny _ _ (callWith cpos (.builtin "dict.clear") [.ref d] [] []) _ X.xe s1
  refine method_meetsIn F.slot_dict_clear F.entry_dict_clear rfl (PySem.evalArgs_none ⟨rfl, raw.typeIs, F.args_dict_clear_1 _, _, meets_dict_clear_raw d, ⟨ens, ep, raw, by
    rw [hl]
    exact Nat.le_of_lt (small1000 l), fun h' raw' hs => ?_⟩⟩)
  refine ⟨.non, _, wrM (tk := s1.toks) (es := []) (rows := []) I1 hd (Nat.zero_le _) sy .nil ?_ hs, rfl, q⟩
  obtain ⟨o, ho, ex, hd⟩ := raw'
  exact ⟨⟨o, #[], ep + 1, ho, ex, hd, rfl⟩, List.nodup_nil⟩
end
end KE
end L2
end
/-! ### PL2 -/
section
namespace L2
namespace KF
open PySem PySem.Spec PyProof.Rows PySem.KD KE KC PySem.KA KM TL
/-! ## right profiles -/
/-- the words of all rows are the reads' -/
def allW (df dr : PyData) : Bool := (kvOf df).all fun p => sameW p.2 dr
/-- what is due of Profile(df, dr): None, or the text of the wrong one -/
def dueV (df dr : PyData) : V := if finD df = true then (if rowD readL dr = true ∧ allW df dr = true then .non else .str dr.shown) else .str df.shown
theorem scal_due (df dr : PyData) : scal (dueV df dr) (dueV df dr) = true := by
  unfold dueV
  split
  · split <;> rfl
  · rfl
theorem row_right {lv : List Str} {ls : List (Str × Str)} (R : RowOk lv ls) : rowD lv (.dict (kvT ls)) = true := by
  show (kvT ls).all (fun p => wordD p.1 && levD lv p.2) = true
  refine List.all_eq_true.mpr fun p hp => ?_
  obtain ⟨q, hq, rfl⟩ := List.mem_map.mp hp
  show (isWordL (tl q.1) && decide (q.2 ∈ lv)) = true
  rw [(R.word q hq).1, decide_eq_true (R.lev q hq)]
  rfl
theorem inK_kvT {x : Str} {ls : List (Str × Str)} : inK (.str x) (.dict (kvT ls)) = true ↔ x ∈ ls.map (·.1) := by
  show ((kvT ls).any fun p => eqT (.str x) p.1) = true ↔ _
  rw [List.any_eq_true]
  constructor
  · rintro ⟨p, hp, e⟩
    obtain ⟨q, hq, rfl⟩ := List.mem_map.mp hp
    have e2 : x = q.1 := of_decide_eq_true e
    rw [e2]
    exact List.mem_map_of_mem hq
  · intro h
    obtain ⟨q, hq, e⟩ := List.mem_map.mp h
    exact ⟨(.str q.1, .str q.2), List.mem_map_of_mem (f := fun (q : Str × Str) => ((.str q.1, .str q.2) : PyData × PyData)) hq, decide_eq_true e.symm⟩
theorem same_words {a b : List (Str × Str)} (h : ∀ x, x ∈ a.map (·.1) ↔ x ∈ b.map (·.1)) : sameW (.dict (kvT a)) (.dict (kvT b)) = true := by
  show ((kvT a).all (fun p => inK p.1 (.dict (kvT b))) && (kvT b).all fun p => inK p.1 (.dict (kvT a))) = true
  rw [Bool.and_eq_true, List.all_eq_true, List.all_eq_true]
  constructor
  · intro p hp
    obtain ⟨q, hq, rfl⟩ := List.mem_map.mp hp
    exact inK_kvT.mpr ((h q.1).mp (List.mem_map_of_mem hq))
  · intro p hp
    obtain ⟨q, hq, rfl⟩ := List.mem_map.mp hp
    exact inK_kvT.mpr ((h q.1).mpr (List.mem_map_of_mem hq))
theorem outD_right : ∀ x ∈ outL, outD (.str x) = true := by
  intro x hx
  simp only [List.mem_cons, List.not_mem_nil, or_false] at hx
  rcases hx with rfl | rfl | rfl | rfl <;> decide +kernel
theorem fin_right {w : World} {H : Hp} {words : List Str} {fs : List Fin} (FO : FinOk words fs) (FA : FsAt w H words fs) : finD (.dict (kvF fs)) = true := by
  show ((kvF fs).all (fun p => outD p.1 && rowD endL p.2) && (kvF fs).all fun p => (kvF fs).all fun q => sameW p.2 q.2) = true
  rw [Bool.and_eq_true, List.all_eq_true, List.all_eq_true]
  constructor
  · intro p hp
    obtain ⟨q, hq, rfl⟩ := List.mem_map.mp hp
    rw [outD_right q.1 (FO.fo q hq), row_right (FO.row FA hq)]
    rfl
  · intro p hp
    rw [List.all_eq_true]
    intro p2 hp2
    obtain ⟨q, hq, rfl⟩ := List.mem_map.mp hp
    obtain ⟨q2, hq2, rfl⟩ := List.mem_map.mp hp2
    exact same_words fun x => by rw [FA.keys q hq, FA.keys q2 hq2]
theorem allW_right {w : World} {H : Hp} {words : List Str} {fs : List Fin} {ls : List (Str × Str)} (FA : FsAt w H words fs) (h : ∀ x, x ∈ ls.map (·.1) ↔ x ∈ words) : allW (.dict (kvF fs)) (.dict (kvT ls)) = true := by
  show ((kvF fs).all fun p => sameW p.2 (.dict (kvT ls))) = true
  rw [List.all_eq_true]
  intro p hp
  obtain ⟨q, hq, rfl⟩ := List.mem_map.mp hp
  exact same_words fun x => by rw [FA.keys q hq, h x]
theorem allW_wrong {w : World} {H : Hp} {words : List Str} {fs : List Fin} {ls : List (Str × Str)} {x : Str} (FO : FinOk words fs) (FA : FsAt w H words fs) (ne : fs ≠ []) (hx : x ∈ ls.map (·.1)) (bad : (tl x).take 2 = [113, 113]) : allW (.dict (kvF fs)) (.dict (kvT ls)) = false := by
  show ((kvF fs).all fun p => sameW p.2 (.dict (kvT ls))) = false
  cases fs with
  | nil => exact absurd rfl ne
  | cons q0 fs =>
    refine List.all_eq_false.mpr ⟨(.str q0.1, .dict (kvT q0.2.2)), List.mem_cons_self, ?_⟩
    obtain ⟨z, hz, e⟩ := List.mem_map.mp hx
    rw [same_not (a := .dict (kvT q0.2.2)) (b := .dict (kvT ls)) (p := (.str z.1, .str z.2)) (List.mem_map_of_mem (f := fun (q : Str × Str) => ((.str q.1, .str q.2) : PyData × PyData)) hz) (by
      rw [e]
      exact not_inK (FO.row FA List.mem_cons_self) (.inr bad))]
    exact Bool.false_ne_true
theorem due_none {df dr : PyData} (h1 : finD df = true) (h2 : rowD readL dr = true) (h3 : allW df dr = true) : dueV df dr = .non := by
  unfold dueV
  rw [if_pos h1, if_pos ⟨h2, h3⟩]
theorem due_reads {df dr : PyData} (h1 : finD df = true) (h2 : rowD readL dr = false ∨ allW df dr = false) : dueV df dr = .str dr.shown := by
  unfold dueV
  rw [if_pos h1, if_neg]
  rintro ⟨a, b⟩
  rcases h2 with h | h
  · rw [h] at a
    cases a
  · rw [h] at b
    cases b
theorem due_fin {df dr : PyData} (h1 : finD df = false) : dueV df dr = .str df.shown := by
  unfold dueV
  rw [h1, if_neg Bool.false_ne_true]
theorem cut_drop (xs : List V) (n : Nat) : cutV xs (some ((n : Nat) : Int)) none = xs.drop n := by
  unfold cutV
  rw [HT.sIx_none, HT.sIx_nat]
  by_cases h : n ≤ xs.length
  · rw [Nat.min_eq_left h]
    exact List.take_of_length_le (Nat.le_of_eq List.length_drop)
  · rw [Nat.min_eq_right (by omega), Nat.sub_self, List.take_zero, List.drop_of_length_le (by omega)]
theorem ProfAt.finOk {w : World} {H : Hp} {D R : Addr} {words : List Str} {fs : List Fin} {rs : List (Str × Str)} (P : ProfAt w H D R words fs rs) (W : WordsOk words) (l : words.length ≤ 3) : FinOk words fs := ⟨W.nd, l, W.ok, P.fk, P.fo, P.few⟩
theorem ProfAt.rowR {w : World} {H : Hp} {D R : Addr} {words : List Str} {fs : List Fin} {rs : List (Str × Str)} (P : ProfAt w H D R words fs rs) (W : WordsOk words) (l : words.length ≤ 3) : RowOk readL rs := by
  refine ⟨by rw [P.rk]; exact W.nd, ?_, fun z hz => W.ok z.1 (by rw [← P.rk]; exact List.mem_map_of_mem hz), P.rl, .inr rfl⟩
  have := P.rk
  rw [← this, List.length_map] at l
  exact l
theorem repr_but {w : World} {p : Addr} {H H' : Hp} {kv : List (Key × V)} {v : V} {d : PyData} {f : List Addr} (r : RepA w H v d f) (sb : SameBut p H H') (hp : H p = some (.dK kv)) (nf : ∀ a ∈ f, a ≠ p) : RepA w H' v d f := by
  have z : RepAA w H [v] [d] (f ++ []) := .cons r .nil
  rw [List.append_nil] at z
  have y := repA_but sb hp z nf
  obtain ⟨d2, g, r2, hd, sub⟩ := repAll_mem y List.mem_cons_self
  refine r.keep ⟨fun a ha => ?_, tup_but sb hp⟩
  cases e : H a with
  | none => exact absurd e (r.dom a ha)
  | some o => exact sb a o (nf a ha) e
theorem profF {w : World} {H : Hp} {D R : Addr} {words : List Str} {fs : List Fin} {rs : List (Str × Str)} (P : ProfAt w H D R words fs rs) (W : WordsOk words) (l : words.length ≤ 3) : RepA w H (.ref D) (.dict (kvF fs)) (D :: fs.map (·.2.1)) := (rowsF_at P.hD P.rows W.nd P.fk (fun z => (List.nodup_cons.mp P.nd).1 (List.mem_cons_of_mem _ z))).rep
theorem profR {w : World} {H : Hp} {D R : Addr} {words : List Str} {fs : List Fin} {rs : List (Str × Str)} (P : ProfAt w H D R words fs rs) (W : WordsOk words) : RepA w H (.ref R) (.dict (kvT rs)) [R] := (rowsT_at P.hR (by rw [P.rk]; exact W.nd)).rep
theorem look_in {ls : List (Str × Str)} {x : Str} : (lookH (rowsT ls) (.text x)).isSome = true ↔ x ∈ ls.map (·.1) := by
  unfold lookH
  rw [List.find?_isSome]
  constructor
  · rintro ⟨p, hp, e⟩
    obtain ⟨q, hq, rfl⟩ := List.mem_map.mp hp
    have e2 := (beq_iff _ _).mp e
    injection e2 with e2
    rw [← e2]
    exact List.mem_map_of_mem hq
  · intro h
    obtain ⟨q, hq, e⟩ := List.mem_map.mp h
    exact ⟨(.text q.1, .str q.1, .str q.2), List.mem_map_of_mem (f := fun (q : Str × Str) => ((.text q.1, .str q.1, .str q.2) : MRow)) hq, (beq_iff _ _).mpr (by rw [← e])⟩
end KF
end L2
end
/-! ### PJ -/
section
namespace L2
namespace KF
open PySem PySem.Spec PyProof.Rows PySem.KD KE KC PySem.KA KM TL
/-! ## the law -/
abbrev sJ : Stmt := topS 36
abbrev jN : List Str := ["_law_script", "_law_pen", "_law_turn", "_law_names", "_law_plain", "_law_finals", "_law_reads", "_law_kind", "_law_due", "_law_told", "_law_kept", "_law_row"]
theorem scJ : FnScope jN ["_law_script"] (defScope sJ) := ⟨rfl, rfl, rfl, by decide +kernel, rfl, by decide +kernel, by decide +kernel⟩
structure BltJ (mg : Str → Option Value) : Prop where
  int : mg "int" = none
  len : mg "len" = none
  list : mg "list" = none
  dict : mg "dict" = none
  range : mg "range" = none
  repr : mg "repr" = none
  min : mg "min" = none
section
variable {P : Program} {w : World} {K : PySem.W.Frag} {mg : Str → Option Value} {base : Heap}
def spWrong (w : World) : Sp := fun vs H Q _ => ∃ vf vr df dr ff fr, vs = [vf, vr] ∧ RepA w H vf df ff ∧ RepA w H vr dr fr ∧ Nice 5 70 3000 df ∧ Nice 5 70 3000 dr ∧ ∀ H', Same H H' → Q (dueV df dr) H'
/-- what the law wants of the class -/
structure ProfI (w : World) (C CV : Addr) (spI spO spR spN : Sp) (EO ER EN : XK) where
  PX : Hp → Addr → PyData → PyData → PyData → (Addr → Prop) → Prop
  ins : ∀ {H x o r n S}, PX H x o r n S → ∃ dx fs, H x = some (.ins C dx fs)
  keep : ∀ {H H' x o r n S}, PX H x o r n S → (∀ a u, S a → H a = some u → H' a = some u) → TupK H H' → PX H' x o r n S
  init : ∀ {H x dx vf vr df dr ff fr Q E}, H x = some (.ins C dx []) → H dx = some (.own x) → x ≠ dx → RepA w H vf df ff → RepA w H vr dr fr → Nice 5 70 3000 df → Nice 5 70 3000 dr → finD df = true → rowD readL dr = true → allW df dr = true →
    (∀ H' S o r n, (∀ b u, b ≠ x → b ≠ dx → H b = some u → H' b = some u) → PX H' x o r n S → (∀ a, S a → a = x ∨ a = dx ∨ H a = none) → Nice 5 70 3000 o → Nice 5 70 3000 r → Nice 5 70 3000 n → Q .non H') → spI [.ref x, vf, vr] H Q E
  bad : ∀ {H x dx vf vr df dr ff fr Q} {E : XK}, H x = some (.ins C dx []) → H dx = some (.own x) → x ≠ dx → RepA w H vf df ff → RepA w H vr dr fr → Nice 5 70 3000 df → Nice 5 70 3000 dr → (finD df = false ∨ rowD readL dr = false ∨ allW df dr = false) →
    (∀ H' d fs v f, (∀ b u, b ≠ x → b ≠ dx → H b = some u → H' b = some u) → H' d = some (.xd fs) → fs.lookup (Str.ofString "value") = some v → Rep w H' v (if finD df = true then dr else df) f → E (.ref CV) (some d) H') → spI [.ref x, vf, vr] H Q E
  out : ∀ {H x o r n S Q}, PX H x o r n S → (∀ H' v f, Same H H' → Rep w H' v o f → Q v H') → spO [.ref x] H Q EO
  rds : ∀ {H x o r n S Q}, PX H x o r n S → (∀ H' v f, Same H H' → Rep w H' v r f → Q v H') → spR [.ref x] H Q ER
  nms : ∀ {H x o r n S Q}, PX H x o r n S → (∀ H' v f, Same H H' → Rep w H' v n f → Q v H') → spN [.ref x] H Q EN
theorem ok_law81 {CXI CXO CXR CXN : CXT} {spI spO spR spN : Sp} {EI EO ER EN : XK} {C CV f fSrc fD fP fL fS fWL fDP fR fBO fW fI fO fRd fN aO aR aN : Addr} {fd fdSrc fdD fdP fdL fdS fdWL fdDP fdR fdBO fdW fdI fdO fdRd fdN : FuncData}
    (F : Fun K "law" "law" sJ f fd) (FSrc : Fun K "_law_source" "_law_source" sPen fSrc fdSrc) (gSrc : mg "_law_source" = some (.ref fSrc)) (bSrc : Binds K fdSrc ["_law_script"] [])
    (FD : Fun K "_law_draw" "_law_draw" sDraw fD fdD) (gD : mg "_law_draw" = some (.ref fD)) (bD : Binds K fdD ["_law_pen", "_law_many"] [])
    (FP : Fun K "_law_pick" "_law_pick" sPick fP fdP) (gP : mg "_law_pick" = some (.ref fP)) (bP : Binds K fdP ["_law_pen", "_law_items"] [])
    (FL : Fun K "_law_levels" "_law_levels" sLv fL fdL) (gL : mg "_law_levels" = some (.ref fL)) (bL : Binds K fdL ["_law_pen", "_law_words", "_law_levels_here"] [])
    (FS : Fun K "_law_shuffled" "_law_shuffled" sShuf fS fdS) (gS : mg "_law_shuffled" = some (.ref fS)) (bS : Binds K fdS ["_law_pen", "_law_items"] [])
    (FWL : Fun K "_law_word_list" "_law_word_list" sWL fWL fdWL) (gWL : mg "_law_word_list" = some (.ref fWL)) (bWL : Binds K fdWL ["_law_pen", "_law_many"] [])
    (FDP : Fun K "_law_drawn_profile" "_law_drawn_profile" sDp fDP fdDP) (gDP : mg "_law_drawn_profile" = some (.ref fDP)) (bDP : Binds K fdDP ["_law_pen", "_law_words"] [])
    (FR : Fun K "_law_bent_row" "_law_bent_row" sBR fR fdR) (gR : mg "_law_bent_row" = some (.ref fR)) (bR : Binds K fdR ["_law_pen", "_law_row", "_law_levels_here"] [])
    (FBO : Fun K "_law_bent_outcomes" "_law_bent_outcomes" sBO fBO fdBO) (gBO : mg "_law_bent_outcomes" = some (.ref fBO)) (bBO : Binds K fdBO ["_law_pen", "_law_finals"] [])
    (GW : FnOkG P w K mg base CX0 8 fW fdW ["_law_finals", "_law_reads"] (spWrong w)) (FWk : PySem.W.keepIn K (.ref fW) = true) (gW : mg "_law_wrong" = some (.ref fW)) (bW : Binds K fdW ["_law_finals", "_law_reads"] [])
    (MK : Mk K C fI) (gC : mg "Profile" = some (.ref C)) (GI : FnOk P w K mg base CXI 7 fI fdI ["self", "outcomes", "reads"] spI) (bI : Binds K fdI ["self", "outcomes", "reads"] [])
    (cl : Cls K C) (pO : PropOf K C "outcomes" aO fO) (GO : FnOk P w K mg base CXO 7 fO fdO ["self"] spO) (bO : Binds K fdO ["self"] [])
    (pR : PropOf K C "reads" aR fRd) (GRd : FnOk P w K mg base CXR 7 fRd fdRd ["self"] spR) (bRd : Binds K fdRd ["self"] [])
    (pN : PropOf K C "names" aN fN) (GN : FnOk P w K mg base CXN 7 fN fdN ["self"] spN) (bN : Binds K fdN ["self"] [])
    (hxI : ∀ cdv A outer s H E, Passes CXI (cxOf CX0 P w K mg base jN "law" (defScope sJ) f cdv A outer s H E).nox EI) (hxO : ∀ cdv A outer s H E, Passes CXO (cxOf CX0 P w K mg base jN "law" (defScope sJ) f cdv A outer s H E).nox.nox EO)
    (hxR : ∀ cdv A outer s H E, Passes CXR (cxOf CX0 P w K mg base jN "law" (defScope sJ) f cdv A outer s H E).nox.nox ER) (hxN : ∀ cdv A outer s H E, Passes CXN (cxOf CX0 P w K mg base jN "law" (defScope sJ) f cdv A outer s H E).nox.nox EN)
    (I : ProfI w C CV spI spO spR spN EO ER EN) (B : BltJ mg) : FnOkG P w K mg base CX0 10 f fd ["_law_script"] (spLawG K) := by
  have BD : BltD mg := ⟨B.int, B.len, B.list⟩
  have BL : BltL mg := ⟨B.dict, B.list⟩
  have BW : BltW mg := ⟨B.int, B.len, B.range⟩
  have GSrc : FnOk P w K mg base CX0 1 fSrc fdSrc ["_law_script"] (spPen K) := ok_pen FSrc BD
  have GD : FnOk P w K mg base CX0 1 fD fdD ["_law_pen", "_law_many"] spDraw := ok_draw FD BD
  have GWL : FnOk P w K mg base CX0 3 fWL fdWL ["_law_pen", "_law_many"] spWL := ok_wl FWL FD gD bD FP gP bP BD BW
  have GL : FnOk P w K mg base CX0 3 fL fdL ["_law_pen", "_law_words", "_law_levels_here"] (spLv K w) := ok_lv FL FD gD bD FP gP bP BD BL
  have GDP : FnOk P w K mg base CX0 4 fDP fdDP ["_law_pen", "_law_words"] (spDP K w) := ok_dp FDP FD gD bD FP gP bP FL gL bL FS gS bS BD BL
  have GR : FnOk P w K mg base CX0 3 fR fdR ["_law_pen", "_law_row", "_law_levels_here"] (spBR K w) := ok_br FR FD gD bD FP gP bP BD BL
  have GBO : FnOk P w K mg base CX0 4 fBO fdBO ["_law_pen", "_law_finals"] (spBO K w) := ok_bo FBO FD gD bD FP gP bP FR gR bR BD BL BW
  refine F.okG scJ (fun vs H Q E h => ?_) (fun cdv A outer s H vs Q E quiet hr h => ?_)
  · obtain ⟨a, ns, rfl, _⟩ := h
    rfl
  · obtain ⟨a, ns, rfl, hS, hl, q⟩ := h
    have hr1 := hr.mono (show 1 ≤ 9 by decide)
    have hr3 := hr.mono (show 3 ≤ 9 by decide)
    have hr4 := hr.mono (show 4 ≤ 9 by decide)
    have hr8 := hr.mono (show 8 ≤ 9 by decide)
    have hc : (cxOf CX0 P w K mg base jN "law" (defScope sJ) f cdv A outer s H E).nox.calm = true := rfl
    have hgX : (cxOf CX0 P w K mg base jN "law" (defScope sJ) f cdv A outer s H E).nox.A.guards = some [] := quiet
    have hu1 : (cxOf CX0 P w K mg base jN "law" (defScope sJ) f cdv A outer s H E).nox.A.units < cLine := by
      have := hr.un
      show (A.deeper _).units < cLine
      omega
    have hu10 : (cxOf CX0 P w K mg base jN "law" (defScope sJ) f cdv A outer s H E).nox.A.units + 10 < cLine := by
      have := hr.un
      show (A.deeper _).units + 10 < cLine
      omega
    have hu40 : (cxOf CX0 P w K mg base jN "law" (defScope sJ) f cdv A outer s H E).nox.A.units + 40 < cLine := by
      have := hr.un
      show (A.deeper _).units + 40 < cLine
      omega
    have hxI := hxI cdv A outer s H E
    have hxO := hxO cdv A outer s H E
    have hxR := hxR cdv A outer s H E
    have hxN := hxN cdv A outer s H E
    refine ⟨_, (pss_cons (ps_set (i := 1) scJ.nd rfl (.inl rfl) (pe_call GSrc hr1 (by rfl) gSrc FSrc.kp bSrc .nil pass0 (pa_cons (pv 0) pa_nil)))
      (pss_cons (ps_for PassesOwn.never rfl (pi_range1 (by rfl) B.range (pa_cons (pe_op op_add pe_int (pe_callB (call_min2 hc) (by rfl) B.min (by decide +kernel) (pa_cons pe_int (pa_cons (pe_callB call_len_seq (by rfl) B.len PySem.boot_len (pa_cons (pv 0) pa_nil)) pa_nil)))) pa_nil)) (pg_name (i := 2) scJ.nd rfl (.inl rfl)) (pss_cons (ps_set (i := 3) scJ.nd rfl (.inl rfl) (pe_slice sl_list (pe_call GWL hr3 (by rfl) gWL FWL.kp bWL .nil pass0 (pa_cons (pv 1) (pa_cons pe_int pa_nil))) po_none (po_some (pe_call GD hr1 (by rfl) gD FD.kp bD .nil pass0 (pa_cons (pv 1) (pa_cons pe_int pa_nil))))))
      (pss_cons (ps_set (i := 4) scJ.nd rfl (.inl rfl) (pe_call GDP hr4 (by rfl) gDP FDP.kp bDP .nil pass0 (pa_cons (pv 1) (pa_cons (pv 3) pa_nil))))
      (pss_cons (ps_par3 (i := 5) (j := 6) (l := 7) hc scJ.nd rfl rfl rfl (by decide) (by decide) (by decide) rfl rfl rfl (pa_cons (pe_ix ix_seq (pv 4) pe_int (fun _ _ => rfl)) (pa_cons (pe_ix ix_seq (pv 4) pe_int (fun _ _ => rfl)) (pa_cons (pe_call GD hr1 (by rfl) gD FD.kp bD .nil pass0 (pa_cons (pv 1) (pa_cons pe_int pa_nil))) pa_nil))) (by rfl))
      (pss_cons (ps_set (i := 8) scJ.nd rfl (.inl rfl) pe_non)
      (pss_cons (ps_if (pt_cmpR op_gt (pv 7) pe_int (nomark _)) (pss_cons (ps_set (i := 6) scJ.nd rfl (.inl rfl) (pe_call GR hr3 (by rfl) gR FR.kp bR .nil pass0 (pa_cons (pv 1) (pa_cons (pe_ix ix_seq (pv 4) pe_int (fun _ _ => rfl)) (pa_cons (pe_lst (pa_cons pe_str (pa_cons pe_str (pa_cons pe_str pa_nil)))) pa_nil)))))
      (pss_one (ps_set (i := 8) scJ.nd rfl (.inl rfl) (pe_callB (callReprD hgX hu40) (by rfl) B.repr boot_repr (pa_cons (pv 6) pa_nil))))) pss_nil)
      (pss_cons (ps_if (PW.pt (pw_and (pt_cmpR op_eq (pv 7) pe_int (nomark _)) (pw_and1 (pt_cmpR (op_neM hu1) (pv 5) pe_dnewK (nomark _))))) (pss_cons (ps_set (i := 6) scJ.nd rfl (.inl rfl) (pe_call GL hr3 (by rfl) gL FL.kp bL .nil pass0 (pa_cons (pv 1) (pa_cons (pe_slice sl_list (pe_op op_cat (pv 3) (pe_lst (pa_cons pe_str pa_nil))) (po_some (pe_call GD hr1 (by rfl) gD FD.kp bD .nil pass0 (pa_cons (pv 1) (pa_cons pe_int pa_nil)))) po_none) (pa_cons (pe_lst (pa_cons pe_str (pa_cons pe_str pa_nil))) pa_nil)))))
      (pss_one (ps_set (i := 8) scJ.nd rfl (.inl rfl) (pe_ifExp (PW.pt (pw_or (pt_cmpR op_ne (pe_callB callLenM (by rfl) B.len PySem.boot_len (pa_cons (pv 6) pa_nil)) (pe_callB call_len_seq (by rfl) B.len PySem.boot_len (pa_cons (pv 3) pa_nil)) (nomark _)) (pw_or1 (pt_cmpR (op_inM hu10) pe_str (pv 6) rfl)))) (pe_callB (callReprD hgX hu40) (by rfl) B.repr boot_repr (pa_cons (pv 6) pa_nil)) pe_non)))) pss_nil)
      (pss_cons (ps_if (pt_cmpR op_eq (pe_op op_mod (pe_callTy call_int1 (by rfl) B.int boot_int (pa_cons (pv 7) pa_nil)) pe_int) pe_int (nomark _)) (pss_cons (ps_set (i := 5) scJ.nd rfl (.inl rfl) (pe_call GBO hr4 (by rfl) gBO FBO.kp bBO .nil pass0 (pa_cons (pv 1) (pa_cons (pe_ix ix_seq (pv 4) pe_int (fun _ _ => rfl)) pa_nil))))
      (pss_one (ps_set (i := 8) scJ.nd rfl (.inl rfl) (pe_callB (callReprD hgX hu40) (by rfl) B.repr boot_repr (pa_cons (pv 5) pa_nil))))) pss_nil)
      (pss_cons (ps_if (pt_cmpR op_ne (pe_callG GW hgX hr8 (by rfl) gW FWk bW .nil pass0 (pa_cons (pv 5) (pa_cons (pv 6) pa_nil))) (pv 8) (nomark _)) (pss_one (ps_ret pe_bl)) pss_nil)
      (pss_cons (ps_set (i := 9) scJ.nd rfl (.inl rfl) (pe_make MK GI hr8 (by rfl) gC bI .nil hxI (pa_cons (pe_ix ix_seq (pv 4) pe_int (fun _ _ => rfl)) (pa_cons (pe_ix ix_seq (pv 4) pe_int (fun _ _ => rfl)) pa_nil))))
      (pss_cons (ps_set (i := 10) scJ.nd rfl (.inl rfl) (pe_callB (callReprD hgX hu40) (by rfl) B.repr boot_repr (pa_cons (pe_lst (pa_cons (pe_prop (pv 9) cl pO GO hr8 bO .nil hxO rfl) (pa_cons (pe_prop (pv 9) cl pR GRd hr8 bRd .nil hxR rfl) (pa_cons (pe_prop (pv 9) cl pN GN hr8 bN .nil hxN rfl) pa_nil)))) pa_nil)))
      (pss_cons (ps_lock (ps_for PassesOwn.never rfl (piValsM (pe_ix ix_seq (pv 4) pe_int (fun _ _ => rfl))) (pg_name (i := 11) scJ.nd rfl (.inl rfl)) (pss_one (ps_expr (pe_clearM (pv 11))))))
      (pss_cons (ps_expr (pe_clearM (pe_ix ix_seq (pv 4) pe_int (fun _ _ => rfl))))
      (pss_cons (ps_asg (pe_disp (pps_cons pe_str pe_str pps_nil) rfl rfl (by decide) (by decide)) (pg_sub (pe_ix ix_seq (pv 4) pe_int (fun _ _ => rfl)) pe_str (setM hu10)))
      (pss_one (ps_if (pt_cmpR op_ne (pe_callB (callReprD hgX hu40) (by rfl) B.repr boot_repr (pa_cons (pe_lst (pa_cons (pe_prop (pv 9) cl pO GO hr8 bO .nil hxO rfl) (pa_cons (pe_prop (pv 9) cl pR GRd hr8 bRd .nil hxR rfl) (pa_cons (pe_prop (pv 9) cl pN GN hr8 bN .nil hxN rfl) pa_nil)))) pa_nil)) (pv 10) (nomark _)) (pss_one (ps_ret pe_bl)) pss_nil))))))))))))))))
      (pss_one (ps_ret pe_bl)))), ?_⟩
    have hw : (cxOf CX0 P w K mg base jN "law" (defScope sJ) f cdv A outer s H E).nox.w = w := rfl
    -- the pen
    refine ⟨.ref a, rfl, a, ns, rfl, hS, hl, fun H1 p c ns' s1 np nc hns' pen1 => ?_⟩
    refine ⟨.ref a, rfl, a, _, rfl, .inl (s1.seq hS), _, _, rfl, 10, _, rfl, rfl, _, rfl, ?_, ?_, ?_⟩
    · split <;> omega
    · split <;> omega
    refine for_range (lo := 0) (fun i σ Hi => ∃ y2 y3 y4 y5 y6 y7 y8 y9 y10 y11, σ = [some (.ref a), some (.ref p), y2, y3, y4, y5, y6, y7, y8, y9, y10, y11] ∧ ∃ a0, Pn Hi p c ns' a0 ∧ a0 ≤ 100 * i)
      ⟨none, none, none, none, none, none, none, none, none, none, rfl, 0, ⟨⟨0, pen1, Int.le_refl _⟩, hns', Int.le_refl _⟩, by omega⟩ (fun i σ Hi hi hp => ?_) (fun σ Hi hp => ?_)
    · obtain ⟨y2, y3, y4, y5, y6, y7, y8, y9, y10, y11, rfl, a0, pn0, ha0⟩ := hp
      have hi8 : i < 21 := by
        have z : i < (10 + (if ((ns.map V.int).length : Int) < 10 then ((ns.map V.int).length : Int) else 10)).toNat := hi
        revert z
        split <;> omega
      have lo0 := pn0.lo
      -- names
      refine c_name (c_seq (c_asg ?_))
      refine ⟨.ref p, rfl, p, c, ns', a0, 3, rfl, pn0, by omega, by decide, fun H2 b ws a2 sb2 pn2 ha2 nb eb WO lw => ?_⟩
      obtain ⟨l2, pen2, hl2⟩ := pn2.at_
      have lo2 := pn2.lo
      refine ⟨.ref p, rfl, p, c, ns', a2, l2, 4, rfl, pen2, hns', lo2, by omega, hl2, by decide, by decide, fun H3 d a3 l3 sb3 pen3 g1 g2 g3 d0 d4 => ?_⟩
      obtain ⟨n, rfl⟩ := Int.eq_ofNat_of_zero_le d0
      have pn3 : Pn H3 p c ns' a3 := ⟨⟨l3, pen3, g3⟩, hns', by omega⟩
      have eb3 := sb3 b _ (pn2.ne eb) eb
      refine ⟨_, rfl, b, _, rfl, .inl (.inl eb3), fun N nN => ?_⟩
      have ec : cutV (List.map V.str ws) none (some ((n : Nat) : Int)) = (ws.take n).map V.str := by rw [cut_take, List.map_take]
      rw [ec]
      have WT : WordsOk (ws.take n) := ⟨nd_take WO.nd n, fun x hx => WO.ok x (List.mem_of_mem_take hx)⟩
      have lT : (ws.take n).length ≤ 3 := by
        rw [List.length_take]
        omega
      generalize ws.take n = words at WT lT ⊢
      have sN := same_upd (o := HO.lst (words.map V.str)) nN
      have eN : (upd H3 N (.lst (words.map V.str))) N = some (.lst (words.map V.str)) := upd_same
      have pn4 := pn3.same sN
      generalize upd H3 N (.lst (words.map V.str)) = H4 at eN pn4 ⊢
      -- plain
      refine c_name (c_nx (c_seq (c_asg ⟨.ref p, rfl, .ref N, rfl, p, c, N, ns', a3, words, rfl, pn4, by omega, eN, WT.nd, by omega, fun H5 T D R fs rs a5 sb5 pn5 ha5 eT nT PA fr => ?_⟩)))
      obtain ⟨l5, pen5, hl5⟩ := pn5.at_
      have lo5 := pn5.lo
      have nNp := pn4.ne eN
      have eN5 := sb5 N _ nNp eN
      -- finals, reads, kind
      refine c_name (c_nx (c_seq ?_))
      refine ⟨.ref T, rfl, .inr (.inl ⟨T, _, _, .ref D, rfl, rfl, .inl (.inl eT), atN (i := 0) rfl, .ref T, rfl, .inr (.inl ⟨T, _, _, .ref R, rfl, rfl, .inl (.inl eT), atN (i := 1) rfl, ?_⟩)⟩)⟩
      refine ⟨.ref p, rfl, p, c, ns', a5, l5, 5, rfl, pen5, hns', lo5, by omega, hl5, by decide, by decide, fun H6 kd a6 l6 sb6 pen6 j1 j2 j3 k0 k5 => ⟨_, _, _, rfl, ?_⟩⟩
      obtain ⟨k, rfl⟩ := Int.eq_ofNat_of_zero_le k0
      have hk5 : k < 5 := by omega
      have pn6 : Pn H6 p c ns' a6 := ⟨⟨l6, pen6, j3⟩, hns', by omega⟩
      have eP6 := pen6.row
      have nTp : T ≠ p := fun z => by
        have y := pen5.row
        rw [← z, eT] at y
        cases y
      have eT6 := sb6 T _ nTp eT
      have eN6 := sb6 N _ nNp eN5
      have PA6 := PA.but sb6 pen5.row
      have FO := PA6.finOk WT lT
      have RR := PA6.rowR WT lT
      have finR := fin_right FO PA6.rows
      have rowR := row_right RR
      have allR : allW (.dict (kvF fs)) (.dict (kvT rs)) = true := allW_right PA6.rows fun x => by rw [PA6.rk]
      have nF : Nice 5 70 3000 (.dict (kvF fs)) := fin_nice (kvF_nice FO PA6.rows) (by rw [kvF_len]; have := FO.n3; omega)
      have nR : Nice 5 70 3000 (.dict (kvT rs)) := RR.self.mono (by decide) (by decide) (by decide)
      have mD : ∀ es, H6 p ≠ some (mdo w p es) := fun es z => by
        rw [eP6] at z
        cases z
      have nRp : ∀ x ∈ [R], x ≠ p := fun x hx z => by
        rw [List.mem_singleton.mp hx] at z
        exact mD (rowsT rs) (z ▸ PA6.hR)
      clear ec PA eT eN5 sb5 fr nT
      have due0 := due_none finR rowR allR
      refine c_nx (c_seq (c_asg (c_const (c_name ?_))))
      -- what holds between the ifs
      let Pm : Nat → St → Hp → Prop := fun m σ Hm => ∃ vr dr f vd am, σ = [some (.ref a), some (.ref p), some (.int (0 + ((i : Nat) : Int))), some (.ref N), some (.ref T), some (.ref D), some vr, some (.int ((k : Nat) : Int)), some vd, y9, y10, y11] ∧ SameBut p H6 Hm ∧ Pn Hm p c ns' am ∧ am ≤ a6 + m ∧ RepA w Hm vr dr f ∧ (∀ x ∈ f, x ≠ p) ∧ Nice 5 70 3000 dr ∧ vd = dueV (.dict (kvF fs)) dr
      refine c_nx (c_cut (Pm 2) (fun σ1 Hm hm => ?_) (fun tail1 => ?_))
      · obtain ⟨vr, dr, f, vd, am, rfl, sbm, pnm, ham, rr, nfm, nrm, ev⟩ := hm
        refine c_cut (Pm 10) (fun σ2 Hn hn => ?_) (fun tail2 => ?_)
        · obtain ⟨vr, dr, f, vd, am, rfl, sbm, pnm, ham, rr, nfm, nrm, ev⟩ := hn
          refine c_cut (fun σ Hm => ∃ vf df ff vr dr f vd am, σ = [some (.ref a), some (.ref p), some (.int (0 + ((i : Nat) : Int))), some (.ref N), some (.ref T), some vf, some vr, some (.int ((k : Nat) : Int)), some vd, y9, y10, y11] ∧ SameBut p H6 Hm ∧ Pn Hm p c ns' am ∧ am ≤ a6 + 60 ∧ RepA w Hm vf df ff ∧ RepA w Hm vr dr f ∧ Nice 5 70 3000 df ∧ Nice 5 70 3000 dr ∧ vd = dueV df dr) (fun σ3 Ho ho => ?_) (fun tail3 => ?_)
          · obtain ⟨vf, df, ff, vr, dr, f, vd, am, rfl, sbm, pnm, ham, rvf, rvr, nf', nr', ev⟩ := ho
            subst ev
            -- if wrong(..) != due
            refine c_seq ⟨vf, rfl, vr, rfl, vf, vr, df, dr, ff, f, rfl, rvf, rvr, nf', nr', fun H8 s8 => ⟨dueV df dr, rfl, scal_due df dr, _, rfl, ?_⟩⟩
            rw [decide_eq_true rfl]
            have PA8 := (PA6.but sbm eP6).same s8
            have eT8 := s8 _ _ (sbm T _ nTp eT6)
            have pn8 := pnm.same s8
            -- told
            refine iteF (c_next (c_nx (c_seq (c_asg ⟨.ref T, rfl, .inr (.inl ⟨T, _, _, .ref D, rfl, rfl, .inl (.inl eT8), atN (i := 0) rfl, .ref T, rfl, .inr (.inl ⟨T, _, _, .ref R, rfl, rfl, .inl (.inl eT8), atN (i := 1) rfl, fun x dx nx ndx ne => ?_⟩)⟩)⟩))))
            have sX : Same H8 (upd (upd H8 dx (.own x)) x (.ins C dx [])) := fun b u e => by
              rw [upd_ne (ne_of_none e nx), upd_ne (ne_of_none e ndx)]
              exact e
            refine I.init (x := x) (dx := dx) upd_same (by rw [upd_ne ne]; exact upd_same) (Ne.symm ne) (profF (PA8.same sX) WT lT) (profR (PA8.same sX) WT) nF nR finR rowR allR fun H9 S o r n kp px sS no nr nn => ⟨rfl, ?_⟩
            have s89 : Same H8 H9 := fun b u e => kp b u (ne_of_none e nx) (ne_of_none e ndx) (sX b u e)
            have sNone : ∀ b, S b → H8 b = none := fun b hb => by
              rcases sS b hb with z | z | z
              · rw [z]
                exact nx
              · rw [z]
                exact ndx
              · exact sX.free z
            have n3 : Nice 6 211 9003 (.list [o, r, n]) := Nice.list (D := 5) (N := 70) (W := 3000) (k := 3) (fun y hy => by
              rcases List.mem_cons.mp hy with rfl | hy
              · exact no
              rcases List.mem_cons.mp hy with rfl | hy
              · exact nr
              rw [List.mem_singleton.mp hy]
              exact nn) (Nat.le_refl _)
            have kp3 : ∀ {σ : St} {Hx : Hp} {Q : VK}, σ[9]? = some (some (.ref x)) → I.PX Hx x o r n S → (∀ H', Same Hx H' → Q (.str (PyData.list [o, r, n]).shown) H') → tCB (rReprD w) (tCons (tLst (tCons (tProp C spO [] EO (tVar 9)) (tCons (tProp C spR [] ER (tVar 9)) (tCons (tProp C spN [] EN (tVar 9)) tNil)))) tNil) σ Hx Q := by
              intro σ Hx Q e px q
              obtain ⟨dx1, fs1, i1⟩ := I.ins px
              refine ⟨.ref x, e, x, dx1, fs1, rfl, i1, I.out px fun Ha va fa sa ra => ?_⟩
              have pa := I.keep px (fun a u _ z => sa a u z) (tup_same sa)
              obtain ⟨dx2, fs2, i2⟩ := I.ins pa
              refine ⟨.ref x, e, x, dx2, fs2, rfl, i2, I.rds pa fun Hb vb fb sb rb => ?_⟩
              have pb := I.keep pa (fun a u _ z => sb a u z) (tup_same sb)
              obtain ⟨dx3, fs3, i3⟩ := I.ins pb
              refine ⟨.ref x, e, x, dx3, fs3, rfl, i3, I.nms pb fun Hc vc fc sc rc => ⟨by show 3 ≤ sizeLine; decide, fun L nL => ?_⟩⟩
              have sL := same_upd (o := HO.lst [va, vb, vc]) nL
              exact ⟨.ref L, .list [o, r, n], _, rfl, .lst upd_same (.cons (ra.same ((sb.trans sc).trans sL)) (.cons (rb.same (sc.trans sL)) (.cons (rc.same sL) .nil))), n3.show_, n3.len (by decide), Nat.le_trans n3.dep (by decide), q _ (((sa.trans sb).trans sc).trans sL)⟩
            -- kept
            refine c_name (c_nx (c_seq (c_asg (kp3 rfl px fun HA sA => ?_))))
            have pxA := I.keep px (fun a u _ z => sA a u z) (tup_same sA)
            have PAA := PA8.same (s89.trans sA)
            have eTA := (s89.trans sA) _ _ eT8
            have pnA := pn8.same (s89.trans sA)
            have sT : ∀ {z : Addr}, (∃ es, HA z = some (mdo w z es)) → T ≠ z := fun ⟨es, h⟩ e => by
              rw [← e, eTA] at h
              cases h
            obtain ⟨ndD, ndR⟩ := List.nodup_cons.mp PAA.nd
            obtain ⟨ndR1, _⟩ := List.nodup_cons.mp ndR
            have nDR : D ≠ R := fun z => ndD (z ▸ List.mem_cons_self)
            have nDf : ∀ q ∈ fs, q.2.1 ≠ D := fun q hq z => ndD (z ▸ List.mem_cons_of_mem _ (List.mem_map_of_mem hq))
            have nRf : ∀ q ∈ fs, q.2.1 ≠ R := fun q hq z => ndR1 (z ▸ List.mem_map_of_mem hq)
            have nTD := sT ⟨_, PAA.hD⟩
            have nTR := sT ⟨_, PAA.hR⟩
            have nTf : ∀ q ∈ fs, T ≠ q.2.1 := fun q hq => sT ⟨_, PAA.rows.at_ q hq⟩
            -- the rows are cleared
            refine c_name (c_nx (c_seq ⟨D, mdo w D (rowsF fs), PAA.hD, trivial, fun od => ⟨.ref T, rfl, .inr (.inl ⟨T, [.ref D, .ref R], _, .ref D, rfl, rfl, .inl (.inl ?_), atN (i := 0) rfl, D, od, rowsF fs, rfl, upd_same, ?_⟩)⟩⟩))
            · rw [upd_ne nTD]
              exact eTA
            refine for_it (walkVM (w := w) (d := D) (o := od) (es := rowsF fs)) (fun j σ Hi => ∃ y, σ = [some (.ref a), some (.ref p), some (.int (0 + ((i : Nat) : Int))), some (.ref N), some (.ref T), some vf, some vr, some (.int ((k : Nat) : Int)), some (dueV df dr), some (.ref x), some (.str (PyData.list [o, r, n]).shown), y] ∧ Hi D = some (.frz od (mdo w D (rowsF fs))) ∧ (∀ b u, b ≠ D → (∀ q ∈ fs, b ≠ q.2.1) → HA b = some u → Hi b = some u) ∧ ∀ q ∈ fs, ∃ es, Hi q.2.1 = some (mdo w q.2.1 es))
              ⟨y11, rfl, upd_same, fun b u nb _ z => by rw [upd_ne nb]; exact z, fun q hq => ⟨_, by rw [upd_ne (nDf q hq)]; exact PAA.rows.at_ q hq⟩⟩ (fun j σ Hi _ hp => ?_) (fun j x' σ Hi Hj hj hp hy => ?_) (fun σ Hi hp => ?_)
            · obtain ⟨_, _, h, _⟩ := hp
              exact h
            · obtain ⟨y, rfl, hD, st, fw⟩ := hp
              obtain ⟨rfl, p', hp', rfl⟩ := hy
              obtain ⟨q0, hq0, e0⟩ := List.mem_map.mp (List.mem_of_getElem? hp')
              subst e0
              obtain ⟨es0, ee⟩ := fw q0 hq0
              refine c_name ⟨.ref q0.2.1, rfl, q0.2.1, es0, rfl, ee, ⟨_, rfl, ?_, fun b u nb nf z => ?_, fun q hq => ?_⟩⟩
              · rw [upd_ne (Ne.symm (nDf q0 hq0))]
                exact hD
              · rw [upd_ne (nf q0 hq0)]
                exact st b u nb nf z
              · by_cases e : q.2.1 = q0.2.1
                · rw [e]
                  exact ⟨[], upd_same⟩
                · rw [upd_ne e]
                  exact fw q hq
            obtain ⟨y, rfl, hD, st, fw⟩ := hp
            refine ⟨hD, ?_⟩
            have eDB : (upd Hi D (mdo w D (rowsF fs))) D = some (mdo w D (rowsF fs)) := upd_same
            have stB : ∀ b u, b ≠ D → (∀ q ∈ fs, b ≠ q.2.1) → HA b = some u → (upd Hi D (mdo w D (rowsF fs))) b = some u := fun b u nb nf z => by
              rw [upd_ne nb]
              exact st b u nb nf z
            generalize upd Hi D (mdo w D (rowsF fs)) = HB at eDB stB ⊢
            have eTB := stB T _ nTD nTf eTA
            have eRB := stB R _ (Ne.symm nDR) (fun q hq => Ne.symm (nRf q hq)) PAA.hR
            refine c_nx (c_seq ⟨.ref T, rfl, .inr (.inl ⟨T, _, _, .ref R, rfl, rfl, .inl (.inl eTB), atN (i := 1) rfl, R, rowsT rs, rfl, eRB, ?_⟩)⟩)
            have eDC : (upd HB R (mdo w R [])) D = some (mdo w D (rowsF fs)) := by
              rw [upd_ne nDR]
              exact eDB
            have stC : ∀ b u, b ≠ D → b ≠ R → (∀ q ∈ fs, b ≠ q.2.1) → HA b = some u → (upd HB R (mdo w R [])) b = some u := fun b u n1 n2 nf z => by
              rw [upd_ne n2]
              exact stB b u n1 nf z
            rw [hw]
            generalize upd HB R (mdo w R []) = HC at eDC stC ⊢
            refine c_nx (c_seq (c_asg fun M nM => ⟨upd_same, [(.inr "zzz", .str "set")], rfl, by show 1 ≤ 15; decide, ?_⟩))
            have sM : Same HC (upd (upd HC M (.dK [])) M (.dK (mergeK [] [(.inr "zzz", .str "set")]))) := fun b u e => by
              rw [upd_ne (ne_of_none e nM), upd_ne (ne_of_none e nM)]
              exact e
            have eDM := sM _ _ eDC
            have stM : ∀ b u, b ≠ D → b ≠ R → (∀ q ∈ fs, b ≠ q.2.1) → HA b = some u → (upd (upd HC M (.dK [])) M (.dK (mergeK [] [(.inr "zzz", .str "set")]))) b = some u := fun b u n1 n2 nf z => sM _ _ (stC b u n1 n2 nf z)
            generalize upd (upd HC M (.dK [])) M (.dK (mergeK [] [(.inr "zzz", .str "set")])) = HM at eDM stM ⊢
            have eTM := stM T _ nTD nTR nTf eTA
            refine ⟨.ref T, rfl, .inr (.inl ⟨T, _, _, .ref D, rfl, rfl, .inl (.inl eTM), atN (i := 0) rfl, D, rowsF fs, .text "done", rfl, eDM, by rw [rowsF_len]; have := FO.n3; omega, rowsF_all _ _, kAt.text _ _, ?_⟩)⟩
            have stE : ∀ b u, b ≠ D → b ≠ R → (∀ q ∈ fs, b ≠ q.2.1) → HA b = some u → (upd HM D (mdo w D (putH (rowsF fs) (.text "done") (.str "done") (.ref M)))) b = some u := fun b u n1 n2 nf z => by
              rw [upd_ne n1]
              exact stM b u n1 n2 nf z
            generalize upd HM D (mdo w D (putH (rowsF fs) (.text "done") (.str "done") (.ref M))) = HE at stE ⊢
            have apart : ∀ b u, (∀ es, u ≠ mdo w b es) → HA b = some u → HE b = some u := fun b u nm z => stE b u (fun e => by
              subst e
              rw [PAA.hD] at z
              exact nm _ (Option.some.inj z).symm) (fun e => by
              subst e
              rw [PAA.hR] at z
              exact nm _ (Option.some.inj z).symm) (fun q hq e => by
              subst e
              rw [PAA.rows.at_ q hq] at z
              exact nm _ (Option.some.inj z).symm) z
            have pxE := I.keep pxA (fun b u hb z => stE b u (fun e => by
              have := sNone b hb
              rw [e, PA8.hD] at this
              cases this) (fun e => by
              have := sNone b hb
              rw [e, PA8.hR] at this
              cases this) (fun q hq e => by
              have := sNone b hb
              rw [e, PA8.rows.at_ q hq] at this
              cases this) z) fun b xs z => apart b _ (fun es e => by cases e) z
            obtain ⟨lA, penA, hlA⟩ := pnA.at_
            have pnE : Pn HE p c ns' am := pnA.off ((apart p _ (fun es e => by cases e) penA.row).trans penA.row.symm) ((apart c _ (fun es e => by cases e) penA.cells).trans penA.cells.symm)
            refine c_nx (kp3 rfl pxE fun HF sF => ⟨_, rfl, rfl, _, rfl, ?_⟩)
            rw [decide_eq_true rfl]
            exact iteF (c_next (c_nx ⟨_, _, _, _, _, _, _, _, _, _, rfl, am, pnE.same sF, by omega⟩))
          · have eTn := sbm T _ nTp eT6
            have PAn := PA6.but sbm eP6
            obtain ⟨ln, penn, hln⟩ := pnm.at_
            refine ⟨.int ((k : Nat) : Int), rfl, .inl ⟨_, rfl, _, 2, rfl, rfl, Int.pos_of_lt_lit (by decide), rfl, _, rfl, ite2 (fun od => ?_) (fun ev' => ?_)⟩⟩
            · refine c_seq (c_asg ⟨.ref p, rfl, .ref T, rfl, .inr (.inl ⟨T, _, _, .ref D, rfl, rfl, .inl (.inl eTn), atN (i := 0) rfl, p, c, D, ns', am, words, fs, rfl, pnm, by omega, PAn.hD, (fun z => (List.nodup_cons.mp PAn.nd).1 (List.mem_cons_of_mem _ z)), PAn.rows, FO, fun HB v d f2 aB sbB pnB hB rvB BOd loB => ?_⟩)⟩)
              exact c_name (c_nx (c_asg ⟨v, rfl, v, d, f2, rfl, rvB.rep, BOd.1.show_, BOd.1.len (by decide), Nat.le_trans BOd.1.dep (by decide), c_name (c_nx (tail3 _ _ ⟨v, d, f2, vr, dr, f, _, aB, rfl, sbm.trans sbB, pnB, by omega, rvB, repr_but rr sbB penn.row nfm, BOd.1, nrm, (due_fin BOd.2).symm⟩))⟩))
            · exact c_next (c_nx (tail3 _ _ ⟨.ref D, _, _, vr, dr, f, vd, am, rfl, sbm, pnm, by omega, profF PAn WT lT, rr, nF, nrm, ev⟩))
        · have PAm := PA6.but sbm eP6
          have eNm := sbm N _ nNp eN6
          obtain ⟨lm, penm, hlm⟩ := pnm.at_
          have lom := pnm.lo
          refine ⟨.int ((k : Nat) : Int), rfl, rfl, _, rfl, ite2 (fun e2 => ?_) (fun n2 => ?_)⟩
          · refine ⟨.ref D, rfl, fun o no => ⟨D, o, rowsF fs, rfl, rfl, same_upd no _ _ PAm.hD, rowsF_txts fs, upd_same, _, rfl, ?_⟩⟩
            have so := same_upd (o := HO.dK []) no
            have sbo : SameBut p Hm (upd Hm o (.dK [])) := Same.but so p
            have pno := pnm.same so
            have eNo := so _ _ eNm
            have rro := rr.same so
            generalize upd Hm o (.dK []) = Hx at so sbo pno eNo rro ⊢
            cases hf : fs with
            | nil =>
              show (if false = true then _ else _)
              exact iteF (c_next (c_nx (tail2 _ _ ⟨vr, dr, f, vd, am, rfl, sbm.trans sbo, pno, by omega, rro, nfm, nrm, ev⟩)))
            | cons q0 fs' =>
              show (if true = true then _ else _)
              have nef : fs ≠ [] := by
                rw [hf]
                exact List.cons_ne_nil _ _
              refine iteT (c_seq (c_asg ⟨.ref p, rfl, ?_⟩))
              refine ⟨.ref N, rfl, by show 1 ≤ sizeLine; decide, fun L1 nL1 => ?_⟩
              have sL1 := same_upd (o := HO.lst [.str "qqz"]) nL1
              refine ⟨N, L1, _, _, rfl, rfl, sL1 _ _ eNo, upd_same, ?_, fun L2 nL2 => ?_⟩
              · rw [List.length_map]
                show _ + 1 ≤ sizeLine
                have := small1000 (n := words.length + 1) (by omega)
                omega
              have ew : words.map V.str ++ [V.str "qqz"] = (words ++ [Str.ofString "qqz"]).map V.str := by
                rw [List.map_append]
                rfl
              rw [ew]
              have sL2 := same_upd (o := HO.lst ((words ++ [Str.ofString "qqz"]).map V.str)) nL2
              have eL2 : (upd (upd Hx L1 (.lst [.str "qqz"])) L2 (.lst ((words ++ [Str.ofString "qqz"]).map V.str))) L2 = some (.lst ((words ++ [Str.ofString "qqz"]).map V.str)) := upd_same
              have pnL2 := (pno.same sL1).same sL2
              have sbL2 : SameBut p Hm (upd (upd Hx L1 (.lst [.str "qqz"])) L2 (.lst ((words ++ [Str.ofString "qqz"]).map V.str))) := sbo.trans (Same.but (sL1.trans sL2) p)
              generalize upd (upd Hx L1 (.lst [.str "qqz"])) L2 (.lst ((words ++ [Str.ofString "qqz"]).map V.str)) = HL at eL2 pnL2 sbL2 ⊢
              obtain ⟨lL, penL, hlL⟩ := pnL2.at_
              refine ⟨.ref p, rfl, p, c, ns', am, lL, 2, rfl, penL, hns', lom, by omega, hlL, by decide, by decide, fun H9 d a9 l9 sb9 pen9 g1 g2 g3 d0 d2 => ?_⟩
              obtain ⟨n, rfl⟩ := Int.eq_ofNat_of_zero_le d0
              have nL2p := pnL2.ne eL2
              have eL29 := sb9 L2 _ nL2p eL2
              have pn9 : Pn H9 p c ns' a9 := ⟨⟨l9, pen9, g3⟩, hns', by omega⟩
              refine ⟨_, rfl, L2, _, rfl, .inl (.inl eL29), fun L3 nL3 => ?_⟩
              rw [cut_drop, ← List.map_drop]
              have sL3 := same_upd (o := HO.lst (((words ++ [Str.ofString "qqz"]).drop n).map V.str)) nL3
              have eL3 : (upd H9 L3 (.lst (((words ++ [Str.ofString "qqz"]).drop n).map V.str))) L3 = some (.lst (((words ++ [Str.ofString "qqz"]).drop n).map V.str)) := upd_same
              have pnL3 := pn9.same sL3
              have sbL3 : SameBut p Hm (upd H9 L3 (.lst (((words ++ [Str.ofString "qqz"]).drop n).map V.str))) := (sbL2.trans sb9).trans (Same.but sL3 p)
              have nqw : Str.ofString "qqz" ∉ words := fun z => (WT.ok _ z).2 (by decide +kernel)
              have und : ((words ++ [Str.ofString "qqz"]).drop n).Nodup := List.Sublist.nodup (List.drop_sublist n _) (List.nodup_append.mpr ⟨WT.nd, by simp, fun x hx y hy e => nqw (by
                rw [← List.mem_singleton.mp hy, ← e]
                exact hx)⟩)
              have ulen : ((words ++ [Str.ofString "qqz"]).drop n).length = words.length + 1 - n := by
                rw [List.length_drop, List.length_append]
                rfl
              have uwd : ∀ x ∈ (words ++ [Str.ofString "qqz"]).drop n, isWordL (tl x) = true := fun x hx => by
                rcases List.mem_append.mp (List.mem_of_mem_drop hx) with z | z
                · exact (WT.ok x z).1
                · rw [List.mem_singleton.mp z]
                  decide +kernel
              have uin : Str.ofString "qqz" ∉ (words ++ [Str.ofString "qqz"]).drop n → words = [] ∧ (words ++ [Str.ofString "qqz"]).drop n = [] := fun h => by
                match n, d2 with
                | 0, _ => exact absurd (List.mem_append_right words List.mem_cons_self) h
                | 1, _ =>
                  cases hw : words with
                  | nil => exact ⟨rfl, rfl⟩
                  | cons x xs =>
                    rw [hw] at h
                    exact absurd (List.mem_append_right xs List.mem_cons_self) h
              have ueq : ((words ++ [Str.ofString "qqz"]).drop n).length ≠ words.length → Str.ofString "qqz" ∈ (words ++ [Str.ofString "qqz"]).drop n := fun h => by
                match n, d2 with
                | 0, _ => exact List.mem_append_right words List.mem_cons_self
                | 1, _ => exact absurd (by rw [ulen]; omega) h
              generalize upd H9 L3 (.lst (((words ++ [Str.ofString "qqz"]).drop n).map V.str)) = HM at eL3 pnL3 sbL3 ⊢
              generalize (words ++ [Str.ofString "qqz"]).drop n = u at eL3 und ulen uwd uin ueq ⊢
              refine ⟨by show 2 ≤ sizeLine; decide, fun LV nLV => ?_⟩
              have sLV := same_upd (o := HO.lst [.str "none", .str "entry"]) nLV
              have eLV : (upd HM LV (.lst [.str "none", .str "entry"])) LV = some (.lst ((["none", "entry"] : List Str).map V.str)) := upd_same
              have eL3V := sLV _ _ eL3
              have pnV := pnL3.same sLV
              have nL3p := pnL3.ne eL3
              have nLVp : LV ≠ p := fun z => pnL3.some.1 (z ▸ nLV)
              have sbV : SameBut p Hm (upd HM LV (.lst [.str "none", .str "entry"])) := sbL3.trans (Same.but sLV p)
              generalize upd HM LV (.lst [.str "none", .str "entry"]) = HV at eLV eL3V pnV sbV ⊢
              refine ⟨p, c, L3, LV, ns', a9, u, ["none", "entry"], rfl, pnV, by omega, .inl (.inl eL3V), nL3p, und, by omega, .inl (.inl eLV), nLVp, eLV, by decide, by decide, eL3V, fun HA Dn ls aA sbA pnA hA nDn eDn lk ll => ?_⟩
              have sbAm : SameBut p Hm HA := sbV.trans sbA
              have eNA := sbAm N _ nNp eNm
              have lls : ls.length = u.length := by rw [← lk, List.length_map]
              have hkw : ∀ q ∈ ls, isWordL (tl q.1) = true := fun q hq => uwd _ (lk ▸ List.mem_map_of_mem hq)
              have hlr : ∀ q ∈ ls, q.2 ∈ readL := fun q hq => by
                have := ll q hq
                simp only [List.mem_cons, List.not_mem_nil, or_false] at this ⊢
                rcases this with h | h
                · exact .inl h
                · exact .inr (.inl h)
              have rowL : rowD readL (.dict (kvT ls)) = true := by
                show (kvT ls).all (fun p => wordD p.1 && levD readL p.2) = true
                refine List.all_eq_true.mpr fun p hp => ?_
                obtain ⟨q, hq, rfl⟩ := List.mem_map.mp hp
                show (isWordL (tl q.1) && decide (q.2 ∈ readL)) = true
                rw [hkw q hq, decide_eq_true (hlr q hq)]
                rfl
              have nL : Nice 5 70 3000 (.dict (kvT ls)) := (Nice.dict (D := 1) (N := 1) (W := 20) (k := 4) (kvT_nice hkw hlr (.inr rfl)) (by rw [kvT_len]; omega)).mono (by decide) (by decide) (by decide)
              have repL : RepA w HA (.ref Dn) (.dict (kvT ls)) [Dn] := (rowsT_at eDn (by rw [lk]; exact und)).rep
              have nDp : ∀ x ∈ [Dn], x ≠ p := fun x hx z => by
                rw [List.mem_singleton.mp hx] at z
                exact pnV.some.1 (z ▸ nDn)
              have fin2 : ∀ vd, vd = dueV (.dict (kvF fs)) (.dict (kvT ls)) → Pm 10 [some (.ref a), some (.ref p), some (.int (0 + ((i : Nat) : Int))), some (.ref N), some (.ref T), some (.ref D), some (.ref Dn), some (.int ((k : Nat) : Int)), some vd, y9, y10, y11] HA := fun vd e =>
                ⟨.ref Dn, _, [Dn], vd, aA, rfl, sbm.trans sbAm, pnA, by omega, repL, nDp, nL, e⟩
              have wrongW : Str.ofString "qqz" ∈ u → V.str (PyData.dict (kvT ls)).shown = dueV (.dict (kvF fs)) (.dict (kvT ls)) := fun h => (due_reads finR (.inr (allW_wrong FO PA6.rows nef (x := Str.ofString "qqz") (by rw [lk]; exact h) (by decide +kernel)))).symm
              refine c_name (c_nx (c_asg ⟨.ref Dn, rfl, Dn, rowsT ls, rfl, .inl eDn, .ref N, rfl, N, _, rfl, .inl (.inl (.inl eNA)), rfl, _, rfl, ?_⟩))
              rw [rowsT_len, List.length_map]
              by_cases hlen : ls.length = words.length
              · rw [hlen, decide_eq_true rfl]
                refine iteF ⟨.ref Dn, rfl, Dn, rowsT ls, .text "qqz", rfl, .inl eDn, rowsT_all _ _, kAt.text _ _, _, rfl, ?_⟩
                rw [if_neg Bool.false_ne_true]
                cases hlk : (lookH (rowsT ls) (.text "qqz")).isSome with
                | true =>
                  refine iteT ⟨.ref Dn, rfl, .ref Dn, _, _, rfl, repL.rep, nL.show_, nL.len (by decide), Nat.le_trans nL.dep (by decide), c_name (c_nx (tail2 _ _ (fin2 _ (wrongW ?_))))⟩
                  rw [← lk]
                  exact look_in.mp hlk
                | false =>
                  have hno : Str.ofString "qqz" ∉ u := fun z => by
                    rw [← lk] at z
                    have := look_in.mpr z
                    rw [hlk] at this
                    cases this
                  obtain ⟨w0, u0⟩ := uin hno
                  refine iteF (c_const (c_name (c_nx (tail2 _ _ (fin2 _ (due_none finR rowL (allW_right PA6.rows fun x => ?_)).symm)))))
                  rw [lk, u0, w0]
              · have hne : decide (V.int ((ls.length : Nat) : Int) = V.int ((words.length : Nat) : Int)) = false := decide_eq_false fun z => hlen (by injection z with z; omega)
                rw [hne]
                exact iteT (iteT ⟨.ref Dn, rfl, .ref Dn, _, _, rfl, repL.rep, nL.show_, nL.len (by decide), Nat.le_trans nL.dep (by decide), c_name (c_nx (tail2 _ _ (fin2 _ (wrongW (ueq (by rw [← lls]; exact hlen))))))⟩)
          · exact iteF (c_next (c_nx (tail2 _ _ ⟨vr, dr, f, vd, am, rfl, sbm, pnm, by omega, rr, nfm, nrm, ev⟩)))
      · refine ⟨.int ((k : Nat) : Int), rfl, _, 2, rfl, rfl, _, rfl, ite2 (fun gt => ?_) (fun le => ?_)⟩
        · refine c_seq (c_asg ⟨.ref p, rfl, .ref T, rfl, .inr (.inl ⟨T, _, _, .ref R, rfl, rfl, .inl (.inl eT6), atN (i := 1) rfl, by show 3 ≤ sizeLine; decide, fun LL nLL => ?_⟩)⟩)
          have sLL := same_upd (o := HO.lst [.str "none", .str "entry", .str "always"]) nLL
          have eLL : (upd H6 LL (.lst [.str "none", .str "entry", .str "always"])) LL = some (.lst (readL.map V.str)) := upd_same
          have hR7 := sLL _ _ PA6.hR
          have pn7 := pn6.same sLL
          have sb67 : SameBut p H6 (upd H6 LL (.lst [.str "none", .str "entry", .str "always"])) := Same.but sLL p
          generalize upd H6 LL (.lst [.str "none", .str "entry", .str "always"]) = H7 at eLL hR7 pn7 sb67 ⊢
          refine ⟨p, c, R, LL, ns', a6, rs, readL, rfl, pn7, by omega, hR7, eLL, RR, fun H8 v d f a8 sb8 pn8 h8 rv BRd lo8 => ?_⟩
          obtain ⟨l7, pen7, _⟩ := pn7.at_
          have nd5 : Nice 5 70 3000 d := BRd.1.mono (by decide) (by decide) (by decide)
          refine c_name (c_nx (c_asg ⟨v, rfl, v, d, f, rfl, rv.rep, nd5.show_, nd5.len (by decide), Nat.le_trans nd5.dep (by decide), c_name (c_nx (tail1 _ _ ⟨v, d, f, _, a8, rfl, sb67.trans sb8, pn8, by omega, rv, fun x hx => ?_, nd5, (due_reads finR (.inl BRd.2)).symm⟩))⟩))
          exact fun z => by
            subst z
            rcases lo8 x hx with y | ⟨es, y⟩
            · rw [pen7.row] at y
              cases y
            · rw [pen7.row] at y
              cases y
        · exact c_next (c_nx (tail1 _ _ ⟨.ref R, _, [R], .non, a6, rfl, SameBut.refl _ _, pn6, by omega, profR PA6 WT, nRp, nR, due0.symm⟩))
    · obtain ⟨y2, y3, y4, y5, y6, y7, y8, y9, y10, y11, rfl, a0, pn0, ha0⟩ := hp
      exact c_nx (c_ret (c_const (q Hi)))
end
end KF
end L2
end
/-! ### PX -/
section
namespace L2
namespace KF
open PySem PySem.Spec PyProof.Rows PySem.KD KE KC PySem.KA KM TL
/-! ## C(..) that may raise, within a try -/
section
variable {X : Cx} {CX : CXT} {k : Nat} {f C : Addr} {fd : FuncData} {ps : List Str} {sp : Sp} {E : St → XK} {x : Str} {p pos : Pos} {e : Expr} {es : List Expr} {t : TA}
def tMakeS (C : Addr) (sp : Sp) (E : St → XK) (t : TA) : TE := fun σ H Q => t σ H fun vs H1 => ∀ x dx, H1 x = none → H1 dx = none → dx ≠ x → sp (.ref x :: vs) (upd (upd H1 dx (.own x)) x (.ins C dx [])) (fun v H2 => v = .non ∧ Q (.ref x) H2) (E σ)
theorem pe_makeS (M : Mk X.K C f) (F : FnOk X.prog X.w X.K X.mg X.base CX k f fd ps sp) (room : Room (k + 1) X.A) (glob : Gl X x) (at_ : X.mg x = some (.ref C)) (bound : Binds X.K fd ps []) (out : ∀ σ, PassesAt CX X σ (E σ)) (given : PA X (e :: es) t)
    (n1 : (x == ("__debug__" : Str)) = false := by decide) (n2 : starEach (e :: es) X.env = (false, eval e X.env) :: starEach es X.env := by rfl) (n3 : (backTo pos (starEach es X.env)).any (·.1) = false := by rfl) : PE X (.Call (.Name x p) (e :: es) [] pos) (tMakeS C sp E t) := by
  constructor
  intro pins s σ H Q I asks
  refine wpAny_Call_Name_kw (ld_glob I glob at_ (PySem.W.callWith_K (h₀ := X.base) I.ok.mod.kin M.kp (thn (given.run pos pins s σ H _ I asks) ?_) n2 n3) n1)
  rintro us s1 ⟨vs, H1, J, rel, meets⟩
  refine ⟨J.kIn, ?_⟩
  show wpAny _ _ (call (.ref C) us) _ _ _
  -- the new object stands behind its dict
  generalize hn : s1.heap.objs.size = n
  have told := meets (n + 1) n (J.hok.fresh (by omega)) (J.hok.fresh (by omega)) (Nat.ne_of_lt (Nat.lt_succ_self n))
  have both : Vals (V.ref (n + 1) :: vs) (Value.ref (n + 1) :: us) := .cons rfl rel
  have many : ((Value.ref (n + 1) :: us) ++ []).length = ps.length := by
    rw [List.append_nil, ← both.length]
    exact F.len _ _ _ _ told
  subst hn
  have made := Inv.made (C := C) J
  have bnd := bound _ (Value.ref (s1.heap.objs.size + 1) :: us) made.kIn many
  rw [List.append_nil] at bnd
  refine wpAny_call (make_map (f := f) J.kIn M.makes M.init (beq_iff_eq.mp M.fn) (codeAny_mono (F.run _ X.stack _ _ ⟨_, []⟩ _ _ _ (E σ) (room.make C us []) (made.env0.make C us []) bnd both told) ?_))
  rintro (er | fl) s' ends
  · exact out σ pins _ _ er s' made ends
  · cases fl with
    | ret u =>
      obtain ⟨v, H', L, rv, ev, q⟩ := made.after ends
      subst ev
      exact ⟨rv, .ref (s1.heap.objs.size + 1), H', L, rfl, q⟩
    | _ => exact ends.elim
end
/-! ## isinstance of a caught error with fields -/
def rIsED (K : PySem.W.Frag) (D a : Addr) (cls : Value) (d : Option Addr) : List V → Hp → VK → Prop := fun xs H Q => cls = .ref D ∧ ∃ (dd : Addr) (fs : List (Str × V)) (c : V) (cv : Value) (b : Bool), d = some dd ∧ H dd = some (.xd fs) ∧ xs = [.ref a, c] ∧ (∀ u, RelV c u → u = cv) ∧ PySem.W.kitOne K (.ref D) cv = some b ∧ Q (.bl b) H
theorem call_isED {X : Cx} {a D : Addr} {oe : Obj} {cls : Value} {d : Option Addr} {pn : List (Addr × Obj)} (C : L2.ExcC X.K D) (hz : Zc cls d oe) (hf : ∃ vs, oe.data = .fields vs) : CallR (X.suite a ((a, oe) :: pn)) (.builtin "isinstance") (rIsED X.K D a cls d) := by
  intro pins s σ H xs us Q I r h
  obtain ⟨rfl, dd, fs, c, cv, b, rfl, ea, rfl, hcv, e, q⟩ := h
  cases r with
  | cons rx rr =>
    cases rr with
    | cons rt rr =>
      cases rr
      cases rx
      have ec := hcv _ rt
      subst ec
      obtain ⟨hget, _⟩ := I.pin (a, oe) (List.mem_append.mpr (.inl List.mem_cons_self))
      obtain ⟨vs, hv⟩ := hf
      have hx : ObjOk X.prog X.w H s.heap dd (.xd fs) := I.hok dd _ ea
      obtain ⟨mA, hns, hr⟩ := hx
      obtain ⟨od, ho, hl⟩ := lookIn_ns hns
      have J : PySem.W.InstAt s.heap a oe D (some od) := ⟨hget, hz.1, by unfold PySem.W.notCls; rw [hv] <;> rfl, by rw [hz.2]; exact ho⟩
      exact PySem.W.kia_one (kitE C) I.kIn J e (fun z => nomatch z) fun tk => ⟨.bl b, H, I.kept (t' := tk) fun _ _ z => z, rfl, q⟩
end KF
end L2
end
/-! ### PY -/
section
namespace L2
namespace KF
open PySem PySem.Spec PyProof.Rows PySem.KD KE KC PySem.KA KM TL
/-! ## _law_wrong -/
abbrev sWr : Stmt := topS 33
abbrev wrN : List Str := ["_law_finals", "_law_reads", "e"]
theorem scWr : FnScope wrN ["_law_finals", "_law_reads"] (defScope sWr) := ⟨rfl, rfl, rfl, by decide +kernel, rfl, by decide +kernel, by decide +kernel⟩
structure BltR (mg : Str → Option Value) : Prop where
  repr : mg "repr" = none
  isi : mg "isinstance" = none
  v : mg "ValueError" = none
section
variable {P : Program} {w : World} {K : PySem.W.Frag} {mg : Str → Option Value} {base : Heap}
theorem ok_wrong {spI spO spR spN : Sp} {EO ER EN : XK} {C CV f fI : Addr} {fd fdI : FuncData} (F : Fun K "_law_wrong" "_law_wrong" sWr f fd) (MK : Mk K C fI) (gC : mg "Profile" = some (.ref C)) (GI : FnOk P w K mg base (L2.CX P w) 6 fI fdI ["self", "outcomes", "reads"] spI) (bI : Binds K fdI ["self", "outcomes", "reads"] [])
    (gV : mg "InvalidProfile" = some (.ref CV)) (tV : PySem.W.exmOne K (.ref CV) (.ref CV) = some true) (eV : L2.ExcC K CV) (xV : XfC K CV) (nV : PySem.W.findIn K (.ref CV) "value" = some none) (iV : PySem.W.kitOne K (.ref CV) (.type "ValueError") = some true)
    (I : ProfI w C CV spI spO spR spN EO ER EN) (B : BltR mg) : FnOkG P w K mg base CX0 8 f fd ["_law_finals", "_law_reads"] (spWrong w) := by
  refine F.okG scWr (fun vs H Q E h => ?_) (fun cdv A outer s H vs Q E quiet hr h => ?_)
  · obtain ⟨vf, vr, df, dr, ff, fr, rfl, _⟩ := h
    rfl
  · obtain ⟨vf, vr, df, dr, ff, fr, rfl, rf, rr, nf, nr, q⟩ := h
    have hgX : (cxOf CX0 P w K mg base wrN "_law_wrong" (defScope sWr) f cdv A outer s H E).nox.A.guards = some [] := quiet
    have hu40 : (cxOf CX0 P w K mg base wrN "_law_wrong" (defScope sWr) f cdv A outer s H E).nox.A.units + 40 < cLine := by
      have := hr.un
      show (A.deeper _).units + 40 < cLine
      omega
    refine ⟨_, pss_cons (ps_try_as (i := 2) rfl rfl scWr.nd rfl rfl ⟨rfl, by decide, .inl gV⟩ takes0
        (fun W pn xe tk _ => pss_one (ps_expr (pe_makeS MK GI hr (by rfl) gC bI (fun σ => passAt tk σ) (pa_cons (pv 0) (pa_cons (pv 1) pa_nil)))))
        (fun a oe cls d pn hz hf => pss_one (ps_ret (pe_ifExp (pt_val (pe_callB (show CallR ((cxOf CX0 P w K mg base wrN "_law_wrong" (defScope sWr) f cdv A outer s H E).nox.suite a ((a, oe) :: pn)) (.builtin "isinstance") (rIsED K CV a cls d) from call_isED eV hz hf) (by rfl) B.isi boot_isinstance (pa_cons (pv 2) (pa_cons (pe_bltn (v := .ty "ValueError") (by rfl) B.v (by decide +kernel) rfl) pa_nil))))
          (pe_callB (show CallR ((cxOf CX0 P w K mg base wrN "_law_wrong" (defScope sWr) f cdv A outer s H E).nox.suite a ((a, oe) :: pn)) (.builtin "repr") (rReprD w) from callReprD hgX hu40) (by rfl) B.repr boot_repr (pa_cons (pe_xf xV nV hz hf (pv 2)) pa_nil)) pe_str))))
      (pss_one (ps_ret pe_non)), ?_⟩
    have nd := nf.len (by decide)
    refine ⟨vf, rfl, vr, rfl, fun x dx nx ndx ne => ?_⟩
    have sX : Same H (upd (upd H dx (.own x)) x (.ins C dx [])) := fun b u e => by
      rw [upd_ne (ne_of_none e nx), upd_ne (ne_of_none e ndx)]
      exact e
    have eX : (upd (upd H dx (.own x)) x (.ins C dx [])) dx = some (.own x) := by
      rw [upd_ne ne]
      exact upd_same
    by_cases good : finD df = true ∧ rowD readL dr = true ∧ allW df dr = true
    · obtain ⟨g1, g2, g3⟩ := good
      refine I.init upd_same eX (Ne.symm ne) (rf.same sX) (rr.same sX) nf nr g1 g2 g3 fun H' S o r n kp px _ _ _ _ => ⟨rfl, ?_⟩
      have e := q H' fun b u z => kp b u (ne_of_none z nx) (ne_of_none z ndx) (sX b u z)
      rw [due_none g1 g2 g3] at e
      exact e
    · have b : finD df = false ∨ rowD readL dr = false ∨ allW df dr = false := by
        cases h1 : finD df with
        | false => exact .inl rfl
        | true =>
          cases h2 : rowD readL dr with
          | false => exact .inr (.inl rfl)
          | true =>
            cases h3 : allW df dr with
            | false => exact .inr (.inr rfl)
            | true => exact absurd ⟨h1, h2, h3⟩ good
      refine I.bad upd_same eX (Ne.symm ne) (rf.same sX) (rr.same sX) nf nr b fun H' d fs v f kp ed ev rv => ⟨true, tV, fun _ a na => ?_, fun z => nomatch z⟩
      have e := q H' fun b u z => kp b u (ne_of_none z nx) (ne_of_none z ndx) (sX b u z)
      refine ⟨.ref a, rfl, rfl, d, fs, _, _, true, rfl, ed, rfl, (fun u r => r), iV, ?_⟩
      have nice : Nice 5 70 3000 (if finD df = true then dr else df) := by
        split
        · exact nr
        · exact nf
      have due : dueV df dr = .str (if finD df = true then dr else df).shown := by
        cases h1 : finD df with
        | false =>
          rw [due_fin h1]
          rfl
        | true =>
          rw [due_reads h1 (b.resolve_left (by rw [h1]; exact Bool.noConfusion))]
          rfl
      rw [due] at e
      exact ⟨_, rfl, iteT ⟨.ref a, rfl, rfl, rfl, d, fs, v, rfl, ed, ev, v, _, f, rfl, rv, nice.show_, nice.len (by decide), Nat.le_trans nice.dep (by decide), e⟩⟩
end
end KF
end L2
end
/-! ### PE0 -/
section
namespace L2
namespace KF
open PySem PySem.Spec PyProof.Rows
def clsB (s : Stmt) : List Stmt := match s with
  | .ClassDef _ _ _ b _ _ _ _ _ _ _ => b
  | _ => []
/-- a method's def -/
abbrev methOf (i j : Nat) : Stmt := (clsB (topS i)).getD j (.Pass ⟨0, 0, 0, 0⟩)
end KF
end L2
end
/-! ### HH -/
section
namespace L2
namespace KH
open PySem PySem.Spec PyProof.Rows
/-! ## a head by facts: tests of what the top has written, and the defs -/
abbrev FB : Type := PySem.W.Frag → Bool
/-- what these names of the module reach in n steps -/
def seeds (g : Addr → Option Obj) (xs : List Str) : List Addr := xs.map fun x => He.ga (He.frG g [mainGlobals]) x
def itG (g : Addr → Option Obj) : Nat → List Addr → List Addr
  | 0, as => as
  | n + 1, as => He.growD g (itG g n as)
def frX (g : Addr → Option Obj) (n : Nat) (xs : List Str) : PySem.W.Frag := He.frG g (mainGlobals :: itG g n (seeds g xs))
/-- a def of the text: where it stands, its names, its statement -/
structure DefX where
  adr : PySem.W.Frag → Addr
  name : Str
  qual : Str
  st : Stmt
abbrev FnX : Type := Option (Str × Str × Arguments × FuncBody × Scope × Addr × List (Str × Addr) × Addr)
def fnX (K : PySem.W.Frag) (a : Addr) : FnX := match K.lookup a with
  | some ⟨_, _, .func fd, _⟩ => some (fd.name, fd.qualname, fd.params, fd.body, fd.scope, fd.globals, fd.closure, fd.builtins)
  | _ => none
def DefX.val (d : DefX) : FnX := some (d.name, d.qual, defArgs d.st, .stmts (defBody d.st), defScope d.st, mainGlobals, [], builtinsNs)
def isNone : Value → Bool
  | .none => true
  | _ => false
def DefX.ok (K : PySem.W.Frag) (d : DefX) : Bool := PySem.W.keepIn K (.ref (d.adr K)) && (match K.lookup (d.adr K) with
  | some ⟨_, _, .func fd, _⟩ => PySem.W.codeIn K fd.code d.qual && isNone fd.defaults
  | _ => false)
theorem DefX.fun_ {K : PySem.W.Frag} {d : DefX} (e : fnX K (d.adr K) = d.val) (c : d.ok K = true) : ∃ fd, Fun K d.name d.qual d.st (d.adr K) fd := by
  obtain ⟨kp, c2⟩ := He.ba c
  unfold fnX at e
  cases q : K.lookup (d.adr K) with
  | none =>
    rw [q] at c2
    cases c2
  | some o =>
    obtain ⟨oc, od, dt, osl⟩ := o
    rw [q] at c2 e
    cases dt with
    | func fd =>
      obtain ⟨n1, n2, n3, n4, n5, n6, n7, n8, n9, n10, n11, n12, n13, n14, n15⟩ := fd
      have e2 : (some (n1, n2, n3, n4, n5, n6, n7, n15) : FnX) = some (d.name, d.qual, defArgs d.st, .stmts (defBody d.st), defScope d.st, mainGlobals, [], builtinsNs) := e
      simp only [Option.some.injEq, Prod.mk.injEq] at e2
      obtain ⟨h1, h2, h3, h4, h5, h6, h7, h8⟩ := e2
      subst h1 h2 h3 h4 h5 h6 h7 h8
      have c3 : (PySem.W.codeIn K n13 d.qual && isNone n8) = true := c2
      obtain ⟨k1, k2⟩ := He.ba c3
      have k3 : n8 = .none := by
        cases n8 <;> first
          | rfl
          | cases k2
      subst k3
      exact ⟨_, ⟨oc, od, n9, n10, n11, n12, n13, n14, osl, rfl, q, k1⟩, kp⟩
    | _ => cases c2
abbrev AlX : Type := Bool × List FnX
def obsX (fb : List FB) (fn : List DefX) (K : PySem.W.Frag) : AlX := ((fb.all fun f => f K) && fn.all fun d => d.ok K, fn.map fun d => fnX K (d.adr K))
def valX (fn : List DefX) : AlX := (true, fn.map DefX.val)
def SaysX (fb : List FB) (fn : List DefX) (K : PySem.W.Frag) : Prop := obsX fb fn K = valX fn
def obsXG (n : Nat) (xs : List Str) (fb : List FB) (fn : List DefX) (g : Addr → Option Obj) : AlX := obsX fb fn (frX g n xs)
def hookX (n : Nat) (xs : List Str) (fb : List FB) (fn : List DefX) : PySem.W.Hook where
  α := AlX
  obs := fun s => obsXG n xs fb fn s.heap.get?
  val := fun _ => valX fn
  says := fun _ h => ∃ K : PySem.W.Frag, K.In h ∧ SaysX fb fn K
  of := fun _ _ e => ⟨_, He.frG_in, e⟩
  keeps := fun _ _ _ ⟨K, hK, c⟩ k => ⟨K, PySem.W.Frag.In.keeps hK k, c⟩
theorem obsXG_eq {n : Nat} {xs : List Str} {fb : List FB} {fn : List DefX} {g : Addr → Option Obj} {s : Shared} (h : ∀ a, g a = s.heap.get? a) : obsXG n xs fb fn g = (hookX n xs fb fn).obs s := by
  have e : g = s.heap.get? := funext h
  rw [e] <;> rfl
section
variable {fb : List FB} {fn : List DefX} {K : PySem.W.Frag}
theorem SaysX.fact (c : SaysX fb fn K) {f : FB} (h : f ∈ fb) : f K = true := by
  have c1 := (He.ba (show ((fb.all fun f => f K) && fn.all fun d => d.ok K) = true from congrArg (fun z : AlX => z.1) c)).1
  exact List.all_eq_true.mp c1 f h
theorem SaysX.at_ (c : SaysX fb fn K) (i : Nat) {f : FB} (h : fb[i]? = some f := by rfl) : f K = true := c.fact (List.mem_of_getElem? h)
theorem SaysX.def_ (c : SaysX fb fn K) (i : Nat) {d : DefX} (h : fn[i]? = some d := by rfl) : ∃ fd, Fun K d.name d.qual d.st (d.adr K) fd := by
  have c2 := (He.ba (show ((fb.all fun f => f K) && fn.all fun d => d.ok K) = true from congrArg (fun z : AlX => z.1) c)).2
  have e : fn.map (fun d => fnX K (d.adr K)) = fn.map DefX.val := congrArg (fun z : AlX => z.2) c
  have e2 : (fn.map fun d => fnX K (d.adr K))[i]? = (fn.map DefX.val)[i]? := by rw [e]
  rw [List.getElem?_map, List.getElem?_map, h] at e2
  exact DefX.fun_ (Option.some.inj e2) (List.all_eq_true.mp c2 d (List.mem_of_getElem? h))
end
/-- a def of the top -/
def dOf (x : Str) (st : Stmt) : DefX := ⟨fun K => He.ga K x, x, x, st⟩
/-- a method -/
def mOf (C m qual : Str) (st : Stmt) : DefX := ⟨fun K => He.ma K (He.ga K C) m, m, qual, st⟩
/-- a property's getter -/
def prA (K : PySem.W.Frag) (C f : Str) : Addr := match PySem.W.findIn K (.ref (He.ga K C)) f with
  | some (some (.ref p)) => p
  | _ => 0
def prG (K : PySem.W.Frag) (C f : Str) : Addr := match PySem.W.recIn K (prA K C f) "property" with
  | some (.ref g :: _) => g
  | _ => 0
def pOf (C f qual : Str) (st : Stmt) : DefX := ⟨fun K => prG K C f, f, qual, st⟩
/-! ### errors over ValueError -/
def vTl : List Value := [.type "ValueError", .type "Exception", .type "BaseException", .type "object"]
def errB (nm f : Str) : FB := fun K =>
  let C := He.ga K nm
  let fI := He.ma K C "__init__"
  He.eqO (PySem.W.nsIn K mainGlobals nm) (some (some (.ref C))) && (PySem.W.excInitIn K C vTl "ValueError.__new__" && (PySem.W.excOver K C vTl && (He.eqO (PySem.W.findIn K (.ref C) "__setattr__") (some (some (.builtin "object.__setattr__"))) &&
  (He.eqO (PySem.W.findIn K (.ref C) "__getattribute__") (some (some (.builtin "BaseException.__getattribute__"))) && (He.eqO (PySem.W.findIn K (.ref C) "__getattr__") (some none) && (He.eqO (PySem.W.findIn K (.ref C) "__class__") (some (some (.builtin "object.__class__"))) &&
  (He.eqO (PySem.W.findIn K (.ref C) f) (some none) && (He.eqO (PySem.W.findIn K (.ref C) "__init__") (some (some (.ref fI))) && (decide (PySem.W.typeIn K (.ref fI) = some (.type "function")) && (PySem.W.keepIn K (.ref C) &&
  (decide (PySem.W.typeIn K (.ref C) = some (.type "type")) && (decide (PySem.W.subIn K (.ref C) (.type "BaseException") = some true) && (PySem.W.hasDictIn K C && (decide (PySem.W.mroIn K C (.type "BaseException") = some true) &&
  (decide (PySem.W.mroIn K C (.type "object") = some true) && (decide (PySem.W.kitOne K (.ref C) (.type "ValueError") = some true) && (He.eqO (PySem.W.specialIn K (.builtin "object.__class__") "__get__") (some (some (.builtin "getset_descriptor.__get__"))) &&
  decide (PySem.W.takesIn K (.builtin "object.__class__") = some true))))))))))))))))))
/-- of two errors: one clause is (not) the other's class -/
def exmB (x y : Str) (b : Bool) : FB := fun K => decide (PySem.W.exmOne K (.ref (He.ga K x)) (.ref (He.ga K y)) = some b)
def freeB (x : Str) : FB := fun K => (He.Fa.free x).ok K
def gloB (x : Str) : FB := fun K => (He.Fa.glo x).ok K
def intB (x : Str) (i : Int) : FB := fun K => (He.Fa.int x i).ok K
def strB (x z : Str) : FB := fun K => (He.Fa.str x z).ok K
def clsB' (x : Str) : FB := fun K => (He.Fa.cls x).ok K
def noatB (x f : Str) : FB := fun K => (He.Fa.noat x f).ok K
def mkrB (x : Str) : FB := fun K => (He.Fa.mkr x).ok K
def baseB (B I : String) : FB := fun K => match PySem.W.findCls K (.type B) (.type "type") "__init__" with
  | some (.val (.builtin x)) => decide (x = I)
  | _ => false
def propB (C f : Str) : FB := fun K =>
  He.eqO (PySem.W.findIn K (.ref (He.ga K C)) f) (some (some (.ref (prA K C f)))) && (He.eqO (PySem.W.specialIn K (.ref (prA K C f)) "__get__") (some (some (.builtin "property.__get__"))) && (decide (PySem.W.takesIn K (.ref (prA K C f)) = some true) &&
  (match PySem.W.recIn K (prA K C f) "property" with
    | some (.ref g :: _) => decide (g = prG K C f)
    | _ => false)))
end KH
end L2
end
/-! ### PE -/
section
namespace L2
namespace KF
open PySem PySem.Spec PyProof.Rows PySem.KD KE KC PySem.KA KM TL KH
/-! ## InvalidProfile -/
/-- the class object, as pmk_oex wants it -/
def oexB (x : Str) : FB := fun K => match K.lookup (He.ga K x) with
  | some ⟨.type "type", _, .cls cd, sl⟩ => (match cd.mro, sl.toList with
    | .ref C' :: bm, [_, _, _, _, some (.builtin n), _] => C' == He.ga K x && n == "ValueError.__new__" && !cd.hasDel && cd.hasDict && PySem.HandSPX.refsVE bm
    | _, _ => false)
  | _ => false
theorem oex_cls {K : PySem.W.Frag} {x : Str} (q : oexB x K = true) : ∃ nm qn N bs bm sn sub ab col dd k0 k1 k2 k3 k5, K.lookup (He.ga K x) = some (excClassObj nm qn (He.ga K x) N bs bm true sn sub ab col dd k0 k1 k2 k3 k5 "ValueError.__new__") ∧ PySem.HandSPX.refsVE bm = true := by
  unfold oexB at q
  cases at_ : K.lookup (He.ga K x) with
  | none =>
    rw [at_] at q
    cases q
  | some o =>
    rw [at_] at q
    split at q
    case h_1 _ d cd slots same =>
      injection same with same
      subst same
      split at q
      case h_1 _ _ first rest a b c e n g below six =>
        rw [Bool.and_eq_true, Bool.and_eq_true, Bool.and_eq_true, Bool.and_eq_true, beq_iff_eq, beq_iff_eq, Bool.not_eq_true'] at q
        obtain ⟨⟨⟨⟨q1, q2⟩, q3⟩, q4⟩, q5⟩ := q
        rcases cd with ⟨nm, bs, mro, N, qn, hd, sn, sub, ab, col, del⟩
        have m : mro = .ref (He.ga K x) :: rest := by rw [← q1]; exact below
        have l : slots = #[a, b, c, e, some (.builtin "ValueError.__new__"), g] := Array.toList_inj.mp (by rw [six, q2])
        have h1 : hd = true := q4
        have h2 : del = false := q3
        subst m l h1 h2
        exact ⟨nm, qn, N, bs, rest, sn, sub, ab, col, d, a, b, c, e, g, rfl, q5⟩
      case h_2 => cases q
    case h_2 => cases q
/-- an error over ValueError, all that is asked -/
structure ErrV (K : PySem.W.Frag) (mg : Str → Option Value) (nm f : Str) (C fI : Addr) : Prop where
  gC : mg nm = some (.ref C)
  ox : OXS K C "ValueError.__new__" "ValueError.__init__" vTail f
  iC : PySem.W.findIn K (.ref C) "__init__" = some (some (.ref fI))
  tI : PySem.W.typeIn K (.ref fI) = some (.type "function")
  oex : OexC K C
  xf : XfC K C
  no : PySem.W.findIn K (.ref C) f = some none
  kit : PySem.W.kitOne K (.ref C) (.type "ValueError") = some true
theorem err_v {K : PySem.W.Frag} {h : Heap} {mg : Str → Option Value} {nm f : Str} (X : K.In h) (G : h.Ns mainGlobals mg) (e : errB nm f K = true) (o : oexB nm K = true) : ErrV K mg nm f (He.ga K nm) (He.ma K (He.ga K nm) "__init__") := by
  unfold errB at e
  obtain ⟨e1, e⟩ := He.ba e
  obtain ⟨e2, e⟩ := He.ba e
  obtain ⟨e3, e⟩ := He.ba e
  obtain ⟨e4, e⟩ := He.ba e
  obtain ⟨e5, e⟩ := He.ba e
  obtain ⟨e6, e⟩ := He.ba e
  obtain ⟨e7, e⟩ := He.ba e
  obtain ⟨e8, e⟩ := He.ba e
  obtain ⟨e9, e⟩ := He.ba e
  obtain ⟨e10, e⟩ := He.ba e
  obtain ⟨e11, e⟩ := He.ba e
  obtain ⟨e12, e⟩ := He.ba e
  obtain ⟨e13, e⟩ := He.ba e
  obtain ⟨e14, e⟩ := He.ba e
  obtain ⟨e15, e⟩ := He.ba e
  obtain ⟨e16, e⟩ := He.ba e
  obtain ⟨e17, e⟩ := He.ba e
  obtain ⟨e18, e19⟩ := He.ba e
  have xc : L2.ExcC K (He.ga K nm) := ⟨He.eqO_ok e5, He.eqO_ok e6, of_decide_eq_true e13, e14, He.eqO_ok e7, He.eqO_ok e18, of_decide_eq_true e19, of_decide_eq_true e16⟩
  exact { gC := PySem.W.mg_of X G (He.eqO_ok e1), ox := { toOX := { eb := ⟨_, _, ebV⟩, ins := e2, ov := e3, sa := He.eqO_ok e4, xc := xc, kp := e11 }, st := ⟨_, stV⟩, no := He.eqO_ok e8 }, iC := He.eqO_ok e9, tI := of_decide_eq_true e10, oex := ⟨oex_cls o, He.eqO_ok e4, of_decide_eq_true e13, of_decide_eq_true e12, e11⟩, xf := ⟨He.eqO_ok e5, He.eqO_ok e6, of_decide_eq_true e13, e14⟩, no := He.eqO_ok e8, kit := of_decide_eq_true e17 }
/-! ## its __init__ -/
def spErr (w : World) (C : Addr) (f : Str) : Sp := fun vs H Q _ => ∃ (x : Addr) (v : V) (d : PyData) (fp : List Addr), vs = [.ref x, v] ∧ H x = some (exo x C none) ∧ Rep w H v d fp ∧ sz d ≤ 1000 ∧
  ∀ H' dx v' f3, SameBut x H H' → H' x = some (exo x C (some dx)) → H dx = none → H' dx = some (exd dx [(f, v')]) → Rep w H' v' d f3 → (∀ a ∈ f3, H a = none ∧ a ≠ dx) → Q .non H'
section
variable {P : Program} {w : World} {K : PySem.W.Frag} {mg : Str → Option Value} {base : Heap}
theorem err_end {C x : Addr} {f : Str} {d : PyData} {H H2 : Hp} {Q : VK} {v' : V} {f3 : List Addr} (hx : H x = some (exo x C none))
    (q : ∀ H' dx v' f3, SameBut x H H' → H' x = some (exo x C (some dx)) → H dx = none → H' dx = some (exd dx [(f, v')]) → Rep w H' v' d f3 → (∀ a ∈ f3, H a = none ∧ a ≠ dx) → Q .non H')
    (s2 : Same H H2) (r2 : Rep w H2 v' d f3) (n2 : ∀ a ∈ f3, H a = none) : H2 x = some (exo x C none) ∧ ∀ dx, H2 dx = none → dx ≠ x → Q .non (upd (upd H2 dx (exd dx [(f, v')])) x (exo x C (some dx))) := by
  refine ⟨s2 _ _ hx, fun dx nd ne => ?_⟩
  have ndx : ∀ a ∈ f3, a ≠ dx := fun a ha z => by
    have z2 := r2.dom a ha
    rw [z] at z2
    exact z2 nd
  have nx : ∀ a ∈ f3, a ≠ x := fun a ha z => by
    have z2 := n2 a ha
    rw [z, hx] at z2
    cases z2
  refine q _ dx v' f3 (fun b o nb z => ?_) upd_same (s2.free nd) ?_ (r2.keep ⟨fun a ha => ?_, fun a xs z => ?_⟩) fun a ha => ⟨n2 a ha, ndx a ha⟩
  · rw [upd_ne nb, upd_ne (ne_of_none (s2 _ _ z) nd)]
    exact s2 _ _ z
  · rw [upd_ne ne, upd_same]
  · rw [upd_ne (nx a ha), upd_ne (ndx a ha)]
  · have na : a ≠ x := fun y => by
      rw [y, s2 _ _ hx] at z
      cases z
    rw [upd_ne na, upd_ne (ne_of_none z nd)]
    exact z
abbrev sIP : Stmt := methOf 9 0
theorem ok_ip {f1 C fI : Addr} {fd fdI : FuncData} (GC : FnOk P w K mg base CX0 2 f1 fd ["value"] (spCopied w)) (kC : PySem.W.keepIn K (.ref f1) = true) (bC : Binds K fd ["value"] []) (gC : mg "copied" = some (.ref f1))
    (mB : mg "ValueError" = none) (fi : PySem.W.findCls K (.type "ValueError") (.type "type") "__init__" = some (.val (.builtin "ValueError.__init__"))) (Er : ErrV K mg "InvalidProfile" "value" C fI) (F : Fun K "__init__" "InvalidProfile.__init__" sIP fI fdI) : FnOk P w K mg base CX0 3 fI fdI ["self", "value"] (spErr w C "value") := by
  have sc : FnScope ["self", "value"] ["self", "value"] (defScope sIP) := ⟨rfl, rfl, rfl, by decide +kernel, rfl, by decide +kernel, by decide +kernel⟩
  refine F.ok sc (fun vs H Q E h => ?_) (fun cdv A outer s H vs Q E hr h => ?_)
  · obtain ⟨x, v, d, fp, rfl, _⟩ := h
    rfl
  · obtain ⟨x, v, d, fp, rfl, hx, rp, hN, q⟩ := h
    refine ⟨_, pss_cons (ps_expr (peInitX Er.ox.toOX (by rfl) mB (by decide +kernel) (by rfl) (by decide +kernel) fi (by decide +kernel) (pa_cons (pv 0) (pa_cons pe_str pa_nil))))
      (pss_one (psSetX Er.ox (pv 0) (pe_call GC hr (by rfl) gC kC bC .nil pass0 (pa_cons (pv 1) pa_nil)))), ?_⟩
    refine ⟨.ref x, rfl, x, _, rfl, by show 1 ≤ 1000; decide, hx, v, rfl, v, d, fp, rfl, rp, hN, fun H2 v' f3 s2 r2 n2 => ?_⟩
    have z := err_end (C := C) hx q s2 r2 n2
    exact ⟨.ref x, rfl, x, rfl, z.1, z.2⟩
/-- raise C(e): what is asked -/
theorem raised {C : Addr} {f : Str} {te : TE} {σ : St} {H : Hp} {v : V} {d : PyData} {fp : List Addr} {Q : XK} (hv : GivesR te σ H (Pure v)) (r : Rep w H v d fp) (hs : sz d ≤ 1000)
    (q : ∀ H' dd fs v' f3, Same H H' → H' dd = some (.xd fs) → fs.lookup f = some v' → Rep w H' v' d f3 → Q (.ref C) (some dd) H') : tMkO C (spErr w C f) [] (tCons te tNil) σ H Q := by
  refine hv H (same_refl _) _ fun u H1 s1 z => ?_
  obtain ⟨rfl, rfl⟩ := z
  refine ⟨by show 1 ≤ 1000; decide, fun a na => ?_⟩
  have sa := same_upd (o := exo a C none) na
  refine ⟨a, u, d, fp, rfl, upd_same, r.same sa, hs, fun H' dx v' f3 sb ex ndx edx r' n3 => ⟨rfl, dx, [(f, v')], ex, edx, sa.free ndx, ?_⟩⟩
  have nda : dx ≠ a := fun z => by
    rw [z, upd_same] at ndx
    cases ndx
  have n3a : ∀ b ∈ f3, b ≠ a := fun b hb z => by
    have y := (n3 b hb).1
    rw [z, upd_same] at y
    cases y
  have n3d : ∀ b ∈ f3, b ≠ dx := fun b hb => (n3 b hb).2
  refine q _ dx [(f, v')] v' f3 (fun b o e => ?_) upd_same ?_ (r'.keep ⟨fun b hb => ?_, fun b xs e => ?_⟩)
  · have n1 : b ≠ a := ne_of_none e na
    have n2 : b ≠ dx := fun z => by
      have y := sa b o e
      rw [z, ndx] at y
      cases y
    rw [upd_ne n2, del_ne n1]
    exact sb b o n1 (sa b o e)
  · rw [List.lookup_cons, beq_self_eq_true]
  · rw [upd_ne (n3d b hb), del_ne (n3a b hb)]
  · have n1 : b ≠ a := fun z => by
      rw [z, ex] at e
      cases e
    have n2 : b ≠ dx := fun z => by
      rw [z, edx] at e
      cases e
    rw [upd_ne n2, del_ne n1]
    exact e
end
end KF
end L2
end
/-! ### PK -/
section
namespace L2
namespace KF
open PySem PySem.Spec PyProof.Rows PySem.KD KE KC PySem.KA
/-! ## surelyset.kinds, the tests of one value (k02's places) -/
abbrev sIsWord : Stmt := topS 3
theorem scIsWord : FnScope ["value", "letter"] ["value"] (defScope sIsWord) := ⟨rfl, rfl, rfl, by decide +kernel, rfl, by decide +kernel, by decide +kernel⟩
theorem small3000 {n : Nat} (h : n ≤ 3000) : n < sizeLine := Nat.lt_of_le_of_lt h (by decide)
def isIntD : PyData → Bool
  | .int _ => true
  | _ => false
def isIntTy : PyData → Bool
  | .int _ => true
  | .bool _ => true
  | _ => false
def isBoolD : PyData → Bool
  | .bool _ => true
  | _ => false
def isStrD : PyData → Bool
  | .str _ => true
  | _ => false
theorem kitInt (d : PyData) : kitB (tyD d) "int" = some (isIntTy d) := by cases d <;> (show kitB _ _ = some _; simp only [tyD, isIntTy]; decide +kernel)
theorem kitBool (d : PyData) : kitB (tyD d) "bool" = some (isBoolD d) := by cases d <;> (show kitB _ _ = some _; simp only [tyD, isBoolD]; decide +kernel)
theorem kitStr (d : PyData) : kitB (tyD d) "str" = some (isStrD d) := by cases d <;> (show kitB _ _ = some _; simp only [tyD, isStrD]; decide +kernel)
def letters : Str := "abcdefghijklmnopqrstuvwxyz"
/-- a word: 1 to 8 letters from a to z -/
def isWordS (x : Str) : Bool := decide (1 ≤ x.length) && decide (x.length ≤ 8) && x.cps.toList.all fun c => decide (c ∈ letters.cps.toList)
def isWordD : PyData → Bool
  | .str x => isWordS x
  | _ => false
structure BltI (mg : Str → Option Value) : Prop where
  isi : mg "isinstance" = none
  int : mg "int" = none
  bool : mg "bool" = none
  str : mg "str" = none
  list : mg "list" = none
  tuple : mg "tuple" = none
  len : mg "len" = none
  all : mg "all" = none
  letters : ∃ t, mg "LETTERS" = some (.str letters t)
  most : ∃ t, mg "MAX_LETTERS" = some (.int 8 t)
section
variable {P : Program} {w : World} {K : PySem.W.Frag} {mg : Str → Option Value} {base : Heap}
def spIsWord (w : World) : Sp := fun vs H Q _ => ∃ v d fp, vs = [v] ∧ Rep w H v d fp ∧ (∀ x, d = .str x → x.length ≤ 3000) ∧ ∀ H', Same H H' → Q (.bl (isWordD d)) H'
theorem ok_isWord {f : Addr} {fd : FuncData} {k : Nat} (F : Fun K "has_word_form" "has_word_form" sIsWord f fd) (B : BltI mg) : FnOk P w K mg base CX0 (k + 1) f fd ["value"] (spIsWord w) := by
  obtain ⟨tl, gl⟩ := B.letters
  obtain ⟨tm, gm⟩ := B.most
  refine F.ok scIsWord (fun vs H Q E h => ?_) (fun cdv A outer s H vs Q E hr h => ?_)
  · obtain ⟨v, d, fp, rfl, _⟩ := h
    rfl
  · obtain ⟨v, d, fp, rfl, rp, hx, q⟩ := h
    have hc : (cxOf CX0 P w K mg base ["value", "letter"] "has_word_form" (defScope sIsWord) f cdv A outer s H E).nox.calm = true := rfl
    refine ⟨_, pss_cons (ps_if (PW.pt (pw_or (pt_not (pt_val (pe_callB callIsD (by rfl) B.isi boot_isinstance (pa_cons (pv 0) (pa_cons (pe_bltn (v := .ty "str") (by rfl) B.str boot_str rfl) pa_nil)))))
        (pw_or1 (pt_not (pt_chain op_le op_le pe_int (pe_callB call_len_str (by rfl) B.len PySem.boot_len (pa_cons (pv 0) pa_nil)) (pe_glob (v := .int 8) (by rfl) gm ⟨_, rfl⟩)))))) (pss_one (ps_ret pe_bl)) pss_nil)
      (pss_one (ps_ret (pe_callB (cr_all hc) (by rfl) B.all (by decide +kernel) (pa_cons (pe_lc (own := [("letter", 1)]) (g := gName 1) (tt := tYes) rfl scIsWord.nd (pi_str (pv 0))
        (blkOk_by (N := ["value", "letter"]) (sc := defScope sIsWord) (by decide +kernel)) (fun _ _ _ _ _ => pg_name (i := 1) scIsWord.nd rfl (Or.inl rfl)) (fun _ _ _ _ _ => pts_nil) (fun _ _ _ _ _ => pe_cmpR op_in_sign (pv 1) (pe_glob (v := .str letters) (by rfl) gl ⟨_, rfl⟩) (by rfl))) pa_nil)))), ?_⟩
    refine ⟨v, rfl, v, d, fp, "str", isStrD d, rfl, rp, kitStr d, isStrD d, rfl, ?_⟩
    cases rp with
    | str x =>
      have hx1 := hx x rfl
      refine iteF ?_
      have hbig : x.length ≤ sizeLine := Nat.le_of_lt (small3000 hx1)
      refine ⟨.str x, rfl, x, rfl, hbig, 1, _, rfl, rfl, _, rfl, ?_⟩
      have word : isWordD (.str x) = (decide (1 ≤ x.length) && decide (x.length ≤ 8) && x.cps.toList.all fun c => decide (c ∈ letters.cps.toList)) := rfl
      by_cases h1 : 1 ≤ x.length
      · rw [show decide ((1 : Int) ≤ ((x.length : Nat) : Int)) = true from decide_eq_true (by omega)]
        refine iteT ⟨(x.length : Nat), 8, rfl, rfl, _, rfl, ?_⟩
        by_cases h8 : x.length ≤ 8
        · rw [show decide (((x.length : Nat) : Int) ≤ 8) = true from decide_eq_true (by omega)]
          refine iteF ⟨.str x, rfl, x, rfl, fun D nD => ?_⟩
          have next : ∀ i c, x.cps[i]? = some c → (x.cps.toList.take (i + 1)).map (fun c => V.bl (decide (c ∈ letters.cps.toList))) = (x.cps.toList.take i).map (fun c => V.bl (decide (c ∈ letters.cps.toList))) ++ [V.bl (decide (c ∈ letters.cps.toList))] := by
            intro i c e
            rw [List.take_add_one, Array.getElem?_toList, e, List.map_append]
            rfl
          refine lc_it (walk_str (z := x)) (fun i Hi => SameBut D (upd H D (.lst [])) Hi ∧ Hi D = some (.lst ((x.cps.toList.take i).map fun c => V.bl (decide (c ∈ letters.cps.toList))))) ⟨fun _ _ _ z => z, upd_same⟩ (fun _ _ _ _ => trivial) (fun i y Hi Hj hi hp hy => ?_) (fun Hi hp => ?_)
          · obtain ⟨rfl, c, gc, rfl⟩ := hy
            obtain ⟨sb, eD⟩ := hp
            refine ⟨rfl, .str ⟨#[c]⟩, rfl, c, letters, rfl, rfl, _, eD, ?_, fun b o nb z => ?_, ?_⟩
            · rw [List.length_map, List.length_take]
              exact Nat.lt_of_le_of_lt (Nat.min_le_right _ _) (small3000 hx1)
            · rw [upd_ne nb]
              exact sb b o nb z
            · rw [upd_same, next i c gc]
          · obtain ⟨sb, eD⟩ := hp
            have all : (x.cps.toList.take x.cps.size).map (fun c => V.bl (decide (c ∈ letters.cps.toList))) = (x.cps.toList.map fun c => decide (c ∈ letters.cps.toList)).map V.bl := by
              rw [List.take_of_length_le (by simp), List.map_map]
              rfl
            rw [all] at eD
            refine ⟨D, _, rfl, .inl (.inl eD), ?_⟩
            have sH : Same H Hi := fun b o z => sb b o (ne_of_none z nD) (by rw [upd_ne (ne_of_none z nD)]; exact z)
            have fin := q Hi sH
            rw [word, decide_eq_true h1, decide_eq_true h8, Bool.true_and, Bool.true_and] at fin
            rw [List.all_map]
            exact fin
        · rw [show decide (((x.length : Nat) : Int) ≤ 8) = false from decide_eq_false (by omega)]
          refine iteT ?_
          have fin := q H (Same.refl H)
          rw [word, decide_eq_false h8, Bool.and_false, Bool.false_and] at fin
          exact fin
      · rw [show decide ((1 : Int) ≤ ((x.length : Nat) : Int)) = false from decide_eq_false (by omega)]
        refine iteF ⟨false, rfl, iteT ?_⟩
        have fin := q H (Same.refl H)
        rw [word, decide_eq_false h1, Bool.false_and, Bool.false_and] at fin
        exact fin
    | none => exact iteT (iteT (q H (Same.refl H)))
    | bool b => exact iteT (iteT (q H (Same.refl H)))
    | int i => exact iteT (iteT (q H (Same.refl H)))
    | lst e r => exact iteT (iteT (q H (Same.refl H)))
    | tup e r => exact iteT (iteT (q H (Same.refl H)))
    | dct e ka nd hf rk rv => exact iteT (iteT (q H (Same.refl H)))
end
end KF
end L2
end
/-! ### RA -/
section
namespace L2
namespace KF
open PySem PySem.Spec PyProof.Rows PySem.KD KE KC PySem.KA KM TL
/-! ## is_outcome -/
abbrev sIO : Stmt := topS 4
theorem scIO : FnScope ["value"] ["value"] (defScope sIO) := ⟨rfl, rfl, rfl, by decide +kernel, rfl, by decide +kernel, by decide +kernel⟩
theorem letters_low : letters.cps.toList = low := low_str
theorem word_same (d : PyData) : isWordD d = wordD d := by
  cases d with
  | str x =>
    show isWordS x = isWordL (tl x)
    unfold isWordS isWordL
    rw [letters_low]
    have e : (tl x).length = x.length := by simp [Str.length]
    rw [e]
  | _ => rfl
theorem str_ext {a b : Str} (h : tl a = tl b) : a = b := by
  obtain ⟨⟨a⟩⟩ := a
  obtain ⟨⟨b⟩⟩ := b
  have z : a = b := h
  rw [z]
theorem tl_to (x : Str) (n : Nat) : tl (cutS x none (some ((n : Nat) : Int))) = (tl x).take n := by
  have e : x.cps.toList.length = x.length := by simp [Str.length]
  unfold cutS
  simp only [HT.sIx_none, HT.sIx_nat, List.drop_zero, Nat.sub_zero]
  exact take_min n x.length _ e.symm
theorem tl_from (x : Str) (n : Nat) : tl (cutS x (some ((n : Nat) : Int)) none) = (tl x).drop n := by
  have e : x.cps.toList.length = x.length := by simp [Str.length]
  unfold cutS
  simp only [HT.sIx_none, HT.sIx_nat]
  show List.take _ (List.drop _ x.cps.toList) = List.drop n x.cps.toList
  by_cases h : n ≤ x.length
  · rw [Nat.min_eq_left h]
    exact List.take_of_length_le (by rw [List.length_drop, e]; exact Nat.le_refl _)
  · rw [Nat.min_eq_right (by omega), Nat.sub_self, List.take_zero, List.drop_of_length_le (by omega)]
theorem starts_fail (x : Str) : Txt.startswith x (Str.ofString "fail ") = decide ((tl x).take 5 = tl (Str.ofString "fail ")) := by
  have ne : tl (Str.ofString "fail ") ≠ [] := by decide +kernel
  have a0 := at_iff (x := x) ne 0
  rw [List.drop_zero] at a0
  have l5 : (tl (Str.ofString "fail ")).length = 5 := by decide +kernel
  have e : Txt.startswith x (Str.ofString "fail ") = true ↔ (tl x).take 5 = tl (Str.ofString "fail ") := by
    have e1 : Txt.startswith x (Str.ofString "fail ") = true ↔ PySem.StrLaws.At x (Str.ofString "fail ") x.length 0 := by
      unfold Txt.startswith
      rw [Bool.and_eq_true, decide_eq_true_eq]
      exact Iff.rfl
    rw [e1]
    refine a0.trans ?_
    unfold pre
    rw [l5, beq_iff_eq]
  by_cases y : (tl x).take 5 = tl (Str.ofString "fail ")
  · rw [decide_eq_true y, e.mpr y]
  · rw [decide_eq_false y]
    exact Bool.eq_false_iff.mpr fun z => y (e.mp z)
section
variable {P : Program} {w : World} {K : PySem.W.Frag} {mg : Str → Option Value} {base : Heap}
def spTest (w : World) (g : PyData → Bool) : Sp := fun vs H Q _ => ∃ v d fp, vs = [v] ∧ Rep w H v d fp ∧ (∀ x, d = .str x → x.length ≤ 3000) ∧ ∀ H', Same H H' → Q (.bl (g d)) H'
theorem ok_io {f fW : Addr} {fd fdW : FuncData} (F : Fun K "is_outcome" "is_outcome" sIO f fd) (FW : Fun K "has_word_form" "has_word_form" sIsWord fW fdW) (gW : mg "has_word_form" = some (.ref fW)) (bW : Binds K fdW ["value"] []) (B : BltI mg) : FnOk P w K mg base CX0 2 f fd ["value"] (spTest w outD) := by
  have GW : FnOk P w K mg base CX0 1 fW fdW ["value"] (spIsWord w) := ok_isWord FW B
  refine F.ok scIO (fun vs H Q E h => ?_) (fun cdv A outer s H vs Q E hr h => ?_)
  · obtain ⟨v, d, fp, rfl, _⟩ := h
    rfl
  · obtain ⟨v, d, fp, rfl, rp, hx, q⟩ := h
    refine ⟨_, pss_cons (ps_if (pt_not (pt_val (pe_callB callIsD (by rfl) B.isi boot_isinstance (pa_cons (pv 0) (pa_cons (pe_bltn (v := .ty "str") (by rfl) B.str boot_str rfl) pa_nil))))) (pss_one (ps_ret pe_bl)) pss_nil)
      (pss_one (ps_ret (pe_or (pe_cmpR op_eq (pv 0) pe_str (nomark _)) (pe_one (pe_and (pe_m1 PySem.F.slot_str_startswith PySem.F.type_str_startswith mt_startswith (pv 0) pe_str)
        (pe_one (pe_call GW hr (by rfl) gW FW.kp bW .nil pass0 (pa_cons (pe_slice sl_str (pv 0) (po_some (pe_callB call_len_str (by rfl) B.len PySem.boot_len (pa_cons pe_str pa_nil))) po_none) pa_nil)))))))), ?_⟩
    refine ⟨v, rfl, v, d, fp, "str", isStrD d, rfl, rp, kitStr d, isStrD d, rfl, ?_⟩
    cases rp with
    | str x =>
      have hx1 := hx x rfl
      have big : x.length ≤ sizeLine := Nat.le_of_lt (small3000 hx1)
      refine iteF ⟨.str x, rfl, rfl, decide (V.str x = V.str "done"), rfl, ?_⟩
      have e1 : decide (V.str x = V.str "done") = decide (x = Str.ofString "done") := by
        by_cases z : x = Str.ofString "done"
        · rw [decide_eq_true z, decide_eq_true (by rw [z])]
        · rw [decide_eq_false z, decide_eq_false fun y => z (by injection y)]
      rw [e1]
      by_cases z : x = Str.ofString "done"
      · rw [decide_eq_true z]
        refine iteT ?_
        have fin := q H (Same.refl H)
        have e : outD (.str x) = true := by
          show (decide (x = Str.ofString "done") || _) = true
          rw [decide_eq_true z, Bool.true_or]
        rw [e] at fin
        exact fin
      · rw [decide_eq_false z]
        have eo : outD (.str x) = (decide ((tl x).take 5 = tl (Str.ofString "fail ")) && isWordL ((tl x).drop 5)) := by
          show (decide (x = Str.ofString "done") || _) = _
          rw [decide_eq_false z, Bool.false_or]
        rw [eo] at q
        have e2 : Txt.startswith x (Str.ofString "fail ") = decide ((tl x).take 5 = tl (Str.ofString "fail ")) := starts_fail x
        refine iteF ⟨.str x, rfl, ⟨x, rfl⟩, x, "fail ", rfl, rfl, Txt.startswith x "fail ", rfl, ?_⟩
        rw [show Txt.startswith x "fail " = _ from e2]
        by_cases y : (tl x).take 5 = tl (Str.ofString "fail ")
        · rw [decide_eq_true y] at q ⊢
          have f5 := tl_from x 5
          refine iteT ⟨.str x, rfl, Str.ofString "fail ", rfl, by decide +kernel, 5, rfl, x, rfl, big, .str (cutS x (some 5) none), .str (cutS x (some 5) none), [], rfl, .str _, fun u eu => ?_, fun H' s' => ?_⟩
          · injection eu with eu
            rw [← eu]
            exact Nat.le_trans (cutS_len x _ _) hx1
          · have fin := q H' s'
            rw [Bool.true_and] at fin
            rw [word_same]
            show Q (.bl (isWordL (tl (cutS x (some ((5 : Nat) : Int)) none)))) H'
            rw [f5]
            exact fin
        · rw [decide_eq_false y] at q ⊢
          exact iteF (q H (Same.refl H))
    | none => exact iteT (q H (Same.refl H))
    | bool b => exact iteT (q H (Same.refl H))
    | int i => exact iteT (q H (Same.refl H))
    | lst e r => exact iteT (q H (Same.refl H))
    | tup e r => exact iteT (q H (Same.refl H))
    | dct e _ _ _ _ _ => exact iteT (q H (Same.refl H))
end
end KF
end L2
end
/-! ### P2 -/
section
namespace L2
namespace KF
open PySem PySem.Spec PyProof.Rows PySem.KD KE KC PySem.KA KM TL
/-! ## [g(x) for x in d], d a dict; the same over its values -/
theorem wipe_one (σ : St) (j : Nat) (x : V) : wipe ((wipe σ [j]).set j (some x)) [j] = wipe σ [j] := by
  show ((σ.set j none).set j (some x)).set j none = σ.set j none
  rw [List.set_set, List.set_set]
theorem repAA_at {w : World} {H : Hp} : ∀ {vs : List V} {ds : List PyData} {f : List Addr} {i : Nat} {v : V}, RepAA w H vs ds f → vs[i]? = some v → ∃ d g, ds[i]? = some d ∧ RepA w H v d g ∧ ∀ a ∈ g, a ∈ f
  | _, _, _, 0, _, .cons (f1 := f1) (f2 := f2) h t, e => by
    obtain rfl := Option.some.inj e
    exact ⟨_, _, rfl, h, fun a ha => List.mem_append_left _ ha⟩
  | _, _, _, i + 1, _, .cons (f1 := f1) (f2 := f2) h t, e => by
    obtain ⟨d, g, h1, h2, h3⟩ := repAA_at t e
    exact ⟨d, g, h1, h2, fun a ha => List.mem_append_right _ (h3 a ha)⟩
/-- while d is locked, the rest as it was -/
theorem lock_tup {w : World} {d : Addr} {H : Hp} {es : List MRow} {u : HO} (e : H d = some (mdo w d es)) : TupK H (upd H d u) := fun a xs z => by
  have n : a ≠ d := fun y => by
    rw [y, e] at z
    cases z
  rw [upd_ne n]
  exact z
section
variable {w : World} {te : TE} {i j : Nat} {σ : St} {H : Hp} {Q : VK} {d : Addr} {es : List MRow} {kvs : List (PyData × PyData)} {fv : List Addr}
/-- the state of such a comprehension -/
structure LcD (w : World) (H : Hp) (d L : Addr) (od : Obj) (es : List MRow) (bs : List V) (Hi : Hp) : Prop where
  frz : Hi d = some (.frz od (mdo w d es))
  acc : Hi L = some (.lst bs)
  st : ∀ b u, b ≠ d → H b = some u → Hi b = some u
theorem LcD.next {od : Obj} {L : Addr} {bs : List V} {Hi H' : Hp} {y : V} (nL : (upd H d (.frz od (mdo w d es))) L = none) (S : LcD w H d L od es bs Hi) (s : Same Hi H') : LcD w H d L od es (bs ++ [y]) (upd H' L (.lst (bs ++ [y]))) := by
  have nd : d ≠ L := fun z => by
    rw [← z, upd_same] at nL
    cases nL
  refine ⟨by rw [upd_ne nd]; exact s _ _ S.frz, upd_same, fun b u nb e => ?_⟩
  have nb2 : b ≠ L := fun z => by
    rw [z] at nb e
    rw [upd_ne nb, e] at nL
    cases nL
  rw [upd_ne nb2]
  exact s _ _ (S.st b u nb e)
theorem lcD_end {od : Obj} {L : Addr} {bs : List V} {Hi : Hp} (e : H d = some (mdo w d es)) (nL : (upd H d (.frz od (mdo w d es))) L = none) (S : LcD w H d L od es bs Hi) : Same H (upd Hi d (mdo w d es)) ∧ (upd Hi d (mdo w d es)) L = some (.lst bs) ∧ H L = none := by
  have nd : L ≠ d := fun z => by
    rw [z, upd_same] at nL
    cases nL
  refine ⟨fun b u z => ?_, by rw [upd_ne nd]; exact S.acc, by rw [upd_ne nd] at nL; exact nL⟩
  by_cases nb : b = d
  · rw [nb, e] at z
    rw [nb, upd_same, ← z]
  · rw [upd_ne nb]
    exact S.st b u nb z
theorem keysB (D : DictAt w H d es kvs fv) (le : es.length ≤ 900) (g : PyData → Bool) (hi : σ[i]? = some (some (.ref d)))
    (step : ∀ (H' : Hp) (v : V) (kd : PyData), kd ∈ kvs.map (·.1) → Rep w H' v kd [] → ∀ Q' : VK, (∀ H'', Same H' H'' → Q' (.bl (g kd)) H'') → te ((wipe σ [j]).set j (some v)) H' Q')
    (q : ∀ H' L, Same H H' → H L = none → H' L = some (.lst (kvs.map fun p => V.bl (g p.1))) → Q (.ref L) H') : tLockE (tLc (iKeysMM w (tVar i)) (gName j) tYes te [j]) σ H Q := by
  refine ⟨d, mdo w d es, D.at_, trivial, fun od => c_lc ⟨.ref d, hi, d, od, es, rfl, upd_same, fun L nL => ?_⟩⟩
  have lx : es.length = kvs.length := by
    have z := D.rk.length
    rw [List.length_map, List.length_map] at z
    exact z
  have ndL : d ≠ L := fun z => by
    rw [← z, upd_same] at nL
    cases nL
  refine lc_it walkM (fun n Hi => LcD w H d L od es ((kvs.take n).map fun p => V.bl (g p.1)) Hi) ⟨by rw [upd_ne ndL, upd_same], upd_same, fun b u nb e => ?_⟩ (fun n Hi _ S => S.frz) (fun n x Hi Hj hn S hy => ?_) (fun Hi S => ?_)
  · have nb2 : b ≠ L := fun z => by
      rw [z] at nb e
      rw [upd_ne nb, e] at nL
      cases nL
    rw [upd_ne nb2, upd_ne nb]
    exact e
  · obtain ⟨rfl, p, hp, rfl⟩ := hy
    have hv : (es.map fun r => r.2.1)[n]? = some p.2.1 := by
      rw [List.getElem?_map, hp]
      rfl
    obtain ⟨kd, f, hk, r, sub⟩ := repAA_at D.rk hv
    have f0 : f = [] := List.eq_nil_iff_forall_not_mem.mpr fun a ha => nomatch sub a ha
    subst f0
    have tk : TupK H Hj := fun a xs z => S.st a _ (fun y => by
      rw [y, D.at_] at z
      cases z) z
    have r2 : Rep w Hj p.2.1 kd [] := r.rep.keep tk.keep0
    have hkv : ∃ z, kvs[n]? = some z ∧ z.1 = kd := by
      rw [List.getElem?_map] at hk
      cases e : kvs[n]? with
      | none =>
        rw [e] at hk
        cases hk
      | some z =>
        rw [e] at hk
        exact ⟨z, rfl, Option.some.inj hk⟩
    obtain ⟨z, ez, e1⟩ := hkv
    subst e1
    refine c_name ⟨wipe_one σ j _, step Hj _ z.1 (List.mem_map_of_mem (List.mem_of_getElem? ez)) r2 _ fun H' s => ⟨_, s _ _ S.acc, ?_, ?_⟩⟩
    · rw [List.length_map, List.length_take]
      exact small1000 (by omega)
    · have e2 : (kvs.take (n + 1)).map (fun p => V.bl (g p.1)) = (kvs.take n).map (fun p => V.bl (g p.1)) ++ [V.bl (g z.1)] := by
        rw [List.take_add_one, ez, List.map_append]
        rfl
      rw [e2]
      exact S.next nL s
  · rw [lx, List.take_length] at S
    obtain ⟨h1, h2, h3⟩ := lcD_end D.at_ nL S
    exact ⟨S.frz, q _ L h1 h3 h2⟩
theorem valsB (D : DictAt w H d es kvs fv) (le : es.length ≤ 900) (g : PyData → Bool) (hi : σ[i]? = some (some (.ref d)))
    (step : ∀ (H' : Hp) (v : V) (vd : PyData) (f : List Addr), vd ∈ kvs.map (·.2) → RepA w H' v vd f → ∀ Q' : VK, (∀ H'', Same H' H'' → Q' (.bl (g vd)) H'') → te ((wipe σ [j]).set j (some v)) H' Q')
    (q : ∀ H' L, Same H H' → H L = none → H' L = some (.lst (kvs.map fun p => V.bl (g p.2))) → Q (.ref L) H') : tLockE (tLc (iValsM w (tVar i)) (gName j) tYes te [j]) σ H Q := by
  refine ⟨d, mdo w d es, D.at_, trivial, fun od => c_lc ⟨.ref d, hi, d, od, es, rfl, upd_same, fun L nL => ?_⟩⟩
  have lx : es.length = kvs.length := by
    have z := D.rk.length
    rw [List.length_map, List.length_map] at z
    exact z
  have ndL : d ≠ L := fun z => by
    rw [← z, upd_same] at nL
    cases nL
  refine lc_it walkVM (fun n Hi => LcD w H d L od es ((kvs.take n).map fun p => V.bl (g p.2)) Hi) ⟨by rw [upd_ne ndL, upd_same], upd_same, fun b u nb e => ?_⟩ (fun n Hi _ S => S.frz) (fun n x Hi Hj hn S hy => ?_) (fun Hi S => ?_)
  · have nb2 : b ≠ L := fun z => by
      rw [z] at nb e
      rw [upd_ne nb, e] at nL
      cases nL
    rw [upd_ne nb2, upd_ne nb]
    exact e
  · obtain ⟨rfl, p, hp, rfl⟩ := hy
    have hv : (es.map fun r => r.2.2)[n]? = some p.2.2 := by
      rw [List.getElem?_map, hp]
      rfl
    obtain ⟨vd, f, hk, r, sub⟩ := repAA_at D.rv hv
    have tk : TupK H Hj := fun a xs z => S.st a _ (fun y => by
      rw [y, D.at_] at z
      cases z) z
    have r2 : RepA w Hj p.2.2 vd f := r.keep ⟨fun a ha => by
      cases e : H a with
      | none => exact absurd e (r.dom a ha)
      | some u => exact S.st a u (fun y => D.na (y ▸ sub a ha)) e, tk⟩
    have hkv : ∃ z, kvs[n]? = some z ∧ z.2 = vd := by
      rw [List.getElem?_map] at hk
      cases e : kvs[n]? with
      | none =>
        rw [e] at hk
        cases hk
      | some z =>
        rw [e] at hk
        exact ⟨z, rfl, Option.some.inj hk⟩
    obtain ⟨z, ez, e1⟩ := hkv
    subst e1
    refine c_name ⟨wipe_one σ j _, step Hj _ z.2 f (List.mem_map_of_mem (List.mem_of_getElem? ez)) r2 _ fun H' s => ⟨_, s _ _ S.acc, ?_, ?_⟩⟩
    · rw [List.length_map, List.length_take]
      exact small1000 (by omega)
    · have e2 : (kvs.take (n + 1)).map (fun p => V.bl (g p.2)) = (kvs.take n).map (fun p => V.bl (g p.2)) ++ [V.bl (g z.2)] := by
        rw [List.take_add_one, ez, List.map_append]
        rfl
      rw [e2]
      exact S.next nL s
  · rw [lx, List.take_length] at S
    obtain ⟨h1, h2, h3⟩ := lcD_end D.at_ nL S
    exact ⟨S.frz, q _ L h1 h3 h2⟩
end
end KF
end L2
end
/-! ### HS -/
section
namespace L2
namespace KS
open PySem PySem.Spec PyProof.Rows PySem.KD
/-! ## sets of texts: made of a dict with texts as keys, or of a list of texts; sorted -/
def txt (e : Int × Value) : Str := match e.2 with
  | .str x _ => x
  | _ => Str.empty
def TxtE (P : Program) (w : World) (e : Int × Value) : Prop := ∃ x tk, e.2 = .str x tk ∧ e.1 = (strKind P w).hash x
/-- at a the set of the texts ks -/
def SetS (P : Program) (w : World) (h : Heap) (a : Addr) (ks : List Str) : Prop :=
  ∃ o es ep t, h.get? a = some o ∧ o.ExactSet ∧ o.data = .set es ep t ∧ (∀ e ∈ es.toList, TxtE P w e) ∧ (es.toList.map txt).Perm ks ∧ ks.Nodup ∧ es.size < scanBound ∧ t.fits es.size = true ∧ Ris t.place.toList ∧
    (w.params.followText "set-order" = true ∨ t.led = true)
section
variable {P : Program} {w : World} {h h' : Heap} {a : Addr} {ks : List Str}
theorem SetS.keep (R : SetS P w h a ks) (k : ∀ o, h.get? a = some o → h'.get? a = some o) : SetS P w h' a ks := by
  obtain ⟨o, es, ep, t, e, r⟩ := R
  exact ⟨o, es, ep, t, k o e, r⟩
theorem txt_elems {l : List (Int × Value)} (g : ∀ e ∈ l, TxtE P w e) : ElemsOf (strKind P w) l := fun e he => by
  obtain ⟨x, tk, e1, e2⟩ := g e he
  refine ⟨⟨x, ?_, e2⟩, ?_⟩
  · rw [e1]
    exact strKind_is P w x tk
  · rw [e1]
    rfl
theorem txt_is {e : Int × Value} (g : TxtE P w e) (x : Str) : (strKind P w).is x e.2 = true ↔ txt e = x := by
  obtain ⟨y, tk, e1, _⟩ := g
  unfold txt
  rw [e1]
  constructor
  · intro z
    exact (strKind P w).inj (.str y tk) y x (strKind_is P w y tk) z
  · intro z
    have z' : y = x := z
    rw [z']
    exact strKind_is P w x tk
theorem txt_mem {l : List (Int × Value)} (g : ∀ e ∈ l, TxtE P w e) (x : Str) : x ∈ l.map txt ↔ ∃ e ∈ l, (strKind P w).is x e.2 = true := by
  constructor
  · intro z
    obtain ⟨e, he, q⟩ := List.mem_map.mp z
    exact ⟨e, he, (txt_is (g e he) x).mpr q⟩
  · rintro ⟨e, he, q⟩
    exact List.mem_map.mpr ⟨e, he, (txt_is (g e he) x).mp q⟩
end
section
variable {P : Program} {w : World} {A : Around} {E : Value → Shared → Prop} {s : Shared} {a : Addr} {ks : List Str}
/-- the last part of an addition: the element is laid, then perhaps the whole table anew -/
theorem lay_tail {g : Bool → Sem Unit} (hg : ∀ (b : Bool) (s1 : Shared) (Q1 : Unit → Shared → Prop), Q1 () s1 → wpAny (model P w) A (g b) Q1 E s1)
    {o : Obj} {es0 es1 : Array (Int × Value)} {ep : Nat} {t0 t1 : SetTable} {wd : Bool} {ks' : List Str} {R : Option Bool → Shared → Prop} (ho : s.heap.get? a = some o) (hx : o.ExactSet) (hd : o.data = .set es0 ep t0)
    (g1 : ∀ e ∈ es1.toList, TxtE P w e) (p1 : (es1.toList.map txt).Perm ks') (n1 : ks'.Nodup) (b1 : es1.size < scanBound) (f1 : t1.fits es1.size = true) (r1 : Ris t1.place.toList) (l1 : w.params.followText "set-order" = true ∨ t1.led = true)
    (z : ∀ h', Heap.SameBut a s.heap h' → SetS P w h' a ks' → R (some true) { s with heap := h' }) :
    wpAny (model P w) A (do
      storeSet a es1 t1
      if (!wd && t1.tooFull) = true then do
        g (relayAll t1 es1 (SetTable.grown es1.size)).2.2
        storeSet a (relayAll t1 es1 (SetTable.grown es1.size)).1 (relayAll t1 es1 (SetTable.grown es1.size)).2.1
        pure (some true)
      else pure (some true)) R E s := by
  have sb1 := Heap.SameBut.update s.heap a (Obj.putSet es1 t1)
  have ho1 := store_at (es' := es1) (t' := t1) ho hd
  refine wpAny_bind (wpAny_storeSet_of ho hd ?_ (fits_of_scanBound b1))
  split
  · have q1 := relayAll_perm t1 es1 (SetTable.grown es1.size)
    have q2 := relayAll_fits t1 es1 (SetTable.grown es1.size)
    have q3 := relayAll_ris t1 es1 (SetTable.grown es1.size)
    have q4 := relayAll_led t1 es1 (SetTable.grown es1.size)
    generalize relayAll t1 es1 (SetTable.grown es1.size) = Z at q1 q2 q3 q4 ⊢
    obtain ⟨es2, t2, gv⟩ := Z
    have sz : es2.size = es1.size := by
      rw [← Array.length_toList, ← Array.length_toList]
      exact q1.length_eq
    have b2 : es2.size < scanBound := sz ▸ b1
    refine wpAny_bind (hg gv _ _ (wpAny_bind (wpAny_storeSet_of ho1 rfl (wpAny_pure (z _ (sb1.trans (Heap.SameBut.update _ a _)) ?_)) (fits_of_scanBound b2))))
    exact ⟨_, es2, _, t2, store_at (es' := es2) (t' := t2) ho1 rfl, hx, rfl, fun e he => g1 e (q1.mem_iff.mp he), (q1.map txt).trans p1, n1, b2, q2, q3, l1.imp id fun y => q4.trans y⟩
  · exact wpAny_pure (z _ sb1 ⟨_, es1, _, t1, ho1, hx, rfl, g1, p1, n1, b1, f1, r1, l1⟩)
theorem adds {x : Str} {tk : Tok} {Q : Bool → Shared → Prop} (R : SetS P w s.heap a ks) (room : ks.length + 1 < scanBound)
    (z0 : x ∈ ks → Q false s) (z1 : x ∉ ks → ∀ h', Heap.SameBut a s.heap h' → SetS P w h' a (x :: ks) → Q true { s with heap := h' }) :
    wpAny (model P w) A (setAddHashed a (.str x tk) ((strKind P w).hash x)) Q E s := by
  obtain ⟨o, es, ep, t, ho, hx, hd, g, pm, nd, hb, hf, hr, hl⟩ := R
  have ik : (strKind P w).is x (.str x tk) = true := strKind_is P w x tk
  have sc : (Value.str x tk).scannable = true := rfl
  have el : ElemsOf (strKind P w) es.toList := txt_elems g
  have len : es.size = ks.length := by
    have q := pm.length_eq
    rw [List.length_map, Array.length_toList] at q
    exact q
  unfold setAddHashed setAddHashedIn
  refine wpAny_holding (wpAny_bind (wpAny_setState_of ho hd hf ?_))
  dsimp only
  rw [byScan_of sc hb el, if_pos rfl]
  unfold setAddByScan
  refine wpAny_bind (wpAny_bind (wpAny_rule (wpAny_bind (wpAny_setScan_of ik ho hd hf el ?_))))
  cases hi : List.findIdx? (fun e => (strKind P w).is x e.2) es.toList with
  | some j =>
    obtain ⟨lj, pj, _⟩ := List.findIdx?_eq_some_iff_getElem.mp hi
    have inn : x ∈ ks := pm.mem_iff.mp ((txt_mem g x).mpr ⟨_, List.getElem_mem lj, pj⟩)
    exact wpAny_pure (wpAny_pure (z0 inn))
  | none =>
    have out : x ∉ es.toList.map txt := fun y => by
      obtain ⟨e, he, q⟩ := (txt_mem g x).mp y
      have c := List.findIdx?_eq_none_iff.mp hi e he
      rw [q] at c
      cases c
    have out2 : x ∉ ks := fun y => out (pm.mem_iff.mpr y)
    dsimp only
    have quiet : ∀ (b : Bool) {s1 : Shared} {Q1 : Unit → Shared → Prop}, Q1 () s1 → wpAny (model P w) A (match b with | true => rule "set.scan.the-table-gave-way" | false => pure ()) Q1 E s1 := fun b s1 Q1 q => by
      cases b
      · exact wpAny_pure q
      · exact wpAny_rule q
    have q1 := layNew_perm t es ((strKind P w).hash x) (.str x tk)
    have q2 := layNew_fits t es ((strKind P w).hash x) (.str x tk)
    have q3 := layNew_ris t es ((strKind P w).hash x) (.str x tk) hr
    have q4 := layNew_led t es ((strKind P w).hash x) (.str x tk)
    generalize layNew t es ((strKind P w).hash x) (.str x tk) = Z at q1 q2 q3 q4 ⊢
    obtain ⟨es1, t1, wd, gv⟩ := Z
    dsimp only at q1 q2 q3 q4 ⊢
    rw [Array.toList_push] at q1
    have pc : es1.toList.Perm (((strKind P w).hash x, Value.str x tk) :: es.toList) := q1.trans (List.perm_append_singleton _ _)
    have pk : (es1.toList.map txt).Perm (x :: ks) := (pc.map txt).trans (pm.cons x)
    have g1 : ∀ e ∈ es1.toList, TxtE P w e := fun e he => by
      rcases List.mem_cons.mp (pc.mem_iff.mp he) with y | y
      · rw [y]
        exact ⟨x, tk, rfl, rfl⟩
      · exact g e y
    have n1 : (x :: ks).Nodup := List.nodup_cons.mpr ⟨out2, nd⟩
    have sz : es1.size = ks.length + 1 := by
      have q := pk.length_eq
      rw [List.length_map, Array.length_toList] at q
      exact q
    have b1 : es1.size < scanBound := by
      rw [sz]
      exact room
    have ld : w.params.followText "set-order" = true ∨ t1.led = true := hl.imp id fun y => q4.trans y
    refine wpAny_bind (quiet gv ?_)
    split
    · rw [hashByValue_scannable 8 sc]
      refine wpAny_bind (wpAny_pure ?_)
      refine lay_tail (ks' := x :: ks) ?_ ho hx hd g1 pk n1 b1 ?_ ?_ ?_ fun h' sb r => ?_
      · exact fun b s1 Q1 q => quiet b q
      · first
          | (split <;> first
              | exact q2
              | exact SetTable.fits_plain_off q2)
          | exact q2
      · first
          | (split <;> exact q3)
          | exact q3
      · first
          | (split <;> exact ld)
          | exact ld
      · exact wpAny_pure (z1 out2 h' sb r)
    · refine wpAny_bind (wpAny_pure ?_)
      rw [if_pos rfl]
      refine lay_tail (ks' := x :: ks) (fun b s1 Q1 q => quiet b q) ho hx hd g1 pk n1 b1 q2 q3 ld fun h' sb r => ?_
      exact wpAny_pure (z1 out2 h' sb r)
end
/-! ### set(d) -/
theorem none_at (n j : Nat) : (Array.replicate n (none : Option Nat)).getD j none = none := by
  unfold Array.getD
  split
  · simp
  · rfl
/-- a table without elements, laid anew -/
theorem relaid_nil (t : SetTable) (wanted : Nat) : ∃ t', t.relaid #[] wanted = some (t', #[]) ∧ t'.place = #[] ∧ t'.dummies = #[] ∧ t'.led = t.led ∧ t'.mask = SetTable.sizeAbove wanted - 1 := by
  refine ⟨{ mask := SetTable.sizeAbove wanted - 1, place := #[], dummies := #[], finger := t.finger, led := t.led, moves := t.movedTo (SetTable.sizeAbove wanted - 1), plain := t.plain }, ?_, rfl, rfl, rfl, rfl⟩
  have lay : SetTable.layClean (SetTable.sizeAbove wanted - 1) #[] = some (Array.replicate (SetTable.sizeAbove wanted - 1 + 1) none) := by
    generalize SetTable.sizeAbove wanted - 1 = M
    rfl
  unfold SetTable.relaid SetTable.laid
  rw [lay]
  have live : (List.range (SetTable.sizeAbove wanted - 1 + 1)).filterMap (fun j => ((Array.replicate (SetTable.sizeAbove wanted - 1 + 1) (none : Option Nat)).getD j none).map (j, ·)) = [] := by
    refine List.filterMap_eq_nil_iff.mpr fun j _ => ?_
    rw [none_at]
    rfl
  simp only [Option.bind_eq_bind, Option.bind_some, live]
  rfl
section
variable {P : Program} {w : World} {A : Around} {E : Value → Shared → Prop} {s : Shared} {a d : Addr}
theorem dict_not_set : isSubtype (.type "dict") (.type "set") = pure false := by
  rw [isSubtype_type]
  kernel_rfl
theorem dict_not_frozen : isSubtype (.type "dict") (.type "frozenset") = pure false := by
  rw [isSubtype_type]
  kernel_rfl
/-- an empty set gets room -/
theorem room_for {n : Nat} {o : Obj} {ep : Nat} {t : SetTable} {Q : Unit → Shared → Prop} (ho : s.heap.get? a = some o) (hx : o.ExactSet) (hd : o.data = .set #[] ep t) (hf : t.fits 0 = true) (hr : Ris t.place.toList) (hl : w.params.followText "set-order" = true ∨ t.led = true)
    (sz : SetTable.sizeAbove ((t.place.size + n) * 2) ≤ sizeLine) (z : ∀ h', Heap.SameBut a s.heap h' → SetS P w h' a [] → Q () { s with heap := h' }) : wpAny (model P w) A (setRoomFor a n) Q E s := by
  have here : SetS P w s.heap a [] := ⟨o, #[], ep, t, ho, hx, hd, (fun e he => by simp at he), List.Perm.refl _, List.nodup_nil, by decide, hf, hr, hl⟩
  unfold setRoomFor
  refine wpAny_bind (wpAny_setState_of ho hd hf ?_)
  dsimp only
  unfold SetTable.roomFor
  by_cases c : (t.fill + n) * 5 ≥ t.mask * 3
  · rw [if_pos c]
    obtain ⟨t', e1, e2, e3, e4, e5⟩ := relaid_nil t ((t.place.size + n) * 2)
    show wpAny _ _ (setRelay a ((t.place.size + n) * 2)) _ _ _
    rw [setRelay_eq]
    refine wpAny_bind (wpAny_setState_of ho hd hf ?_)
    dsimp only
    refine wp_if_neg (Nat.not_lt.mpr sz) ?_
    have e1' : t.relaid (Array.map (fun x : Int × Value => x.1) #[]) ((t.place.size + n) * 2) = some (t', #[]) := by
      rw [show Array.map (fun x : Int × Value => x.1) #[] = #[] from by simp]
      exact e1
    rw [e1']
    dsimp only
    refine wpAny_bind (wp_if_neg (by simp) (wpAny_pure (wpAny_storeSet_of ho hd (z _ (Heap.SameBut.update ..) ?_) (by simp [sizeLine_eq]))))
    refine ⟨_, _, _, t', store_at ho hd, hx, rfl, (fun e he => by simp at he), by simp, List.nodup_nil, by simp [scanBound], ?_, ?_, ?_⟩
    · unfold SetTable.fits SetTable.fill
      rw [e2, e3]
      simp
    · rw [e2]
      exact List.Pairwise.nil
    · rw [e4]
      exact hl
  · rw [if_neg c]
    exact wpAny_pure (z s.heap (Heap.SameBut.refl a s.heap) here)
/-- the loop over a dict's entries -/
theorem dict_adds {o : Obj} {es : Array DictEntry} {ep : Nat} {ks : List Str} {Q : Unit → Shared → Prop} (ho : s.heap.get? d = some o) (hd : o.data = .dict es ep) (ne : d ≠ a)
    (he : ∀ (i : Nat) (e : DictEntry), es[i]? = some e → ∃ x tk, ks[i]? = some x ∧ e.key = Value.str x tk ∧ e.hash = (strKind P w).hash x) (len : es.size = ks.length) (nd : ks.Nodup) (few : ks.length < 4000) (R : SetS P w s.heap a [])
    (z : ∀ h' tk, Heap.SameBut a s.heap h' → SetS P w h' a ks.reverse → Q () { s with heap := h', toks := tk }) :
    wpAny (model P w) A (do
      for i in [0:es.size] do
        let some e := (← dictEntries d)[i]? | unsupported "internal:set-from-dict"
        let _ ← holding [e.key] (setAddHashed a e.key e.hash)
        if (← dictEpoch d) != ep then unsupported s!"{"set.__init__"}:changed-during-callback") Q E s := by
  refine wpAny_bind ?_
  refine SeqAt.wpAny_forIn_span 0 es.size _ (fun i _ s' => ∃ h' tk, s' = { s with heap := h', toks := tk } ∧ Heap.SameBut a s.heap h' ∧ SetS P w h' a (ks.take i).reverse) _ (fun i c s' _ hi hI => ?_) (fun c s' hI => ?_) _
    ⟨s.heap, s.toks, rfl, Heap.SameBut.refl a s.heap, by simpa using R⟩
  · obtain ⟨h', tk, rfl, sb, R'⟩ := hI
    have gi : es[i]? = some es[i] := Array.getElem?_eq_getElem hi
    obtain ⟨x, tx, gx, ekey, ehash⟩ := he i _ gi
    have ho' : h'.get? d = some o := (sb.2 d ne).trans ho
    refine wpAny_bind (wpAny_dictEntries (s := { s with heap := h', toks := tk }) ho' hd ?_)
    rw [gi]
    dsimp only
    rw [ekey, ehash]
    have nin : x ∉ (ks.take i).reverse := fun y => by
      obtain ⟨j, hj, e⟩ := List.getElem_of_mem (List.mem_reverse.mp y)
      rw [List.length_take] at hj
      rw [List.getElem_take] at e
      obtain ⟨hi2, e2⟩ := List.getElem?_eq_some_iff.mp gx
      have := (List.getElem_inj (xs := ks) (i := j) (j := i) (h₀ := by omega) (h₁ := hi2) nd).mp (e.trans e2.symm)
      omega
    have short : (ks.take i).reverse.length + 1 < scanBound := by
      rw [List.length_reverse, List.length_take]
      unfold scanBound
      omega
    refine wpAny_bind (wpAny_holding (adds (s := { s with heap := h', toks := tk }) R' short (fun y => absurd y nin) fun _ h2 sb2 R2 => ?_))
    have ho2 : h2.get? d = some o := (sb2.2 d ne).trans ho'
    refine wpAny_bind (wpAny_dictEpoch (s := { s with heap := h2, toks := tk }) ho2 hd ?_)
    rw [if_neg (by simp)]
    refine wpAny_pure ⟨h2, tk, rfl, sb.trans sb2, ?_⟩
    rw [List.take_add_one, gx]
    simpa using R2
  · obtain ⟨h', tk, rfl, sb, R'⟩ := hI
    rw [Nat.zero_max, len, List.take_length] at R'
    exact wpAny_pure (z h' tk sb R')
/-- set(d), d a dict whose keys are texts -/
theorem set_dict {o : Obj} {es : Array DictEntry} {ep : Nat} {ks : List Str} {Q : Value → Shared → Prop} (ho : s.heap.get? d = some o) (hx : o.ExactDict) (hd : o.data = .dict es ep) (sy : (d == sysModules) = false)
    (he : ∀ (i : Nat) (e : DictEntry), es[i]? = some e → ∃ x tk, ks[i]? = some x ∧ e.key = Value.str x tk ∧ e.hash = (strKind P w).hash x) (len : es.size = ks.length) (nd : ks.Nodup) (few : ks.length < 4000)
    (z : ∀ h' tk, (∀ b u, s.heap.get? b = some u → h'.get? b = some u) → SetS P w h' s.heap.objs.size ks.reverse → Q (.ref s.heap.objs.size) { s with heap := h', toks := tk }) : wpAny (model P w) A (call (.type "set") [.ref d]) Q E s := by
  obtain ⟨c0, t0, hmro⟩ := F.called_set.mro
  have m0 := F.called_set.made
  have m1 := F.called_set.sub
  have m2 := F.called_set.notType
  have m3 := F.called_set.canCreate
  have m4 := F.typeCall_set_1 (.ref d)
  refine wpAny_call (codeAny_of_tree (show wpAny _ _ (callAny (.type "set") _) _ _ _ from wpAny_pure ⟨Code.quiet_builtin _ (by decide +kernel), codeAny_builtin F.entry_type_call ?_⟩))
  rw [Around.under_plain (weight_type_call_type "set" [.ref d] []) rfl]
  repeat (any_goals (first
    | assumption
    | wp_step))
  refine codeAny_mono (code_set_led1 (.ref d) (E := E) (Q₁ := fun v s1 => v = .ref s.heap.objs.size ∧ s1 = { s with heap := s.heap.push { cls := .type "set", dict := none, data := .set #[] 0 (.fresh 0 0 (!w.params.followText "set-order")) } }) ⟨rfl, rfl⟩) fun r s1 hr => ?_
  match r, hr with
  | .error e, hr => exact hr
  | .ok .next, hr => exact hr.elim
  | .ok .brk, hr => exact hr.elim
  | .ok .cont, hr => exact hr.elim
  | .ok (.ret v), hr =>
    obtain ⟨rfl, rfl⟩ := hr
    have hS : (s.heap.push { cls := .type "set", dict := none, data := .set #[] 0 (.fresh 0 0 (!w.params.followText "set-order")) }).get? s.heap.objs.size = some { cls := .type "set", dict := none, data := .set #[] 0 (.fresh 0 0 (!w.params.followText "set-order")) } := Heap.get?_push_size _ rfl
    have tS : Shared.TypeIs { s with heap := s.heap.push { cls := .type "set", dict := none, data := .set #[] 0 (.fresh 0 0 (!w.params.followText "set-order")) } } (.ref s.heap.objs.size) "set" := ⟨_, hS, rfl⟩
    have i0 := F.called_set.init.lookup
    have i1 := F.called_set.init.bind (.ref s.heap.objs.size)
    repeat (any_goals (first
      | assumption
      | wp_step))
    refine codeAny_mono (codeAny_call_builtin (R := wants (fun r s2 => r = .none ∧ ∃ h' tk, s2 = { s with heap := h', toks := tk } ∧ SetS P w h' s.heap.objs.size ks.reverse ∧ ∀ b u, s.heap.get? b = some u → h'.get? b = some u) E) F.called_set.init.plain F.entry_set_init (check_set_init_1 tS ?_)) fun r2 s2 hr2 => ?_
    · have hD : (s.heap.push { cls := .type "set", dict := none, data := .set #[] 0 (.fresh 0 0 (!w.params.followText "set-order")) }).get? d = some o := Heap.get?_push_of_some _ ho
      have tD : Shared.TypeIs { s with heap := s.heap.push { cls := .type "set", dict := none, data := .set #[] 0 (.fresh 0 0 (!w.params.followText "set-order")) } } (.ref d) "dict" := ⟨_, hD, hx.1⟩
      have nd1 := dict_not_set
      have nd2 := dict_not_frozen
      have ne : d ≠ s.heap.objs.size := Nat.ne_of_lt (Heap.lt_size ho)
      unfold Builtin.«set.__init__» noKeywords Builtin.Frozenset.updateFrom
      wp_walk
      rw [hd]
      refine wpAny_pure (wpAny_bind (wpAny_dictEntries hD hd ?_))
      have big : ∀ n, n < 4000 → SetTable.sizeAbove ((0 + n) * 2) ≤ sizeLine := fun n hn => by
        have z1 : ∀ f b, b ≤ 16384 → (0 + n) * 2 < 8192 → SetTable.sizeAbove.go ((0 + n) * 2) f b ≤ 16384 := by
          intro f
          induction f with
          | zero => exact fun b hb _ => hb
          | succ f ih =>
            intro b hb hn2
            unfold SetTable.sizeAbove.go
            split
            · exact ih _ (by omega) hn2
            · exact hb
        refine Nat.le_trans (z1 64 8 (by decide) (by omega)) (by decide)
      refine wpAny_bind (room_for (n := es.size) hS ⟨rfl, rfl, rfl⟩ rfl rfl List.Pairwise.nil ?_ (big _ (by omega)) fun h1 sb1 R1 => ?_)
      · show _ ∨ (!w.params.followText "set-order") = true
        cases w.params.followText "set-order"
        · exact .inr rfl
        · exact .inl rfl
      have hD1 : h1.get? d = some o := (sb1.2 d ne).trans hD
      refine wpAny_bind (wpAny_dictEntries (s := { s with heap := h1 }) hD1 hd ?_)
      refine dict_adds (s := { s with heap := h1 }) hD1 hd ne he len nd few R1 fun h2 tk sb2 R2 => ?_
      refine wpAny_pure ⟨rfl, h2, tk, rfl, R2, fun b u e => ?_⟩
      have nb : b ≠ s.heap.objs.size := Nat.ne_of_lt (Heap.lt_size e)
      exact (sb2.2 b nb).trans ((sb1.2 b nb).trans (Heap.get?_push_of_some _ e))
    · match r2, hr2 with
      | .error e, hr2 => exact hr2
      | .ok .next, hr2 => exact hr2.elim
      | .ok .brk, hr2 => exact hr2.elim
      | .ok .cont, hr2 => exact hr2.elim
      | .ok (.ret v), hr2 =>
        obtain ⟨rfl, h', tk, rfl, hS', hk'⟩ := hr2
        repeat (any_goals (first
          | assumption
          | wp_step))
        exact z _ _ hk' hS'
end
end KS
end L2
end
/-! ### HS2 -/
section
namespace L2
namespace KS
open PySem PySem.Spec PyProof.Rows PySem.KD KE
/-! ## sorted(set of texts) -/
def leS (a b : Str) : Bool := decide (a.cps.toList ≤ b.cps.toList)
def srt (ks : List Str) : List Str := ks.mergeSort leS
theorem leS_eq : PySem.W.dataLe false (fun x : Str => PyData.str x) = leS := PySem.W.dataLe_str (β := Str) (fun x => x)
theorem srt_perm (ks : List Str) : (srt ks).Perm ks := List.mergeSort_perm _ _
theorem leS_anti {a b : Str} (h1 : leS a b = true) (h2 : leS b a = true) : a = b := by
  have e : a.cps.toList = b.cps.toList := List.le_antisymm (of_decide_eq_true h1) (of_decide_eq_true h2)
  obtain ⟨x⟩ := a
  obtain ⟨y⟩ := b
  have e2 : x = y := Array.toList_inj.mp e
  rw [e2]
theorem leS_total (a b : Str) : (leS a b || leS b a) = true := by
  rcases List.le_total a.cps.toList b.cps.toList with h | h
  · rw [show leS a b = true from decide_eq_true h]
    rfl
  · rw [show leS b a = true from decide_eq_true h, Bool.or_true]
theorem leS_trans (a b c : Str) (h1 : leS a b = true) (h2 : leS b c = true) : leS a c = true := decide_eq_true (List.le_trans (of_decide_eq_true h1) (of_decide_eq_true h2))
theorem srt_sorted (ks : List Str) : (srt ks).Pairwise fun a b => leS a b = true := List.pairwise_mergeSort leS_trans leS_total ks
/-- a list in order is its own sorted list, however it is shuffled -/
theorem sorted_one : ∀ {xs ys : List Str}, xs.Perm ys → xs.Pairwise (fun a b => leS a b = true) → ys.Pairwise (fun a b => leS a b = true) → xs = ys
  | [], ys, p, _, _ => (List.nil_perm.mp p).symm
  | x :: xs, [], p, _, _ => absurd p.length_eq (by simp)
  | x :: xs, y :: ys, p, hx, hy => by
    obtain ⟨x1, x2⟩ := List.pairwise_cons.mp hx
    obtain ⟨y1, y2⟩ := List.pairwise_cons.mp hy
    have e : x = y := by
      rcases List.mem_cons.mp (p.mem_iff.mp List.mem_cons_self) with z | z
      · exact z
      rcases List.mem_cons.mp (p.mem_iff.mpr (List.mem_cons_self (a := y) (l := ys))) with z2 | z2
      · exact z2.symm
      · exact leS_anti (x1 y z2) (y1 x z)
    subst e
    rw [sorted_one (List.Perm.cons_inv p) x2 y2]
theorem srt_of_perm {xs ys : List Str} (p : xs.Perm ys) : srt xs = srt ys := sorted_one ((srt_perm xs).trans (p.trans (srt_perm ys).symm)) (srt_sorted xs) (srt_sorted ys)
theorem srt_mem {ks : List Str} {x : Str} : x ∈ srt ks ↔ x ∈ ks := (srt_perm ks).mem_iff
theorem each_strs : ∀ {vs : List Value}, (∀ v ∈ vs, ∃ x tk, v = Value.str x tk) → ∃ xs : List Str, PySem.W.EachIs (fun v x => ∃ tk, v = Value.str x tk) vs xs
  | [], _ => ⟨[], .nil⟩
  | v :: vs, h => by
    obtain ⟨x, tk, e⟩ := h v List.mem_cons_self
    obtain ⟨xs, r⟩ := each_strs fun u hu => h u (List.mem_cons_of_mem _ hu)
    exact ⟨x :: xs, .cons ⟨tk, e⟩ r⟩
theorem each_txt : ∀ {es : List (Int × Value)} {xs : List Str}, PySem.W.EachIs (fun v x => ∃ tk, v = Value.str x tk) (es.map (·.2)) xs → xs = es.map txt
  | [], _, .nil => rfl
  | e :: es, x :: xs, .cons h t => by
    obtain ⟨tk, z⟩ := h
    have z' : e.2 = Value.str x tk := z
    rw [List.map_cons, ← each_txt t]
    unfold txt
    rw [z']
theorem each_perm {R : Value → Str → Prop} : ∀ {vs us : List Value}, vs.Perm us → ∀ {xs : List Str}, PySem.W.EachIs R vs xs → ∃ ys, PySem.W.EachIs R us ys ∧ xs.Perm ys := by
  intro vs us p
  induction p with
  | nil =>
    intro xs r
    exact ⟨xs, r, List.Perm.refl _⟩
  | cons v _ ih =>
    intro xs r
    cases r with
    | cons h t =>
      obtain ⟨ys, r2, q⟩ := ih t
      exact ⟨_ :: ys, .cons h r2, q.cons _⟩
  | swap v u l =>
    intro xs r
    cases r with
    | cons h t =>
      cases t with
      | cons h2 t2 => exact ⟨_, .cons h2 (.cons h t2), List.Perm.swap _ _ _⟩
  | trans _ _ ih1 ih2 =>
    intro xs r
    obtain ⟨ys, r1, q1⟩ := ih1 r
    obtain ⟨zs, r2, q2⟩ := ih2 r1
    exact ⟨zs, r2, q1.trans q2⟩
section
variable {P : Program} {w : World} {A : Around} {E : Value → Shared → Prop} {s : Shared} {a : Addr} {ks : List Str}
theorem strs_alike (xs : List Str) : PySem.W.AllAlike (xs.map PyData.str) := fun d hd d' hd' => by
  obtain ⟨x, _, rfl⟩ := List.mem_map.mp hd
  obtain ⟨y, _, rfl⟩ := List.mem_map.mp hd'
  rfl
theorem strs_sortable (xs : List Str) : PySem.W.Sortable (xs.map PyData.str) := .inr fun d hd => by
  obtain ⟨x, _, rfl⟩ := List.mem_map.mp hd
  exact ⟨(fun z => nomatch z), fun _ z => nomatch z⟩
theorem vals_strs : ∀ {vs : List Value} {xs : List Str}, PySem.W.EachIs (fun v x => ∃ tk, v = Value.str x tk) vs xs → Vals (xs.map V.str) vs
  | _, _, .nil => .nil
  | _, _, .cons h t => .cons h (vals_strs t)
theorem sorted_texts {Q : Value → Shared → Prop} (R : SetS P w s.heap a ks) (hh : A.handled = none) (hu : A.units + 40 < cLine)
    (z : ∀ s' p (out : List Value) (c : Nat), (∀ b o, s.heap.get? b = some o → s'.heap.get? b = some o) → s'.gens = s.gens → s'.os = s.os → s.heap.objs.size ≤ p → s'.heap.get? p = some (seqObj "list" out.toArray c) → Vals ((srt ks).map V.str) out → Q (.ref p) s') :
    wpAny (model P w) A (call (.builtin "sorted") [.ref a]) Q E s := by
  obtain ⟨o, es, ep, t, ho, hx, hd, g, pm, nd, hb, hf, hr, hl⟩ := R
  have few : ks.length < 4096 := by
    have q := pm.length_eq
    rw [List.length_map, Array.length_toList] at q
    rw [← q]
    exact hb
  refine Calls.call_function_entry kind_sorted plain_sorted entry_sorted (args_sorted1 _) (wpAny_bind (m := checkCount "sorted" 1 1 _) (wpAny_pure (wpAny_bind (collect_set (A := A.in1) hh ⟨o, ho, hx.1, hd⟩ hf hb hr hl fun s1 vs k1 z1 g1 o1 pv => ?_))))
  have all : ∀ v ∈ es.toList.map (·.2), ∃ x tk, v = Value.str x tk := fun v hv => by
    obtain ⟨e, he, rfl⟩ := List.mem_map.mp hv
    obtain ⟨x, tk, e1, _⟩ := g e he
    exact ⟨x, tk, e1⟩
  obtain ⟨xs0, r0⟩ := each_strs all
  have e0 := each_txt r0
  obtain ⟨xs, r1, p1⟩ := each_perm pv.symm r0
  have pk : xs.Perm ks := p1.symm.trans (e0 ▸ pm)
  have lv : vs.length = ks.length := r1.length.trans pk.length_eq
  refine wpAny_bind (wpAny_newList ?_ (by rw [lv, sizeLine_eq]; omega))
  have hoL : (s1.heap.push (seqObj "list" vs.toArray 0)).get? s1.heap.objs.size = some (seqObj "list" vs.toArray 0) := Heap.get?_push_size _ rfl
  refine wpAny_bind (wpAny_holding (PySem.W.list_sort_data (s := { s1 with heap := s1.heap.push (seqObj "list" vs.toArray 0) }) (enc := PyData.str) hoL r1 (r1.mono fun v x h => ?_) (strs_alike xs) (strs_sortable xs) (by rw [pk.length_eq, sizeLine_eq]; omega) (fun x _ => ?_) fun out ol or_ => ?_))
  · obtain ⟨tk, rfl⟩ := h
    exact ⟨[], .str x tk, by simp⟩
  · show A.units + 1 + 1 + (PyData.str x).depth < cLine
    simp only [PyData.depth]
    omega
  · obtain ⟨c, hc⟩ := sortedHeap_at (vs := vs) (out := out.toArray) hoL
    have e1 : xs.mergeSort (PySem.W.dataLe false PyData.str) = srt ks := by
      rw [show PySem.W.dataLe false PyData.str = leS from leS_eq]
      exact srt_of_perm pk
    rw [e1] at or_
    refine wpAny_pure ⟨_, rfl, z _ s1.heap.objs.size out c (fun b u e => ?_) g1 o1 z1 hc (vals_strs or_)⟩
    have q := k1 b u e
    have lt := Heap.lt_size q
    show (sortedHeap (s1.heap.push (seqObj "list" vs.toArray 0)) s1.heap.objs.size vs out.toArray).get? b = some u
    rw [sortedHeap_old (Nat.ne_of_lt lt) (by rw [size_push']; exact Nat.lt_succ_of_lt lt)]
    exact Heap.get?_push_of_some _ q
end
/-! ### in the hand layer -/
/-- at a the set of the texts ks -/
def SetO' (P : Program) (w : World) (a : Addr) (ks : List Str) : HO := .ext fun h => SetS P w h a ks
theorem setO'_ok {P : Program} {w : World} {H : Hp} {h : Heap} {a : Addr} {ks : List Str} (R : SetS P w h a ks) : ObjOk P w H h a (SetO' P w a ks) := by
  have ⟨o, _, _, _, e, _⟩ := R
  exact ⟨R, ⟨o, e⟩, fun _ _ p k => p.keep fun u e => k u e⟩
theorem paired_at {α β : Type} {R : α → β → Prop} : ∀ {xs : List α} {ys : List β} {i : Nat} {y : β}, Paired R xs ys → ys[i]? = some y → ∃ x, xs[i]? = some x ∧ R x y
  | _, _, 0, _, .cons a _, h => ⟨_, rfl, by rw [← Option.some.inj h]; exact a⟩
  | _, _, i + 1, _, .cons _ t, h => paired_at (i := i) t h
  | _, _, _, _, .nil, h => by simp at h
theorem kAt_text {H : Hp} {x : Str} {v : V} (h : kAt H (.text x) v) : v = .str x := by
  cases h.1
  rfl
section
variable {X : Cx}
/-- set(d), d's keys texts -/
def rSetD (P : Program) (w : World) : List V → Hp → VK → Prop := fun vs H Q => ∃ (d : Addr) (es : List MRow) (ks : List Str), vs = [V.ref d] ∧ Rd H d (mdo w d es) ∧ es.map (·.1) = ks.map NestedKey.text ∧ KAll H es ∧ ks.Nodup ∧ ∀ a, H a = none → Q (.ref a) (upd H a (SetO' P w a ks.reverse))
theorem cr_setD : CallR X (.type "set") (rSetD X.prog X.w) := by
  intro pins s σ H vs us Q I r h
  obtain ⟨d, es, ks, rfl, ed, ek, ka, nd, q⟩ := h
  rw [Vals.ref1 r]
  obtain ⟨l, sy, rows, rr, D⟩ := mdo_rd I.hok ed
  obtain ⟨o, ens, ep, ho, hc, hd, he⟩ := D.at_
  have sz : ens.size = es.length := by
    rw [← Array.length_toList, he, List.length_map]
    exact (Paired.length rr).symm
  have lk : ks.length = es.length := by
    have := congrArg List.length ek
    rw [List.length_map, List.length_map] at this
    exact this.symm
  have hn : H s.heap.objs.size = none := I.hok.fresh (Nat.le_refl _)
  refine set_dict ho hc hd sy (fun i e hi => ?_) (sz.trans lk.symm) nd (by omega) fun h' tk k R => ?_
  · have hi' : (rows.map (rowE X.w))[i]? = some e := by
      rw [← he, Array.getElem?_toList]
      exact hi
    rw [List.getElem?_map] at hi'
    obtain ⟨row, hrow, rfl⟩ := Option.map_eq_some_iff.mp hi'
    obtain ⟨m, hm, rel⟩ := paired_at rr hrow
    obtain ⟨k1, r1, r2⟩ := rel
    have km : (es.map (·.1))[i]? = some m.1 := by rw [List.getElem?_map, hm]; rfl
    rw [ek, List.getElem?_map] at km
    obtain ⟨x, hx, ex⟩ := Option.map_eq_some_iff.mp km
    have kk := ka m (List.mem_of_getElem? hm)
    rw [← ex] at kk
    have e3 : m.2.1 = V.str x := kAt_text kk
    rw [e3] at r1
    obtain ⟨t, r1⟩ := r1
    refine ⟨x, t, hx, r1, ?_⟩
    show row.1.hash X.w = _
    rw [← k1, ← ex]
    simp only [NestedKey.hash]
    rfl
  · exact ⟨.ref _, _, I.laid (t' := tk) k (Nat.le_refl _) (setO'_ok R), rfl, q _ hn⟩
/-- sorted(a set of texts) -/
def rSortS (P : Program) (w : World) : List V → Hp → VK → Prop := fun vs H Q => ∃ (a : Addr) (ks : List Str), vs = [V.ref a] ∧ H a = some (SetO' P w a ks) ∧ ks.length ≤ 1000 ∧ ∀ p, H p = none → Q (.ref p) (upd H p (.lst ((srt ks).map V.str)))
theorem cr_sortS (hc : X.calm = true) (hu : X.A.units + 40 < cLine) : CallR X (.builtin "sorted") (rSortS X.prog X.w) := by
  intro pins s σ H vs us Q I r h
  obtain ⟨a, ks, rfl, ea, lk, q⟩ := h
  rw [Vals.ref1 r]
  have R : SetS X.prog X.w s.heap a ks := (I.hok a _ ea).1
  refine sorted_texts R (I.ok.hd hc) hu fun s' p out c k g o hp hg rv => ?_
  have ll : ((srt ks).map V.str).length ≤ sizeLine := by
    rw [List.length_map, (srt_perm ks).length_eq, sizeLine_eq]
    omega
  have hn : H p = none := I.hok.fresh hp
  have J : Inv X pins σ (upd H p (.lst ((srt ks).map V.str))) { s with heap := s'.heap, gens := s'.gens, drawn := s'.drawn, toks := s'.toks } :=
    I.call (ch := []) (Un.laid k hp hn) (I.hok.laid k hp ⟨ll, out, c, rv, hg⟩) (by rw [g]; exact I.bare) (fun _ z => nomatch z)
  obtain ⟨h1, h2, h3, h4, h5⟩ := s'
  have e5 : h5 = s.os := o
  subst e5
  exact ⟨.ref p, _, J, rfl, q p hn⟩
end
end KS
end L2
end
/-! ### SQ -/
section
namespace L2
namespace KS
open PySem PySem.Spec PyProof.Rows PySem.KD
/-! ## set == set, texts in both -/
theorem entry_set_eq : entryFor table "set.__eq__" = some Builtin.«frozenset.__eq__» :=
  entryFor_alias (id' := "frozenset.__eq__") (by kernel_rfl) rfl (by decide +kernel) (by kernel_rfl)
section
variable {P : Program} {w : World} {A : Around} {E : Value → Shared → Prop} {s : Shared} {a b : Addr} {ks ls : List Str}
theorem SetS.typeIs {h : Heap} (R : SetS P w h a ks) {s : Shared} (e : s.heap = h) : s.TypeIs (.ref a) "set" := by
  obtain ⟨o, es, ep, t, ho, hx, _⟩ := R
  exact ⟨o, by rw [e]; exact ho, hx.1⟩
theorem anySet_set {Q : Bool → Shared → Prop} (h : s.TypeIs (.ref b) "set") (q : Q true s) : wpAny (model P w) A (Builtin.Frozenset.isAnySet (.ref b)) Q E s := by
  unfold Builtin.Frozenset.isAnySet orM
  exact wpAny_bind (wpAny_isInstance h PySem.F.sub_set_set (wpAny_pure q))
theorem quiet_txt {x : Str} {tk : Tok} {Q : Bool → Shared → Prop} (q : Q true s) : wpAny (model P w) A (Builtin.Frozenset.quietEq (.str x tk)) Q E s := by
  unfold Builtin.Frozenset.quietEq
  exact wpAny_pure q
/-- the elements, all texts, in the order in which they lie -/
theorem unseen_txt {oa ob : Obj} {ea eb : Array (Int × Value)} {pa pb : Nat} {ta tb : SetTable} {Q : List (Int × Value) → Shared → Prop} (ha : s.heap.get? a = some oa) (da : oa.data = .set ea pa ta) (fa : ta.fits ea.size = true)
    (hb : s.heap.get? b = some ob) (db : ob.data = .set eb pb tb) (fb : tb.fits eb.size = true) (ga : ∀ e ∈ ea.toList, TxtE P w e) (gb : ∀ e ∈ eb.toList, TxtE P w e) (q : Q ea.toList s) :
    wpAny (model P w) A (Builtin.Frozenset.walkUnseen a b) Q E s := by
  unfold Builtin.Frozenset.walkUnseen
  refine wpAny_bind (wpAny_setEntries_of ha da fa (wpAny_bind (wpAny_setEntries_of hb db fb (wpAny_bind ?_))))
  have all : ∀ e ∈ ea.toList ++ eb.toList, TxtE P w e := fun e he => (List.mem_append.mp he).elim (ga e) (gb e)
  revert all
  generalize ea.toList ++ eb.toList = L
  intro all
  refine wpAny_forIn_list _ (fun (l : List (Int × Value)) (acc : Option (List (Int × Value)) × Unit) s' => s' = s ∧ acc.1 = none ∧ ∀ e ∈ l, TxtE P w e) _ (fun e l acc s' h => ?_) (fun acc s' h => ?_) L (none, ()) (And.intro rfl (And.intro rfl all))
  · obtain ⟨rfl, h0, hl⟩ := h
    obtain ⟨x, tk, e1, _⟩ := hl e List.mem_cons_self
    obtain ⟨h1, h2⟩ := e
    simp only at e1
    subst e1
    refine wpAny_bind (quiet_txt ?_)
    exact wpAny_pure (And.intro rfl (And.intro rfl fun e he => hl e (List.mem_cons_of_mem _ he)))
  · obtain ⟨rfl, h0, _⟩ := h
    obtain ⟨a0, u0⟩ := acc
    simp only at h0
    subst h0
    exact wpAny_pure q
/-- each text of the one set, one after the other, is looked for in the other one -/
theorem subset_txt {id : String} {Q : Bool → Shared → Prop} (Ra : SetS P w s.heap a ks) (Rb : SetS P w s.heap b ls) (q : Q (decide (ks.length ≤ ls.length) && ks.all fun x => decide (x ∈ ls)) s) : wpAny (model P w) A (Builtin.Frozenset.subsetOf id a b) Q E s := by
  obtain ⟨oa, ea, pa, ta, ha, xa, da, ga, ma, na, ba, fa, _⟩ := Ra
  obtain ⟨ob, eb, pb, tb, hb, xb, db, gb, mb, nb, bb, fb, _⟩ := Rb
  have la : ea.size = ks.length := by
    have z := ma.length_eq
    rw [List.length_map, Array.length_toList] at z
    exact z
  have lb : eb.size = ls.length := by
    have z := mb.length_eq
    rw [List.length_map, Array.length_toList] at z
    exact z
  unfold Builtin.Frozenset.subsetOf Builtin.Frozenset.sizeOf
  refine wpAny_bind (wpAny_bind (wpAny_setEntries_of ha da fa (wpAny_pure (wpAny_bind (wpAny_bind (wpAny_setEntries_of hb db fb (wpAny_pure ?_)))))))
  by_cases c : ea.size > eb.size
  · rw [if_pos c]
    have z : decide (ks.length ≤ ls.length) = false := decide_eq_false (by omega)
    rw [z, Bool.false_and] at q
    exact wpAny_pure q
  · rw [if_neg c]
    have z : decide (ks.length ≤ ls.length) = true := decide_eq_true (by omega)
    rw [z, Bool.true_and] at q
    refine wpAny_bind (wpAny_setEpoch_of ha da fa (wpAny_bind (unseen_txt ha da fa hb db fb ga gb (wpAny_bind ?_))))
    have e0 : (ks.all fun x => decide (x ∈ ls)) = ea.toList.all fun e => decide (txt e ∈ ls) := by
      rw [Bool.eq_iff_iff, List.all_eq_true, List.all_eq_true]
      refine ⟨fun h e he => h _ (ma.mem_iff.mp (List.mem_map_of_mem he)), fun h x hx => ?_⟩
      obtain ⟨e, he, rfl⟩ := List.mem_map.mp (ma.mem_iff.mpr hx)
      exact h e he
    rw [e0] at q
    revert ga
    revert q
    generalize ea.toList = L
    intro q ga
    have hel : ElemsOf (strKind P w) eb.toList := txt_elems gb
    have hmem : ∀ k : Str, (decide (k ∈ ls)) = true ↔ ∃ e ∈ eb.toList, (strKind P w).is k e.2 = true := fun k => by
      rw [decide_eq_true_eq, ← txt_mem gb]
      exact mb.mem_iff.symm
    refine wpAny_forIn_list _ (fun (l : List (Int × Value)) (acc : Option Bool × Unit) s' => s' = s ∧ acc.1 = none ∧ (∀ e ∈ l, TxtE P w e) ∧ (L.all fun e => decide (txt e ∈ ls)) = l.all fun e => decide (txt e ∈ ls)) _ (fun e l acc s' h => ?_) (fun acc s' h => ?_) L (none, ()) (And.intro rfl (And.intro rfl (And.intro ga rfl)))
    · obtain ⟨rfl, h0, hl, he⟩ := h
      obtain ⟨x, tk, e1, e2⟩ := hl e List.mem_cons_self
      obtain ⟨h1, h2⟩ := e
      simp only at e1 e2
      subst e1
      subst e2
      have et : txt ((strKind P w).hash x, Value.str x tk) = x := rfl
      rw [List.all_cons, et] at he
      refine wpAny_bind (wpAny_holding (PySem.W.setFind_any (knd := strKind P w) (k := x) (S := fun k => decide (k ∈ ls)) (strKind_is P w x tk) rfl hb db hel hmem bb fb fun r hr => ?_))
      cases r with
      | none =>
        have hr' : decide (x ∈ ls) = false := hr.symm
        rw [hr', Bool.false_and] at he
        rw [he] at q
        exact wpAny_pure (wpAny_pure q)
      | some n =>
        have hr' : decide (x ∈ ls) = true := hr.symm
        rw [hr', Bool.true_and] at he
        unfold Builtin.Frozenset.unchanged
        refine wpAny_bind (wpAny_bind (wpAny_setEpoch_of ha da fa ?_))
        rw [if_neg (by simp)]
        exact wpAny_pure (wpAny_pure (And.intro rfl (And.intro rfl (And.intro (fun e he => hl e (List.mem_cons_of_mem _ he)) he))))
    · obtain ⟨rfl, h0, _, he⟩ := h
      obtain ⟨a0, u0⟩ := acc
      simp only at h0
      subst h0
      rw [he] at q
      exact wpAny_pure q
/-- whether two sets of texts are equal -/
def sameS (ks ls : List Str) : Bool := decide (ks.length = ls.length) && ks.all fun x => decide (x ∈ ls)
theorem sets_eq {Q : Value → Shared → Prop} (hu : A.units < cLine) (Ra : SetS P w s.heap a ks) (Rb : SetS P w s.heap b ls) (q : Q (.bool (sameS ks ls)) s) : wpAny (model P w) A (compareOp .Eq (.ref a) (.ref b)) Q E s := by
  have tA := Ra.typeIs (s := s) rfl
  have tB := Rb.typeIs (s := s) rfl
  refine wpAny_richCompare_same_room (op := .Eq) tA tB PySem.F.slot_set_eq (wpAny_call_entry PySem.F.slot_set_eq tA entry_set_eq ?_ (PySem.F.args_set_eq_2 _ _)) hu
  obtain ⟨oa, ea, pa, ta, ha, xa, da, ga, ma, na, ba, fa, ra⟩ := id Ra
  obtain ⟨ob, eb, pb, tb, hb, xb, db, gb, mb, nb, bb, fb, rb⟩ := id Rb
  have la : ea.size = ks.length := by
    have z := ma.length_eq
    rw [List.length_map, Array.length_toList] at z
    exact z
  have lb : eb.size = ls.length := by
    have z := mb.length_eq
    rw [List.length_map, Array.length_toList] at z
    exact z
  unfold Builtin.«frozenset.__eq__»
  show wpAny _ _ (Builtin.Frozenset.slot1 "__eq__" ⟨[.ref a, .ref b], []⟩ >>= _) _ _ s
  refine wpAny_bind ?_
  unfold Builtin.Frozenset.slot1 slotArgs
  refine wpAny_bind (wpAny_bind (wpAny_pure (wpAny_pure ?_)))
  refine wpAny_pure ?_
  refine wpAny_bind (anySet_set tB ?_)
  simp only [Bool.not_true, Bool.false_eq_true, ↓reduceIte]
  refine wpAny_bind (wpAny_pure (wpAny_bind (wpAny_pure ?_)))
  unfold Builtin.Frozenset.sizeOf
  refine wpAny_bind (wpAny_bind (wpAny_setEntries_of ha da fa (wpAny_pure (wpAny_bind (wpAny_bind (wpAny_setEntries_of hb db fb (wpAny_pure ?_)))))))
  refine wpAny_bind ?_
  have fin : ∀ x : Bool, x = sameS ks ls → wpAny (model P w) A.in1 (ret (Value.bool x)) (fun fin s' => ∃ v, fin = Fin.done (Flow.ret v) ∧ v ≠ Value.notImplemented ∧ Q v s') E s := fun x e => by
    rw [e]
    exact wpAny_pure (Exists.intro _ (And.intro rfl (And.intro (fun z => nomatch z) q)))
  by_cases c : ea.size = eb.size
  · rw [if_neg (by simp [c])]
    refine wpAny_bind ?_
    unfold andM
    refine wpAny_bind (wpAny_isInstance tA PySem.F.sub_set_frozenset ?_)
    refine wpAny_pure ?_
    rw [if_neg Bool.false_ne_true]
    refine subset_txt Ra Rb (fin _ ?_)
    unfold sameS
    rw [decide_eq_true (show ks.length ≤ ls.length by omega), decide_eq_true (show ks.length = ls.length by omega)]
  · rw [if_pos (by simp [c])]
    refine wpAny_pure (fin _ ?_)
    unfold sameS
    rw [decide_eq_false (show ¬ ks.length = ls.length by omega), Bool.false_and]
end
section
variable {X : Cx}
/-- == of two sets of texts -/
def rEqSS (P : Program) (w : World) : V → V → Hp → VK → Prop := fun x y H Q => ∃ (a b : Addr) (ks ls : List Str), x = .ref a ∧ y = .ref b ∧ H a = some (SetO' P w a ks) ∧ H b = some (SetO' P w b ls) ∧ Q (.bl (sameS ks ls)) H
theorem op_eqSS (hu : X.A.units < cLine) : OpR X (compareOp .Eq) (rEqSS X.prog X.w) := by
  intro pins s σ H x y v u Q I rx ry h
  obtain ⟨a, b, ks, ls, rfl, rfl, ea, eb, q⟩ := h
  obtain rfl : v = Value.ref a := rx
  obtain rfl : u = Value.ref b := ry
  exact sets_eq hu (I.hok a _ ea).1 (I.hok b _ eb).1 ⟨.bl _, H, I, rfl, q⟩
end
end KS
end L2
end
/-! ### RB -/
section
namespace L2
namespace KF
open PySem PySem.Spec PyProof.Rows PySem.KD KE KC PySem.KA KM TL
/-! ## right data as rows -/
theorem key_text {H : Hp} {k : NestedKey} {x : Str} (h : kAt H k (.str x)) : k = .text x := by
  cases h.1
  rfl
theorem wordD_str {d : PyData} (h : wordD d = true) : ∃ x, d = .str x ∧ isWordL (tl x) = true := by
  cases d with
  | str x => exact ⟨x, rfl, h⟩
  | _ => cases h
theorem levD_str {lv : List Str} {d : PyData} (h : levD lv d = true) : ∃ x, d = .str x ∧ x ∈ lv := by
  cases d with
  | str x => exact ⟨x, rfl, of_decide_eq_true h⟩
  | _ => cases h
theorem outD_str {d : PyData} (h : outD d = true) : ∃ x, d = .str x := by
  cases d with
  | str x => exact ⟨x, rfl⟩
  | _ => cases h
theorem repA_str {w : World} {H : Hp} {v : V} {x : Str} {f : List Addr} (r : RepA w H v (.str x) f) : v = .str x := by
  cases r
  rfl
/-- a row of words to levels, in the heap -/
structure RowAt (w : World) (H : Hp) (lv : List Str) (a : Addr) (ls : List (Str × Str)) : Prop where
  at_ : H a = some (mdo w a (rowsT ls))
  nd : (ls.map (·.1)).Nodup
  word : ∀ q ∈ ls, isWordL (tl q.1) = true
  lev : ∀ q ∈ ls, q.2 ∈ lv
theorem RowAt.keep {w : World} {H H' : Hp} {lv : List Str} {a : Addr} {ls : List (Str × Str)} (R : RowAt w H lv a ls) (e : H' a = some (mdo w a (rowsT ls))) : RowAt w H' lv a ls := ⟨e, R.nd, R.word, R.lev⟩
theorem rows_text {w : World} {H : Hp} {lv : List Str} : ∀ {es : List MRow} {kvs : List (PyData × PyData)} {fk fv : List Addr}, KAll H es → RepAA w H (es.map fun r => r.2.1) (kvs.map (·.1)) fk → RepAA w H (es.map fun r => r.2.2) (kvs.map (·.2)) fv →
    (kvs.all fun p => wordD p.1 && levD lv p.2) = true → ∃ ls : List (Str × Str), es = rowsT ls ∧ kvs = kvT ls ∧ (∀ q ∈ ls, isWordL (tl q.1) = true) ∧ ∀ q ∈ ls, q.2 ∈ lv
  | [], kvs, fk, fv, _, rk, _, _ => by
    have l := rk.length
    rw [List.length_map, List.length_map] at l
    have e : kvs = [] := List.length_eq_zero_iff.mp l.symm
    exact ⟨[], rfl, e, (fun _ z => nomatch z), fun _ z => nomatch z⟩
  | e :: es, [], fk, fv, _, rk, _, _ => by
    have l := rk.length
    rw [List.length_map, List.length_map] at l
    cases l
  | e :: es, p :: kvs, fk, fv, ka, rk, rv, h => by
    rw [List.map_cons, List.map_cons] at rk rv
    rw [List.all_cons, Bool.and_eq_true, Bool.and_eq_true] at h
    obtain ⟨⟨h1, h2⟩, h3⟩ := h
    obtain ⟨x, ex, hx⟩ := wordD_str h1
    obtain ⟨y, ey, hy⟩ := levD_str h2
    cases rk with
    | cons r1 rk =>
      cases rv with
      | cons r2 rv =>
        obtain ⟨ls, g1, g2, g3, g4⟩ := rows_text (fun q hq => ka q (List.mem_cons_of_mem _ hq)) rk rv h3
        rw [ex] at r1
        rw [ey] at r2
        have v1 := repA_str r1
        have v2 := repA_str r2
        have k1 := ka e List.mem_cons_self
        rw [v1] at k1
        have k2 := key_text k1
        obtain ⟨e1, e2, e3⟩ := e
        obtain ⟨p1, p2⟩ := p
        simp only at v1 v2 k2 ex ey
        subst v1 v2 k2 ex ey g1 g2
        refine ⟨(x, y) :: ls, rfl, rfl, fun q hq => ?_, fun q hq => ?_⟩
        · rcases List.mem_cons.mp hq with rfl | hq
          · exact hx
          · exact g3 q hq
        · rcases List.mem_cons.mp hq with rfl | hq
          · exact hy
          · exact g4 q hq
theorem nodup_of_text {xs : List Str} (h : (xs.map NestedKey.text).Nodup) : xs.Nodup := List.Pairwise.imp (fun ne e => ne (by rw [e])) (List.pairwise_map.mp h)
theorem row_at {w : World} {H : Hp} {v : V} {d : PyData} {f : List Addr} {lv : List Str} (r : RepA w H v d f) (h : rowD lv d = true) : ∃ a ls, v = .ref a ∧ d = .dict (kvT ls) ∧ a ∈ f ∧ RowAt w H lv a ls := by
  cases r with
  | @dct a es kvs fv e ka nd rk rv na =>
    obtain ⟨ls, rfl, rfl, h3, h4⟩ := rows_text ka rk rv h
    refine ⟨a, ls, rfl, rfl, List.mem_cons_self, e, ?_, h3, h4⟩
    rw [rowsT_keys] at nd
    exact nodup_of_text nd
  | _ => cases h
/-- right finals, in the heap -/
structure FinAt (w : World) (H : Hp) (d : Addr) (fs : List Fin) : Prop where
  at_ : H d = some (mdo w d (rowsF fs))
  nd : (fs.map (·.1)).Nodup
  out : ∀ q ∈ fs, outD (.str q.1) = true
  row : ∀ q ∈ fs, RowAt w H endL q.2.1 q.2.2
  ne : ∀ q ∈ fs, q.2.1 ≠ d
theorem rows_fin {w : World} {H : Hp} : ∀ {es : List MRow} {kvs : List (PyData × PyData)} {fk fv : List Addr}, KAll H es → RepAA w H (es.map fun r => r.2.1) (kvs.map (·.1)) fk → RepAA w H (es.map fun r => r.2.2) (kvs.map (·.2)) fv →
    (kvs.all fun p => outD p.1 && rowD endL p.2) = true → ∃ fs : List Fin, es = rowsF fs ∧ kvs = kvF fs ∧ (∀ q ∈ fs, outD (.str q.1) = true) ∧ ∀ q ∈ fs, RowAt w H endL q.2.1 q.2.2 ∧ q.2.1 ∈ fv
  | [], kvs, fk, fv, _, rk, _, _ => by
    have l := rk.length
    rw [List.length_map, List.length_map] at l
    have e : kvs = [] := List.length_eq_zero_iff.mp l.symm
    exact ⟨[], rfl, e, (fun _ z => nomatch z), fun _ z => nomatch z⟩
  | e :: es, [], fk, fv, _, rk, _, _ => by
    have l := rk.length
    rw [List.length_map, List.length_map] at l
    cases l
  | e :: es, p :: kvs, fk, fv, ka, rk, rv, h => by
    rw [List.map_cons, List.map_cons] at rk rv
    rw [List.all_cons, Bool.and_eq_true, Bool.and_eq_true] at h
    obtain ⟨⟨h1, h2⟩, h3⟩ := h
    obtain ⟨x, ex⟩ := outD_str h1
    cases rk with
    | cons r1 rk =>
      cases rv with
      | @cons _ _ _ _ f1 f2 r2 rv =>
        obtain ⟨fs, g1, g2, g3, g4⟩ := rows_fin (fun q hq => ka q (List.mem_cons_of_mem _ hq)) rk rv h3
        obtain ⟨a, ls, v2, ey, ha, ra⟩ := row_at r2 h2
        rw [ex] at r1
        have v1 := repA_str r1
        have k1 := ka e List.mem_cons_self
        rw [v1] at k1
        have k2 := key_text k1
        obtain ⟨e1, e2, e3⟩ := e
        obtain ⟨p1, p2⟩ := p
        simp only at v1 v2 k2 ex ey h1
        subst v1 v2 k2 ex ey g1 g2
        refine ⟨(x, a, ls) :: fs, rfl, rfl, fun q hq => ?_, fun q hq => ?_⟩
        · rcases List.mem_cons.mp hq with rfl | hq
          · exact h1
          · exact g3 q hq
        · rcases List.mem_cons.mp hq with rfl | hq
          · exact ⟨ra, List.mem_append_left _ ha⟩
          · exact ⟨(g4 q hq).1, List.mem_append_right _ (g4 q hq).2⟩
/-- keys and rows of finals are right, whatever words the rows have -/
def finR : PyData → Bool
  | .dict kvs => kvs.all fun p => outD p.1 && rowD endL p.2
  | _ => false
theorem finR_of {d : PyData} (h : finD d = true) : finR d = true := by
  cases d with
  | dict kvs =>
    have h' : (kvs.all (fun p => outD p.1 && rowD endL p.2) && kvs.all fun p => kvs.all fun q => sameW p.2 q.2) = true := h
    rw [Bool.and_eq_true] at h'
    exact h'.1
  | _ => cases h
theorem fin_at {w : World} {H : Hp} {v : V} {d : PyData} {f : List Addr} (r : RepA w H v d f) (h : finR d = true) : ∃ a fs, v = .ref a ∧ d = .dict (kvF fs) ∧ FinAt w H a fs := by
  cases r with
  | @dct a es kvs fv e ka nd rk rv na =>
    obtain ⟨fs, rfl, rfl, h3, h4⟩ := rows_fin ka rk rv h
    refine ⟨a, fs, rfl, rfl, e, ?_, h3, fun q hq => (h4 q hq).1, fun q hq z => na (z ▸ (h4 q hq).2)⟩
    rw [rowsF_keys] at nd
    exact nodup_of_text nd
  | _ => cases h
/-! ### how many -/
theorem sz_pos (d : PyData) : 1 ≤ L2.KF.sz d := by
  cases d <;> simp only [L2.KF.sz] <;> omega
theorem len_kv : ∀ kvs : List (PyData × PyData), kvs.length ≤ szKv kvs
  | [] => Nat.zero_le _
  | (k, v) :: r => by
    have := len_kv r
    have := sz_pos v
    simp only [szKv, List.length_cons]
    omega
theorem Nice.few {D N W : Nat} {kvs : List (PyData × PyData)} (n : Nice D N W (.dict kvs)) : kvs.length ≤ N := by
  have h := n.sz
  simp only [L2.KF.sz] at h
  have := len_kv kvs
  omega
theorem kv_parts {D N W : Nat} : ∀ {kvs : List (PyData × PyData)}, PyData.showableKv kvs = true → PyData.leavesShortKv 13 kvs = true → PyData.depthKv kvs ≤ D → szKv kvs ≤ N → PyData.weightKv kvs ≤ W → ∀ p ∈ kvs, Nice D N W p.2 ∧ p.1.weight ≤ W
  | [], _, _, _, _, _, _, z => nomatch z
  | (k, v) :: r, h1, h2, h3, h4, h5, p, hp => by
    simp only [PyData.showableKv, PyData.leavesShortKv, PyData.depthKv, szKv, PyData.weightKv, Bool.and_eq_true] at h1 h2 h3 h4 h5
    rcases List.mem_cons.mp hp with rfl | hp
    · exact ⟨⟨h1.1.2, h2.1.2, by show v.depth ≤ D; omega, by show L2.KF.sz v ≤ N; omega, by show v.weight ≤ W; omega⟩, by show k.weight ≤ W; omega⟩
    · exact kv_parts h1.2 h2.2 (by omega) (by omega) (by omega) p hp
theorem Nice.part {D N W : Nat} {kvs : List (PyData × PyData)} (n : Nice D N W (.dict kvs)) {p : PyData × PyData} (hp : p ∈ kvs) : Nice D N W p.2 ∧ p.1.weight ≤ W := by
  have h1 := n.show_
  have h2 := n.leaf
  have h3 := n.dep
  have h4 := n.sz
  have h5 := n.wt
  simp only [PyData.showable, PyData.leavesShort, PyData.depth, L2.KF.sz, PyData.weight] at h1 h2 h3 h4 h5
  exact kv_parts h1 h2 (by omega) (by omega) h5 p hp
end KF
end L2
end
/-! ### RC -/
section
namespace L2
namespace KF
open PySem PySem.Spec PyProof.Rows PySem.KD KE KC PySem.KA KM TL
/-! ## [g(row) for key in d], d a dict -/
theorem look_mem : ∀ {es : List MRow} {r : MRow}, (es.map (·.1)).Nodup → r ∈ es → lookH es r.1 = some r
  | e :: es, r, nd, h => by
    rw [List.map_cons, List.nodup_cons] at nd
    unfold lookH
    rcases List.mem_cons.mp h with rfl | h
    · rw [List.find?_cons_of_pos (by exact NestedKey.beq_self _)]
    · rw [List.find?_cons_of_neg (by
        intro z
        have z2 := NestedKey.eq_of_beq _ _ z
        exact nd.1 (z2 ▸ List.mem_map_of_mem h))]
      exact look_mem nd.2 h
section
variable {w : World} {te : TE} {i j : Nat} {σ : St} {H : Hp} {Q : VK} {d : Addr} {es : List MRow} {kvs : List (PyData × PyData)} {fv : List Addr}
/-- where such a walk stands at a row -/
structure AtRow (w : World) (H : Hp) (d : Addr) (es : List MRow) (kvs : List (PyData × PyData)) (fv : List Addr) (Hi : Hp) (r : MRow) (p : PyData × PyData) : Prop where
  re : r ∈ es
  pe : p ∈ kvs
  look : lookH es r.1 = some r
  key : kAt Hi r.1 r.2.1
  all : KAll Hi es
  rk : Rep w Hi r.2.1 p.1 []
  rd : Rd Hi d (mdo w d es)
  fz : ∃ od, Hi d = some (.frz od (mdo w d es))
  rv : ∃ f, (∀ a ∈ f, a ∈ fv) ∧ RepA w Hi r.2.2 p.2 f
  st : ∀ b u, b ≠ d → H b = some u → Hi b = some u
theorem keysP (D : DictAt w H d es kvs fv) (le : es.length ≤ 900) (g : PyData × PyData → Bool) (hi : σ[i]? = some (some (.ref d)))
    (step : ∀ (Hi : Hp) (r : MRow) (p : PyData × PyData), AtRow w H d es kvs fv Hi r p → ∀ Q' : VK, (∀ H'', Same Hi H'' → Q' (.bl (g p)) H'') → te ((wipe σ [j]).set j (some r.2.1)) Hi Q')
    (q : ∀ H' L, Same H H' → H L = none → H' L = some (.lst (kvs.map fun p => V.bl (g p))) → Q (.ref L) H') : tLockE (tLc (iKeysMM w (tVar i)) (gName j) tYes te [j]) σ H Q := by
  refine ⟨d, mdo w d es, D.at_, trivial, fun od => c_lc ⟨.ref d, hi, d, od, es, rfl, upd_same, fun L nL => ?_⟩⟩
  have lx : es.length = kvs.length := by
    have z := D.rk.length
    rw [List.length_map, List.length_map] at z
    exact z
  have ndL : d ≠ L := fun z => by
    rw [← z, upd_same] at nL
    cases nL
  refine lc_it walkM (fun n Hi => LcD w H d L od es ((kvs.take n).map fun p => V.bl (g p)) Hi) ⟨by rw [upd_ne ndL, upd_same], upd_same, fun b u nb e => ?_⟩ (fun n Hi _ S => S.frz) (fun n x Hi Hj hn S hy => ?_) (fun Hi S => ?_)
  · have nb2 : b ≠ L := fun z => by
      rw [z] at nb e
      rw [upd_ne nb, e] at nL
      cases nL
    rw [upd_ne nb2, upd_ne nb]
    exact e
  · obtain ⟨rfl, r, hp, rfl⟩ := hy
    have hv : (es.map fun r => r.2.1)[n]? = some r.2.1 := by
      rw [List.getElem?_map, hp]
      rfl
    have hw : (es.map fun r => r.2.2)[n]? = some r.2.2 := by
      rw [List.getElem?_map, hp]
      rfl
    obtain ⟨kd, f, hk, r1, sub⟩ := repAA_at D.rk hv
    obtain ⟨vd, f2, hk2, r2, sub2⟩ := repAA_at D.rv hw
    have f0 : f = [] := List.eq_nil_iff_forall_not_mem.mpr fun a ha => nomatch sub a ha
    subst f0
    have tk : TupK H Hj := fun a xs z => S.st a _ (fun y => by
      rw [y, D.at_] at z
      cases z) z
    have hz : n < kvs.length := by rw [← lx]; exact hn
    obtain ⟨z, ez⟩ : ∃ z, kvs[n]? = some z := ⟨_, List.getElem?_eq_getElem hz⟩
    rw [List.getElem?_map, ez] at hk hk2
    have k1 : z.1 = kd := Option.some.inj hk
    have k2 : z.2 = vd := Option.some.inj hk2
    subst k1
    subst k2
    have rm := List.mem_of_getElem? hp
    have A : AtRow w H d es kvs fv Hj r z := ⟨rm, List.mem_of_getElem? ez, look_mem D.nd rm, (D.ka r rm).mono tk, KAll.keep D.ka tk, r1.rep.keep tk.keep0, .inr ⟨od, S.frz⟩, ⟨od, S.frz⟩, ⟨f2, sub2, r2.keep ⟨fun a ha => by
      cases e : H a with
      | none => exact absurd e (r2.dom a ha)
      | some u => exact S.st a u (fun y => D.na (y ▸ sub2 a ha)) e, tk⟩⟩, S.st⟩
    refine c_name ⟨wipe_one σ j _, step Hj r z A _ fun H' s => ⟨_, s _ _ S.acc, ?_, ?_⟩⟩
    · rw [List.length_map, List.length_take]
      exact small1000 (by omega)
    · have e2 : (kvs.take (n + 1)).map (fun p => V.bl (g p)) = (kvs.take n).map (fun p => V.bl (g p)) ++ [V.bl (g z)] := by
        rw [List.take_add_one, ez, List.map_append]
        rfl
      rw [e2]
      exact S.next nL s
  · rw [lx, List.take_length] at S
    obtain ⟨h1, h2, h3⟩ := lcD_end D.at_ nL S
    exact ⟨S.frz, q _ L h1 h3 h2⟩
end
theorem map_bl {α : Type} (g : α → Bool) (l : List α) : (l.map fun p => V.bl (g p)) = (l.map g).map V.bl := by
  rw [List.map_map]
  rfl
theorem repA_dict {w : World} {H : Hp} {v : V} {kvs : List (PyData × PyData)} {f : List Addr} (r : RepA w H v (.dict kvs) f) : ∃ a es fv, v = .ref a ∧ DictAt w H a es kvs fv ∧ (∀ b ∈ fv, b ∈ f) ∧ a ∈ f := by
  cases r with
  | @dct a es kvs fv e ka nd rk rv na => exact ⟨a, es, fv, rfl, ⟨e, ka, nd, rk, rv, na⟩, fun b hb => List.mem_cons_of_mem _ hb, List.mem_cons_self⟩
theorem DictAt.len {w : World} {H : Hp} {a : Addr} {es : List MRow} {kvs : List (PyData × PyData)} {fv : List Addr} (D : DictAt w H a es kvs fv) : es.length = kvs.length := by
  have z := D.rk.length
  rw [List.length_map, List.length_map] at z
  exact z
theorem inV_strs (x : Str) (lv : List Str) : inV (.str x) (lv.map V.str) = decide (x ∈ lv) := by
  unfold inV
  induction lv with
  | nil => rfl
  | cons y lv ih =>
    rw [List.map_cons, List.any_cons, ih]
    have e : eqV (.str y) (.str x) = decide (y = x) := by
      show decide (y = x) = _
      rfl
    rw [e]
    by_cases c : y = x
    · subst c
      rw [decide_eq_true rfl, Bool.true_or, decide_eq_true List.mem_cons_self]
    · rw [decide_eq_false c, Bool.false_or]
      by_cases m : x ∈ lv
      · rw [decide_eq_true m, decide_eq_true (List.mem_cons_of_mem _ m)]
      · rw [decide_eq_false m, decide_eq_false fun z => (List.mem_cons.mp z).elim (fun z => c z.symm) m]
theorem sqT_same {K : PySem.W.Frag} {H H' : Hp} {t : Addr} {xs : List V} (s : Same H H') (h : SqT K H t xs) : SqT K H' t xs := by
  rcases h with (h | ⟨o, h⟩) | h
  · exact .inl (.inl (s _ _ h))
  · exact .inl (.inr ⟨o, s _ _ h⟩)
  · exact .inr h
theorem sqT_lock {K : PySem.W.Frag} {w : World} {H H' : Hp} {d t : Addr} {es : List MRow} {xs : List V} (e : H d = some (mdo w d es)) (st : ∀ b u, b ≠ d → H b = some u → H' b = some u) (h : SqT K H t xs) : SqT K H' t xs := by
  rcases h with (h | ⟨o, h⟩) | h
  · exact .inl (.inl (st _ _ (fun z => by
      rw [z, e] at h
      cases h) h))
  · exact .inl (.inr ⟨o, st _ _ (fun z => by
      rw [z, e] at h
      cases h) h⟩)
  · exact .inr h
/-! ## is_table -/
abbrev sTab : Stmt := topS 23
abbrev tabN : List Str := ["value", "levels", "word"]
theorem scTab : FnScope tabN ["value", "levels"] (defScope sTab) := ⟨rfl, rfl, rfl, by decide +kernel, rfl, by decide +kernel, by decide +kernel⟩
structure BltC (mg : Str → Option Value) : Prop where
  i : BltI mg
  dict : mg "dict" = none
section
variable {P : Program} {w : World} {K : PySem.W.Frag} {mg : Str → Option Value} {base : Heap}
def spTab (K : PySem.W.Frag) (w : World) : Sp := fun vs H Q _ => ∃ v t d fp lv, vs = [v, .ref t] ∧ RepA w H v d fp ∧ SqT K H t (lv.map V.str) ∧ Nice 5 70 3000 d ∧ ∀ H', Same H H' → Q (.bl (rowD lv d)) H'
theorem ok_tab {f fW : Addr} {fd fdW : FuncData} (F : Fun K "is_table" "is_table" sTab f fd) (FW : Fun K "has_word_form" "has_word_form" sIsWord fW fdW) (gW : mg "has_word_form" = some (.ref fW)) (bW : Binds K fdW ["value"] []) (B : BltC mg) : FnOk P w K mg base CX0 2 f fd ["value", "levels"] (spTab K w) := by
  have GW : FnOk P w K mg base CX0 1 fW fdW ["value"] (spIsWord w) := ok_isWord FW B.i
  refine F.ok scTab (fun vs H Q E h => ?_) (fun cdv A outer s H vs Q E hr h => ?_)
  · obtain ⟨v, t, d, fp, lv, rfl, _⟩ := h
    rfl
  · obtain ⟨v, t, d, fp, lv, rfl, rp, sq, nc, q⟩ := h
    have hc : (cxOf CX0 P w K mg base tabN "is_table" (defScope sTab) f cdv A outer s H E).nox.calm = true := rfl
    have hu10 : (cxOf CX0 P w K mg base tabN "is_table" (defScope sTab) f cdv A outer s H E).nox.A.units + 10 < cLine := by
      have := hr.un
      show (A.deeper _).units + 10 < cLine
      omega
    refine ⟨_, pss_cons (ps_if (PW.pt (pw_or (pt_not (pt_val (pe_callB callIsD (by rfl) B.i.isi boot_isinstance (pa_cons (pv 0) (pa_cons (pe_bltn (v := .ty "dict") (by rfl) B.dict boot_dict rfl) pa_nil)))))
        (pw_or1 (pt_not (pt_val (pe_callB (cr_all hc) (by rfl) B.i.all (by decide +kernel) (pa_cons (pe_lock (pe_lc (own := [("word", 2)]) (g := gName 2) (tt := tYes) rfl scTab.nd (piKeysM (pv 0))
          (blkOk_by (N := tabN) (sc := defScope sTab) (by decide +kernel)) (fun _ _ _ _ _ => pg_name (i := 2) scTab.nd rfl (Or.inl rfl)) (fun _ _ _ _ _ => pts_nil)
          (fun _ _ _ _ _ => pe_call GW hr (by rfl) gW FW.kp bW .nil pass0 (pa_cons (pv 2) pa_nil)))) pa_nil))))))) (pss_one (ps_ret pe_bl)) pss_nil)
      (pss_one (ps_ret (pe_callB (cr_all hc) (by rfl) B.i.all (by decide +kernel) (pa_cons (pe_lock (pe_lc (own := [("word", 2)]) (g := gName 2) (tt := tYes) rfl scTab.nd (piKeysM (pv 0))
          (blkOk_by (N := tabN) (sc := defScope sTab) (by decide +kernel)) (fun _ _ _ _ _ => pg_name (i := 2) scTab.nd rfl (Or.inl rfl)) (fun _ _ _ _ _ => pts_nil)
          (fun _ _ _ _ _ => pe_and (pe_callB (r := rIsD w) callIsD (by rfl) B.i.isi boot_isinstance (pa_cons (pe_ix (r := rIxM w) (ixM (by exact hu10)) (pv 0) (pv 2) (fun _ _ => rfl)) (pa_cons (pe_bltn (v := .ty "str") (by rfl) B.i.str boot_str rfl) pa_nil)))
            (pe_one (pe_cmpR (r := rIn K false) op_in_seq (pe_ix (r := rIxM w) (ixM (by exact hu10)) (pv 0) (pv 2) (fun _ _ => rfl)) (pv 1) (by rfl)))))) pa_nil)))), ?_⟩
    refine ⟨v, rfl, v, d, fp, "dict", isDictD d, rfl, rp.rep, kitDict d, isDictD d, rfl, ?_⟩
    cases hd : isDictD d with
    | false =>
      refine iteT (iteT ?_)
      have e : rowD lv d = false := by
        cases d with
        | dict kvs => cases hd
        | _ => rfl
      have fin := q H (Same.refl H)
      rw [e] at fin
      exact fin
    | true =>
      obtain ⟨kvs, rfl⟩ : ∃ kvs, d = .dict kvs := by
        cases d with
        | dict kvs => exact ⟨kvs, rfl⟩
        | _ => cases hd
      refine iteF ?_
      obtain ⟨a, es, fv, rfl, D, _⟩ := repA_dict rp
      have few := nc.few
      have el := D.len
      have e0 : rowD lv (.dict kvs) = ((kvs.all fun p => wordD p.1) && kvs.all fun p => levD lv p.2) := by
        show (kvs.all fun p => wordD p.1 && levD lv p.2) = _
        rw [Bool.eq_iff_iff, Bool.and_eq_true, List.all_eq_true, List.all_eq_true, List.all_eq_true]
        exact ⟨fun h => ⟨fun p hp => (Bool.and_eq_true_iff.mp (h p hp)).1, fun p hp => (Bool.and_eq_true_iff.mp (h p hp)).2⟩, fun h p hp => Bool.and_eq_true_iff.mpr ⟨h.1 p hp, h.2 p hp⟩⟩
      refine keysP (w := w) (es := es) D (by omega) (fun p => wordD p.1) rfl (fun Hi r p A Q' q' => ?_) (fun H' L sH nL eL => ?_)
      · refine ⟨_, rfl, r.2.1, p.1, [], rfl, A.rk, fun x ex => ?_, fun H'' s'' => ?_⟩
        · have := (nc.part A.pe).2
          rw [ex] at this
          exact this
        · rw [word_same]
          exact q' H'' s''
      · rw [map_bl (fun p : PyData × PyData => wordD p.1)] at eL
        refine ⟨L, _, rfl, .inl (.inl eL), ?_⟩
        rw [List.all_map]
        show ∃ k, V.bl (kvs.all fun p => wordD p.1) = V.bl k ∧ _
        refine ⟨_, rfl, ?_⟩
        cases hw : kvs.all fun p => wordD p.1 with
        | false =>
          rw [hw, Bool.false_and] at e0
          rw [e0] at q
          exact iteT (q H' sH)
        | true =>
          rw [hw, Bool.true_and] at e0
          rw [e0] at q
          have D' : DictAt w H' a es kvs fv := ⟨sH _ _ D.at_, KAll.keep D.ka (tup_same sH), D.nd, D.rk.same sH, D.rv.same sH, D.na⟩
          refine iteF (keysP (w := w) (es := es) D' (by omega) (fun p => levD lv p.2) rfl (fun Hi r p A Q' q' => ?_) (fun H2 L2 s2 nL2 eL2 => ?_))
          · obtain ⟨f2, sub, r2⟩ := A.rv
            have tS : SqT K Hi t (lv.map V.str) := sqT_lock D'.at_ A.st (sqT_same sH sq)
            refine ⟨.ref a, rfl, r.2.1, rfl, a, es, r.1, r, rfl, A.rd, A.all, A.key, A.look, r.2.2, p.2, f2, "str", isStrD p.2, rfl, r2.rep, kitStr _, isStrD p.2, rfl, ?_⟩
            cases hs : isStrD p.2 with
            | false =>
              refine iteF ?_
              have e : levD lv p.2 = false := by
                cases h2 : p.2 with
                | str x => rw [h2] at hs; cases hs
                | _ => rfl
              have fin := q' Hi (Same.refl Hi)
              rw [e] at fin
              exact fin
            | true =>
              obtain ⟨x, ex⟩ : ∃ x, p.2 = .str x := by
                cases h2 : p.2 with
                | str x => exact ⟨x, rfl⟩
                | _ => rw [h2] at hs; cases hs
              rw [ex] at r2
              have ev := repA_str r2
              refine iteT ⟨.ref a, rfl, r.2.1, rfl, a, es, r.1, r, rfl, A.rd, A.all, A.key, A.look, .ref t, rfl, t, lv.map V.str, rfl, .inr tS, ?_, ?_, ?_⟩
              · rw [ev]
                rfl
              · rw [List.all_map]
                exact List.all_eq_true.mpr fun _ _ => rfl
              · rw [if_neg Bool.false_ne_true, ev, inV_strs]
                have fin := q' Hi (Same.refl Hi)
                rw [ex] at fin
                exact fin
          · rw [map_bl (fun p : PyData × PyData => levD lv p.2)] at eL2
            refine ⟨L2, _, rfl, .inl (.inl eL2), ?_⟩
            rw [List.all_map]
            exact q H2 (sH.trans s2)
end
end KF
end L2
end
/-! ### RD -/
section
namespace L2
namespace KF
open PySem PySem.Spec PyProof.Rows PySem.KD KE KC PySem.KA KM TL KS
/-! ## [g(x) for x in xs], xs a list -/
section
variable {w : World} {K : PySem.W.Frag} {te : TE} {i j : Nat} {σ : St} {H : Hp} {Q : VK} {l : Addr}
theorem listB {α : Type} {as : List α} {fv : α → V} (hl : H l = some (.lst (as.map fv))) (le : as.length ≤ 900) (g : α → Bool) (hi : σ[i]? = some (some (.ref l)))
    (step : ∀ (Hi : Hp) (a : α), a ∈ as → Same H Hi → ∀ Q' : VK, (∀ H'', Same Hi H'' → Q' (.bl (g a)) H'') → te ((wipe σ [j]).set j (some (fv a))) Hi Q')
    (q : ∀ H' L, Same H H' → H L = none → H' L = some (.lst ((as.map g).map V.bl)) → Q (.ref L) H') : tLc (iList K (tVar i)) (gName j) tYes te [j] σ H Q := by
  refine c_lc ⟨.ref l, hi, l, rfl, ⟨_, .inl (.inl hl)⟩, fun L nL => ?_⟩
  have same0 : Same H (upd H L (.lst [])) := fun b u e => by
    rw [upd_ne (ne_of_none e nL)]
    exact e
  refine lc_it (walk_list (K := K) (a := l) (xs := as.map fv)) (fun n Hi => Same H Hi ∧ Hi L = some (.lst (((as.take n).map g).map V.bl))) ⟨same0, upd_same⟩ (fun n Hi _ S => .inl (.inl (S.1 _ _ hl))) (fun n x Hi Hj hn S hy => ?_) (fun Hi S => ?_)
  · obtain ⟨rfl, hx⟩ := hy
    rw [List.getElem?_map] at hx
    obtain ⟨a, ha, rfl⟩ := Option.map_eq_some_iff.mp hx
    refine c_name ⟨wipe_one σ j _, step Hj a (List.mem_of_getElem? ha) S.1 _ fun H' s => ⟨_, s _ _ S.2, ?_, ?_, ?_⟩⟩
    · rw [List.length_map, List.length_map, List.length_take]
      exact small1000 (by omega)
    · have sH := S.1.trans s
      intro b u e
      rw [upd_ne (ne_of_none e nL)]
      exact sH b u e
    · rw [upd_same, List.take_add_one, ha, List.map_append, List.map_append]
      rfl
  · rw [List.length_map, List.take_length] at S
    exact q _ L S.1 nL S.2
end
/-! ## equal words -/
theorem nodup_sub : ∀ {ks ls : List Str}, ks.Nodup → (∀ x ∈ ks, x ∈ ls) → ks.length = ls.length → ∀ x ∈ ls, x ∈ ks
  | [], ls, _, _, len, x, hx => by
    have e : ls = [] := List.length_eq_zero_iff.mp len.symm
    rw [e] at hx
    cases hx
  | k :: ks, ls, h, s, len, x, hx => by
    rw [List.nodup_cons] at h
    have hk := s k List.mem_cons_self
    have ll : (ls.erase k).length = ls.length - 1 := by rw [List.length_erase_of_mem hk]
    have sub : ∀ y ∈ ks, y ∈ ls.erase k := fun y hy => (List.mem_erase_of_ne (fun e => h.1 (by rw [← e]; exact hy))).mpr (s y (List.mem_cons_of_mem _ hy))
    by_cases e : x = k
    · rw [e]
      exact List.mem_cons_self
    · rw [List.length_cons] at len
      exact List.mem_cons_of_mem _ (nodup_sub h.2 sub (by omega) x ((List.mem_erase_of_ne e).mpr hx))
theorem sameS_iff {ks ls : List Str} (h1 : ks.Nodup) (h2 : ls.Nodup) : sameS ks ls = true ↔ ∀ x, x ∈ ks ↔ x ∈ ls := by
  unfold sameS
  rw [Bool.and_eq_true, decide_eq_true_eq, List.all_eq_true]
  constructor
  · rintro ⟨len, s⟩ x
    have s' : ∀ x ∈ ks, x ∈ ls := fun x hx => of_decide_eq_true (s x hx)
    exact ⟨s' x, nodup_sub h1 s' len x⟩
  · intro h
    exact ⟨((List.perm_ext_iff_of_nodup h1 h2).mpr h).length_eq, fun x hx => decide_eq_true ((h x).mp hx)⟩
theorem inK_words {x : Str} {ls : List (Str × Str)} : inK (.str x) (.dict (kvT ls)) = true ↔ x ∈ ls.map (·.1) := by
  show ((kvT ls).any fun p => eqT (.str x) p.1) = true ↔ _
  rw [List.any_eq_true]
  constructor
  · rintro ⟨p, hp, e⟩
    obtain ⟨q, hq, rfl⟩ := List.mem_map.mp hp
    have e2 : x = q.1 := of_decide_eq_true e
    rw [e2]
    exact List.mem_map_of_mem hq
  · intro h
    obtain ⟨q, hq, e⟩ := List.mem_map.mp h
    exact ⟨(.str q.1, .str q.2), List.mem_map_of_mem (f := fun (q : Str × Str) => ((.str q.1, .str q.2) : PyData × PyData)) hq, decide_eq_true e.symm⟩
theorem sameW_iff {a b : List (Str × Str)} : sameW (.dict (kvT a)) (.dict (kvT b)) = true ↔ ∀ x, x ∈ a.map (·.1) ↔ x ∈ b.map (·.1) := by
  show ((kvT a).all (fun p => inK p.1 (.dict (kvT b))) && (kvT b).all fun p => inK p.1 (.dict (kvT a))) = true ↔ _
  rw [Bool.and_eq_true, List.all_eq_true, List.all_eq_true]
  constructor
  · rintro ⟨h1, h2⟩ x
    constructor
    · intro hx
      obtain ⟨q, hq, e⟩ := List.mem_map.mp hx
      have := inK_words.mp (h1 (.str q.1, .str q.2) (List.mem_map_of_mem (f := fun (q : Str × Str) => ((.str q.1, .str q.2) : PyData × PyData)) hq))
      rw [← e]
      exact this
    · intro hx
      obtain ⟨q, hq, e⟩ := List.mem_map.mp hx
      have := inK_words.mp (h2 (.str q.1, .str q.2) (List.mem_map_of_mem (f := fun (q : Str × Str) => ((.str q.1, .str q.2) : PyData × PyData)) hq))
      rw [← e]
      exact this
  · intro h
    constructor
    · intro p hp
      obtain ⟨q, hq, rfl⟩ := List.mem_map.mp hp
      exact inK_words.mpr ((h q.1).mp (List.mem_map_of_mem hq))
    · intro p hp
      obtain ⟨q, hq, rfl⟩ := List.mem_map.mp hp
      exact inK_words.mpr ((h q.1).mpr (List.mem_map_of_mem hq))
/-- the words of a row -/
abbrev keysT (ls : List (Str × Str)) : List Str := ls.map (·.1)
theorem nodup_rev {xs : List Str} (h : xs.Nodup) : xs.reverse.Nodup := List.pairwise_reverse.mpr (List.Pairwise.imp Ne.symm h)
theorem sameS_words {a b : List (Str × Str)} (h1 : (keysT a).Nodup) (h2 : (keysT b).Nodup) : sameS (keysT a).reverse (keysT b).reverse = sameW (.dict (kvT a)) (.dict (kvT b)) := by
  have n1 : (keysT a).reverse.Nodup := nodup_rev h1
  have n2 : (keysT b).reverse.Nodup := nodup_rev h2
  rw [Bool.eq_iff_iff, sameS_iff n1 n2, sameW_iff]
  exact ⟨fun h x => by simpa using h x, fun h x => by simpa using h x⟩
/-- the first row's words -/
def head1 (fs : List Fin) : List (Str × Str) := ((fs[0]?).map fun q => q.2.2).getD []
theorem finD_rows {fs : List Fin} (h : finR (.dict (kvF fs)) = true) : finD (.dict (kvF fs)) = fs.all fun q => sameW (.dict (kvT q.2.2)) (.dict (kvT (head1 fs))) := by
  have h' : ((kvF fs).all fun p => outD p.1 && rowD endL p.2) = true := h
  show ((kvF fs).all (fun p => outD p.1 && rowD endL p.2) && (kvF fs).all fun p => (kvF fs).all fun q => sameW p.2 q.2) = _
  rw [h', Bool.true_and, Bool.eq_iff_iff, List.all_eq_true, List.all_eq_true]
  have mem : ∀ q ∈ fs, ((.str q.1, .dict (kvT q.2.2)) : PyData × PyData) ∈ kvF fs := fun q hq => List.mem_map_of_mem (f := fun q : Fin => ((.str q.1, .dict (kvT q.2.2)) : PyData × PyData)) hq
  constructor
  · intro z q hq
    cases fs with
    | nil => cases hq
    | cons q0 fs =>
      have := List.all_eq_true.mp (z _ (mem q hq)) _ (mem q0 List.mem_cons_self)
      exact this
  · intro z p hp
    rw [List.all_eq_true]
    intro p2 hp2
    obtain ⟨q, hq, rfl⟩ := List.mem_map.mp hp
    obtain ⟨q2, hq2, rfl⟩ := List.mem_map.mp hp2
    have z1 := sameW_iff.mp (z q hq)
    have z2 := sameW_iff.mp (z q2 hq2)
    exact sameW_iff.mpr fun x => (z1 x).trans (z2 x).symm
end KF
end L2
end
/-! ### RE -/
section
namespace L2
namespace KF
open PySem PySem.Spec PyProof.Rows PySem.KD KE KC PySem.KA KM TL KS
/-! ## are_outcomes -/
abbrev sAO : Stmt := topS 21
abbrev aoN : List Str := ["value", "tables", "outcome", "table"]
theorem scAO : FnScope aoN ["value"] (defScope sAO) := ⟨rfl, rfl, rfl, by decide +kernel, rfl, by decide +kernel, by decide +kernel⟩
structure BltO (K : PySem.W.Frag) (mg : Str → Option Value) : Prop where
  c : BltC mg
  set : mg "set" = none
  ends : ∃ t, mg "END_LEVELS" = some (.ref t) ∧ ∀ H, SqT K H t (endL.map V.str)
theorem rep_zip {w : World} {H : Hp} : ∀ {vs : List V} {ds : List PyData} {f : List Addr}, RepAA w H vs ds f → (vs.zip ds).map (·.1) = vs ∧ (vs.zip ds).map (·.2) = ds ∧ ∀ p ∈ vs.zip ds, ∃ g, RepA w H p.1 p.2 g
  | _, _, _, .nil => ⟨rfl, rfl, fun _ z => nomatch z⟩
  | _, _, _, .cons h t => by
    obtain ⟨h1, h2, h3⟩ := rep_zip t
    refine ⟨by rw [List.zip_cons_cons, List.map_cons, h1], by rw [List.zip_cons_cons, List.map_cons, h2], fun p hp => ?_⟩
    rw [List.zip_cons_cons] at hp
    rcases List.mem_cons.mp hp with rfl | hp
    · exact ⟨_, h⟩
    · exact h3 p hp
section
variable {P : Program} {w : World} {K : PySem.W.Frag} {mg : Str → Option Value} {base : Heap}
def spData (w : World) (g : PyData → Bool) : Sp := fun vs H Q _ => ∃ v d fp, vs = [v] ∧ RepA w H v d fp ∧ Nice 5 70 3000 d ∧ ∀ H', Same H H' → Q (.bl (g d)) H'
theorem ok_ao {f fW fI fT : Addr} {fd fdW fdI fdT : FuncData} (F : Fun K "are_outcomes" "are_outcomes" sAO f fd) (FW : Fun K "has_word_form" "has_word_form" sIsWord fW fdW) (gW : mg "has_word_form" = some (.ref fW)) (bW : Binds K fdW ["value"] [])
    (FI : Fun K "is_outcome" "is_outcome" sIO fI fdI) (gI : mg "is_outcome" = some (.ref fI)) (bI : Binds K fdI ["value"] []) (FT : Fun K "is_table" "is_table" sTab fT fdT) (gT : mg "is_table" = some (.ref fT)) (bT : Binds K fdT ["value", "levels"] []) (B : BltO K mg) :
    FnOk P w K mg base CX0 3 f fd ["value"] (spData w finD) := by
  have GI : FnOk P w K mg base CX0 2 fI fdI ["value"] (spTest w outD) := ok_io FI FW gW bW B.c.i
  have GT : FnOk P w K mg base CX0 2 fT fdT ["value", "levels"] (spTab K w) := ok_tab FT FW gW bW B.c
  obtain ⟨tE, gE, sE⟩ := B.ends
  refine F.ok scAO (fun vs H Q E h => ?_) (fun cdv A outer s H vs Q E hr h => ?_)
  · obtain ⟨v, d, fp, rfl, _⟩ := h
    rfl
  · obtain ⟨v, d, fp, rfl, rp, nc, q⟩ := h
    have hc : (cxOf CX0 P w K mg base aoN "are_outcomes" (defScope sAO) f cdv A outer s H E).nox.calm = true := rfl
    have hu : (cxOf CX0 P w K mg base aoN "are_outcomes" (defScope sAO) f cdv A outer s H E).nox.A.units < cLine := by
      have := hr.un
      show (A.deeper _).units < cLine
      omega
    refine ⟨_, pss_cons (ps_if (PW.pt (pw_or (pt_not (pt_val (pe_callB callIsD (by rfl) B.c.i.isi boot_isinstance (pa_cons (pv 0) (pa_cons (pe_bltn (v := .ty "dict") (by rfl) B.c.dict boot_dict rfl) pa_nil)))))
        (pw_or1 (pt_not (pt_val (pe_callB (cr_all hc) (by rfl) B.c.i.all (by decide +kernel) (pa_cons (pe_lock (pe_lc (own := [("outcome", 2)]) (g := gName 2) (tt := tYes) rfl scAO.nd (piKeysM (pv 0))
          (blkOk_by (N := aoN) (sc := defScope sAO) (by decide +kernel)) (fun _ _ _ _ _ => pg_name (i := 2) scAO.nd rfl (Or.inl rfl)) (fun _ _ _ _ _ => pts_nil)
          (fun _ _ _ _ _ => pe_call GI hr (by rfl) gI FI.kp bI .nil pass0 (pa_cons (pv 2) pa_nil)))) pa_nil))))))) (pss_one (ps_ret pe_bl)) pss_nil)
      (pss_cons (ps_set (i := 1) scAO.nd rfl (.inr rfl) (peListVals hc (pv 0) (by rfl) B.c.i.list boot_list))
      (pss_cons (ps_if (pt_not (pt_val (pe_callB (cr_all hc) (by rfl) B.c.i.all (by decide +kernel) (pa_cons (pe_lc (own := [("table", 3)]) (g := gName 3) (tt := tYes) rfl scAO.nd (pi_list (pv 1))
          (blkOk_by (N := aoN) (sc := defScope sAO) (by decide +kernel)) (fun _ _ _ _ _ => pg_name (i := 3) scAO.nd rfl (Or.inl rfl)) (fun _ _ _ _ _ => pts_nil)
          (fun _ _ _ _ _ => pe_call GT hr (by rfl) gT FT.kp bT .nil pass0 (pa_cons (pv 3) (pa_cons (pe_glob (v := .ref tE) (by rfl) gE rfl) pa_nil)))) pa_nil)))) (pss_one (ps_ret pe_bl)) pss_nil)
      (pss_one (ps_ret (pe_callB (cr_all hc) (by rfl) B.c.i.all (by decide +kernel) (pa_cons (pe_lc (own := [("table", 3)]) (g := gName 3) (tt := tYes) rfl scAO.nd (pi_list (pv 1))
          (blkOk_by (N := aoN) (sc := defScope sAO) (by decide +kernel)) (fun _ _ _ _ _ => pg_name (i := 3) scAO.nd rfl (Or.inl rfl)) (fun _ _ _ _ _ => pts_nil)
          (fun _ _ _ _ _ => pe_cmpR (r := rEqSS P w) (op_eqSS (by exact hu)) (pe_callTy (r := rSetD P w) cr_setD (by rfl) B.set boot_set (pa_cons (pv 3) pa_nil)) (pe_callTy (r := rSetD P w) cr_setD (by rfl) B.set boot_set (pa_cons (pe_ix (r := rIx K) ix_seq (pv 1) pe_int (fun _ _ => rfl)) pa_nil)) (nomark _))) pa_nil)))))), ?_⟩
    refine ⟨v, rfl, v, d, fp, "dict", isDictD d, rfl, rp.rep, kitDict d, isDictD d, rfl, ?_⟩
    cases hd : isDictD d with
    | false =>
      refine iteT (iteT ?_)
      have e : finD d = false := by
        cases d with
        | dict kvs => cases hd
        | _ => rfl
      have fin := q H (Same.refl H)
      rw [e] at fin
      exact fin
    | true =>
      obtain ⟨kvs, rfl⟩ : ∃ kvs, d = .dict kvs := by
        cases d with
        | dict kvs => exact ⟨kvs, rfl⟩
        | _ => cases hd
      refine iteF ?_
      obtain ⟨a, es, fv, rfl, D, _⟩ := repA_dict rp
      have few := nc.few
      have el := D.len
      have e0 : finR (.dict kvs) = ((kvs.all fun p => outD p.1) && kvs.all fun p => rowD endL p.2) := by
        show (kvs.all fun p => outD p.1 && rowD endL p.2) = _
        rw [Bool.eq_iff_iff, Bool.and_eq_true, List.all_eq_true, List.all_eq_true, List.all_eq_true]
        exact ⟨fun h => ⟨fun p hp => (Bool.and_eq_true_iff.mp (h p hp)).1, fun p hp => (Bool.and_eq_true_iff.mp (h p hp)).2⟩, fun h p hp => Bool.and_eq_true_iff.mpr ⟨h.1 p hp, h.2 p hp⟩⟩
      have wrong : finR (.dict kvs) = false → finD (.dict kvs) = false := fun z => by
        cases y : finD (.dict kvs) with
        | false => rfl
        | true =>
          rw [finR_of y] at z
          cases z
      refine keysP (w := w) (es := es) D (by omega) (fun p => outD p.1) rfl (fun Hi r p A Q' q' => ?_) (fun H1 L1 s1 nL1 eL1 => ?_)
      · refine ⟨_, rfl, r.2.1, p.1, [], rfl, A.rk, fun x ex => ?_, fun H'' s'' => q' H'' s''⟩
        have := (nc.part A.pe).2
        rw [ex] at this
        exact this
      · rw [map_bl (fun p : PyData × PyData => outD p.1)] at eL1
        refine ⟨L1, _, rfl, .inl (.inl eL1), ?_⟩
        rw [List.all_map]
        show ∃ k, V.bl (kvs.all fun p => outD p.1) = V.bl k ∧ _
        refine ⟨_, rfl, ?_⟩
        cases hw : kvs.all fun p => outD p.1 with
        | false =>
          rw [hw, Bool.false_and] at e0
          rw [wrong e0] at q
          exact iteT (q H1 s1)
        | true =>
          rw [hw, Bool.true_and] at e0
          refine iteF ⟨.ref a, rfl, a, es, rfl, .inl (s1 _ _ D.at_), fun l nl => ?_⟩
          have s2 : Same H (upd H1 l (.lst (es.map (·.2.2)))) := s1.trans (same_upd nl)
          have el2 : (upd H1 l (.lst (es.map (·.2.2)))) l = some (.lst (es.map (·.2.2))) := upd_same
          revert s2 el2
          generalize upd H1 l (.lst (es.map (·.2.2))) = H2
          intro s2 el2
          have rz := rep_zip (D.rv.same s2)
          have el2' : H2 l = some (.lst (((es.map fun r => r.2.2).zip (kvs.map (·.2))).map (·.1))) := by
            rw [rz.1]
            exact el2
          refine c_name (c_nx (c_seq ?_))
          unfold tIfS tNot tB tCB
          refine c_cons ?_
          refine listB (K := K) (H := H2) (i := 1) (j := 3) (l := l) (as := (es.map fun r => r.2.2).zip (kvs.map (·.2))) (fv := (·.1)) el2' (by rw [List.length_zip, List.length_map, List.length_map]; omega) (fun p => rowD endL p.2) rfl (fun Hi p hp sHi Q' q' => ?_) (fun H3 L3 s3 nL3 eL3 => ?_)
          · obtain ⟨g, rg⟩ := rz.2.2 p hp
            have hp2 : p.2 ∈ kvs.map (·.2) := by
              rw [← rz.2.1]
              exact List.mem_map_of_mem hp
            obtain ⟨z, hz, ez⟩ := List.mem_map.mp hp2
            exact ⟨_, rfl, p.1, tE, p.2, g, endL, rfl, rg.same sHi, sE _, ez ▸ (nc.part hz).1, fun H'' s'' => q' H'' s''⟩
          · refine ⟨L3, _, rfl, .inl (.inl eL3), ?_⟩
            rw [List.all_map]
            have e3 : ((es.map fun r => r.2.2).zip (kvs.map (·.2))).all (fun p => rowD endL p.2) = kvs.all fun p => rowD endL p.2 := by
              have z := congrArg (fun l => List.all l (rowD endL)) rz.2.1
              simp only [List.all_map] at z
              exact z
            show ∃ k, V.bl (((es.map fun r => r.2.2).zip (kvs.map (·.2))).all fun p => rowD endL p.2) = V.bl k ∧ _
            rw [e3]
            refine ⟨_, rfl, ?_⟩
            have s4 : Same H H3 := s2.trans s3
            cases hr2 : kvs.all fun p => rowD endL p.2 with
            | false =>
              rw [hr2] at e0
              rw [wrong e0] at q
              exact iteT (q H3 s4)
            | true =>
              rw [hr2] at e0
              obtain ⟨fs, rfl, rfl, ho, hrow⟩ := rows_fin D.ka D.rk D.rv e0
              rw [finD_rows e0] at q
              have nd := D.nd
              rw [rowsF_keys] at nd
              have nd := nodup_of_text nd
              have fv2 : (rowsF fs).map (fun r => r.2.2) = fs.map fun q => V.ref q.2.1 := by
                unfold rowsF
                rw [List.map_map]
                rfl
              rw [fv2] at el2
              have el4 := s3 _ _ el2
              have rowsAt : ∀ q ∈ fs, RowAt w H3 endL q.2.1 q.2.2 := fun q hq => (hrow q hq).1.keep (s4 _ _ (hrow q hq).1.at_)
              refine iteF ?_
              refine c_next (c_nx (c_ret ?_))
              refine c_cons ?_
              refine (listB (K := K) (H := H3) (i := 1) (j := 3) (l := l) (as := fs) (fv := fun q => V.ref q.2.1) el4 (by rw [rowsF_len] at el; rw [kvF_len] at few; omega) (fun q => sameW (.dict (kvT q.2.2)) (.dict (kvT (head1 fs)))) rfl (fun Hi p hp sHi Q' q' => ?_) (fun H5 L5 s5 nL5 eL5 => ?_))
              · have R := rowsAt p hp
                refine ⟨_, rfl, p.2.1, rowsT p.2.2, keysT p.2.2, rfl, .inl (sHi _ _ R.at_), rowsT_keys _, rowsT_all _ _, R.nd, fun a1 n1 => ?_⟩
                obtain ⟨q0, fs', e0'⟩ : ∃ q0 fs', fs = q0 :: fs' := by
                  cases fs with
                  | nil => cases hp
                  | cons q0 fs' => exact ⟨q0, fs', rfl⟩
                have h0 : q0 ∈ fs := by
                  rw [e0']
                  exact List.mem_cons_self
                have R0 := rowsAt q0 h0
                have sA := same_upd (o := SetO' P w a1 (keysT p.2.2).reverse) n1
                refine ⟨.ref l, rfl, .inl ⟨l, _, _, .ref q0.2.1, rfl, rfl, .inl (.inl (sA _ _ (sHi _ _ el4))), atN (i := 0) (by rw [e0']; rfl), q0.2.1, rowsT q0.2.2, keysT q0.2.2, rfl, .inl (sA _ _ (sHi _ _ R0.at_)), rowsT_keys _, rowsT_all _ _, R0.nd, fun a2 n2 => ?_⟩⟩
                have eh : head1 fs = q0.2.2 := by
                  rw [e0']
                  rfl
                have ne12 : a1 ≠ a2 := fun z => by
                  rw [← z, upd_same] at n2
                  cases n2
                refine ⟨a1, a2, _, _, rfl, rfl, (upd_ne ne12).trans upd_same, upd_same, ?_⟩
                rw [sameS_words R.nd R0.nd, ← eh]
                exact q' _ (sA.trans (same_upd n2))
              · refine ⟨L5, _, rfl, .inl (.inl eL5), ?_⟩
                rw [List.all_map]
                exact q H5 (s4.trans s5)
end
end KF
end L2
end
/-! ### RF -/
section
namespace L2
namespace KF
open PySem PySem.Spec PyProof.Rows PySem.KD KE KC PySem.KA KM TL KS
/-! ## are_reads -/
abbrev sAR : Stmt := topS 22
abbrev arN : List Str := ["value", "outcomes", "outcome"]
theorem scAR : FnScope arN ["value", "outcomes"] (defScope sAR) := ⟨rfl, rfl, rfl, by decide +kernel, rfl, by decide +kernel, by decide +kernel⟩
structure BltA (K : PySem.W.Frag) (mg : Str → Option Value) : Prop where
  o : BltO K mg
  reads : ∃ t, mg "READ_LEVELS" = some (.ref t) ∧ ∀ H, SqT K H t (readL.map V.str)
theorem rd_keep {H Hi : Hp} {d b : Addr} {u o : HO} (e : H d = some u) (st : ∀ b v, b ≠ d → H b = some v → Hi b = some v) (fz : ∃ od, Hi d = some (.frz od u)) (h : H b = some o) : Rd Hi b o := by
  by_cases c : b = d
  · subst c
    have z : u = o := Option.some.inj (e.symm.trans h)
    subst z
    exact .inr fz
  · exact .inl (st _ _ c h)
theorem rd_stay {H Hi : Hp} {b : Addr} {o : HO} (s : Same H Hi) (h : Rd H b o) : Rd Hi b o := by
  rcases h with h | ⟨od, h⟩
  · exact .inl (s _ _ h)
  · exact .inr ⟨od, s _ _ h⟩
theorem sameW_sym {a b : List (Str × Str)} : sameW (.dict (kvT a)) (.dict (kvT b)) = sameW (.dict (kvT b)) (.dict (kvT a)) := by
  rw [Bool.eq_iff_iff, sameW_iff, sameW_iff]
  exact ⟨fun h x => (h x).symm, fun h x => (h x).symm⟩
section
variable {P : Program} {w : World} {K : PySem.W.Frag} {mg : Str → Option Value} {base : Heap}
def spAR (w : World) : Sp := fun vs H Q _ => ∃ vr vf dr df fr ff, vs = [vr, vf] ∧ RepA w H vr dr fr ∧ RepA w H vf df ff ∧ Nice 5 70 3000 dr ∧ Nice 5 70 3000 df ∧ finR df = true ∧ ∀ H', Same H H' → Q (.bl (rowD readL dr && allW df dr)) H'
theorem ok_ar {f fW fT : Addr} {fd fdW fdT : FuncData} (F : Fun K "are_reads" "are_reads" sAR f fd) (FW : Fun K "has_word_form" "has_word_form" sIsWord fW fdW) (gW : mg "has_word_form" = some (.ref fW)) (bW : Binds K fdW ["value"] [])
    (FT : Fun K "is_table" "is_table" sTab fT fdT) (gT : mg "is_table" = some (.ref fT)) (bT : Binds K fdT ["value", "levels"] []) (B : BltA K mg) :
    FnOk P w K mg base CX0 3 f fd ["value", "outcomes"] (spAR w) := by
  have GT : FnOk P w K mg base CX0 2 fT fdT ["value", "levels"] (spTab K w) := ok_tab FT FW gW bW B.o.c
  obtain ⟨tR, gR, sR⟩ := B.reads
  refine F.ok scAR (fun vs H Q E h => ?_) (fun cdv A outer s H vs Q E hr h => ?_)
  · obtain ⟨vr, vf, dr, df, fr, ff, rfl, _⟩ := h
    rfl
  · obtain ⟨vr, vf, dr, df, fr, ff, rfl, rr, rf, nr, nf, hf, q⟩ := h
    have hc : (cxOf CX0 P w K mg base arN "are_reads" (defScope sAR) f cdv A outer s H E).nox.calm = true := rfl
    have hu10 : (cxOf CX0 P w K mg base arN "are_reads" (defScope sAR) f cdv A outer s H E).nox.A.units + 10 < cLine := by
      have := hr.un
      show (A.deeper _).units + 10 < cLine
      omega
    have hu : (cxOf CX0 P w K mg base arN "are_reads" (defScope sAR) f cdv A outer s H E).nox.A.units < cLine := by omega
    refine ⟨_, pss_cons (ps_if (pt_not (pt_val (pe_call GT hr (by rfl) gT FT.kp bT .nil pass0 (pa_cons (pv 0) (pa_cons (pe_glob (v := .ref tR) (by rfl) gR rfl) pa_nil))))) (pss_one (ps_ret pe_bl)) pss_nil)
      (pss_one (ps_ret (pe_callB (cr_all hc) (by rfl) B.o.c.i.all (by decide +kernel) (pa_cons (pe_lock (pe_lc (own := [("outcome", 2)]) (g := gName 2) (tt := tYes) rfl scAR.nd (piKeysM (pv 1))
          (blkOk_by (N := arN) (sc := defScope sAR) (by decide +kernel)) (fun _ _ _ _ _ => pg_name (i := 2) scAR.nd rfl (Or.inl rfl)) (fun _ _ _ _ _ => pts_nil)
          (fun _ _ _ _ _ => pe_cmpR (r := rEqSS P w) (op_eqSS (by exact hu)) (pe_callTy (r := rSetD P w) cr_setD (by rfl) B.o.set boot_set (pa_cons (pv 0) pa_nil)) (pe_callTy (r := rSetD P w) cr_setD (by rfl) B.o.set boot_set (pa_cons (pe_ix (r := rIxM w) (ixM (by exact hu10)) (pv 1) (pv 2) (fun _ _ => rfl)) pa_nil)) (nomark _)))) pa_nil)))), ?_⟩
    refine ⟨vr, rfl, vr, tR, dr, fr, readL, rfl, rr, sR _, nr, fun H1 s1 => ⟨_, rfl, ?_⟩⟩
    cases hrow : rowD readL dr with
    | false =>
      rw [hrow, Bool.false_and] at q
      exact iteT (q H1 s1)
    | true =>
      rw [hrow, Bool.true_and] at q
      obtain ⟨b, ls, rfl, rfl, _, Rb⟩ := row_at (rr.same s1) hrow
      have rf1 := rf.same s1
      cases df with
      | dict kvs =>
        obtain ⟨d, es, fv, rfl, D, _⟩ := repA_dict rf1
        have few := nf.few
        have el := D.len
        refine iteF (keysP (w := w) (es := es) D (by omega) (fun p => sameW p.2 (.dict (kvT ls))) rfl (fun Hi r p A Q' q' => ?_) (fun H2 L2 s2 nL2 eL2 => ?_))
        · have hp : rowD endL p.2 = true := (Bool.and_eq_true_iff.mp (List.all_eq_true.mp (show (kvs.all fun p => outD p.1 && rowD endL p.2) = true from hf) p A.pe)).2
          obtain ⟨f2, _, r2⟩ := A.rv
          obtain ⟨a, ms, ea, em, _, Ra⟩ := row_at r2 hp
          refine ⟨.ref b, rfl, b, rowsT ls, keysT ls, rfl, rd_keep D.at_ A.st A.fz Rb.at_, rowsT_keys _, rowsT_all _ _, Rb.nd, fun a1 n1 => ?_⟩
          have sA := same_upd (o := SetO' P w a1 (keysT ls).reverse) n1
          refine ⟨.ref d, rfl, r.2.1, rfl, d, es, r.1, r, rfl, rd_stay sA A.rd, KAll.keep A.all (tup_same sA), A.key.mono (tup_same sA), A.look, a, rowsT ms, keysT ms, by rw [ea], .inl (sA _ _ Ra.at_), rowsT_keys _, rowsT_all _ _, Ra.nd, fun a2 n2 => ?_⟩
          have ne12 : a1 ≠ a2 := fun z => by
            rw [← z, upd_same] at n2
            cases n2
          refine ⟨a1, a2, _, _, rfl, rfl, (upd_ne ne12).trans upd_same, upd_same, ?_⟩
          rw [sameS_words Rb.nd Ra.nd, sameW_sym, ← em]
          exact q' _ (sA.trans (same_upd n2))
        · rw [map_bl (fun p : PyData × PyData => sameW p.2 (.dict (kvT ls)))] at eL2
          refine ⟨L2, _, rfl, .inl (.inl eL2), ?_⟩
          rw [List.all_map]
          exact q H2 (s1.trans s2)
      | _ => cases hf
end
end KF
end L2
end
/-! ### RG -/
section
namespace L2
namespace KF
open PySem PySem.Spec PyProof.Rows PySem.KD KE KC PySem.KA KM TL KS
/-! ## ordered -/
/-- what a row has for a word -/
def valT (ls : List (Str × Str)) (x : Str) : Str := ((ls.find? fun q => decide (q.1 = x)).map (·.2)).getD Str.empty
theorem valT_mem {ls : List (Str × Str)} {x : Str} (h : x ∈ keysT ls) : (x, valT ls x) ∈ ls := by
  unfold valT
  cases e : ls.find? fun q => decide (q.1 = x) with
  | none =>
    obtain ⟨q, hq, rfl⟩ := List.mem_map.mp h
    have := List.find?_eq_none.mp e q hq
    simp at this
  | some q =>
    have e1 : q.1 = x := by simpa using List.find?_some e
    subst e1
    exact List.mem_of_find?_eq_some e
theorem valT_self : ∀ {ls : List (Str × Str)} {q : Str × Str}, (keysT ls).Nodup → q ∈ ls → valT ls q.1 = q.2
  | p :: ls, q, nd, h => by
    have nd : p.1 ∉ keysT ls ∧ (keysT ls).Nodup := List.nodup_cons.mp nd
    unfold valT
    rcases List.mem_cons.mp h with rfl | h
    · rw [List.find?_cons_of_pos (by simp)]
      rfl
    · rw [List.find?_cons_of_neg (by
        simp only [decide_eq_true_eq]
        intro e
        exact nd.1 (e ▸ List.mem_map_of_mem (f := fun q : Str × Str => q.1) h))]
      exact valT_self nd.2 h
theorem valT_at {ls : List (Str × Str)} {x : Str} (nd : (keysT ls).Nodup) (h : x ∈ keysT ls) : lookH (rowsT ls) (.text x) = some (.text x, .str x, .str (valT ls x)) := by
  have m := valT_mem h
  have r : ((.text x, .str x, .str (valT ls x)) : MRow) ∈ rowsT ls := List.mem_map_of_mem (f := fun q : Str × Str => ((.text q.1, .str q.1, .str q.2) : MRow)) m
  exact look_mem (by rw [rowsT_keys]; exact nd_text nd) r
/-- a row, its words ascending -/
def ordT (ls : List (Str × Str)) : List (Str × Str) := (srt (keysT ls)).map fun x => (x, valT ls x)
theorem ordT_keys (ls : List (Str × Str)) : keysT (ordT ls) = srt (keysT ls) := by
  unfold keysT ordT
  rw [List.map_map]
  exact List.map_id _
theorem ordT_nd {ls : List (Str × Str)} (nd : (keysT ls).Nodup) : (keysT (ordT ls)).Nodup := by
  rw [ordT_keys]
  exact (srt_perm _).nodup_iff.mpr nd
theorem ordT_perm {ls : List (Str × Str)} (nd : (keysT ls).Nodup) : (ordT ls).Perm ls := by
  have p : (ordT ls).Perm ((keysT ls).map fun x => (x, valT ls x)) := (srt_perm _).map _
  have e : (keysT ls).map (fun x => (x, valT ls x)) = ls := by
    unfold keysT
    rw [List.map_map]
    conv => rhs; rw [← List.map_id ls]
    refine List.map_congr_left fun q hq => ?_
    show (q.1, valT ls q.1) = q
    rw [valT_self nd hq]
  rw [e] at p
  exact p
theorem ordT_len (ls : List (Str × Str)) : (ordT ls).length = ls.length := by
  unfold ordT
  rw [List.length_map, (srt_perm _).length_eq]
  exact List.length_map ..
theorem RowAt.ord {w : World} {H H' : Hp} {lv : List Str} {a p : Addr} {ls : List (Str × Str)} (R : RowAt w H lv a ls) (e : H' p = some (mdo w p (rowsT (ordT ls)))) : RowAt w H' lv p (ordT ls) :=
  ⟨e, ordT_nd R.nd, fun q hq => R.word q ((ordT_perm R.nd).mem_iff.mp hq), fun q hq => R.lev q ((ordT_perm R.nd).mem_iff.mp hq)⟩
theorem srt_rev (ks : List Str) : srt ks.reverse = srt ks := srt_of_perm (List.reverse_perm ks)
abbrev sOrd : Stmt := topS 20
abbrev orN : List Str := ["table", "key"]
theorem scOrd : FnScope orN ["table"] (defScope sOrd) := ⟨rfl, rfl, rfl, by decide +kernel, rfl, by decide +kernel, by decide +kernel⟩
structure BltS (mg : Str → Option Value) : Prop where
  set : mg "set" = none
  sorted : mg "sorted" = none
section
variable {P : Program} {w : World} {K : PySem.W.Frag} {mg : Str → Option Value} {base : Heap}
def spOrd (w : World) : Sp := fun vs H Q _ => ∃ a ls, vs = [.ref a] ∧ Rd H a (mdo w a (rowsT ls)) ∧ (keysT ls).Nodup ∧ ls.length ≤ 70 ∧ ∀ H' p, Same H H' → H p = none → H' p = some (mdo w p (rowsT (ordT ls))) → Q (.ref p) H'
theorem ok_ord {f : Addr} {fd : FuncData} {k : Nat} (F : Fun K "ordered" "ordered" sOrd f fd) (B : BltS mg) : FnOk P w K mg base CX0 (k + 1) f fd ["table"] (spOrd w) := by
  refine F.ok scOrd (fun vs H Q E h => ?_) (fun cdv A outer s H vs Q E hr h => ?_)
  · obtain ⟨a, ls, rfl, _⟩ := h
    rfl
  · obtain ⟨a, ls, rfl, ra, nd, few, q⟩ := h
    have hc : (cxOf CX0 P w K mg base orN "ordered" (defScope sOrd) f cdv A outer s H E).nox.calm = true := rfl
    have hu10 : (cxOf CX0 P w K mg base orN "ordered" (defScope sOrd) f cdv A outer s H E).nox.A.units + 10 < cLine := by
      have := hr.un
      show (A.deeper _).units + 10 < cLine
      omega
    have hu40 : (cxOf CX0 P w K mg base orN "ordered" (defScope sOrd) f cdv A outer s H E).nox.A.units + 40 < cLine := by
      have := hr.un
      show (A.deeper _).units + 40 < cLine
      omega
    refine ⟨_, pss_one (ps_ret (peDcM (own := [("key", 1)]) (g := gName 1) hu10 hc scOrd.nd
      (pi_list (pe_callB (cr_sortS hc hu40) (by rfl) B.sorted (by decide +kernel) (pa_cons (pe_callTy cr_setD (by rfl) B.set boot_set (pa_cons (pv 0) pa_nil)) pa_nil)))
      (blkOk_by (N := orN) (sc := defScope sOrd) (by decide +kernel)) (fun _ _ _ _ _ => pg_name (i := 1) scOrd.nd rfl (Or.inl rfl))
      (fun _ _ _ _ _ => pv 1) (fun _ _ _ _ _ => pe_ix (r := rIxM w) (ixM (by exact hu10)) (pv 0) (pv 1) (fun _ _ => rfl)))), ?_⟩
    rw [show (cxOf CX0 P w K mg base orN "ordered" (defScope sOrd) f cdv A outer s H E).nox.w = w from rfl, show (cxOf CX0 P w K mg base orN "ordered" (defScope sOrd) f cdv A outer s H E).nox.prog = P from rfl]
    refine ⟨.ref a, rfl, a, rowsT ls, keysT ls, rfl, ra, rowsT_keys _, rowsT_all _ _, nd, fun S nS => ?_⟩
    have sS := same_upd (o := SetO' P w S (keysT ls).reverse) nS
    refine ⟨S, _, rfl, upd_same, by rw [List.length_reverse, List.length_map]; omega, fun L nL => ?_⟩
    rw [srt_rev]
    have sL := sS.trans (same_upd (o := .lst ((srt (keysT ls)).map V.str)) nL)
    have eL : (upd (upd H S (SetO' P w S (keysT ls).reverse)) L (.lst ((srt (keysT ls)).map V.str))) L = some (.lst ((srt (keysT ls)).map V.str)) := upd_same
    revert sL eL
    generalize upd (upd H S (SetO' P w S (keysT ls).reverse)) L (.lst ((srt (keysT ls)).map V.str)) = H1
    intro sL eL
    refine ⟨L, rfl, ⟨_, .inl (.inl eL)⟩, fun D nD => ?_⟩
    have len : (srt (keysT ls)).length = ls.length := by
      rw [(srt_perm _).length_eq]
      exact List.length_map ..
    have same0 : Same H1 (upd H1 D (mdo w D [])) := same_upd nD
    refine dcM_it (walk_list (K := K) (a := L) (xs := (srt (keysT ls)).map V.str)) (fun i Hi => Same H1 Hi ∧ Hi D = some (mdo w D ((rowsT (ordT ls)).take i))) ⟨same0, upd_same⟩ (fun i Hi _ S => .inl (.inl (S.1 _ _ eL))) (fun i x Hi Hj hi S hy => ?_) (fun Hi S => ?_)
    · obtain ⟨rfl, hx⟩ := hy
      rw [List.getElem?_map] at hx
      obtain ⟨x, hx2, rfl⟩ := Option.map_eq_some_iff.mp hx
      have mx : x ∈ keysT ls := srt_mem.mp (List.mem_of_getElem? hx2)
      have rx : (rowsT (ordT ls))[i]? = some (.text x, .str x, .str (valT ls x)) := by
        unfold rowsT ordT
        rw [List.map_map, List.getElem?_map, hx2]
        rfl
      have sH := sL.trans S.1
      refine c_name ⟨rfl, .str x, rfl, .ref a, rfl, .str x, rfl, a, rowsT ls, .text x, _, rfl, rd_stay sH ra, rowsT_all _ _, kAt.text _ _, valT_at nd mx, _, .text x, kAt.text _ _, S.2, ?_, ?_, ?_, ?_⟩
      · exact KAll.take (rowsT_all _ _) i
      · rw [List.length_take, rowsT_len, ordT_len]
        omega
      · intro b u e
        rw [upd_ne (ne_of_none e nD)]
        exact S.1 b u e
      · rw [upd_same, ← put_next (r := (.text x, .str x, .str (valT ls x))) (by rw [rowsT_keys]; exact nd_text (ordT_nd nd)) rx]
    · have S2 := S.2
      rw [List.length_map, len, List.take_of_length_le (by rw [rowsT_len, ordT_len]; exact Nat.le_refl _)] at S2
      refine q Hi D (sL.trans S.1) ?_ S2
      cases e : H D with
      | none => rfl
      | some u =>
        rw [sL _ _ e] at nD
        cases nD
end
end KF
end L2
end
/-! ### RH0 -/
section
namespace L2
namespace KF
open PySem PySem.Spec PyProof.Rows PySem.KD KE KC PySem.KA KM TL KS
/-! ## data in another order -/
structure Alike (a b : List (PyData × PyData)) : Prop where
  sh : PyData.showableKv a = PyData.showableKv b
  lf : PyData.leavesShortKv 13 a = PyData.leavesShortKv 13 b
  dp : PyData.depthKv a = PyData.depthKv b
  sz : szKv a = szKv b
  wt : PyData.weightKv a = PyData.weightKv b
theorem Alike.refl (a : List (PyData × PyData)) : Alike a a := ⟨rfl, rfl, rfl, rfl, rfl⟩
theorem Alike.trans {a b c : List (PyData × PyData)} (h : Alike a b) (g : Alike b c) : Alike a c := ⟨h.sh.trans g.sh, h.lf.trans g.lf, h.dp.trans g.dp, h.sz.trans g.sz, h.wt.trans g.wt⟩
theorem Alike.symm {a b : List (PyData × PyData)} (h : Alike a b) : Alike b a := ⟨h.sh.symm, h.lf.symm, h.dp.symm, h.sz.symm, h.wt.symm⟩
theorem alike_perm {a b : List (PyData × PyData)} (p : a.Perm b) : Alike a b := by
  induction p with
  | nil => exact .refl _
  | cons x _ ih =>
    obtain ⟨k, v⟩ := x
    refine ⟨?_, ?_, ?_, ?_, ?_⟩
    · simp only [PyData.showableKv, ih.sh]
    · simp only [PyData.leavesShortKv, ih.lf]
    · simp only [PyData.depthKv, ih.dp]
    · simp only [szKv, ih.sz]
    · simp only [PyData.weightKv, ih.wt]
  | swap x y l =>
    obtain ⟨k, v⟩ := x
    obtain ⟨k2, v2⟩ := y
    refine ⟨?_, ?_, ?_, ?_, ?_⟩
    · simp only [PyData.showableKv]
      cases k.showable <;> cases v.showable <;> cases k2.showable <;> cases v2.showable <;> simp
    · simp only [PyData.leavesShortKv]
      cases k.leavesShort 13 <;> cases v.leavesShort 13 <;> cases k2.leavesShort 13 <;> cases v2.leavesShort 13 <;> simp
    · simp only [PyData.depthKv]
      omega
    · simp only [szKv]
      omega
    · simp only [PyData.weightKv]
      omega
  | trans _ _ ih1 ih2 => exact ih1.trans ih2
theorem Nice.alike {D N W : Nat} {a b : List (PyData × PyData)} (n : Nice D N W (.dict a)) (h : Alike a b) : Nice D N W (.dict b) := by
  have h1 := n.show_
  have h2 := n.leaf
  have h3 := n.dep
  have h4 := n.sz
  have h5 := n.wt
  simp only [PyData.showable, PyData.leavesShort, PyData.depth, L2.KF.sz, PyData.weight] at h1 h2 h3 h4 h5
  refine ⟨?_, ?_, ?_, ?_, ?_⟩ <;> simp only [PyData.showable, PyData.leavesShort, PyData.depth, L2.KF.sz, PyData.weight]
  · rw [← h.sh, h1]
  · rw [← h.lf, h2]
  · rw [← h.dp]
    exact h3
  · rw [← h.sz]
    exact h4
  · rw [← h.wt]
    exact h5
theorem alike_ord {ls : List (Str × Str)} (nd : (keysT ls).Nodup) : Alike (kvT (ordT ls)) (kvT ls) := alike_perm ((ordT_perm nd).map _)
/-- rows exchanged for alike ones -/
theorem alike_rows (g : List (Str × Str) → List (Str × Str)) : ∀ {fs : List Fin}, (∀ q ∈ fs, Alike (kvT (g q.2.2)) (kvT q.2.2)) → Alike (fs.map fun q => ((.str q.1, .dict (kvT (g q.2.2))) : PyData × PyData)) (kvF fs)
  | [], _ => .refl _
  | q :: fs, h => by
    have ih := alike_rows g (fs := fs) fun p hp => h p (List.mem_cons_of_mem _ hp)
    have a := h q List.mem_cons_self
    have e : kvF (q :: fs) = (.str q.1, .dict (kvT q.2.2)) :: kvF fs := rfl
    rw [e, List.map_cons]
    refine ⟨?_, ?_, ?_, ?_, ?_⟩
    · simp only [PyData.showableKv, PyData.showable, ih.sh, a.sh]
    · simp only [PyData.leavesShortKv, PyData.leavesShort, ih.lf, a.lf]
    · simp only [PyData.depthKv, PyData.depth, ih.dp, a.dp]
    · simp only [szKv, L2.KF.sz, ih.sz, a.sz]
    · simp only [PyData.weightKv, PyData.weight, ih.wt, a.wt]
/-- the row of an outcome -/
def rowF (fs : List Fin) (x : Str) : List (Str × Str) := ((fs.find? fun q => decide (q.1 = x)).map (·.2.2)).getD []
theorem rowF_self : ∀ {fs : List Fin} {q : Fin}, (fs.map (·.1)).Nodup → q ∈ fs → rowF fs q.1 = q.2.2
  | p :: fs, q, nd, h => by
    have nd : p.1 ∉ fs.map (·.1) ∧ (fs.map (·.1)).Nodup := List.nodup_cons.mp nd
    unfold rowF
    rcases List.mem_cons.mp h with rfl | h
    · rw [List.find?_cons_of_pos (by simp)]
      rfl
    · rw [List.find?_cons_of_neg (by
        simp only [decide_eq_true_eq]
        intro e
        exact nd.1 (e ▸ List.mem_map_of_mem (f := fun q : Fin => q.1) h))]
      exact rowF_self nd.2 h
theorem look_fin {fs : List Fin} {q : Fin} (nd : (fs.map (·.1)).Nodup) (h : q ∈ fs) : lookH (rowsF fs) (.text q.1) = some (.text q.1, .str q.1, .ref q.2.1) := by
  have r : ((.text q.1, .str q.1, .ref q.2.1) : MRow) ∈ rowsF fs := List.mem_map_of_mem (f := fun q : Fin => ((.text q.1, .str q.1, .ref q.2.1) : MRow)) h
  exact look_mem (by rw [rowsF_keys]; exact nd_text nd) r
/-- finals, outcomes and words ascending, wherever they lie -/
structure OrdF (fs gs : List Fin) (n : Nat) : Prop where
  eq : gs.map (fun q => (q.1, q.2.2)) = ((srt (fs.map (·.1))).take n).map fun o => (o, ordT (rowF fs o))
theorem OrdF.keys {fs gs : List Fin} {n : Nat} (h : OrdF fs gs n) : gs.map (·.1) = (srt (fs.map (·.1))).take n := by
  have e := congrArg (List.map (·.1)) h.eq
  rw [List.map_map, List.map_map] at e
  have e2 : ((srt (fs.map (·.1))).take n).map ((fun x : Str × List (Str × Str) => x.1) ∘ fun o => (o, ordT (rowF fs o))) = (srt (fs.map (·.1))).take n := List.map_id _
  rw [e2] at e
  exact e
theorem OrdF.nice {fs gs : List Fin} {n : Nat} (h : OrdF fs gs n) (all : (srt (fs.map (·.1))).length ≤ n) (nd : (fs.map (·.1)).Nodup) (wnd : ∀ q ∈ fs, (keysT q.2.2).Nodup) {D N W : Nat} (ni : Nice D N W (.dict (kvF fs))) : Nice D N W (.dict (kvF gs)) := by
  have e1 : kvF gs = (gs.map fun q => (q.1, q.2.2)).map fun t => ((.str t.1, .dict (kvT t.2)) : PyData × PyData) := by
    unfold kvF
    rw [List.map_map]
    rfl
  rw [h.eq, List.take_of_length_le all, List.map_map] at e1
  have p : ((srt (fs.map (·.1))).map fun o => ((.str o, .dict (kvT (ordT (rowF fs o)))) : PyData × PyData)).Perm ((fs.map (·.1)).map fun o => ((.str o, .dict (kvT (ordT (rowF fs o)))) : PyData × PyData)) := (srt_perm _).map _
  have e2 : ((fs.map (·.1)).map fun o => ((.str o, .dict (kvT (ordT (rowF fs o)))) : PyData × PyData)) = fs.map fun q => ((.str q.1, .dict (kvT (ordT q.2.2))) : PyData × PyData) := by
    rw [List.map_map]
    refine List.map_congr_left fun q hq => ?_
    show ((.str q.1, .dict (kvT (ordT (rowF fs q.1)))) : PyData × PyData) = _
    rw [rowF_self nd hq]
  have a := (alike_perm p).trans (e2 ▸ alike_rows ordT fun q hq => alike_ord (wnd q hq))
  have e3 : kvF gs = (srt (fs.map (·.1))).map fun o => ((.str o, .dict (kvT (ordT (rowF fs o)))) : PyData × PyData) := e1
  rw [e3]
  exact ni.alike a.symm
theorem Nice.few1 {D N W : Nat} {kvs : List (PyData × PyData)} (n : Nice D N W (.dict kvs)) : kvs.length + 1 ≤ N := by
  have h := n.sz
  simp only [L2.KF.sz] at h
  have := len_kv kvs
  omega
theorem nice_names {xs : List Str} (h : ∀ x ∈ xs, isWordL (tl x) = true) (l : xs.length ≤ 69) : Nice 5 70 3000 (.tuple (xs.map .str)) :=
  (Nice.tuple (D := 1) (N := 1) (W := 20) (k := 69) (fun d hd => by
    obtain ⟨x, hx, rfl⟩ := List.mem_map.mp hd
    exact nice_word (h x hx)) (by rw [List.length_map]; exact l)).mono (by decide) (by decide) (by decide)
end KF
end L2
end
/-! ### RH -/
section
namespace L2
namespace KF
open PySem PySem.Spec PyProof.Rows PySem.KD KE KC PySem.KA KM TL KS KH
/-! ## Profile.__init__ -/
/-- a profile in the heap -/
structure PAt (w : World) (C : Addr) (H : Hp) (x dx T D R : Addr) (fs : List Fin) (rs : List (Str × Str)) : Prop where
  hx : H x = some (.ins C dx [("_names", .ref T), ("_outcomes", .ref D), ("_reads", .ref R)])
  hT : H T = some (.tup ((srt (keysT rs)).map V.str))
  hD : H D = some (mdo w D (rowsF fs))
  hR : H R = some (mdo w R (rowsT rs))
  row : ∀ q ∈ fs, H q.2.1 = some (mdo w q.2.1 (rowsT q.2.2)) ∧ (keysT q.2.2).Nodup ∧ q.2.1 ≠ D
  fnd : (fs.map (·.1)).Nodup
  rnd : (keysT rs).Nodup
  len : fs.length ≤ 70 ∧ rs.length ≤ 70 ∧ ∀ q ∈ fs, q.2.2.length ≤ 70
def PX (w : World) (C : Addr) : Hp → Addr → PyData → PyData → PyData → (Addr → Prop) → Prop := fun H x o r n S => ∃ dx T D R fs rs, PAt w C H x dx T D R fs rs ∧ o = .dict (kvF fs) ∧ r = .dict (kvT rs) ∧ n = .tuple ((srt (keysT rs)).map .str) ∧
  S = fun a => a = x ∨ a = D ∨ a = R ∨ a ∈ fs.map (·.2.1)
/-- the object holds what was passed, ascending -/
def Made (w : World) (C : Addr) (H : Hp) (x : Addr) (df dr : PyData) : Prop := ∃ (fs gs : List Fin) (rs : List (Str × Str)) (dx T D R : Addr), df = .dict (kvF fs) ∧ dr = .dict (kvT rs) ∧ (fs.map (·.1)).Nodup ∧ (∀ q ∈ fs, (keysT q.2.2).Nodup) ∧ (keysT rs).Nodup ∧ OrdF fs gs (srt (fs.map (·.1))).length ∧ PAt w C H x dx T D R gs (ordT rs)
def spInit (w : World) (C CV : Addr) : Sp := fun vs H Q E => ∃ x dx vf vr df dr ff fr, vs = [.ref x, vf, vr] ∧ H x = some (.ins C dx []) ∧ H dx = some (.own x) ∧ x ≠ dx ∧ RepA w H vf df ff ∧ RepA w H vr dr fr ∧ Nice 5 70 3000 df ∧ Nice 5 70 3000 dr ∧
  ((finD df = true ∧ rowD readL dr = true ∧ allW df dr = true) → ∀ H' S o r n, (∀ b u, b ≠ x → H b = some u → H' b = some u) → PX w C H' x o r n S → (∀ a, S a → a = x ∨ a = dx ∨ H a = none) → Nice 5 70 3000 o → Nice 5 70 3000 r → Nice 5 70 3000 n → Made w C H' x df dr → Q .non H') ∧
  (¬ (finD df = true ∧ rowD readL dr = true ∧ allW df dr = true) → ∀ H' d fs v f, Same H H' → H' d = some (.xd fs) → fs.lookup (Str.ofString "value") = some v → Rep w H' v (if finD df = true then dr else df) f → E (.ref CV) (some d) H')
abbrev sInit : Stmt := methOf 19 0
abbrev inN : List Str := ["self", "outcomes", "reads", "outcome"]
theorem scInit : FnScope inN ["self", "outcomes", "reads"] (defScope sInit) := ⟨rfl, rfl, rfl, by decide +kernel, rfl, by decide +kernel, by decide +kernel⟩
structure BltP (mg : Str → Option Value) : Prop where
  s : BltS mg
  tuple : mg "tuple" = none
section
variable {P : Program} {w : World} {K : PySem.W.Frag} {mg : Str → Option Value} {base : Heap}
theorem ok_init {C CV f fAO fAR fOR fIP : Addr} {fd fdAO fdAR fdOR fdIP : FuncData} (F : Fun K "__init__" "Profile.__init__" sInit f fd)
    (GAO : FnOk P w K mg base CX0 3 fAO fdAO ["value"] (spData w finD)) (kAO : PySem.W.keepIn K (.ref fAO) = true) (gAO : mg "are_outcomes" = some (.ref fAO)) (bAO : Binds K fdAO ["value"] [])
    (GAR : FnOk P w K mg base CX0 3 fAR fdAR ["value", "outcomes"] (spAR w)) (kAR : PySem.W.keepIn K (.ref fAR) = true) (gAR : mg "are_reads" = some (.ref fAR)) (bAR : Binds K fdAR ["value", "outcomes"] [])
    (GOR : FnOk P w K mg base CX0 1 fOR fdOR ["table"] (spOrd w)) (kOR : PySem.W.keepIn K (.ref fOR) = true) (gOR : mg "ordered" = some (.ref fOR)) (bOR : Binds K fdOR ["table"] [])
    (Er : ErrV K mg "InvalidProfile" "value" CV fIP) (GIP : FnOk P w K mg base CX0 3 fIP fdIP ["self", "value"] (spErr w CV "value")) (bIP : Binds K fdIP ["self", "value"] [])
    (cl : Cls K C) (n1 : NoAttr K C "_names") (n2 : NoAttr K C "_outcomes") (n3 : NoAttr K C "_reads") (B : BltP mg) : FnOk P w K mg base (L2.CX P w) 6 f fd ["self", "outcomes", "reads"] (spInit w C CV) := by
  refine F.okX scInit (fun vs H Q E h => ?_) (fun cdv A outer s H vs Q E hr h => ?_)
  · obtain ⟨x, dx, vf, vr, df, dr, ff, fr, rfl, _⟩ := h
    rfl
  · obtain ⟨x, dx, vf, vr, df, dr, ff, fr, rfl, hx, hdx, nx, rf, rr, nf, nr, qg, qb⟩ := h
    have hc : (cxOf (L2.CX P w) P w K mg base inN "Profile.__init__" (defScope sInit) f cdv A outer s H E).calm = true := rfl
    have hu10 : (cxOf (L2.CX P w) P w K mg base inN "Profile.__init__" (defScope sInit) f cdv A outer s H E).A.units + 10 < cLine := by
      have := hr.un
      show (A.deeper _).units + 10 < cLine
      omega
    have hu40 : (cxOf (L2.CX P w) P w K mg base inN "Profile.__init__" (defScope sInit) f cdv A outer s H E).A.units + 40 < cLine := by
      have := hr.un
      show (A.deeper _).units + 40 < cLine
      omega
    refine ⟨_, pss_cons (ps_if (pt_not (pt_val (pe_call GAO (hr.mono (by decide)) (by rfl) gAO kAO bAO .nil pass0 (pa_cons (pv 1) pa_nil)))) (pss_one (ps_raise rfl (takes_of rfl rfl rfl rfl) (pmk_oex Er.oex Er.iC Er.tI GIP (hr.mono (by decide)) bIP .nil pass0 (by rfl) Er.gC (pa_cons (pv 1) pa_nil)))) pss_nil)
      (pss_cons (ps_if (pt_not (pt_val (pe_call GAR (hr.mono (by decide)) (by rfl) gAR kAR bAR .nil pass0 (pa_cons (pv 2) (pa_cons (pv 1) pa_nil))))) (pss_one (ps_raise rfl (takes_of rfl rfl rfl rfl) (pmk_oex Er.oex Er.iC Er.tI GIP (hr.mono (by decide)) bIP .nil pass0 (by rfl) Er.gC (pa_cons (pv 2) pa_nil)))) pss_nil)
      (pss_cons (ps_fld (pv 0) (pe_callTy call_tuple_of (by rfl) B.tuple (by decide +kernel) (pa_cons (pe_callB (cr_sortS hc hu40) (by rfl) B.s.sorted (by decide +kernel) (pa_cons (pe_callTy cr_setD (by rfl) B.s.set boot_set (pa_cons (pv 2) pa_nil)) pa_nil)) pa_nil)) rfl)
      (pss_cons (ps_fld (pv 0) (peDcM (own := [("outcome", 3)]) (g := gName 3) hu10 hc scInit.nd
        (pi_list (pe_callB (cr_sortS hc hu40) (by rfl) B.s.sorted (by decide +kernel) (pa_cons (pe_callTy cr_setD (by rfl) B.s.set boot_set (pa_cons (pv 1) pa_nil)) pa_nil)))
        (blkOk_by (N := inN) (sc := defScope sInit) (by decide +kernel)) (fun _ _ _ _ _ => pg_name (i := 3) scInit.nd rfl (Or.inl rfl))
        (fun _ _ _ _ _ => pv 3) (fun _ _ _ _ _ => pe_call GOR (hr.mono (by decide)) (by rfl) gOR kOR bOR .nil pass0 (pa_cons (pe_ix (r := rIxM w) (ixM (by exact hu10)) (pv 1) (pv 3) (fun _ _ => rfl)) pa_nil))) rfl)
      (pss_one (ps_fld (pv 0) (pe_call GOR (hr.mono (by decide)) (by rfl) gOR kOR bOR .nil pass0 (pa_cons (pv 2) pa_nil)) rfl))))), ?_⟩
    rw [show (cxOf (L2.CX P w) P w K mg base inN "Profile.__init__" (defScope sInit) f cdv A outer s H E).w = w from rfl, show (cxOf (L2.CX P w) P w K mg base inN "Profile.__init__" (defScope sInit) f cdv A outer s H E).prog = P from rfl]
    have gv : ∀ {σ : St} {i : Nat} {v : V} {H : Hp}, σ[i]? = some (some v) → GivesR (tVar i) σ H (Pure v) := fun hi H' _ Q q => ⟨_, hi, q _ H' (same_refl _) ⟨rfl, rfl⟩⟩
    refine ⟨vf, rfl, vf, df, ff, rfl, rf, nf, fun H1 s1 => ⟨_, rfl, ?_⟩⟩
    cases hF : finD df with
    | false =>
      refine iteT (raised (C := CV) (f := "value") (gv rfl) (rf.rep.same s1) (Nat.le_trans nf.sz (by decide)) fun H' dd fs v' f3 s2 e l r' => ?_)
      refine qb (fun z => ?_) H' dd fs v' f3 (s1.trans s2) e l ?_
      · rw [hF] at z
        cases z.1
      · rw [hF]
        exact r'
    | true =>
      have rf1 := rf.same s1
      have rr1 := rr.same s1
      have hFR := finR_of hF
      obtain ⟨d0, fs, rfl, rfl, FA⟩ := fin_at rf1 hFR
      refine iteF ⟨vr, rfl, .ref d0, rfl, vr, .ref d0, dr, .dict (kvF fs), fr, ff, rfl, rr1, rf1, nr, nf, hFR, fun H2 s2 => ⟨_, rfl, ?_⟩⟩
      cases hR : (rowD readL dr && allW (.dict (kvF fs)) dr) with
      | false =>
        refine iteT (raised (C := CV) (f := "value") (gv rfl) (rr1.rep.same s2) (Nat.le_trans nr.sz (by decide)) fun H' dd fs' v' f3 s3 e l r' => ?_)
        refine qb (fun z => ?_) H' dd fs' v' f3 ((s1.trans s2).trans s3) e l ?_
        · rw [z.2.1, z.2.2] at hR
          cases hR
        · rw [hF, if_pos rfl]
          exact r'
      | true =>
        rw [Bool.and_eq_true] at hR
        have qg2 := qg ⟨hF, hR.1, hR.2⟩
        obtain ⟨r0, ls, rfl, rfl, _, RA⟩ := row_at (rr1.same s2) hR.1
        have lsF := nr.few1
        rw [kvT_len] at lsF
        have fsF := nf.few1
        rw [kvF_len] at fsF
        have len1 : (srt (keysT ls)).length = ls.length := by
          rw [(srt_perm _).length_eq]
          exact List.length_map ..
        have hx2 := (s1.trans s2) _ _ hx
        have FA2 : FinAt w H2 d0 fs := ⟨s2 _ _ FA.at_, FA.nd, FA.out, fun q hq => (FA.row q hq).keep (s2 _ _ (FA.row q hq).at_), FA.ne⟩
        have s02 := s1.trans s2
        refine iteF ⟨.ref r0, rfl, r0, rowsT ls, keysT ls, rfl, .inl RA.at_, rowsT_keys _, rowsT_all _ _, RA.nd, fun S nS => ⟨S, _, rfl, upd_same, by rw [List.length_reverse, List.length_map]; omega, fun L nL => ⟨L, _, rfl, .inl ⟨.inl (.inl upd_same), fun T nT => ?_⟩⟩⟩⟩
        rw [srt_rev] at nT ⊢
        have s3 : Same H2 (upd (upd (upd H2 S (SetO' P w S (keysT ls).reverse)) L (.lst ((srt (keysT ls)).map V.str))) T (.tup ((srt (keysT ls)).map V.str))) := ((same_upd nS).trans (same_upd nL)).trans (same_upd nT)
        have e3 : (upd (upd (upd H2 S (SetO' P w S (keysT ls).reverse)) L (.lst ((srt (keysT ls)).map V.str))) T (.tup ((srt (keysT ls)).map V.str))) T = some (.tup ((srt (keysT ls)).map V.str)) := upd_same
        revert s3 e3
        generalize upd (upd (upd H2 S (SetO' P w S (keysT ls).reverse)) L (.lst ((srt (keysT ls)).map V.str))) T (.tup ((srt (keysT ls)).map V.str)) = H3
        intro s3 e3
        have hx3 := s3 _ _ hx2
        refine ⟨.ref x, rfl, x, C, dx, [], rfl, hx3, cl, n1, by decide, ?_⟩
        have s03 := s02.trans s3
        -- the object with its first field
        rw [show putF (Str.ofString "_names") (V.ref T) [] = [(Str.ofString "_names", V.ref T)] from rfl]
        have b4 : ∀ b u, b ≠ x → H3 b = some u → (upd H3 x (.ins C dx [("_names", .ref T)])) b = some u := fun b u nb e => by
          rw [upd_ne nb]
          exact e
        have f4 : ∀ b, (upd H3 x (.ins C dx [("_names", .ref T)])) b = none → b ≠ x ∧ H3 b = none := fun b e => by
          have nb : b ≠ x := fun z => by
            rw [z, upd_same] at e
            cases e
          rw [upd_ne nb] at e
          exact ⟨nb, e⟩
        have hx4 : (upd H3 x (.ins C dx [("_names", .ref T)])) x = some (.ins C dx [("_names", .ref T)]) := upd_same
        revert b4 f4 hx4
        generalize upd H3 x (.ins C dx [("_names", .ref T)]) = H4
        intro b4 f4 hx4
        have notx : ∀ {b : Addr} {es : List MRow}, H3 b = some (mdo w b es) → b ≠ x := fun {b es} e z => by
          rw [z, hx3] at e
          cases e
        have nTx : T ≠ x := fun z => by
          rw [z, hx3] at e3
          cases e3
        have FA4 : H4 d0 = some (mdo w d0 (rowsF fs)) := b4 _ _ (notx (s3 _ _ FA2.at_)) (s3 _ _ FA2.at_)
        have RW4 : ∀ q ∈ fs, H4 q.2.1 = some (mdo w q.2.1 (rowsT q.2.2)) := fun q hq => b4 _ _ (notx (s3 _ _ (FA2.row q hq).at_)) (s3 _ _ (FA2.row q hq).at_)
        have RA4 : H4 r0 = some (mdo w r0 (rowsT ls)) := b4 _ _ (notx (s3 _ _ RA.at_)) (s3 _ _ RA.at_)
        have e4 := b4 _ _ nTx e3
        have len2 : (srt (fs.map (·.1))).length = fs.length := by
          rw [(srt_perm _).length_eq]
          exact List.length_map ..
        refine ⟨.ref d0, rfl, d0, rowsF fs, fs.map (·.1), rfl, .inl FA4, rowsF_keys _, rowsF_all _ _, FA.nd, fun S2 nS2 => ⟨S2, _, rfl, upd_same, by rw [List.length_reverse, List.length_map]; omega, fun L2 nL2 => ?_⟩⟩
        rw [srt_rev]
        have s5 : Same H4 (upd (upd H4 S2 (SetO' P w S2 (fs.map (·.1)).reverse)) L2 (.lst ((srt (fs.map (·.1))).map V.str))) := (same_upd nS2).trans (same_upd nL2)
        have e5 : (upd (upd H4 S2 (SetO' P w S2 (fs.map (·.1)).reverse)) L2 (.lst ((srt (fs.map (·.1))).map V.str))) L2 = some (.lst ((srt (fs.map (·.1))).map V.str)) := upd_same
        revert s5 e5
        generalize upd (upd H4 S2 (SetO' P w S2 (fs.map (·.1)).reverse)) L2 (.lst ((srt (fs.map (·.1))).map V.str)) = H5
        intro s5 e5
        refine ⟨L2, rfl, ⟨_, .inl (.inl e5)⟩, fun D nD => ?_⟩
        have snd : (srt (fs.map (·.1))).Nodup := (srt_perm _).nodup_iff.mpr FA.nd
        refine dcM_it (walk_list (K := K) (a := L2) (xs := (srt (fs.map (·.1))).map V.str)) (fun i Hi => Same H5 Hi ∧ ∃ gs, Hi D = some (mdo w D (rowsF gs)) ∧ OrdF fs gs i ∧ ∀ q ∈ gs, Hi q.2.1 = some (mdo w q.2.1 (rowsT q.2.2)) ∧ H5 q.2.1 = none ∧ q.2.1 ≠ D ∧ (keysT q.2.2).Nodup ∧ q.2.2.length ≤ 70)
          ⟨same_upd nD, [], upd_same, ⟨rfl⟩, fun _ z => nomatch z⟩ (fun i Hi _ S => .inl (.inl (S.1 _ _ e5))) (fun i y Hi Hj hi S hy => ?_) (fun Hi S => ?_)
        · obtain ⟨rfl, hy⟩ := hy
          rw [List.getElem?_map] at hy
          obtain ⟨o, ho, rfl⟩ := Option.map_eq_some_iff.mp hy
          obtain ⟨q, hq, eq⟩ := List.mem_map.mp (srt_mem.mp (List.mem_of_getElem? ho))
          have eq : q.1 = o := eq
          subst eq
          obtain ⟨sI, gs, eD, OF, rg⟩ := S
          have s4I := s5.trans sI
          have hq70 := (nf.part (List.mem_map_of_mem (f := fun q : Fin => ((.str q.1, .dict (kvT q.2.2)) : PyData × PyData)) hq)).1.few1
          rw [kvT_len] at hq70
          refine c_name ⟨rfl, .str q.1, rfl, .ref d0, rfl, .str q.1, rfl, d0, rowsF fs, .text q.1, _, rfl, .inl (s4I _ _ FA4), rowsF_all _ _, kAt.text _ _, look_fin FA.nd hq, q.2.1, q.2.2, rfl, .inl (s4I _ _ (RW4 q hq)), (FA.row q hq).nd, by omega, fun H' p sH np ep => ?_⟩
          have fresh : NestedKey.text q.1 ∉ (rowsF gs).map (·.1) := by
            rw [rowsF_keys, OF.keys]
            intro z
            obtain ⟨y, hy, e⟩ := List.mem_map.mp z
            injection e with e
            subst e
            obtain ⟨j, hj, ej⟩ := List.getElem_of_mem hy
            rw [List.length_take] at hj
            rw [List.getElem_take] at ej
            obtain ⟨hi2, e2⟩ := List.getElem?_eq_some_iff.mp ho
            have := (List.getElem_inj (xs := srt (fs.map (·.1))) (i := j) (j := i) (h₀ := by omega) (h₁ := hi2) snd).mp (ej.trans e2.symm)
            omega
          have lgs : gs.length ≤ 70 := by
            have z := congrArg List.length OF.keys
            rw [List.length_map, List.length_take] at z
            omega
          have nDI : D ≠ p := fun z => by
            rw [← z, eD] at np
            cases np
          refine ⟨rowsF gs, .text q.1, kAt.text _ _, sH _ _ eD, rowsF_all _ _, by rw [rowsF_len]; omega, ?_, gs ++ [(q.1, p, ordT q.2.2)], ?_, ⟨?_⟩, ?_⟩
          · intro b u e
            rw [upd_ne (ne_of_none e nD)]
            exact sH _ _ (sI b u e)
          · rw [upd_same, put_fresh fresh]
            unfold rowsF
            rw [List.map_append]
            rfl
          · rw [List.map_append, OF.eq, List.take_add_one, ho, List.map_append]
            show _ ++ [(q.1, ordT q.2.2)] = _ ++ [(q.1, ordT (rowF fs q.1))]
            rw [rowF_self FA.nd hq]
          · intro z hz
            rcases List.mem_append.mp hz with hz | hz
            · obtain ⟨h1, h2, h3, h4⟩ := rg z hz
              refine ⟨?_, h2, h3, h4⟩
              rw [upd_ne h3]
              exact sH _ _ h1
            · rw [List.mem_singleton.mp hz]
              refine ⟨?_, sI.free np, Ne.symm nDI, ordT_nd (FA.row q hq).nd, by rw [ordT_len]; omega⟩
              show (upd H' D _) p = _
              rw [upd_ne (Ne.symm nDI)]
              exact ep
        · obtain ⟨s6, gs, eD, OF, rg⟩ := S
          rw [List.length_map] at OF
          have hx6 := s6 _ _ (s5 _ _ hx4)
          refine ⟨.ref x, rfl, x, C, dx, [("_names", .ref T)], rfl, hx6, cl, n2, by show 1 < 1000; decide, ?_⟩
          rw [show putF (Str.ofString "_outcomes") (V.ref D) [(Str.ofString "_names", V.ref T)] = [(Str.ofString "_names", V.ref T), (Str.ofString "_outcomes", V.ref D)] from rfl]
          have b7 : ∀ b u, b ≠ x → Hi b = some u → (upd Hi x (.ins C dx [("_names", .ref T), ("_outcomes", .ref D)])) b = some u := fun b u nb e => by
            rw [upd_ne nb]
            exact e
          have f7 : ∀ b, (upd Hi x (.ins C dx [("_names", .ref T), ("_outcomes", .ref D)])) b = none → b ≠ x ∧ Hi b = none := fun b e => by
            have nb : b ≠ x := fun z => by
              rw [z, upd_same] at e
              cases e
            rw [upd_ne nb] at e
            exact ⟨nb, e⟩
          have hx7 : (upd Hi x (.ins C dx [("_names", .ref T), ("_outcomes", .ref D)])) x = some (.ins C dx [("_names", .ref T), ("_outcomes", .ref D)]) := upd_same
          revert b7 f7 hx7
          generalize upd Hi x (.ins C dx [("_names", .ref T), ("_outcomes", .ref D)]) = H7
          intro b7 f7 hx7
          have s46 := s5.trans s6
          have notx4 : ∀ {b : Addr} {es : List MRow}, Hi b = some (mdo w b es) → b ≠ x := fun {b es} e z => by
            rw [z, hx6] at e
            cases e
          have RA7 : H7 r0 = some (mdo w r0 (rowsT ls)) := b7 _ _ (notx4 (s46 _ _ RA4)) (s46 _ _ RA4)
          refine ⟨.ref r0, rfl, r0, ls, rfl, .inl RA7, RA.nd, by omega, fun H8 R s8 nR eR => ?_⟩
          have hx8 := s8 _ _ hx7
          refine ⟨.ref x, rfl, x, C, dx, [("_names", .ref T), ("_outcomes", .ref D)], rfl, hx8, cl, n3, by show 2 < 1000; decide, ?_⟩
          rw [show putF (Str.ofString "_reads") (V.ref R) [(Str.ofString "_names", V.ref T), (Str.ofString "_outcomes", V.ref D)] = [(Str.ofString "_names", V.ref T), (Str.ofString "_outcomes", V.ref D), (Str.ofString "_reads", V.ref R)] from rfl]
          have go : ∀ b u, b ≠ x → Hi b = some u → (upd H8 x (.ins C dx [("_names", .ref T), ("_outcomes", .ref D), ("_reads", .ref R)])) b = some u := fun b u nb e => by
            rw [upd_ne nb]
            exact s8 _ _ (b7 _ _ nb e)
          have back : ∀ b, Hi b = none → b ≠ x → H b = none := fun b e nb => by
            have z := s46.free e
            cases y : H b with
            | none => rfl
            | some u =>
              rw [b4 _ _ nb (s03 _ _ y)] at z
              cases z
          have nRx : R ≠ x := (f7 R nR).1
          have eR9 : (upd H8 x (.ins C dx [("_names", .ref T), ("_outcomes", .ref D), ("_reads", .ref R)])) R = some (mdo w R (rowsT (ordT ls))) := by
            rw [upd_ne nRx]
            exact eR
          have nDx : D ≠ x := fun z => by
            rw [z] at nD
            rw [s5 _ _ hx4] at nD
            cases nD
          have lgs : gs.length ≤ 70 := by
            have z := congrArg List.length OF.keys
            rw [List.length_map, List.length_take] at z
            omega
          have gnd : (gs.map (·.1)).Nodup := by
            rw [OF.keys]
            exact List.Sublist.nodup (List.take_sublist _ _) snd
          have fr5 : ∀ b, H5 b = none → b ≠ x → H b = none := fun b e nb => by
            have z := s5.free e
            cases y : H b with
            | none => rfl
            | some u =>
              rw [b4 _ _ nb (s03 _ _ y)] at z
              cases z
          have e9 : srt (keysT (ordT ls)) = srt (keysT ls) := by
            rw [ordT_keys]
            exact srt_of_perm (srt_perm _)
          have gx : ∀ q ∈ gs, q.2.1 ≠ x := fun q hq z => by
            have y := (rg q hq).1
            rw [z, hx6] at y
            cases y
          have PA : PAt w C (upd H8 x (.ins C dx [("_names", .ref T), ("_outcomes", .ref D), ("_reads", .ref R)])) x dx T D R gs (ordT ls) := by
            refine ⟨upd_same, ?_, ?_, eR9, fun q hq => ⟨?_, (rg q hq).2.2.2.1, (rg q hq).2.2.1⟩, gnd, ordT_nd RA.nd, lgs, by rw [ordT_len]; omega, fun q hq => (rg q hq).2.2.2.2⟩
            · rw [e9]
              exact go _ _ nTx (s46 _ _ e4)
            · exact go _ _ nDx eD
            · exact go _ _ (gx q hq) (rg q hq).1
          refine qg2 _ (fun a => a = x ∨ a = D ∨ a = R ∨ a ∈ gs.map (·.2.1)) (.dict (kvF gs)) (.dict (kvT (ordT ls))) (.tuple ((srt (keysT ls)).map .str)) (fun b u nb e => ?_) ⟨dx, T, D, R, gs, ordT ls, PA, rfl, rfl, by rw [e9], rfl⟩ (fun a ha => ?_) ?_ ?_ ?_ ⟨fs, gs, ls, dx, T, D, R, rfl, rfl, FA.nd, fun q hq => (FA.row q hq).nd, RA.nd, OF, PA⟩
          · exact go _ _ nb (s46 _ _ (b4 _ _ nb (s03 _ _ e)))
          · rcases ha with rfl | rfl | rfl | ha
            · exact .inl rfl
            · exact .inr (.inr (fr5 _ nD nDx))
            · exact .inr (.inr (back _ (f7 _ nR).2 nRx))
            · obtain ⟨q, hq, rfl⟩ := List.mem_map.mp ha
              exact .inr (.inr (fr5 _ (rg q hq).2.1 (gx q hq)))
          · exact OF.nice (by omega) FA.nd (fun q hq => (FA.row q hq).nd) nf
          · exact nr.alike (alike_ord RA.nd).symm
          · refine nice_names (fun y hy => ?_) (by omega)
            obtain ⟨q, hq, e⟩ := List.mem_map.mp (srt_mem.mp hy)
            rw [← e]
            exact RA.word q hq
end
end KF
end L2
end
/-! ### PD3 -/
section
namespace L2
namespace KE
open PySem PySem.Spec PyProof.Rows PySem.KD
/-! ## dict(d), d with texts as keys -/
def AllT (kvs : List (Key × V)) : Prop := ∀ p ∈ kvs, ∃ x, p.1 = .inr x
theorem of_toM {P : Program} {w : World} {h : Heap} {d : Addr} {kvs : List (Key × V)} {rows : List KD.Row} (t : AllT kvs) (rr : Paired MRel (toM kvs) rows) (D : DM w h d rows) : ∃ vs : List (Key × Value), h.DictOf (mixKind P w) d vs ∧ KV kvs vs := by
  obtain ⟨⟨o, ens, ep, ho, hx, hd, he⟩, once⟩ := D
  have main : ∀ (kvs : List (Key × V)) (rows : List KD.Row), AllT kvs → Paired MRel (toM kvs) rows → ∃ vs : List (Key × Value), KV kvs vs ∧ Pairs (mixKind P w) (rows.map (rowE w)) vs ∧ (∀ r ∈ rows, ∃ x tk, r.1 = .text x ∧ r.2.1 = .str x tk) ∧ rows.map (·.1) = vs.map fun p => nkOf p.1 := by
    intro kvs
    induction kvs with
    | nil =>
      intro rows _ rr
      cases rr
      exact ⟨[], .nil, .nil, (fun _ z => nomatch z), rfl⟩
    | cons p kvs ih =>
      intro rows t rr
      cases rr with
      | @cons _ r _ rs hr rest =>
        obtain ⟨vs, h1, h2, h3, h4⟩ := ih rs (fun q hq => t q (List.mem_cons_of_mem _ hq)) rest
        obtain ⟨x, ex⟩ := t p List.mem_cons_self
        obtain ⟨k, v⟩ := p
        have ex : k = .inr x := ex
        subst ex
        have er : r.1 = .text x := hr.1.symm
        obtain ⟨tk, ek⟩ := (show ∃ tk, r.2.1 = Value.str x tk from hr.2.1)
        refine ⟨(.inr x, r.2.2) :: vs, .cons ⟨rfl, hr.2.2⟩ h1, .cons ?_ rfl h2, fun q hq => ?_, by rw [List.map_cons, List.map_cons, h4, er]; rfl⟩
        · show (mixKind P w).is (.inr x) r.2.1 = true
          rw [ek]
          exact mixKind_str P w x tk
        · rcases List.mem_cons.mp hq with rfl | hq
          · exact ⟨x, tk, er, ek⟩
          · exact h3 q hq
  obtain ⟨vs, h1, h2, h3, h4⟩ := main kvs rows t rr
  refine ⟨vs, ⟨o, ens, ep, ho, hx, hd, fun e hm => ?_, by rw [he]; exact h2, ?_⟩, h1⟩
  · have hm2 : e ∈ rows.map (rowE w) := by
      rw [← he]
      exact Array.mem_toList_iff.mpr hm
    obtain ⟨r, hr, rfl⟩ := List.mem_map.mp hm2
    obtain ⟨x, tk, e1, e2⟩ := h3 r hr
    refine ⟨.inr x, ?_, ?_⟩
    · show (mixKind P w).is (.inr x) r.2.1 = true
      rw [e2]
      exact mixKind_str P w x tk
    · show r.1.hash w = keyH w (.inr x)
      rw [e1]
      exact nk_hash w (.inr x)
  · rw [h4] at once
    have e2 : (vs.map fun p => nkOf p.1) = (vs.map (·.1)).map nkOf := by
      rw [List.map_map]
      rfl
    rw [e2] at once
    exact List.Pairwise.imp (fun ne e => ne (by rw [e])) (List.pairwise_map.mp once)
section
variable {X : Cx}
/-- dict(d) -/
def rCopyM (w : World) : List V → Hp → VK → Prop := fun ys H Q => ∃ a kvs, ys = [V.ref a] ∧ Rd H a (mdo w a (toM kvs)) ∧ AllT kvs ∧ ∀ p, H p = none → Q (.ref p) (upd H p (mdo w p (toM kvs)))
theorem callCopyM : CallR X (.type "dict") (rCopyM X.w) := by
  intro pins s σ H ys us Q I r z
  obtain ⟨a, kvs, rfl, rd, t, q⟩ := z
  rw [Vals.ref1 r]
  obtain ⟨l, sy, rows, rr, D⟩ := mdo_rd I.hok rd
  obtain ⟨vs, dd, kv⟩ := of_toM (P := X.prog) t rr D
  have lk : kvs.length ≤ 1000 := by
    unfold toM at l
    rwa [List.length_map] at l
  have lz : kvs.length ≤ sizeLine := Nat.le_of_lt (small1000 lk)
  refine kt_call_dict sy dd (by rw [← kv.length]; exact lz) fun h' dd' hs => ?_
  have sy' : (s.heap.objs.size == sysModules) = false := beq_eq_false_iff_ne.mpr (Ne.symm (Nat.ne_of_lt I.big))
  have ok : ObjOk X.prog X.w H h' s.heap.objs.size (.dK kvs) := dk_new lz sy' kv dd'
  have ok2 := (dk_mdo (w := X.w) ok lk).1
  obtain ⟨a1, a2, rows', rr', D'⟩ := ok2
  exact ⟨.ref _, _, I.laid (t' := s.toks) (fun b u e => (hs.2 b (Nat.ne_of_lt (Heap.lt_size e))).trans (Heap.get?_push_of_some _ e)) (Nat.le_refl _) (mdo_ok a1 a2 rr' D'), rfl, q _ (I.hok.fresh (Nat.le_refl _))⟩
end
end KE
end L2
end
/-! ### RI -/
section
namespace L2
namespace KF
open PySem PySem.Spec PyProof.Rows PySem.KD KE KC PySem.KA KM TL KS KH
/-! ## the properties -/
theorem rowsT_toM (ls : List (Str × Str)) : rowsT ls = toM (ls.map fun q => ((.inr q.1, .str q.2) : Key × V)) := by
  unfold rowsT toM
  rw [List.map_map]
  rfl
theorem allT_row (ls : List (Str × Str)) : AllT (ls.map fun q => ((.inr q.1, .str q.2) : Key × V)) := fun p hp => by
  obtain ⟨q, _, rfl⟩ := List.mem_map.mp hp
  exact ⟨q.1, rfl⟩
theorem rows_rep {w : World} {H : Hp} : ∀ {gs : List Fin}, (∀ q ∈ gs, H q.2.1 = some (mdo w q.2.1 (rowsT q.2.2)) ∧ (keysT q.2.2).Nodup) → RepAA w H ((rowsF gs).map fun r => r.2.2) ((kvF gs).map (·.2)) (gs.map (·.2.1))
  | [], _ => .nil
  | q :: gs, h => by
    obtain ⟨h1, h2⟩ := h q List.mem_cons_self
    have r : RepA w H (.ref q.2.1) (.dict (kvT q.2.2)) [q.2.1] := (rowsT_at h1 h2).rep
    exact .cons (f1 := [q.2.1]) r (rows_rep fun x hx => h x (List.mem_cons_of_mem _ hx))
theorem fin_dict {w : World} {H : Hp} {D : Addr} {gs : List Fin} (e : H D = some (mdo w D (rowsF gs))) (nd : (gs.map (·.1)).Nodup) (h : ∀ q ∈ gs, H q.2.1 = some (mdo w q.2.1 (rowsT q.2.2)) ∧ (keysT q.2.2).Nodup) (ne : ∀ q ∈ gs, q.2.1 ≠ D) : DictAt w H D (rowsF gs) (kvF gs) (gs.map (·.2.1)) := by
  refine ⟨e, rowsF_all _ _, by rw [rowsF_keys]; exact nd_text nd, ?_, rows_rep h, fun z => ?_⟩
  · have e1 : (rowsF gs).map (fun r => r.2.1) = (gs.map (·.1)).map V.str := by
      unfold rowsF
      rw [List.map_map, List.map_map]
      rfl
    have e2 : (kvF gs).map (·.1) = (gs.map (·.1)).map .str := by
      unfold kvF
      rw [List.map_map, List.map_map]
      rfl
    rw [e1, e2]
    exact strs_rep _
  · obtain ⟨q, hq, e⟩ := List.mem_map.mp z
    exact ne q hq e
def spOut (w : World) (C : Addr) : Sp := fun vs H Q _ => ∃ x o r n S, vs = [.ref x] ∧ PX w C H x o r n S ∧ ∀ H' v f, Same H H' → Rep w H' v o f → Q v H'
/-- a new dict with new rows -/
def spOutS (w : World) (C : Addr) : Sp := fun vs H Q _ => ∃ x dx T D R fs rs, vs = [.ref x] ∧ PAt w C H x dx T D R fs rs ∧ ∀ H' N gs, Same H H' → H N = none → H' N = some (mdo w N (rowsF gs)) → gs.map (fun q => (q.1, q.2.2)) = fs.map (fun q => (q.1, q.2.2)) →
  (∀ q ∈ gs, H' q.2.1 = some (mdo w q.2.1 (rowsT q.2.2)) ∧ H q.2.1 = none ∧ q.2.1 ≠ N) → Q (.ref N) H'
def spRdsS (w : World) (C : Addr) : Sp := fun vs H Q _ => ∃ x dx T D R fs rs, vs = [.ref x] ∧ PAt w C H x dx T D R fs rs ∧ ∀ H' N, Same H H' → H N = none → H' N = some (mdo w N (rowsT rs)) → Q (.ref N) H'
def spNmsS (w : World) (C : Addr) : Sp := fun vs H Q _ => ∃ x dx T D R fs rs, vs = [.ref x] ∧ PAt w C H x dx T D R fs rs ∧ Q (.ref T) H
theorem fn_weak {P : Program} {w : World} {K : PySem.W.Frag} {mg : Str → Option Value} {base : Heap} {CX : CXT} {k : Nat} {f : Addr} {fd : FuncData} {ps : List Str} {sp sp' : Sp} (F : FnOk P w K mg base CX k f fd ps sp) (h : ∀ vs H Q E, sp' vs H Q E → sp vs H Q E) : FnOk P w K mg base CX k f fd ps sp' :=
  ⟨fun vs H Q E z => F.len _ _ _ _ (h vs H Q E z), fun A outer s H args us vs Q E r e b v z => F.run A outer s H args us vs Q E r e b v (h vs H Q E z)⟩
def spRds (w : World) (C : Addr) : Sp := fun vs H Q _ => ∃ x o r n S, vs = [.ref x] ∧ PX w C H x o r n S ∧ ∀ H' v f, Same H H' → Rep w H' v r f → Q v H'
def spNms (w : World) (C : Addr) : Sp := fun vs H Q _ => ∃ x o r n S, vs = [.ref x] ∧ PX w C H x o r n S ∧ ∀ H' v f, Same H H' → Rep w H' v n f → Q v H'
abbrev sOut : Stmt := methOf 19 1
abbrev sRds : Stmt := methOf 19 2
abbrev sNms : Stmt := methOf 19 3
theorem scOut : FnScope ["self", "outcome"] ["self"] (defScope sOut) := ⟨rfl, rfl, rfl, by decide +kernel, rfl, by decide +kernel, by decide +kernel⟩
theorem scRds : FnScope ["self"] ["self"] (defScope sRds) := ⟨rfl, rfl, rfl, by decide +kernel, rfl, by decide +kernel, by decide +kernel⟩
theorem scNms : FnScope ["self"] ["self"] (defScope sNms) := ⟨rfl, rfl, rfl, by decide +kernel, rfl, by decide +kernel, by decide +kernel⟩
section
variable {P : Program} {w : World} {K : PySem.W.Frag} {mg : Str → Option Value} {base : Heap}
theorem ok_nmsS {C f : Addr} {fd : FuncData} {k : Nat} (F : Fun K "names" "Profile.names" sNms f fd) (cl : Cls K C) (n1 : NoAttr K C "_names") : FnOk P w K mg base CX0 (k + 1) f fd ["self"] (spNmsS w C) := by
  refine F.ok scNms (fun vs H Q E h => ?_) (fun cdv A outer s H vs Q E hr h => ?_)
  · obtain ⟨x, dx, T, D, R, fs, rs, rfl, _⟩ := h
    rfl
  · obtain ⟨x, dx, T, D, R, fs, rs, rfl, PA, q⟩ := h
    refine ⟨_, pss_one (ps_ret (pe_fld (pv 0) rfl)), ?_⟩
    exact ⟨.ref x, rfl, x, C, dx, _, .ref T, rfl, PA.hx, cl, n1, rfl, q⟩
theorem ok_nms {C f : Addr} {fd : FuncData} {k : Nat} (F : Fun K "names" "Profile.names" sNms f fd) (cl : Cls K C) (n1 : NoAttr K C "_names") : FnOk P w K mg base CX0 (k + 1) f fd ["self"] (spNms w C) := fn_weak (ok_nmsS F cl n1) fun vs H Q E h => by
  obtain ⟨x, o, r, n, S, rfl, ⟨dx, T, D, R, fs, rs, PA, rfl, rfl, rfl, rfl⟩, q⟩ := h
  refine ⟨x, dx, T, D, R, fs, rs, rfl, PA, ?_⟩
  refine q H (.ref T) [] (Same.refl H) ?_
  exact .tup PA.hT (strs_rep _).rep
theorem ok_rdsS {C f : Addr} {fd : FuncData} {k : Nat} (F : Fun K "reads" "Profile.reads" sRds f fd) (cl : Cls K C) (n3 : NoAttr K C "_reads") (mD : mg "dict" = none) : FnOk P w K mg base CX0 (k + 1) f fd ["self"] (spRdsS w C) := by
  refine F.ok scRds (fun vs H Q E h => ?_) (fun cdv A outer s H vs Q E hr h => ?_)
  · obtain ⟨x, dx, T, D, R, fs, rs, rfl, _⟩ := h
    rfl
  · obtain ⟨x, dx, T, D, R, fs, rs, rfl, PA, q⟩ := h
    refine ⟨_, pss_one (ps_ret (pe_callTy (r := rCopyM w) callCopyM (by rfl) mD boot_dict (pa_cons (pe_fld (pv 0) rfl) pa_nil))), ?_⟩
    refine ⟨.ref x, rfl, x, C, dx, _, .ref R, rfl, PA.hx, cl, n3, rfl, R, _, rfl, ?_, allT_row rs, fun p np => ?_⟩
    · rw [← rowsT_toM]
      exact .inl PA.hR
    · rw [← rowsT_toM]
      exact q _ p (same_upd np) np upd_same
theorem ok_rds {C f : Addr} {fd : FuncData} {k : Nat} (F : Fun K "reads" "Profile.reads" sRds f fd) (cl : Cls K C) (n3 : NoAttr K C "_reads") (mD : mg "dict" = none) : FnOk P w K mg base CX0 (k + 1) f fd ["self"] (spRds w C) := fn_weak (ok_rdsS F cl n3 mD) fun vs H Q E h => by
  obtain ⟨x, o, r, n, S, rfl, ⟨dx, T, D, R, fs, rs, PA, rfl, rfl, rfl, rfl⟩, q⟩ := h
  exact ⟨x, dx, T, D, R, fs, rs, rfl, PA, fun H' N s _ e => q _ (.ref N) _ s (rowsT_at e PA.rnd).rep.rep⟩
theorem ok_outS {C f : Addr} {fd : FuncData} {k : Nat} (F : Fun K "outcomes" "Profile.outcomes" sOut f fd) (cl : Cls K C) (n2 : NoAttr K C "_outcomes") (mD : mg "dict" = none) : FnOk P w K mg base CX0 (k + 1) f fd ["self"] (spOutS w C) := by
  refine F.ok scOut (fun vs H Q E h => ?_) (fun cdv A outer s H vs Q E hr h => ?_)
  · obtain ⟨x, dx, T, D, R, fs, rs, rfl, _⟩ := h
    rfl
  · obtain ⟨x, dx, T, D, R, fs, rs, rfl, PA, q⟩ := h
    have hc : (cxOf CX0 P w K mg base ["self", "outcome"] "Profile.outcomes" (defScope sOut) f cdv A outer s H E).nox.calm = true := rfl
    have hu10 : (cxOf CX0 P w K mg base ["self", "outcome"] "Profile.outcomes" (defScope sOut) f cdv A outer s H E).nox.A.units + 10 < cLine := by
      have := hr.un
      show (A.deeper _).units + 10 < cLine
      omega
    refine ⟨_, pss_one (ps_ret (pe_lock (peDcM (own := [("outcome", 1)]) (g := gName 1) hu10 hc scOut.nd (piKeysM (pe_fld (pv 0) rfl))
        (blkOk_by (N := ["self", "outcome"]) (sc := defScope sOut) (by decide +kernel)) (fun _ _ _ _ _ => pg_name (i := 1) scOut.nd rfl (Or.inl rfl))
        (fun _ _ _ _ _ => pv 1) (fun _ _ _ _ _ => pe_callTy (r := rCopyM w) callCopyM (by rfl) mD boot_dict (pa_cons (pe_ix (r := rIxM w) (ixM (by exact hu10)) (show PE _ _ (tFld K (tVar 0) "_outcomes") from pe_fld (pv 0) rfl) (pv 1) (fun _ _ => rfl)) pa_nil))))), ?_⟩
    have nxD : x ≠ D := fun z => by
      have y := PA.hx
      rw [z, PA.hD] at y
      cases y
    refine ⟨D, mdo w D (rowsF fs), PA.hD, trivial, fun od => ?_⟩
    refine ⟨.ref x, rfl, x, C, dx, _, .ref D, rfl, (upd_ne nxD).trans PA.hx, cl, n2, rfl, D, od, rowsF fs, rfl, upd_same, fun N nN => ?_⟩
    have nND : N ≠ D := fun z => by
      rw [z, upd_same] at nN
      cases nN
    have nN0 : H N = none := by
      rwa [upd_ne nND] at nN
    refine dcM_it walkM (fun i Hi => Hi D = some (.frz od (mdo w D (rowsF fs))) ∧ (∀ b u, b ≠ D → H b = some u → Hi b = some u) ∧ ∃ gs : List Fin, Hi N = some (mdo w N (rowsF gs)) ∧ gs.map (fun q => (q.1, q.2.2)) = (fs.take i).map (fun q => (q.1, q.2.2)) ∧ ∀ q ∈ gs, Hi q.2.1 = some (mdo w q.2.1 (rowsT q.2.2)) ∧ H q.2.1 = none ∧ q.2.1 ≠ N ∧ q.2.1 ≠ D)
      ⟨(upd_ne (Ne.symm nND)).trans upd_same, fun b u nb e => ?_, [], upd_same, rfl, fun _ z => nomatch z⟩ (fun i Hi _ S => S.1) (fun i y Hi Hj hi S hy => ?_) (fun Hi S => ?_)
    · have nbN : b ≠ N := fun z => by
        rw [z, nN0] at e
        cases e
      rw [upd_ne nbN, upd_ne nb]
      exact e
    · obtain ⟨rfl, r, hr', rfl⟩ := hy
      obtain ⟨fz, st, gs, eN, eg, rg⟩ := S
      have hr2 : (fs.map fun q : Fin => ((.text q.1, .str q.1, .ref q.2.1) : MRow))[i]? = some r := hr'
      rw [List.getElem?_map] at hr2
      obtain ⟨t, ht, rfl⟩ := Option.map_eq_some_iff.mp hr2
      have hq : t ∈ fs := List.mem_of_getElem? ht
      obtain ⟨t1, t2, t3⟩ := PA.row t hq
      have kg : gs.map (·.1) = (fs.map (·.1)).take i := by
        have e := congrArg (List.map (·.1)) eg
        rw [List.map_map, List.map_map] at e
        rw [← List.map_take]
        exact e
      have lgs : gs.length ≤ 70 := by
        have z := congrArg List.length kg
        have := PA.len.1
        rw [List.length_map, List.length_take, List.length_map] at z
        omega
      refine c_name ⟨rfl, .str t.1, rfl, .ref x, rfl, x, C, dx, _, .ref D, rfl, st _ _ nxD PA.hx, cl, n2, rfl, .str t.1, rfl, D, rowsF fs, .text t.1, _, rfl, .inr ⟨od, fz⟩, rowsF_all _ _, kAt.text _ _, look_fin PA.fnd hq, t.2.1, _, rfl, ?_, allT_row t.2.2, fun p np => ?_⟩
      · rw [← rowsT_toM]
        exact .inl (st _ _ t3 t1)
      · rw [← rowsT_toM]
        have npN : N ≠ p := fun z => by
          rw [← z, eN] at np
          cases np
        have npD : D ≠ p := fun z => by
          rw [← z, fz] at np
          cases np
        have np0 : H p = none := by
          cases z : H p with
          | none => rfl
          | some u =>
            rw [st _ _ (Ne.symm npD) z] at np
            cases np
        have fresh : NestedKey.text t.1 ∉ (rowsF gs).map (·.1) := by
          rw [rowsF_keys, kg]
          intro z
          obtain ⟨y, hy, e⟩ := List.mem_map.mp z
          injection e with e
          subst e
          obtain ⟨j, hj, ej⟩ := List.getElem_of_mem hy
          rw [List.length_take] at hj
          rw [List.getElem_take] at ej
          have hi2 : i < (fs.map (·.1)).length := by
            obtain ⟨h, _⟩ := List.getElem?_eq_some_iff.mp ht
            rw [List.length_map]
            exact h
          have e2 : (fs.map (·.1))[i] = t.1 := by
            rw [List.getElem_map]
            obtain ⟨h, e⟩ := List.getElem?_eq_some_iff.mp ht
            rw [e]
          have := (List.getElem_inj (xs := fs.map (·.1)) (i := j) (j := i) (h₀ := by omega) (h₁ := hi2) PA.fnd).mp (ej.trans e2.symm)
          omega
        refine ⟨rowsF gs, .text t.1, kAt.text _ _, (upd_ne npN).trans eN, rowsF_all _ _, by rw [rowsF_len]; omega, ?_, ?_, gs ++ [(t.1, p, t.2.2)], ?_, ?_, ?_⟩
        · rw [upd_ne (Ne.symm nND), upd_ne npD]
          exact fz
        · intro b u nb e
          have nbN : b ≠ N := fun z => by
            rw [z, nN0] at e
            cases e
          rw [upd_ne nbN, upd_ne (ne_of_none e np0)]
          exact st b u nb e
        · rw [upd_same, put_fresh fresh]
          unfold rowsF
          rw [List.map_append]
          rfl
        · rw [List.map_append, eg, List.take_add_one, ht, List.map_append]
          rfl
        · intro z hz
          rcases List.mem_append.mp hz with hz | hz
          · obtain ⟨h1, h2, h3, h4⟩ := rg z hz
            refine ⟨?_, h2, h3, h4⟩
            rw [upd_ne h3, upd_ne (fun y => by
              rw [y, np] at h1
              cases h1)]
            exact h1
          · rw [List.mem_singleton.mp hz]
            refine ⟨?_, np0, Ne.symm npN, Ne.symm npD⟩
            show (upd (upd _ p _) N _) p = _
            rw [upd_ne (Ne.symm npN), upd_same]
    · obtain ⟨fz, st, gs, eN, eg, rg⟩ := S
      rw [rowsF_len, List.take_length] at eg
      refine ⟨fz, q _ N gs (fun b u e => ?_) nN0 ((upd_ne nND).trans eN) eg fun z hz => ⟨(upd_ne (rg z hz).2.2.2).trans (rg z hz).1, (rg z hz).2.1, (rg z hz).2.2.1⟩⟩
      by_cases c : b = D
      · subst c
        rw [upd_same, ← e, PA.hD]
      · rw [upd_ne c]
        exact st b u c e
theorem same_rows {gs fs : List Fin} (eg : gs.map (fun q => (q.1, q.2.2)) = fs.map (fun q => (q.1, q.2.2))) : kvF gs = kvF fs ∧ gs.map (·.1) = fs.map (·.1) := by
  refine ⟨?_, ?_⟩
  · have h : ∀ l : List Fin, kvF l = (l.map fun q => (q.1, q.2.2)).map fun t => ((.str t.1, .dict (kvT t.2)) : PyData × PyData) := fun l => by
      unfold kvF
      rw [List.map_map]
      rfl
    rw [h gs, h fs, eg]
  · have e := congrArg (List.map (·.1)) eg
    rw [List.map_map, List.map_map] at e
    exact e
theorem same_mem {gs fs : List Fin} (eg : gs.map (fun q => (q.1, q.2.2)) = fs.map (fun q => (q.1, q.2.2))) {z : Fin} (hz : z ∈ gs) : ∃ y ∈ fs, y.1 = z.1 ∧ y.2.2 = z.2.2 := by
  have m : (z.1, z.2.2) ∈ gs.map (fun q => (q.1, q.2.2)) := List.mem_map_of_mem (f := fun q : Fin => (q.1, q.2.2)) hz
  rw [eg] at m
  obtain ⟨y, hy, e⟩ := List.mem_map.mp m
  exact ⟨y, hy, congrArg (·.1) e, congrArg (fun t : Str × List (Str × Str) => t.2) e⟩
theorem ok_out {C f : Addr} {fd : FuncData} {k : Nat} (F : Fun K "outcomes" "Profile.outcomes" sOut f fd) (cl : Cls K C) (n2 : NoAttr K C "_outcomes") (mD : mg "dict" = none) : FnOk P w K mg base CX0 (k + 1) f fd ["self"] (spOut w C) := fn_weak (ok_outS F cl n2 mD) fun vs H Q E h => by
  obtain ⟨x, o, r, n, S, rfl, ⟨dx, T, D, R, fs, rs, PA, rfl, rfl, rfl, rfl⟩, q⟩ := h
  refine ⟨x, dx, T, D, R, fs, rs, rfl, PA, fun H' N gs s _ eN eg rg => q H' (.ref N) (N :: gs.map (·.2.1)) s ?_⟩
  rw [← (same_rows eg).1]
  refine (fin_dict (D := N) (gs := gs) eN (by rw [(same_rows eg).2]; exact PA.fnd) (fun z hz => ⟨(rg z hz).1, ?_⟩) fun z hz => (rg z hz).2.2).rep.rep
  obtain ⟨y, hy, _, e⟩ := same_mem eg hz
  rw [← e]
  exact (PA.row y hy).2.1
end
end KF
end L2
end
/-! ### RJ -/
section
namespace L2
namespace KF
open PySem PySem.Spec PyProof.Rows PySem.KD KE KC PySem.KA KM TL KS KH
/-! ## what the law wants of the class -/
theorem PX_keep {w : World} {C : Addr} {H H' : Hp} {x : Addr} {o r n : PyData} {S : Addr → Prop} (h : PX w C H x o r n S) (k : ∀ a u, S a → H a = some u → H' a = some u) (t : TupK H H') : PX w C H' x o r n S := by
  obtain ⟨dx, T, D, R, fs, rs, PA, rfl, rfl, rfl, rfl⟩ := h
  refine ⟨dx, T, D, R, fs, rs, ⟨k _ _ (.inl rfl) PA.hx, t _ _ PA.hT, k _ _ (.inr (.inl rfl)) PA.hD, k _ _ (.inr (.inr (.inl rfl))) PA.hR, fun q hq => ?_, PA.fnd, PA.rnd, PA.len⟩, rfl, rfl, rfl, rfl⟩
  obtain ⟨h1, h2, h3⟩ := PA.row q hq
  exact ⟨k _ _ (.inr (.inr (.inr (List.mem_map_of_mem (f := fun q : Fin => q.2.1) hq)))) h1, h2, h3⟩
theorem not_all {df dr : PyData} (h : finD df = false ∨ rowD readL dr = false ∨ allW df dr = false) : ¬ (finD df = true ∧ rowD readL dr = true ∧ allW df dr = true) := by
  rintro ⟨h1, h2, h3⟩
  rcases h with h | h | h
  · rw [h1] at h
    cases h
  · rw [h2] at h
    cases h
  · rw [h3] at h
    cases h
def profI (w : World) (C CV : Addr) : ProfI w C CV (spInit w C CV) (spOut w C) (spRds w C) (spNms w C) E0 E0 E0 where
  PX := PX w C
  ins := fun {H x o r n S} h => by
    obtain ⟨dx, T, D, R, fs, rs, PA, _⟩ := h
    exact ⟨dx, _, PA.hx⟩
  keep := fun h k t => PX_keep h k t
  init := fun {H x dx vf vr df dr ff fr Q E} hx hdx nx rf rr nf nr h1 h2 h3 q => ⟨x, dx, vf, vr, df, dr, ff, fr, rfl, hx, hdx, nx, rf, rr, nf, nr, fun _ H' S o r n k p fr' n1 n2 n3 _ => q H' S o r n (fun b u nb _ e => k b u nb e) p fr' n1 n2 n3, fun z => absurd ⟨h1, h2, h3⟩ z⟩
  bad := fun {H x dx vf vr df dr ff fr Q E} hx hdx nx rf rr nf nr h q => ⟨x, dx, vf, vr, df, dr, ff, fr, rfl, hx, hdx, nx, rf, rr, nf, nr, fun z => absurd z (not_all h), fun _ H' d fs v f s e l r => q H' d fs v f (fun b u _ _ e => s b u e) e l r⟩
  out := fun {H x o r n S Q} p q => ⟨x, o, r, n, S, rfl, p, q⟩
  rds := fun {H x o r n S Q} p q => ⟨x, o, r, n, S, rfl, p, q⟩
  nms := fun {H x o r n S Q} p q => ⟨x, o, r, n, S, rfl, p, q⟩
/-! ## a global tuple of texts -/
def isStrs : List Str → List Value → Bool
  | [], [] => true
  | x :: xs, .str y _ :: us => decide (y = x) && isStrs xs us
  | _, _ => false
theorem isStrs_ok : ∀ {xs : List Str} {us : List Value}, isStrs xs us = true → Vals (xs.map V.str) us
  | [], [], _ => .nil
  | [], _ :: _, h => by cases h
  | _ :: _, [], h => by cases h
  | x :: xs, u :: us, h => by
    cases u with
    | str y t =>
      have h : (decide (y = x) && isStrs xs us) = true := h
      obtain ⟨h1, h2⟩ := He.ba h
      have h1 := of_decide_eq_true h1
      subst h1
      exact .cons ⟨t, rfl⟩ (isStrs_ok h2)
    | _ => cases h
def tupB (x : Str) (xs : List Str) : FB := fun K => He.eqO (PySem.W.nsIn K mainGlobals x) (some (some (.ref (He.ga K x)))) && (match K.lookup (He.ga K x) with
  | some ⟨.type "tuple", _, .seq its _, _⟩ => decide (its.size ≤ 1000) && isStrs xs its.toList
  | _ => false)
theorem tup_ok {K : PySem.W.Frag} {h : Heap} {mg : Str → Option Value} {x : Str} {xs : List Str} (X : K.In h) (G : h.Ns mainGlobals mg) (c : tupB x xs K = true) : ∃ t, mg x = some (.ref t) ∧ ∀ H, SqT K H t (xs.map V.str) := by
  obtain ⟨c1, c2⟩ := He.ba c
  refine ⟨He.ga K x, PySem.W.mg_of X G (He.eqO_ok c1), fun H => .inr ?_⟩
  split at c2
  · rename_i d its n sl e
    obtain ⟨h1, h2⟩ := He.ba c2
    exact ⟨_, its, n, e, rfl, rfl, Nat.le_trans (of_decide_eq_true h1) (by decide), isStrs_ok h2⟩
  · cases c2
theorem baseB_ok {K : PySem.W.Frag} {B I : String} (c : baseB B I K = true) : PySem.W.findCls K (.type B) (.type "type") "__init__" = some (.val (.builtin I)) := by
  unfold baseB at c
  split at c
  · rename_i x e
    rw [of_decide_eq_true c] at e
    exact e
  · cases c
end KF
end L2
end
/-! ### HT81 -/
section
namespace L2
namespace KF
open PySem PySem.Spec PyProof.Rows KH
abbrev R81 : PySem.W.OpenRow := PySem.W.OpenLaw.row PySem.Challenge.rw_surelyset_k81_profiles_refused
abbrev q81 : Program := PySem.W.view R81.prog [36]
def names81 : List PySem.Str := List.map PySem.Str.ofString (["LETTERS", "MAX_LETTERS", "has_word_form", "is_outcome", "copied", "items_of", "rebuilt", "InvalidProfile", "END_LEVELS", "READ_LEVELS", "lesser_level", "greater_level", "is_at_most", "lesser", "greater", "Profile", "ordered", "are_outcomes", "are_reads", "is_table", "is_profile_at_most", "_law_source", "_law_draw", "_law_pick", "_law_shuffled", "_law_word_list", "_law_levels", "_law_drawn_profile", "_law_wrong", "_law_bent_row", "_law_bent_outcomes"] : List String)
def seeds81 : List PySem.Str := List.map PySem.Str.ofString (["has_word_form", "is_outcome", "copied", "items_of", "rebuilt", "ordered", "are_outcomes", "are_reads", "is_table", "_law_source", "_law_draw", "_law_pick", "_law_shuffled", "_law_word_list", "_law_levels", "_law_drawn_profile", "_law_wrong", "_law_bent_row", "_law_bent_outcomes", "law", "InvalidProfile", "Profile", "END_LEVELS", "READ_LEVELS"] : List String)
def fb81 : List FB := ([gloB "has_word_form", gloB "is_outcome", gloB "copied", gloB "items_of", gloB "rebuilt", gloB "ordered", gloB "are_outcomes", gloB "are_reads", gloB "is_table", gloB "_law_source", gloB "_law_draw", gloB "_law_pick"] : List FB) ++ ([gloB "_law_shuffled", gloB "_law_word_list", gloB "_law_levels", gloB "_law_drawn_profile", gloB "_law_wrong", gloB "_law_bent_row", gloB "_law_bent_outcomes", gloB "law", freeB "len", freeB "list", freeB "tuple", freeB "dict"] : List FB) ++ ([freeB "isinstance", freeB "zip", freeB "range", freeB "reversed", freeB "int", freeB "str", freeB "bool", freeB "all", freeB "min", freeB "repr", freeB "set", freeB "sorted"] : List FB) ++ ([freeB "ValueError", strB "LETTERS" "abcdefghijklmnopqrstuvwxyz", intB "MAX_LETTERS" 8, baseB "ValueError" "ValueError.__init__", errB "InvalidProfile" "value", exmB "InvalidProfile" "InvalidProfile" true, gloB "Profile", clsB' "Profile", mkrB "Profile", noatB "Profile" "_names", noatB "Profile" "_outcomes", noatB "Profile" "_reads"] : List FB) ++ ([propB "Profile" "outcomes", propB "Profile" "reads", propB "Profile" "names", oexB "InvalidProfile", tupB "END_LEVELS" endL, tupB "READ_LEVELS" readL] : List FB)
def fn81 : List DefX := ([dOf "has_word_form" (topS 3), dOf "is_outcome" (topS 4), dOf "copied" (topS 5), dOf "items_of" (topS 6), dOf "rebuilt" (topS 7), dOf "ordered" (topS 20), dOf "are_outcomes" (topS 21), dOf "are_reads" (topS 22), dOf "is_table" (topS 23), dOf "_law_source" (topS 26), dOf "_law_draw" (topS 27), dOf "_law_pick" (topS 28)] : List DefX) ++ ([dOf "_law_shuffled" (topS 29), dOf "_law_word_list" (topS 30), dOf "_law_levels" (topS 31), dOf "_law_drawn_profile" (topS 32), dOf "_law_wrong" (topS 33), dOf "_law_bent_row" (topS 34), dOf "_law_bent_outcomes" (topS 35), dOf "law" (topS 36), mOf "InvalidProfile" "__init__" "InvalidProfile.__init__" (methOf 9 0), mOf "Profile" "__init__" "Profile.__init__" (methOf 19 0), pOf "Profile" "outcomes" "Profile.outcomes" (methOf 19 1), pOf "Profile" "reads" "Profile.reads" (methOf 19 2)] : List DefX) ++ ([pOf "Profile" "names" "Profile.names" (methOf 19 3)] : List DefX)
noncomputable def ob81 (s : PySem.W.SharedT) : AlX := obsXG 4 seeds81 fb81 fn81 (HandSHeadRun.getT s)
theorem ob81_eq (s : PySem.W.SharedT) : ob81 s = (hookX 4 seeds81 fb81 fn81).obs s.abs := obsXG_eq (HandSHeadRun.getT_eq s)
end KF
end L2
end
/-! ### HRun81 -/
section
set_option maxHeartbeats 0
namespace L2
namespace KF
open PySem PySem.Spec PyProof.Rows KH
theorem run81 (w : World) : HandSHeadRun.RunEq R81 q81 (hookX 4 seeds81 fb81 fn81) ob81 12000 names81 w :=
  PySem.W.byRow2 "special-get-raises" (P := fun w => HandSHeadRun.RunEq R81 q81 (hookX 4 seeds81 fb81 fn81) ob81 12000 names81 w) (fun w => by
    intro os
    kernel_rfl) (fun w => by
    intro os
    kernel_rfl) w
end KF
end L2
end
/-! ### PEnd -/
section
namespace L2
namespace KF
open PySem PySem.Spec PyProof.Rows PySem.KD KE KC PySem.KA KM TL KH
/-- what is wanted of the class Profile: its __init__ and its getters -/
structure ProfPart (P : Program) (w : World) (K : PySem.W.Frag) (mg : Str → Option Value) (base : Heap) : Prop where
  ex : ∃ (spI spO spR spN : Sp) (EO ER EN : XK) (CXO CXR CXN : CXT) (fdI fdO fdR fdN : FuncData), Nonempty (ProfI w (He.ga K "Profile") (He.ga K "InvalidProfile") spI spO spR spN EO ER EN) ∧
    FnOk P w K mg base (L2.CX P w) 6 (He.ma K (He.ga K "Profile") "__init__") fdI ["self", "outcomes", "reads"] spI ∧ Binds K fdI ["self", "outcomes", "reads"] [] ∧
    FnOk P w K mg base CXO 7 (prG K "Profile" "outcomes") fdO ["self"] spO ∧ Binds K fdO ["self"] [] ∧ (∀ X : Cx, Passes CXO X EO) ∧
    FnOk P w K mg base CXR 7 (prG K "Profile" "reads") fdR ["self"] spR ∧ Binds K fdR ["self"] [] ∧ (∀ X : Cx, Passes CXR X ER) ∧
    FnOk P w K mg base CXN 7 (prG K "Profile" "names") fdN ["self"] spN ∧ Binds K fdN ["self"] [] ∧ (∀ X : Cx, Passes CXN X EN)
theorem prop_ok {K : PySem.W.Frag} {C f : Str} (c : propB C f K = true) : PropOf K (He.ga K C) f (prA K C f) (prG K C f) := by
  unfold propB at c
  obtain ⟨c1, c⟩ := He.ba c
  obtain ⟨c2, c⟩ := He.ba c
  obtain ⟨c3, c4⟩ := He.ba c
  refine ⟨He.eqO_ok c1, He.eqO_ok c2, of_decide_eq_true c3, ?_⟩
  split at c4
  · rename_i g rest e
    have z := of_decide_eq_true c4
    subst z
    exact ⟨rest, e⟩
  · cases c4
theorem base_ok {K : PySem.W.Frag} {B I : String} (c : baseB B I K = true) : PySem.W.findCls K (.type B) (.type "type") "__init__" = some (.val (.builtin I)) := by
  unfold baseB at c
  split at c
  · rename_i x e
    rw [of_decide_eq_true c] at e
    exact e
  · cases c
theorem facts81 {P : Program} {w : World} {K : PySem.W.Frag} {h : Heap} {mg : Str → Option Value} {f : Addr} (X : K.In h) (G : h.Ns mainGlobals mg) (hfa : mg ("law" : Str) = some (.ref f)) (S : SaysX fb81 fn81 K)
    (PP : ∀ base : Heap, K.In base → base.Ns mainGlobals mg → ProfPart P w K mg base) :
    ∃ fd : FuncData, (∀ (s : Shared) (v : Value), BindsTo s fd ⟨[v], []⟩ [("_law_script", v)]) ∧ ∀ base : Heap, K.In base → base.Ns mainGlobals mg → FnOkG P w K mg base CX0 10 f fd ["_law_script"] (spLawG K) := by
  obtain ⟨fd_copied, F_copied⟩ := S.def_ 2
  have g_copied := He.glo_ok X G (S.at_ 2 (f := gloB "copied"))
  have b_copied := F_copied.binds (ps := ["value"]) fun _ _ _ _ _ _ us hl => match us, hl with | [_], _ => rfl
  obtain ⟨fd_items_of, F_items_of⟩ := S.def_ 3
  have g_items_of := He.glo_ok X G (S.at_ 3 (f := gloB "items_of"))
  have b_items_of := F_items_of.binds (ps := ["value"]) fun _ _ _ _ _ _ us hl => match us, hl with | [_], _ => rfl
  obtain ⟨fd_rebuilt, F_rebuilt⟩ := S.def_ 4
  have g_rebuilt := He.glo_ok X G (S.at_ 4 (f := gloB "rebuilt"))
  have b_rebuilt := F_rebuilt.binds (ps := ["value", "items"]) fun _ _ _ _ _ _ us hl => match us, hl with | [_, _], _ => rfl
  obtain ⟨fd_source, F_source⟩ := S.def_ 9
  have g_source := He.glo_ok X G (S.at_ 9 (f := gloB "_law_source"))
  have b_source := F_source.binds (ps := ["_law_script"]) fun _ _ _ _ _ _ us hl => match us, hl with | [_], _ => rfl
  obtain ⟨fd_draw, F_draw⟩ := S.def_ 10
  have g_draw := He.glo_ok X G (S.at_ 10 (f := gloB "_law_draw"))
  have b_draw := F_draw.binds (ps := ["_law_pen", "_law_many"]) fun _ _ _ _ _ _ us hl => match us, hl with | [_, _], _ => rfl
  obtain ⟨fd_pick, F_pick⟩ := S.def_ 11
  have g_pick := He.glo_ok X G (S.at_ 11 (f := gloB "_law_pick"))
  have b_pick := F_pick.binds (ps := ["_law_pen", "_law_items"]) fun _ _ _ _ _ _ us hl => match us, hl with | [_, _], _ => rfl
  obtain ⟨fd_shuffled, F_shuffled⟩ := S.def_ 12
  have g_shuffled := He.glo_ok X G (S.at_ 12 (f := gloB "_law_shuffled"))
  have b_shuffled := F_shuffled.binds (ps := ["_law_pen", "_law_items"]) fun _ _ _ _ _ _ us hl => match us, hl with | [_, _], _ => rfl
  obtain ⟨fd_word_list, F_word_list⟩ := S.def_ 13
  have g_word_list := He.glo_ok X G (S.at_ 13 (f := gloB "_law_word_list"))
  have b_word_list := F_word_list.binds (ps := ["_law_pen", "_law_many"]) fun _ _ _ _ _ _ us hl => match us, hl with | [_, _], _ => rfl
  obtain ⟨fd_levels, F_levels⟩ := S.def_ 14
  have g_levels := He.glo_ok X G (S.at_ 14 (f := gloB "_law_levels"))
  have b_levels := F_levels.binds (ps := ["_law_pen", "_law_words", "_law_levels_here"]) fun _ _ _ _ _ _ us hl => match us, hl with | [_, _, _], _ => rfl
  obtain ⟨fd_drawn_profile, F_drawn_profile⟩ := S.def_ 15
  have g_drawn_profile := He.glo_ok X G (S.at_ 15 (f := gloB "_law_drawn_profile"))
  have b_drawn_profile := F_drawn_profile.binds (ps := ["_law_pen", "_law_words"]) fun _ _ _ _ _ _ us hl => match us, hl with | [_, _], _ => rfl
  obtain ⟨fd_wrong, F_wrong⟩ := S.def_ 16
  have g_wrong := He.glo_ok X G (S.at_ 16 (f := gloB "_law_wrong"))
  have b_wrong := F_wrong.binds (ps := ["_law_finals", "_law_reads"]) fun _ _ _ _ _ _ us hl => match us, hl with | [_, _], _ => rfl
  obtain ⟨fd_bent_row, F_bent_row⟩ := S.def_ 17
  have g_bent_row := He.glo_ok X G (S.at_ 17 (f := gloB "_law_bent_row"))
  have b_bent_row := F_bent_row.binds (ps := ["_law_pen", "_law_row", "_law_levels_here"]) fun _ _ _ _ _ _ us hl => match us, hl with | [_, _, _], _ => rfl
  obtain ⟨fd_bent_outcomes, F_bent_outcomes⟩ := S.def_ 18
  have g_bent_outcomes := He.glo_ok X G (S.at_ 18 (f := gloB "_law_bent_outcomes"))
  have b_bent_outcomes := F_bent_outcomes.binds (ps := ["_law_pen", "_law_finals"]) fun _ _ _ _ _ _ us hl => match us, hl with | [_, _], _ => rfl
  obtain ⟨fd_law, F_law⟩ := S.def_ 19
  have b_law := F_law.binds (ps := ["_law_script"]) fun _ _ _ _ _ _ us hl => match us, hl with | [_], _ => rfl
  have e := hfa.symm.trans (He.glo_ok X G (S.at_ 19 (f := gloB "law")))
  cases e
  obtain ⟨fdIP, F_ip⟩ := S.def_ 20
  have Er := err_v X G (S.at_ 40 (f := errB "InvalidProfile" "value")) (S.at_ 51 (f := oexB "InvalidProfile"))
  refine ⟨fd_law, fun s v => ?_, fun base kin ns => ?_⟩
  · obtain ⟨oc, od, kV, doc, pm, an, cdv, ct, osl, e, lk, hcd⟩ := F_law.ex
    rw [e]
    exact .of_eq rfl
  obtain ⟨spI, spO, spR, spN, EO, ER, EN, CXO, CXR, CXN, fdI, fdO, fdR, fdN, ⟨I⟩, GI, bI, GO, bO, hO, GR, bR, hR, GN, bN, hN⟩ := (PP base kin ns).ex
  have gC := He.glo_ok X G (S.at_ 42 (f := gloB "Profile"))
  have cl := He.cls_ok (S.at_ 43 (f := clsB' "Profile"))
  have MK := He.mkr_ok (S.at_ 44 (f := mkrB "Profile"))
  have BR : BltR mg := ⟨He.free_ok X G (S.at_ 33 (f := freeB "repr")), He.free_ok X G (S.at_ 24 (f := freeB "isinstance")), He.free_ok X G (S.at_ 36 (f := freeB "ValueError"))⟩
  have BJ : BltJ mg := ⟨He.free_ok X G (S.at_ 28 (f := freeB "int")), He.free_ok X G (S.at_ 20 (f := freeB "len")), He.free_ok X G (S.at_ 21 (f := freeB "list")), He.free_ok X G (S.at_ 23 (f := freeB "dict")), He.free_ok X G (S.at_ 26 (f := freeB "range")), He.free_ok X G (S.at_ 33 (f := freeB "repr")), He.free_ok X G (S.at_ 32 (f := freeB "min"))⟩
  have GW := ok_wrong (P := P) (w := w) (base := base) F_wrong MK gC GI bI Er.gC (of_decide_eq_true (S.at_ 41 (f := exmB "InvalidProfile" "InvalidProfile" true))) Er.ox.xc Er.xf Er.no Er.kit I BR
  exact ok_law81 F_law F_source g_source b_source F_draw g_draw b_draw F_pick g_pick b_pick F_levels g_levels b_levels F_shuffled g_shuffled b_shuffled F_word_list g_word_list b_word_list F_drawn_profile g_drawn_profile b_drawn_profile F_bent_row g_bent_row b_bent_row F_bent_outcomes g_bent_outcomes b_bent_outcomes
    GW F_wrong.kp g_wrong b_wrong MK gC (GI.mono (by decide)) bI cl (prop_ok (S.at_ 48 (f := propB "Profile" "outcomes"))) GO bO (prop_ok (S.at_ 49 (f := propB "Profile" "reads"))) GR bR (prop_ok (S.at_ 50 (f := propB "Profile" "names"))) GN bN
    (fun _ _ _ _ _ _ => passL) (fun _ _ _ _ _ _ => hO _) (fun _ _ _ _ _ _ => hR _) (fun _ _ _ _ _ _ => hN _) I BJ
theorem walk81 {q : Program} {loose : List Str} {d : DefRec} (hdf : d.params.defaults = []) (hn : d.name = ("law" : Str))
    (PP : ∀ (w : World) (K : PySem.W.Frag) (h : Heap) (mg : Str → Option Value) (base : Heap), K.In h → h.Ns mainGlobals mg → SaysX fb81 fn81 K → K.In base → base.Ns mainGlobals mg → ProfPart PySem.Challenge.rw_surelyset_k81_profiles_refused.prog w K mg base) :
    PySem.W.WalkO q loose (PySem.W.XL q []) (hookX 4 seeds81 fb81 fn81).says PySem.Challenge.rw_surelyset_k81_profiles_refused.row.toRowW d [] (fun f vs => PySem.call f vs) := by
  refine _root_.Att.attach_call (n := 63) rfl hdf fun w s₀ s₁ mg mb fa o pm cd doc a vs ns G Y ho hd hcd hmg hobj hints hlen hg => ?_
  obtain ⟨K, KX, S⟩ := Y
  rw [hn] at hmg
  obtain ⟨fd, hb, hF⟩ := facts81 (P := PySem.Challenge.rw_surelyset_k81_profiles_refused.prog) (w := w) KX G.T.g hmg S fun base kin ns => PP w K _ mg base KX G.T.g S kin ns
  exact told_of (by decide) hF hb KX G.T.g G.T.b G.T.builtins G.T.nolimit hg hobj hints hlen
end KF
end L2
end
/-! ### PProf -/
section
namespace L2
namespace KF
open PySem PySem.Spec PyProof.Rows PySem.KD KE KC PySem.KA KM TL KS KH
def PartOk (P : Program) (w : World) (K : PySem.W.Frag) (mg : Str → Option Value) (base : Heap) : Prop :=
  ∃ (fdI fdO fdR fdN : FuncData), FnOk P w K mg base (L2.CX P w) 6 (He.ma K (He.ga K "Profile") "__init__") fdI ["self", "outcomes", "reads"] (spInit w (He.ga K "Profile") (He.ga K "InvalidProfile")) ∧ Binds K fdI ["self", "outcomes", "reads"] [] ∧
    FnOk P w K mg base CX0 7 (prG K "Profile" "outcomes") fdO ["self"] (spOut w (He.ga K "Profile")) ∧ Binds K fdO ["self"] [] ∧
    FnOk P w K mg base CX0 7 (prG K "Profile" "reads") fdR ["self"] (spRds w (He.ga K "Profile")) ∧ Binds K fdR ["self"] [] ∧
    FnOk P w K mg base CX0 7 (prG K "Profile" "names") fdN ["self"] (spNms w (He.ga K "Profile")) ∧ Binds K fdN ["self"] []
theorem part81 {P : Program} {w : World} {K : PySem.W.Frag} {h : Heap} {mg : Str → Option Value} {base : Heap} (X : K.In h) (G : h.Ns mainGlobals mg) (S : SaysX fb81 fn81 K) : PartOk P w K mg base := by
  obtain ⟨fd_copied, F_copied⟩ := S.def_ 2
  have g_copied := He.glo_ok X G (S.at_ 2 (f := gloB "copied"))
  have b_copied := F_copied.binds (ps := ["value"]) fun _ _ _ _ _ _ us hl => match us, hl with | [_], _ => rfl
  obtain ⟨fd_items_of, F_items_of⟩ := S.def_ 3
  have g_items_of := He.glo_ok X G (S.at_ 3 (f := gloB "items_of"))
  have b_items_of := F_items_of.binds (ps := ["value"]) fun _ _ _ _ _ _ us hl => match us, hl with | [_], _ => rfl
  obtain ⟨fd_rebuilt, F_rebuilt⟩ := S.def_ 4
  have g_rebuilt := He.glo_ok X G (S.at_ 4 (f := gloB "rebuilt"))
  have b_rebuilt := F_rebuilt.binds (ps := ["value", "items"]) fun _ _ _ _ _ _ us hl => match us, hl with | [_, _], _ => rfl
  obtain ⟨fd_has_word_form, F_has_word_form⟩ := S.def_ 0
  have g_has_word_form := He.glo_ok X G (S.at_ 0 (f := gloB "has_word_form"))
  have b_has_word_form := F_has_word_form.binds (ps := ["value"]) fun _ _ _ _ _ _ us hl => match us, hl with | [_], _ => rfl
  obtain ⟨fd_is_outcome, F_is_outcome⟩ := S.def_ 1
  have g_is_outcome := He.glo_ok X G (S.at_ 1 (f := gloB "is_outcome"))
  have b_is_outcome := F_is_outcome.binds (ps := ["value"]) fun _ _ _ _ _ _ us hl => match us, hl with | [_], _ => rfl
  obtain ⟨fd_is_table, F_is_table⟩ := S.def_ 8
  have g_is_table := He.glo_ok X G (S.at_ 8 (f := gloB "is_table"))
  have b_is_table := F_is_table.binds (ps := ["value", "levels"]) fun _ _ _ _ _ _ us hl => match us, hl with | [_, _], _ => rfl
  obtain ⟨fd_are_outcomes, F_are_outcomes⟩ := S.def_ 6
  have g_are_outcomes := He.glo_ok X G (S.at_ 6 (f := gloB "are_outcomes"))
  have b_are_outcomes := F_are_outcomes.binds (ps := ["value"]) fun _ _ _ _ _ _ us hl => match us, hl with | [_], _ => rfl
  obtain ⟨fd_are_reads, F_are_reads⟩ := S.def_ 7
  have g_are_reads := He.glo_ok X G (S.at_ 7 (f := gloB "are_reads"))
  have b_are_reads := F_are_reads.binds (ps := ["value", "outcomes"]) fun _ _ _ _ _ _ us hl => match us, hl with | [_, _], _ => rfl
  obtain ⟨fd_ordered, F_ordered⟩ := S.def_ 5
  have g_ordered := He.glo_ok X G (S.at_ 5 (f := gloB "ordered"))
  have b_ordered := F_ordered.binds (ps := ["table"]) fun _ _ _ _ _ _ us hl => match us, hl with | [_], _ => rfl
  obtain ⟨fd_ip, F_ip⟩ := S.def_ 20
  have b_ip := F_ip.binds (ps := ["self", "value"]) fun _ _ _ _ _ _ us hl => match us, hl with | [_, _], _ => rfl
  obtain ⟨fd_in, F_in⟩ := S.def_ 21
  have b_in := F_in.binds (ps := ["self", "outcomes", "reads"]) fun _ _ _ _ _ _ us hl => match us, hl with | [_, _, _], _ => rfl
  obtain ⟨fd_out, F_out⟩ := S.def_ 22
  have b_out := F_out.binds (ps := ["self"]) fun _ _ _ _ _ _ us hl => match us, hl with | [_], _ => rfl
  obtain ⟨fd_rds, F_rds⟩ := S.def_ 23
  have b_rds := F_rds.binds (ps := ["self"]) fun _ _ _ _ _ _ us hl => match us, hl with | [_], _ => rfl
  obtain ⟨fd_nms, F_nms⟩ := S.def_ 24
  have b_nms := F_nms.binds (ps := ["self"]) fun _ _ _ _ _ _ us hl => match us, hl with | [_], _ => rfl
  have Er := err_v X G (S.at_ 40 (f := errB "InvalidProfile" "value")) (S.at_ 51 (f := oexB "InvalidProfile"))
  have cl := He.cls_ok (S.at_ 43 (f := clsB' "Profile"))
  have n_names := He.noat_ok (S.at_ 45 (f := noatB "Profile" "_names"))
  have n_outcomes := He.noat_ok (S.at_ 46 (f := noatB "Profile" "_outcomes"))
  have n_reads := He.noat_ok (S.at_ 47 (f := noatB "Profile" "_reads"))
  have B0 : Blt mg := ⟨He.free_ok X G (S.at_ 20 (f := freeB "len")), He.free_ok X G (S.at_ 21 (f := freeB "list")), He.free_ok X G (S.at_ 22 (f := freeB "tuple")), He.free_ok X G (S.at_ 23 (f := freeB "dict")), He.free_ok X G (S.at_ 24 (f := freeB "isinstance")), He.free_ok X G (S.at_ 25 (f := freeB "zip")), He.free_ok X G (S.at_ 26 (f := freeB "range")), He.free_ok X G (S.at_ 27 (f := freeB "reversed"))⟩
  have BI : BltI mg := ⟨He.free_ok X G (S.at_ 24 (f := freeB "isinstance")), He.free_ok X G (S.at_ 28 (f := freeB "int")), He.free_ok X G (S.at_ 30 (f := freeB "bool")), He.free_ok X G (S.at_ 29 (f := freeB "str")), He.free_ok X G (S.at_ 21 (f := freeB "list")), He.free_ok X G (S.at_ 22 (f := freeB "tuple")), He.free_ok X G (S.at_ 20 (f := freeB "len")), He.free_ok X G (S.at_ 31 (f := freeB "all")), He.str_ok X G (S.at_ 37 (f := strB "LETTERS" "abcdefghijklmnopqrstuvwxyz")), He.int_ok X G (S.at_ 38 (f := intB "MAX_LETTERS" 8))⟩
  have BC : BltC mg := ⟨BI, He.free_ok X G (S.at_ 23 (f := freeB "dict"))⟩
  have BO : BltO K mg := ⟨BC, He.free_ok X G (S.at_ 34 (f := freeB "set")), tup_ok X G (S.at_ 52 (f := tupB "END_LEVELS" endL))⟩
  have BA : BltA K mg := ⟨BO, tup_ok X G (S.at_ 53 (f := tupB "READ_LEVELS" readL))⟩
  have BS : BltS mg := ⟨He.free_ok X G (S.at_ 34 (f := freeB "set")), He.free_ok X G (S.at_ 35 (f := freeB "sorted"))⟩
  have BP : BltP mg := ⟨BS, He.free_ok X G (S.at_ 22 (f := freeB "tuple"))⟩
  have GC : FnOk P w K mg base CX0 2 _ fd_copied ["value"] (spCopied w) := ok_copied F_copied F_items_of F_rebuilt B0 g_items_of g_rebuilt b_items_of b_rebuilt
  have GIP : FnOk P w K mg base CX0 3 _ fd_ip ["self", "value"] (spErr w (He.ga K "InvalidProfile") "value") := ok_ip GC F_copied.kp b_copied g_copied (He.free_ok X G (S.at_ 36 (f := freeB "ValueError"))) (baseB_ok (S.at_ 39 (f := baseB "ValueError" "ValueError.__init__"))) Er F_ip
  have GAO : FnOk P w K mg base CX0 3 _ fd_are_outcomes ["value"] (spData w finD) := ok_ao F_are_outcomes F_has_word_form g_has_word_form b_has_word_form F_is_outcome g_is_outcome b_is_outcome F_is_table g_is_table b_is_table BO
  have GAR : FnOk P w K mg base CX0 3 _ fd_are_reads ["value", "outcomes"] (spAR w) := ok_ar F_are_reads F_has_word_form g_has_word_form b_has_word_form F_is_table g_is_table b_is_table BA
  have GOR : FnOk P w K mg base CX0 1 _ fd_ordered ["table"] (spOrd w) := ok_ord F_ordered BS
  exact ⟨fd_in, fd_out, fd_rds, fd_nms, ok_init F_in GAO F_are_outcomes.kp g_are_outcomes b_are_outcomes GAR F_are_reads.kp g_are_reads b_are_reads GOR F_ordered.kp g_ordered b_ordered Er GIP b_ip cl n_names n_outcomes n_reads BP, b_in,
    ok_out F_out cl n_outcomes (He.free_ok X G (S.at_ 23 (f := freeB "dict"))), b_out, ok_rds F_rds cl n_reads (He.free_ok X G (S.at_ 23 (f := freeB "dict"))), b_rds, ok_nms F_nms cl n_names, b_nms⟩
end KF
end L2
end
/-! ### PFin -/
section
set_option maxHeartbeats 0
open PySem PySem.W PySem.Calls PyProof.Rows
theorem k81_prof (w : World) (K : PySem.W.Frag) (h : Heap) (mg : Str → Option Value) (base : Heap) (X : K.In h) (G : h.Ns mainGlobals mg) (S : L2.KH.SaysX L2.KF.fb81 L2.KF.fn81 K) (_ : K.In base) (_ : base.Ns mainGlobals mg) : L2.KF.ProfPart PySem.Challenge.rw_surelyset_k81_profiles_refused.prog w K mg base := by
  obtain ⟨fdI, fdO, fdR, fdN, GI, bI, GO, bO, GR, bR, GN, bN⟩ := L2.KF.part81 (P := PySem.Challenge.rw_surelyset_k81_profiles_refused.prog) (w := w) (base := base) X G S
  exact ⟨_, _, _, _, L2.E0, L2.E0, L2.E0, L2.CX0, L2.CX0, L2.CX0, fdI, fdO, fdR, fdN, ⟨L2.KF.profI w _ _⟩, GI, bI, GO, bO, fun _ => L2.pass0, GR, bR, fun _ => L2.pass0, GN, bN, fun _ => L2.pass0⟩
theorem PySem.Challenge.cw_surelyset_k81_profiles_refused_holds : PySem.Challenge.rw_surelyset_k81_profiles_refused.Holds := by
  w_on; o_law
  refine HandSHeadRun.head_any (r := L2.KF.R81) (q := L2.KF.q81) (H := L2.KH.hookX 4 L2.KF.seeds81 L2.KF.fb81 L2.KF.fn81) (ob := L2.KF.ob81) (M := 12000) (loose := L2.KF.names81) (d := HandSHeadRun.topDef L2.KF.R81.prog 36) (kwd := []) L2.KF.ob81_eq
    (by kernel_rfl) (fun s => by kernel_rfl) L2.KF.run81 (by kernel_rfl) (by kernel_rfl) (by kernel_rfl) (by rfl) (by first | assumption | decide +kernel) (by decide +kernel) ⟨rfl, rfl, rfl, rfl, rfl, by decide +kernel⟩ ?hw ?hc
  case hw => w_witness2
  case hc => exact L2.KF.walk81 (by kernel_rfl) (by kernel_rfl) k81_prof
end
