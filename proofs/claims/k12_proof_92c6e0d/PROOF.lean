import PyProof.Rows.All
import Wide.All
import OpenK.AllK
import Wide.FinOn
import PySem.Challenge.RW_surelyset_k12_errors_and_limits
import HandS.ForMost
import HandS.ExcInit
import HandS.MakeKw
import HandS.Defaults
import HandS.ExcIs
import KE.KExcInit
import KE.KeyNested
import KE.KDictCopyH
import KE.KDictPairs
import KE.KDictWalk
import HandS.Walk
import HandS.Conv
import HandS.ListItems
import HandS.DictComp
import PyProof.ReprRoads
import HandS.IsInst
import HandS.WordsExc
import HandS.RevRange
import HandS.Iter
import PyProof.ReprLen
import PyProof.StrOps2
import HandS.Ends
import HandS.EndBits
set_option Elab.async false
set_option linter.all false
set_option maxRecDepth 100000
set_option maxHeartbeats 4000000
/-! ### KA -/
namespace PySem
namespace KA
open PySem.W
/-! ## own exception classes over any built-in base: what is asked of the base -/
structure EB (nB newId iB initId : String) (bm : List Value) : Prop where
  neu : ∃ iN bmN, ExcBaseFacts nB newId iN bmN
  hasN : bm.contains (.type nB) = true
  noA : bm.contains (.type "AttributeError") = false
  noN : bm.contains (.type "NameError") = false
  hasI : bm.contains (.type iB) = true
  hasX : bm.contains (.type "BaseException") = true
  iKind : builtinKind initId = some .slot
  iSplit : splitId initId = some (iB, "__init__")
  iRow : Manifest.signature? initId = some ⟨.positional, "*", iB, .self, [⟨"args", .varPos, false⟩]⟩
  iStar : (iB != "*") = true
  iEntry : entryFor table initId = some Builtin.«BaseException.__init__»
  iPlain : plainId initId = true
section
variable {prog : Program} {w : World} {M : Model} {A : Around} {E : Value → Shared → Prop} {R : Result → Shared → Prop} {h : Heap} {g : Array GenState} {d : Drawn} {t : Nat} {os : OsState}
variable {kw : List (Str × Value)} {nm q : Str} {C N : Addr} {bs bc bm : List Value} {hdct : Bool} {sn : List Str} {sub : List Value} {ab : Bool} {col : Option Bool} {dd : Option Addr} {k0 k1 k2 k3 k5 : Option Value} {nB newId iB initId : String}
theorem chkNew (hk : kw = [] ∨ ∃ kn kv, kw = [(kn, kv)]) (F : EB nB newId iB initId bm) (same : ∀ T : String, bc.contains (.type T) = bm.contains (.type T))
    {more : List Value} {Q : Unit → Shared → Prop} (cl : h.get? C = some (excClassObj nm q C N bs bc hdct sn sub ab col dd k0 k1 k2 k3 k5 newId)) (z : Q () ⟨h, g, d, t, os⟩) :
    wpAny M A (checkBuiltinCall newId ⟨.ref C :: more, kw⟩) Q E ⟨h, g, d, t, os⟩ := by
  obtain ⟨iN, bmN, G⟩ := F.neu
  have own : (Value.ref C :: bc).contains (.type nB) = true := by
    rw [List.contains_cons, same, F.hasN, Bool.or_true]
  have st := G.noStar
  rcases hk with rfl | ⟨kn, kv, rfl⟩
  all_goals
   simp only [checkBuiltinCall, G.newKind, G.newSplit, G.newRow]
   repeat (first | refine wpAny_loadPart_at cl ?_ | (refine wpAny_isSubtype_exc cl ?_; rw [own]) | refine wpAny_staticBase_exc cl ?_ | refine wpAny_madeBy_exc cl ?_ | simp only [bne_self_eq_false, Bool.false_eq_true, if_false] | wp_step)
   exact z
theorem chkInit (F : EB nB newId iB initId bm) (same : ∀ T : String, bc.contains (.type T) = bm.contains (.type T)) {x : Addr} {ox : Obj}
    {more : List Value} {Q : Unit → Shared → Prop} (cl : h.get? C = some (excClassObj nm q C N bs bc hdct sn sub ab col dd k0 k1 k2 k3 k5 newId)) (hx : h.get? x = some ox) (hc : ox.cls = .ref C) (z : Q () ⟨h, g, d, t, os⟩) :
    wpAny M A (checkBuiltinCall initId ⟨.ref x :: more, []⟩) Q E ⟨h, g, d, t, os⟩ := by
  have own : (Value.ref C :: bc).contains (.type iB) = true := by
    rw [List.contains_cons, same, F.hasI, Bool.or_true]
  have st := F.iStar
  simp only [checkBuiltinCall, F.iKind, F.iSplit, F.iRow]
  repeat (first | (with_reducible refine wpAny_loadPart_at hx ?_; rw [hc]) | with_reducible refine wpAny_loadPart_at cl ?_ | (with_reducible refine wpAny_isSubtype_exc cl ?_; rw [own]) | wp_step)
  refine wpAny_onRaise ?_
  rw [show ∀ (u v : String) (n : Nat), Bind.check ⟨.positional, "*", iB, .self, [⟨"args", .varPos, false⟩]⟩ u v n (List.map (fun y => y.fst) ({ pos := Value.ref x :: more } : Args).kw) = pure () from
    fun u v n => check_star_args _ _ _ _ _ _]
  exact wpAny_pure z
theorem newAt (F : EB nB newId iB initId bm) (same : ∀ T : String, bc.contains (.type T) = bm.contains (.type T)) {more : List Value}
    (cl : h.get? C = some (excClassObj nm q C N bs bc hdct sn sub ab col dd k0 k1 k2 k3 k5 newId)) (len : more.length ≤ sizeLine)
    (z : R (.ok (.ret (.ref (h.objs.size + 1)))) ⟨(h.push { cls := .type "tuple", data := .seq more.toArray }).push { cls := .ref C, data := .fields #[.ref h.objs.size, .none, .none, .none, .bool false, .none] }, g, d, t, os⟩) :
    codeAny (model prog w) A (.builtin newId ⟨.ref C :: more, kw⟩) R ⟨h, g, d, t, os⟩ := by
  obtain ⟨iN, bmN, G⟩ := F.neu
  have he := G.ends
  have c1 : (Value.ref C :: bc).contains (.type nB) = true := by
    rw [List.contains_cons, same, F.hasN, Bool.or_true]
  have c2 : (Value.ref C :: bc).contains (.type "AttributeError") = false := by
    rw [List.contains_cons, same, F.noA]
    rfl
  have c3 : (Value.ref C :: bc).contains (.type "NameError") = false := by
    rw [List.contains_cons, same, F.noN]
    rfl
  refine codeAny_builtinAt G.entry ?_
  unfold Builtin.«BaseException.__new__»
  refine wpAt_bind ?_
  show wpAt _ _ _ (stack >>= _) _ _ _
  refine wpAt_bind (wpAt_stack fun _ _ => wpAt_of_wpAny ?_)
  wp_walk
  refine wpAt_of_wpAny ?_
  rw [G.owner]
  repeat (first | with_reducible refine wpAny_madeHere_exc G.canon cl ?_ | with_reducible refine wpAny_loadPart_at cl ?_ | (with_reducible refine wpAny_isSubtype_exc cl ?_; first | rw [c1] | rw [c2] | rw [c3]) | wp_step)
  show R _ _
  rw [Heap.size_push]
  exact z
theorem typeCall (hk : kw = [] ∨ ∃ kn kv, kw = [(kn, kv)]) (F : EB nB newId iB initId bm) (same : ∀ T : String, bc.contains (.type T) = bm.contains (.type T)) {more : List Value} {fI : Addr} {Q : Fin → Shared → Prop}
    (cl : h.get? C = some (excClassObj nm q C N bs bc hdct sn sub ab col dd k0 k1 k2 k3 k5 newId)) (len : more.length ≤ sizeLine)
    (hi : Looks (model prog w) h (typeLookup (.ref C) "__init__") (some (.ref fI))) (hb : ∀ self, Looks (model prog w) h (bindSpecial (.ref fI) self) (.ref fI, [self]))
    (z : codeAny (model prog w) A (.call (.ref fI) ⟨.ref (h.objs.size + 1) :: more, kw⟩)
      (fun r s' => match r with
        | .ok (.ret v) => v = .none ∧ Q (.done (.ret (.ref (h.objs.size + 1)))) s'
        | .ok _ => False
        | .error e => E e s')
      ⟨(h.push (kdv_tup more)).push (PySem.HandSPX.excO C h.objs.size), g, d, t, os⟩) :
    wpAny (model prog w) A (Builtin.«type.__call__» ⟨.ref C :: more, kw⟩) Q E ⟨h, g, d, t, os⟩ := by
  obtain ⟨iN, bmN, G⟩ := F.neu
  repeat (first | with_reducible refine wpAny_loadPart_at cl ?_ | with_reducible refine wpAny_madeBy_exc cl ?_ | wp_step)
  refine codeAny_call_builtin_code (Code.quiet_builtin _ G.quiet) (chkNew hk F same cl ?_)
  refine newAt F same cl len ?_
  show wpAny _ _ _ _ _ _
  have kp : ∀ b o, h.get? b = some o → ((h.push (kdv_tup more)).push (PySem.HandSPX.excO C h.objs.size)).get? b = some o := fun _ _ e => Heap.get?_push_of_some _ (Heap.get?_push_of_some _ e)
  have cl2 := kp _ _ cl
  have hx : ((h.push (kdv_tup more)).push (PySem.HandSPX.excO C h.objs.size)).get? (h.objs.size + 1) = some (PySem.HandSPX.excO C h.objs.size) := by heap_get
  have own : (Value.ref C :: bc).contains (.ref C) = true := by simp
  have hi2 := hi.keeps kp
  have hb2 := (hb (.ref (h.objs.size + 1))).keeps kp
  unfold isInstance
  repeat (first | with_reducible refine wpAny_loadPart_at hx ?_ | (with_reducible refine wpAny_isSubtype_exc cl2 ?_; rw [own]) | wp_step)
  show wpAny _ _ (typeLookup (.ref C) _) _ _ _
  refine hi2.at (wpAny_holding (wpAny_bind (hb2.at ?_)))
  refine wpAny_bind (wpAny_call (codeAny_mono z fun r s' y => ?_))
  rcases r with e | (v | _ | _ | _) <;> first | exact y | exact y.elim | skip
  obtain ⟨rfl, y⟩ := y
  first
    | exact wpAny_pure (wpAny_pure y)
    | (wp_walk; exact y)
theorem callOwn (hk : kw = [] ∨ ∃ kn kv, kw = [(kn, kv)]) (F : EB nB newId iB initId bm) (same : ∀ T : String, bc.contains (.type T) = bm.contains (.type T)) {more : List Value} {fI : Addr}
    (cl : h.get? C = some (excClassObj nm q C N bs bc hdct sn sub ab col dd k0 k1 k2 k3 k5 newId)) (len : more.length ≤ sizeLine)
    (hi : Looks (model prog w) h (typeLookup (.ref C) "__init__") (some (.ref fI))) (hb : ∀ self, Looks (model prog w) h (bindSpecial (.ref fI) self) (.ref fI, [self]))
    (z : codeAny (model prog w) (A.under (.builtin "type.__call__" ⟨.ref C :: more, kw⟩)) (.call (.ref fI) ⟨.ref (h.objs.size + 1) :: more, kw⟩) (InitBack (h.objs.size + 1) R)
      ⟨(h.push (kdv_tup more)).push (PySem.HandSPX.excO C h.objs.size), g, d, t, os⟩) :
    codeAny (model prog w) A (.call (.ref C) ⟨more, kw⟩) R ⟨h, g, d, t, os⟩ := by
  have f1 := tc_lookup
  have f2 := tc_bind (.ref C)
  have ty : (⟨h, g, d, t, os⟩ : Shared).TypeIs (.ref C) "type" := ⟨_, cl, rfl⟩
  refine codeAny_of_tree ?_
  show wpAny _ _ (callAny (.ref C) _) _ _ _
  repeat (any_goals (first | assumption | with_reducible refine wpAny_loadPart_at cl ?_ | wp_step))
  refine ⟨rfl, ?_⟩
  refine codeAny_call_builtin_at (Code.quiet_builtin _ (by decide +kernel)) entry_typeCall (wpAny_check_type_call_sub cl (typeCall hk F same cl len hi hb ?_))
  refine codeAny_mono z fun r s' y => ?_
  rcases r with e | (v | _ | _ | _) <;> exact y
theorem initAt (F : EB nB newId iB initId bm) (same : ∀ T : String, bc.contains (.type T) = bm.contains (.type T)) {x t0 : Addr} {more : List Value}
    (cl : h.get? C = some (excClassObj nm q C N bs bc hdct sn sub ab col dd k0 k1 k2 k3 k5 newId)) (hx : h.get? x = some (PySem.HandSPX.excO C t0)) (len : more.length ≤ sizeLine)
    (z : ∀ h' t1, (∀ b o, b ≠ x → h.get? b = some o → h'.get? b = some o) → h'.get? x = some (PySem.HandSPX.excO C t1) → R (.ok (.ret .none)) ⟨h', g, d, t, os⟩) :
    codeAny (model prog w) A (.call (.builtin initId) ⟨.ref x :: more, []⟩) R ⟨h, g, d, t, os⟩ := by
  refine codeAny_call_builtin F.iPlain F.iEntry (chkInit F same cl hx rfl ?_)
  wp_walk
  refine z _ h.objs.size (fun b o ne ho => ?_) ?_
  · rw [Heap.get?_update_other _ _ (Ne.symm ne)]
    exact Heap.get?_push_of_some _ ho
  · rw [Heap.get?_update_self _ (Heap.get?_push_of_some _ hx) rfl]
    rfl
end
end KA
end PySem
/-! ### KB -/
namespace PySem
namespace KA
open PySem.W PyProof.Rows
theorem storeKey : StoreFacts "KeyError" [.type "KeyError", .type "LookupError", .type "Exception", .type "BaseException", .type "object"] "object.__setattr__" "object" where
  mro := by kernel_rfl
  slot := .of (owner := "object") (n := "__setattr__") (by
      rw [typeLookup_type, builtinLookup_eq_fast]
      kernel_rfl) (by decide +kernel) (by decide +kernel) (by decide +kernel)
    (by first
        | exact .inl (by decide +kernel)
        | exact .inr (by decide +kernel)) (by
      rw [isSubtype_type]
      kernel_rfl)
  entry := F.store_ValueError.entry
  kind := F.store_ValueError.kind
  split := F.store_ValueError.split
  hasOwner := by decide +kernel
  args := F.store_ValueError.args
  passes := fun _ => by kernel_rfl
abbrev vTail : List Value := [.type "ValueError", .type "Exception", .type "BaseException", .type "object"]
abbrev kTail : List Value := [.type "KeyError", .type "LookupError", .type "Exception", .type "BaseException", .type "object"]
abbrev iTail : List Value := [.type "IndexError", .type "LookupError", .type "Exception", .type "BaseException", .type "object"]
abbrev oTail : List Value := [.type "OverflowError", .type "ArithmeticError", .type "Exception", .type "BaseException", .type "object"]
abbrev rTail : List Value := [.type "RuntimeError", .type "Exception", .type "BaseException", .type "object"]
theorem EB.of {B newId initId : String} {bm : List Value} (F : ExcBaseFacts B newId initId bm) : EB B newId B initId bm where
  neu := ⟨_, _, F⟩
  hasN := F.hasB
  noA := F.noAttr
  noN := F.noName
  hasI := F.hasB
  hasX := F.hasBase
  iKind := F.initKind
  iSplit := F.initSplit
  iRow := F.initRow
  iStar := F.noStar
  iEntry := F.initEntry
  iPlain := F.init.plain
theorem ebV : EB "ValueError" "ValueError.__new__" "ValueError" "ValueError.__init__" vTail := .of F.excBase_ValueError
theorem ebI : EB "IndexError" "IndexError.__new__" "IndexError" "IndexError.__init__" iTail := .of F.excBase_IndexError
theorem ebO : EB "OverflowError" "OverflowError.__new__" "OverflowError" "OverflowError.__init__" oTail := .of F.excBase_OverflowError
theorem ebR : EB "RuntimeError" "RuntimeError.__new__" "RuntimeError" "RuntimeError.__init__" rTail := .of F.excBase_RuntimeError
theorem ebK : EB "LookupError" "LookupError.__new__" "KeyError" "KeyError.__init__" kTail where
  neu := ⟨_, _, F.excBase_LookupError⟩
  hasN := by decide +kernel
  noA := by decide +kernel
  noN := by decide +kernel
  hasI := by decide +kernel
  hasX := by decide +kernel
  iKind := excClass_KeyError.initKind
  iSplit := excClass_KeyError.initSplit
  iRow := excClass_KeyError.initSig
  iStar := excClass_KeyError.notStar
  iEntry := excClass_KeyError.initEntry
  iPlain := excClass_KeyError.init.plain
theorem stR : StoreFacts "RuntimeError" rTail "object.__setattr__" "object" := F.store_RuntimeError
theorem stV : StoreFacts "ValueError" vTail "object.__setattr__" "object" := F.store_ValueError
theorem stI : StoreFacts "IndexError" iTail "object.__setattr__" "object" := F.store_IndexError
theorem stO : StoreFacts "OverflowError" oTail "object.__setattr__" "object" := F.store_OverflowError

/-! ### isinstance of such an exception, with its own dict or without -/
section
open Builtin Builtin.ObjectAttr
variable {prog : Program} {w : World} {A : Around} {E : Value → Shared → Prop} {s : Shared} {K : Frag} {x D : Addr} {ox : Obj} {od : Option Obj}
theorem dataFound {C : Addr} {name : Str} {a g : Value} (hc : (clsIn K C).isSome = true) (ha : findIn K (.ref C) name = some (some a)) (hg : specialIn K a "__get__" = some (some g)) (ht : takesIn K a = some true) :
    findObj K C od name = some (.bind g a) := by
  obtain ⟨cd, hcd⟩ := Option.isSome_iff_exists.mp hc
  simp [findObj, hcd, ha, hg, ht]
theorem classOf {Q : Option Value → Shared → Prop} (C : L2.ExcC K D) (X : K.In s.heap) (I : InstAt s.heap x ox D od) (z : Q (some (.ref D)) { s with toks := s.toks + 1 }) :
    wpAny (model prog w) A (getAttr? (.ref x) "__class__") Q E s := by
  have fnd : findObj K D od "__class__" = some (.bind (.builtin "getset_descriptor.__get__") (.builtin "object.__class__")) := by
    refine dataFound ?_ C.ha C.hn C.ht
    obtain ⟨cd, hc, _⟩ := any_some C.hd
    rw [hc]
    rfl
  obtain ⟨hp, g, d, t, os⟩ := s
  have a0 := I.type (M := model prog w)
  have a1 := looks_findIn (M := model prog w) X C.hg
  have a2 := looks_findIn (M := model prog w) X C.hk
  have a3 := looks_find (M := model prog w) X I fnd
  have isB : Looks (model prog w) hp (isInstance (.ref x) (.type "BaseException")) true := a0.andThen (looks_subIn X C.hs)
  have e2 : (Value.builtin "BaseException.__getattribute__" == Value.builtin "object.__getattribute__") = false := by decide +kernel
  have e1 : (onTheHeap (Value.ref D) && Value.builtin "BaseException.__getattribute__" == Value.builtin "object.__getattribute__") = false := by
    rw [e2]
    rfl
  have e0 : (false && onTheHeap (Value.builtin "BaseException.__getattribute__")) = false := rfl
  unfold getAttr? getAttrBy? getAttrBy
  refine wpAny_bind (wpAny_mkText (wpAny_bind (wpAny_attempt (wpAny_holding (wpAny_bind (a0.at (wpAny_bind (a1.at ?_))))))))
  show wpAny _ _ (if (onTheHeap (Value.ref D) && Value.builtin "BaseException.__getattribute__" == Value.builtin "object.__getattribute__") = true then _ else _) _ _ _
  rw [e1, if_neg Bool.false_ne_true]
  unfold getAttrByItsOwn hookBefore
  refine wpAny_bind ?_
  rw [if_pos (show onTheHeap (Value.ref D) = true from rfl)]
  refine a2.at (wpAny_bind (wpAny_attempt (wpAny_holding ?_)))
  unfold callGetattribute
  rw [e0, if_neg Bool.false_ne_true]
  unfold boundAndCalled
  rw [F.excAttr_ValueError.ga.bind (.ref x)]
  refine wpAny_bind (wpAny_pure ?_)
  show wpAny _ _ (call (.builtin "BaseException.__getattribute__") [.ref x, .str "__class__" t]) _ _ _
  refine wpAny_call (codeAny_call_builtin F.excAttr_ValueError.ga.plain F.entry_bexc_ga ?_)
  refine @check_slot (model prog w) _ _ ⟨hp, g, d, t + 1, os⟩ "BaseException.__getattribute__" "BaseException" "__getattribute__" (.ref x) [.str "__class__" t] [] _ (by decide +kernel) (by decide +kernel) isB (F.args_bexc_ga (.ref x) (.str "__class__" t)) ?_
  unfold Builtin.«object.__getattribute__»
  refine wpAny_bind (wpAny_of_eq (a := ((Value.ref x : Value), [Value.str "__class__" t])) (by first
    | rfl
    | (simp only [slotArgs]; rfl)) ?_)
  refine wpAny_bind (wpAny_pure (wpAny_bind (a0.at (wpAny_bind (a3.at ?_)))))
  show wpAny _ _ (holding [Value.builtin "object.__class__"] (call (.builtin "getset_descriptor.__get__") [.builtin "object.__class__", .ref x, .ref D]) >>= ret) _ _ _
  refine wpAny_bind (wpAny_holding (wpAny_call (class_get (s := ⟨hp, g, d, t + 1, os⟩) (ox := ox) (od := od) X I C.hm ?_)))
  refine wpAny_pure ?_
  show wpAny _ _ (handedOut (.ref D)) _ _ _
  rw [handedOut_of (v := .ref D) rfl]
  first
    | exact wpAny_pure (wpAny_pure z)
    | exact wpAny_pure z
    | exact wpAny_pure (wpAny_bind (wpAny_pure (wpAny_pure z)))
theorem kitE (C : L2.ExcC K D) : KitX K (.ref x) (.ref D) (fun h => InstAt h x ox D od) where
  ty := fun _ _ _ I => I.type
  it := fun _ _ X _ => by
    obtain ⟨cd, hc, _⟩ := any_some C.hd
    unfold clsIn at hc
    split at hc
    · rename_i c1 d1 cd1 sl1 lk
      intro A1 Q1 E1 s1 kp z
      unfold isType loadHead
      exact wpAny_bind (wpAny_loadPart (kp _ _ (X _ _ lk)) (wpAny_pure z))
    · cases hc
  ne := fun _ tp _ _ _ _ X htp => by
    obtain ⟨cd, hc, _⟩ := any_some C.hd
    cases hq : (Value.ref D == Value.ref tp) with
    | false => rfl
    | true =>
      obtain rfl : D = tp := Value.ref.inj (beq_iff_eq.mp hq)
      unfold clsIn at hc
      split at hc
      · rename_i c1 d1 cd1 sl1 lk
        exact nomatch (X _ _ lk).symm.trans htp
      · cases hc
  ca := fun X I z => classOf C X I z
end
end KA
end PySem
/-! ### KC -/
namespace L2
namespace KC
open PySem PySem.Spec PyProof.Rows PySem.KA Builtin Builtin.ObjectAttr
/-! ## own exceptions in the hand layer -/
/-- what is asked of an own exception class -/
structure OX (K : PySem.W.Frag) (C : Addr) (newId initId : String) (bm : List Value) : Prop where
  eb : ∃ nB iB, EB nB newId iB initId bm
  ins : PySem.W.excInitIn K C bm newId = true
  ov : PySem.W.excOver K C bm = true
  sa : PySem.W.findIn K (.ref C) "__setattr__" = some (some (.builtin "object.__setattr__"))
  xc : ExcC K C
  kp : PySem.W.keepIn K (.ref C) = true
structure OXS (K : PySem.W.Frag) (C : Addr) (newId initId : String) (bm : List Value) (f : Str) : Prop extends OX K C newId initId bm where
  st : ∃ Bx, StoreFacts Bx bm "object.__setattr__" "object"
  no : PySem.W.findIn K (.ref C) f = some none
section
variable {X : Cx} {pins : List (Addr × Obj)} {σ : St} {H : Hp} {s : Shared} {a C dx : Addr} {f : Str} {y : V} {u : Value} {fs : List (Str × V)} {E : Value → Shared → Prop} {A : Around} {newId initId : String} {bm : List Value}
theorem inv_dict (I : Inv X pins σ H s) (e : H a = some (exo a C none)) {h' : Heap} {tk dx : Nat} {t1 : Addr} {m : Str → Option Value} (kp : ∀ b o, b ≠ a → s.heap.get? b = some o → h'.get? b = some o) (dn : s.heap.objs.size ≤ dx) (ne : dx ≠ a)
    (hx : h'.get? a = some { cls := .ref C, dict := some dx, data := .fields #[.ref t1, .none, .none, .none, .bool false, .none] }) (hn : h'.Ns1 dx m) (rel : ∀ g, RelO (fs.lookup g) (m g)) :
    Inv X pins σ (upd (upd H dx (exd dx fs)) a (exo a C (some dx))) { s with heap := h', toks := tk } := by
  have free : H dx = none := I.hok.fresh dn
  have apart : ∀ {b : Addr} {o : Obj}, s.heap.get? b = some o → b ≠ dx := fun z => Nat.ne_of_lt (Nat.lt_of_lt_of_le (Heap.lt_size z) dn)
  have na : ∀ {b : Addr}, H b = none → b ≠ a := fun z w => by
    rw [w, e] at z
    cases z
  have U : Un X.fs [] H (upd (upd H dx (exd dx fs)) a (exo a C (some dx))) s.heap h' := by
    refine ⟨?_, ?_, ?_, ?_, ?_, ?_, ?_⟩
    · exact fun b o z n _ _ => kp b o (na n) z
    · exact fun b o z n _ _ => ⟨o.slots, kp b o (na n) z⟩
    · intro b o z n _
      rw [upd_ne (na n), upd_ne (apart z)]
      exact n
    · intro b o z _
      by_cases hb : b = a
      · exact ⟨_, hb ▸ hx⟩
      · exact ⟨o, kp b o hb z⟩
    · intro b xs z
      rw [upd_ne (at_ne e z exo_tup), upd_ne (ne_of_none z free)]
      exact z
    · intro b o v z
      rw [upd_ne (at_ne e z exo_frz), upd_ne (ne_of_none z free)]
      exact z
    · intro b ps z
      refine ⟨#[], ?_⟩
      rw [upd_ne (at_ne e z exo_tbl), upd_ne (ne_of_none z free), z]
      simp
  refine I.un (t' := tk) U fun b o z => ?_
  by_cases hb : b = a
  · subst hb
    rw [upd_same] at z
    cases z
    exact exo_ok hx
  rw [upd_ne hb] at z
  by_cases hd : b = dx
  · subst hd
    rw [upd_same] at z
    cases z
    exact exd_ok hn rel
  rw [upd_ne hd] at z
  refine (I.hok b o z).stay (fun c v hc r => kp c v ?_ r) (fun c hc => ?_) (fun c xs hc => ?_)
  · rcases hc with hc | hc
    · exact hc ▸ hb
    · exact at_ne e hc exo_own
  · rw [upd_ne (at_ne e hc exo_own), upd_ne (ne_of_none hc free)]
    exact hc
  · rw [upd_ne (at_ne e hc exo_tup), upd_ne (ne_of_none hc free)]
    exact hc
/-- self.f = y, the first one -/
theorem ostNew {Q : Unit → Shared → Prop} (T : OXS X.K C newId initId bm f) (I : Inv X pins σ H s) (e : H a = some (exo a C none)) (ry : RelV y u)
    (z : ∀ dx s', H dx = none → dx ≠ a → Inv X pins σ (upd (upd H dx (exd dx [(f, y)])) a (exo a C (some dx))) s' → Q () s') : wpAny (model X.prog X.w) A (setAttr (.ref a) f u) Q E s := by
  obtain ⟨Bx, SF⟩ := T.st
  obtain ⟨t1, ho⟩ := exo_at I.hok e
  obtain ⟨hp, g, d, t, os⟩ := s
  have J : PySem.W.InstAt hp a { cls := .ref C, dict := none, data := .fields #[.ref t1, .none, .none, .none, .bool false, .none] } C none := ⟨ho, rfl, rfl, trivial⟩
  have tk : PySem.W.takerIn X.K C f = some none := by
    unfold PySem.W.takerIn
    rw [T.no]
    rfl
  refine PySem.W.set_plain I.kIn J T.sa ?_
  refine PySem.W.osa_openX (s := ⟨hp, g, d, t + 1, os⟩) SF I.kIn J T.ov tk fun b => ?_
  obtain ⟨cd, hc, hd⟩ := PySem.W.any_some T.xc.hd
  have hcl : PySem.W.Looks (model X.prog X.w) hp (classData C) cd := PySem.W.looks_clsIn I.kIn hc
  have hxs : a ≠ hp.objs.size := Nat.ne_of_lt (Heap.lt_size ho)
  obtain ⟨nm, bs, mro, ns, qn, hd', sn, sb, ab, col, del⟩ := cd
  dsimp only at hd
  subst hd
  unfold storeInOwnDict ownDictForStores
  repeat (first | with_reducible refine PySem.HandSPX.store_in_new ?_ ?_ | with_reducible refine wpAny_loadPart_at ho ?_ | with_reducible refine hcl.at ?_ | wp_step)
  · exact ⟨_, #[], _, (Heap.get?_update_ne _ _ _ _ hxs.symm).trans (Heap.get?_push_at rfl rfl), rfl, fun e he => absurd he (by simp), fun _ => rfl⟩
  · intro h' tk' hn' hs
    have hx1 : (hp.push { cls := .type "dict", data := .dict #[] }).get? a = some { cls := .ref C, data := .fields #[.ref t1, .none, .none, .none, .bool false, .none] } := Heap.get?_push_of_some _ ho
    refine z hp.objs.size _ (I.hok.fresh (Nat.le_refl _)) hxs.symm (inv_dict (t1 := t1) (s := ⟨hp, g, d, t, os⟩) I e (fun b o hb q => ?_) (Nat.le_refl _) hxs.symm ?_ hn' (relO_put (fs := []) ry fun _ => trivial))
    · exact (hs.2 b (Nat.ne_of_lt (Heap.lt_size q))).trans ((Heap.get?_update_ne _ _ _ _ hb).trans (Heap.get?_push_of_some _ q))
    · exact (hs.2 a hxs).trans (Heap.get?_update_self _ hx1 rfl)
/-- B.__init__(self, ..) -/
theorem oinit {us : List Value} {Q : Value → Shared → Prop} (T : OX X.K C newId initId bm) (I : Inv X pins σ H s) (e : H a = some (exo a C none)) (len : us.length ≤ sizeLine) (z : ∀ s', Inv X pins σ H s' → Q .none s') :
    wpAny (model X.prog X.w) A (call (.builtin initId) (.ref a :: us)) Q E s := by
  obtain ⟨nB, iB, F⟩ := T.eb
  obtain ⟨t1, ho⟩ := exo_at I.hok e
  obtain ⟨hp, g, d, t, os⟩ := s
  obtain ⟨nm, N, qn, bs, bc, hdct, sn, sub, ab, col, dd, k0, k1, k2, k3, k5, cl, same⟩ := PySem.W.excInit_of I.kIn T.ins
  refine wpAny_call (initAt F same cl ho len fun h' t2 kp hx => ?_)
  have J := I.write (t' := t) (x := a) (e := a) (o := exo a C none) (by rw [e]; exact trivial) (.inl rfl) kp ⟨_, hx⟩ (exo_ok hx)
  have eu : upd H a (exo a C none) = H := by
    funext b
    by_cases hb : b = a
    · rw [hb, upd_same, e]
    · rw [upd_ne hb]
  rw [eu] at J
  exact z _ J
/-- C(..) -/
theorem omake {CX : CXT} {k : Nat} {fI : Addr} {fd : FuncData} {ps : List Str} {sp : Sp} {Q : VK} {us ws : List Value} {kw : List (Str × Value)} {vs : List V} {EX : XK} (T : OX X.K C newId initId bm)
    (iC : PySem.W.findIn X.K (.ref C) "__init__" = some (some (.ref fI))) (tI : PySem.W.typeIn X.K (.ref fI) = some (.type "function")) (G : FnOk X.prog X.w X.K X.mg X.base CX k fI fd ps sp) (hr : Room (k + 1) X.A) (hx : Passes CX X EX)
    (I : Inv X pins σ H s) (len : us.length ≤ 1000) (hk : kw = [] ∨ ∃ kn kv, kw = [(kn, kv)])
    (bt : ∀ s', X.K.In s'.heap → ∀ x : Addr, BindsTo s' fd ⟨.ref x :: us, kw⟩ (ps.zip (.ref x :: ws))) (rv : Vals vs ws)
    (z : ∀ x, H x = none → sp (.ref x :: vs) (upd H x (exo x C none)) (fun v H2 => v = .non ∧ Q (.ref x) H2) EX) :
    wpAny (model X.prog X.w) X.A (call (.ref C) us kw) (EP X pins σ Q) X.xe s := by
  obtain ⟨nB, iB, F⟩ := T.eb
  obtain ⟨nm, N, qn, bs, bc, hdct, sn, sub, ab, col, dd, k0, k1, k2, k3, k5, cl, same⟩ := PySem.W.excInit_of I.kIn T.ins
  obtain ⟨hp, g, dr, tk, os⟩ := s
  have ge : hp.objs.size ≤ hp.objs.size + 1 := Nat.le_succ _
  have hq := z (hp.objs.size + 1) (I.hok.fresh ge)
  have kk : ∀ b o, hp.get? b = some o → ((hp.push (PySem.W.kdv_tup us)).push (PySem.HandSPX.excO C hp.objs.size)).get? b = some o := fun _ _ q => Heap.get?_push_of_some _ (Heap.get?_push_of_some _ q)
  have at_ : ((hp.push (PySem.W.kdv_tup us)).push (PySem.HandSPX.excO C hp.objs.size)).get? (hp.objs.size + 1) = some (PySem.HandSPX.excO C hp.objs.size) := by heap_get
  have I2 : Inv X pins σ (upd H (hp.objs.size + 1) (exo (hp.objs.size + 1) C none)) ⟨(hp.push (PySem.W.kdv_tup us)).push (PySem.HandSPX.excO C hp.objs.size), g, dr, tk, os⟩ :=
    I.laid (t' := tk) (a := hp.objs.size + 1) (o := exo (hp.objs.size + 1) C none) kk ge (exo_ok at_)
  have lz : us.length ≤ sizeLine := Nat.le_of_lt (small1000 len)
  refine wpAny_call (callOwn hk F same cl lz (PySem.W.looks_findIn I.kIn iC) (fun self => PySem.W.bind_fn I.kIn self tI)
    (codeAny_mono (G.run _ X.stack _ _ ⟨Value.ref (hp.objs.size + 1) :: us, kw⟩ (Value.ref (hp.objs.size + 1) :: ws) _ _ EX (hr.make C us kw) (I2.env0.make C us kw) (bt _ I2.kIn _) (show Vals (V.ref (hp.objs.size + 1) :: vs) (Value.ref (hp.objs.size + 1) :: ws) from .cons rfl rv) hq) fun r s' y => ?_))
  cases r with
  | error er => exact hx pins σ _ _ er s' I2 y
  | ok fl =>
    cases fl with
    | ret w =>
      obtain ⟨v, H', I3, rw', ev, q3⟩ := I2.after y
      subst ev
      exact ⟨rw', ⟨.ref (hp.objs.size + 1), H', I3, rfl, q3⟩⟩
    | next => exact y.elim
    | brk => exact y.elim
    | cont => exact y.elim
end
/-! ### readings -/
/-- C(e, ..) or C(k = v): a new exception, then __init__ -/
def tMakeX (C : Addr) (sp : Sp) (EX : XK) (t : TA) : TE := fun σ H Q => t σ H fun vs H1 => vs.length ≤ 1000 ∧ ∀ x, H1 x = none → sp (.ref x :: vs) (upd H1 x (exo x C none)) (fun v H2 => v = .non ∧ Q (.ref x) H2) EX
/-- e.f -/
def tXat (K : PySem.W.Frag) (C : Addr) (f : Str) (te : TE) : TE := fun σ H Q => te σ H fun x H1 => ∃ (a dx : Addr) (fs : List (Str × V)) (v : V), x = .ref a ∧ H1 a = some (exo a C (some dx)) ∧ H1 dx = some (exd dx fs) ∧ fs.lookup f = some v ∧ Q v H1
def tInitX (C : Addr) (ta : TA) : TE := fun σ H Q => ta σ H fun vs H1 => ∃ (a : Addr) (ws : List V), vs = .ref a :: ws ∧ ws.length ≤ 1000 ∧ H1 a = some (exo a C none) ∧ Q .non H1
def tSetX (C : Addr) (f : Str) (to te : TE) : TS := fun D σ H => te σ H fun y H1 => to σ H1 fun x H2 => ∃ a : Addr, x = .ref a ∧ H2 a = some (exo a C none) ∧ ∀ dx, H2 dx = none → dx ≠ a → D.nx σ (upd (upd H2 dx (exd dx [(f, y)])) a (exo a C (some dx)))
def rIsX (K : PySem.W.Frag) : List V → Hp → VK → Prop := fun xs H Q => ∃ (a C : Addr) (d : Option Addr) (c : V) (cv : Value) (b : Bool), xs = [.ref a, c] ∧ H a = some (exo a C d) ∧ (∀ dx, d = some dx → ∃ fs, H dx = some (exd dx fs)) ∧ ExcC K C ∧ (∀ u, RelV c u → u = cv) ∧ PySem.W.kitOne K (.ref C) cv = some b ∧ Q (.bl b) H
section
variable {X : Cx} {CX : CXT} {k : Nat} {C fI : Addr} {fd : FuncData} {ps : List Str} {sp : Sp} {EX : XK} {x kn f : Str} {p p' p1 p2 pos kpos : Pos} {o e : Expr} {es : List Expr} {to te : TE} {t : TA} {newId initId : String} {bm : List Value}
theorem peMakeX (T : OX X.K C newId initId bm) (iC : PySem.W.findIn X.K (.ref C) "__init__" = some (some (.ref fI))) (tI : PySem.W.typeIn X.K (.ref fI) = some (.type "function")) (G : FnOk X.prog X.w X.K X.mg X.base CX k fI fd ps sp) (hr : Room (k + 1) X.A)
    (hb : Binds X.K fd ps []) (hx : Passes CX X EX) (hg : Gl X x) (hm : X.mg x = some (.ref C)) (ha : PA X (e :: es) t) (hdb : (x == ("__debug__" : Str)) = false := by decide)
    (he : starEach (e :: es) X.env = (false, eval e X.env) :: starEach es X.env := by rfl) (hpl : (backTo pos (starEach es X.env)).any (·.1) = false := by rfl) :
    PE X (.Call (.Name x p) (e :: es) [] pos) (tMakeX C sp EX t) := by
  refine ⟨fun pins s σ H Q I z => ?_⟩
  refine wpAny_Call_Name_kw (ld_glob I hg hm ?_ hdb)
  refine PySem.W.callWith_K (h₀ := X.base) I.ok.mod.kin T.kp (thn (ha.run pos pins s σ H _ I z) fun us s1 ⟨vs, H1, I1, r, len, q⟩ => ⟨I1.kIn, ?_⟩) he hpl
  have ll : ∀ y : Addr, H1 y = none → (Value.ref y :: us ++ []).length = ps.length := fun y hy => by
    rw [← G.len _ _ _ _ (q y hy), List.append_nil, List.length_cons, List.length_cons, r.length]
  refine omake (ws := us) T iC tI G hr hx I1 (by
    show us.length ≤ 1000
    rw [← r.length]
    exact len) (.inl rfl) (fun s' K' y => ?_) r q
  have e1 := hb s' (Value.ref y :: us) K' (by
    have z := ll (s1.heap.objs.size) (I1.hok.fresh (Nat.le_refl _))
    exact z)
  rw [List.append_nil] at e1
  exact e1
theorem peMakeX0 (T : OX X.K C newId initId bm) (iC : PySem.W.findIn X.K (.ref C) "__init__" = some (some (.ref fI))) (tI : PySem.W.typeIn X.K (.ref fI) = some (.type "function")) (G : FnOk X.prog X.w X.K X.mg X.base CX k fI fd ["self"] sp) (hr : Room (k + 1) X.A)
    (hb : Binds X.K fd ["self"] []) (hx : Passes CX X EX) (hg : Gl X x) (hm : X.mg x = some (.ref C)) (hdb : (x == ("__debug__" : Str)) = false := by decide) :
    PE X (.Call (.Name x p) [] [] pos) (tMakeX C sp EX tNil) := by
  refine ⟨fun pins s σ H Q I z => ?_⟩
  refine wpAny_Call_Name_kw (ld_glob I hg hm ?_ hdb)
  refine PySem.W.callWith_K0 I.kIn T.kp ?_
  exact omake (us := []) (ws := []) T iC tI G hr hx I (by decide) (.inl rfl) (fun s' K' y => hb s' [Value.ref y] K' rfl) .nil z.2
theorem peMakeXK (T : OX X.K C newId initId bm) (iC : PySem.W.findIn X.K (.ref C) "__init__" = some (some (.ref fI))) (tI : PySem.W.typeIn X.K (.ref fI) = some (.type "function")) (G : FnOk X.prog X.w X.K X.mg X.base CX k fI fd [("self" : Str), kn] sp) (hr : Room (k + 1) X.A)
    (hb : ∀ us ws : List Value, us.length = 1 → ws.length = 1 → bindArgs fd ⟨us, [kn].zip ws⟩ = pure ([("self" : Str), kn].zip (us ++ ws))) (hx : Passes CX X EX) (hg : Gl X x) (hm : X.mg x = some (.ref C)) (he : PE X e te) (hdb : (x == ("__debug__" : Str)) = false := by decide)
    (hall : (backToKw pos (keywordEach [⟨some kn, e, kpos⟩] X.env)).all (·.1.isSome) = true := by rfl) (hks : (backToKw pos (keywordEach [⟨some kn, e, kpos⟩] X.env)).filterMap (·.1) = [kn] := by rfl)
    (hpl : ((backTo pos (starEach [] X.env)).any (·.1) || (backToKw pos (keywordEach [⟨some kn, e, kpos⟩] X.env)).any (·.1.isNone)) = false := by rfl) :
    PE X (.Call (.Name x p) [] [⟨some kn, e, kpos⟩] pos) (tMakeX C sp EX (tCons te tNil)) := by
  refine ⟨fun pins s σ H Q I z => ?_⟩
  refine wpAny_Call_Name_kw (ld_glob I hg hm ?_ hdb)
  refine PySem.W.callWith_KW0 (h₀ := X.base) I.ok.mod.kin T.kp hall ?_ hpl
  refine thn ((pk_cons he pk_nil).run pos pins s σ H _ I z) fun ws s2 ⟨zs, H2, I2, rz, len, q2⟩ => ⟨I2.kIn, ?_⟩
  rw [hks]
  have lw : ws.length = 1 := by
    have h0 := G.len _ _ _ _ (q2 _ (I2.hok.fresh (Nat.le_refl _)))
    rw [List.length_cons, rz.length] at h0
    have h1 : ws.length + 1 = 2 := h0
    omega
  obtain ⟨w1, rfl⟩ : ∃ w1, ws = [w1] := by
    match ws, lw with
    | [w1], _ => exact ⟨w1, rfl⟩
  exact omake (us := []) (ws := [w1]) T iC tI G hr hx I2 (by decide) (.inr ⟨_, _, rfl⟩) (fun s' K' y => .of_eq (hb [Value.ref y] [w1] rfl rfl)) rz q2
theorem peXat (T : OXS X.K C newId initId bm f) (he : PE X e te) (hb : attributeBase e f X.env (eval e X.env) = eval e X.env := by rfl) : PE X (.Attribute e f pos) (tXat X.K C f te) := by
  refine ⟨fun pins s σ H Q I z => ?_⟩
  refine attr_of hb (thn (he.run pins s σ H _ I z) fun u s1 ⟨x, H1, I1, rx, a, dx, fs, v, ex, e1, e2, l, q⟩ => ?_)
  subst ex
  obtain rfl : u = Value.ref a := rx
  obtain ⟨t1, ho⟩ := exo_at I1.hok e1
  obtain ⟨m, hn, rel⟩ := exd_at I1.hok e2
  obtain ⟨od, hod, hl⟩ := lookIn_ns hn
  obtain ⟨w, hw, rw'⟩ := RelO.some_of (v := v) (o := m f) (by rw [← l]; exact rel f)
  have J : PySem.W.InstAt s1.heap a { cls := .ref C, dict := some dx, data := .fields #[.ref t1, .none, .none, .none, .bool false, .none] } C (some od) := ⟨ho, rfl, rfl, hod⟩
  exact HandSPX.exc_get I1.kIn J T.xc.hg T.xc.hk T.xc.hs (PySem.W.findObj_own T.xc.hd T.no rfl (by rw [hl, hw])) (handed_of rw') ⟨v, H1, I1.tok _, rw', q⟩
theorem peInitX {pl : Sem Bool} {B : Str} {Bs : String} (T : OX X.K C newId initId bm) (hg : Gl X B) (hm : X.mg B = none) (hv : bootBuiltins B = some (.type Bs)) (ty : typeOf (.type Bs) = pure (.type "type")) (ns : Manifest.isStub Bs = false)
    (fi : PySem.W.findCls X.K (.type Bs) (.type "type") "__init__" = some (.val (.builtin initId))) (hh : PySem.W.handedIn (.builtin initId) = true) (ha : PA X (e :: es) t)
    (hn : B ≠ "__name__" := by decide) (hdb : (B == ("__debug__" : Str)) = false := by decide)
    (hc : eval (.Call (.Attribute (.Name B p1) "__init__" p2) (e :: es) [] pos) X.env = (do
      let ov ← eval (.Name B p1) X.env
      standAt p2.atName
      let (f, first) ← holding [ov] (getMethod ov "__init__" pl)
      callWith pos f first (backTo pos (starEach (e :: es) X.env)) (backToKw pos (keywordEach [] X.env))) := by rfl)
    (he : starEach (e :: es) X.env = (false, eval e X.env) :: starEach es X.env := by rfl) (hpl : (backTo pos (starEach es X.env)).any (·.1) = false := by rfl) :
    PE X (.Call (.Attribute (.Name B p1) "__init__" p2) (e :: es) [] pos) (tInitX C t) := by
  refine ⟨fun pins s σ H Q I z => ?_⟩
  refine PySem.W.methodCall_KW (ld_blt I hg hm hv ?_ hn hdb) hc
  obtain ⟨m, fr⟩ := I.fr
  refine PySem.W.method_type fr I.ok.mod.kin ty ns fi hh ?_
  show wpAny _ _ (callWith pos (Value.builtin initId) [] (backTo pos (starEach (e :: es) X.env)) []) _ _ _
  refine PyProof.Rows.callWith_method1 (thn (ha.run pos pins _ σ H _ (I.tok _) z) fun us s1 ⟨vs, H1, I1, r1, a, ws, ev, len, ea, q⟩ => ?_) he hpl
  subst ev
  cases r1 with
  | @cons _ u0 _ ur ra rr =>
    obtain rfl : u0 = Value.ref a := ra
    exact oinit T I1 ea (by
      rw [← Paired.length rr]
      exact Nat.le_of_lt (small1000 len)) fun s' J => ⟨.non, H1, J, rfl, q⟩
theorem psSetX (T : OXS X.K C newId initId bm f) (ho : PE X o to) (he : PE X e te) (hs : swapsWith e (some (.Attribute o f p')) pos.line X.env = pure false := by rfl) : PS X (.Assign [.Attribute o f p'] e pos) (tSetX C f to te) := by
  refine ⟨fun pins s σ H D I z => ?_⟩
  refine plainObj_wpAny_Assign_Attribute (thn (he.run pins s σ H _ I z) fun v s1 ⟨y, H1, I1, r1, q1⟩ => thn (ho.run pins s1 σ H1 _ I1 q1) fun u s2 ⟨x, H2, I2, r2, a, ex, ea, q⟩ => ?_) hs
  subst ex
  obtain rfl : u = Value.ref a := r2
  exact ostNew T I2 ea r1 fun dx s' n ne J => ⟨σ, _, J, q dx n ne⟩
theorem callIsX : CallR X (.builtin "isinstance") (rIsX X.K) := by
  intro pins s σ H xs us Q I r z
  obtain ⟨a, C, d, c, cv, b, rfl, ea, ed, xc, hcv, ek, q⟩ := z
  match us, r with
  | [_, u2], .cons rx (.cons rt .nil) =>
    cases rx
    have ec := hcv _ rt
    subst ec
    obtain ⟨t1, ho⟩ := exo_at I.hok ea
    cases d with
    | none =>
      have J : PySem.W.InstAt s.heap a { cls := .ref C, dict := none, data := .fields #[.ref t1, .none, .none, .none, .bool false, .none] } C none := ⟨ho, rfl, rfl, trivial⟩
      exact PySem.W.kia_one (kitE xc) I.kIn J ek (fun w => nomatch w) fun tk => ⟨.bl b, H, I.kept (t' := tk) fun _ _ w => w, rfl, q⟩
    | some dx =>
      obtain ⟨fs, hd⟩ := ed dx rfl
      obtain ⟨m, hn, rel⟩ := exd_at I.hok hd
      obtain ⟨od, hod, hl⟩ := lookIn_ns hn
      have J : PySem.W.InstAt s.heap a { cls := .ref C, dict := some dx, data := .fields #[.ref t1, .none, .none, .none, .bool false, .none] } C (some od) := ⟨ho, rfl, rfl, hod⟩
      exact PySem.W.kia_one (kitE xc) I.kIn J ek (fun w => nomatch w) fun tk => ⟨.bl b, H, I.kept (t' := tk) fun _ _ w => w, rfl, q⟩
end
end KC
end L2
/-! ### KD -/
namespace PySem
namespace KD
open Sem (wp)
open SeqAt
/-! ## dicts whose keys are of several sorts: numbers, bools, texts, tuples of such -/
abbrev Row := NestedKey × Value × Value
def rowE (w : World) (r : Row) : DictEntry := ⟨r.1.hash w, r.2.1, r.2.2⟩
/-- at d a dict with the rows xs -/
structure DM (w : World) (h : Heap) (d : Addr) (xs : List Row) : Prop where
  at_ : ∃ o es ep, h.get? d = some o ∧ o.ExactDict ∧ o.data = .dict es ep ∧ es.toList = xs.map (rowE w)
  once : (xs.map (·.1)).Nodup
def KeysOk (h : Heap) (xs : List Row) : Prop := ∀ r ∈ xs, NestedIs h r.1 r.2.1 ∧ r.1.depth ≤ 8
def lookM (xs : List Row) (k : NestedKey) : Option Row := xs.find? fun r => NestedKey.beq r.1 k
def putM (xs : List Row) (k : NestedKey) (key v : Value) : List Row :=
  if xs.any (fun r => NestedKey.beq r.1 k) then xs.map (fun r => if NestedKey.beq r.1 k then (r.1, r.2.1, v) else r) else xs ++ [(k, key, v)]
theorem beq_iff (a b : NestedKey) : NestedKey.beq a b = true ↔ a = b := ⟨NestedKey.eq_of_beq a b, fun e => e ▸ NestedKey.beq_self a⟩
section
variable {prog : Program} {w : World} {A : Around} {E : Value → Shared → Prop} {s : Shared} {d : Addr} {xs : List Row} {k : NestedKey} {key v : Value}
theorem row_at {es : Array DictEntry} (he : es.toList = xs.map (rowE w)) (j : Nat) : es[j]? = (xs[j]?).map (rowE w) := by
  rw [← Array.getElem?_toList, he, List.getElem?_map]
theorem row_size {es : Array DictEntry} (he : es.toList = xs.map (rowE w)) : es.size = xs.length := by
  rw [← Array.length_toList, he, List.length_map]
theorem row_one (hn : (xs.map (·.1)).Nodup) {i j : Nat} {p q : Value × Value} (hi : xs[i]? = some (k, p)) (hj : xs[j]? = some (k, q)) : i = j := by
  have a : (xs.map (·.1))[i]? = some k := by
    rw [List.getElem?_map, hi]
    rfl
  have b : (xs.map (·.1))[j]? = some k := by
    rw [List.getElem?_map, hj]
    rfl
  exact (List.getElem?_inj (List.getElem?_eq_some_iff.mp a).1 hn).mp (a.trans b.symm)
/-- the place of a key, and what is wanted there -/
theorem find_m {o : Obj} {es : Array DictEntry} {ep : Nat} {Q : Option Nat → Shared → Prop} (hu : A.units + 9 < cLine) (hk : NestedIs s.heap k key) (h8 : k.depth ≤ 8)
    (ho : s.heap.get? d = some o) (hd : o.data = .dict es ep) (he : es.toList = xs.map (rowE w)) (ok : KeysOk s.heap xs) (hn : (xs.map (·.1)).Nodup)
    (z0 : (∀ (j : Nat) (p : Value × Value), xs[j]? ≠ some (k, p)) → Q none s) (z1 : ∀ (j : Nat) (p : Value × Value), xs[j]? = some (k, p) → Q (some j) s) :
    wpAny (model prog w) A (dictFind d key (k.hash w)) Q E s := by
  have sz : es.size = xs.length := row_size he
  have has : ∀ (j : Nat) (p : Value × Value), xs[j]? = some (k, p) → ((es[j]?.map (·.hash)) == some (k.hash w)) = true := fun j p hj => by
    rw [row_at he j, hj]
    simp [rowE]
  have eqs : ∀ (k' : NestedKey) (u : Value) (p : Value), (k', u, p) ∈ xs → EqAt A s u key (NestedKey.beq k' k) := fun k' u p hm =>
    eqAt_key k' k A s u key (ok _ hm).1 hk (by
      have := (ok _ hm).2
      omega)
  have rowOf : ∀ x, x < es.size → ∃ k' u p, xs[x]? = some (k', u, p) ∧ es[x]? = some ⟨k'.hash w, u, p⟩ := fun x hx => by
    refine ⟨(xs[x]'(by omega)).1, (xs[x]'(by omega)).2.1, (xs[x]'(by omega)).2.2, List.getElem?_eq_getElem _, ?_⟩
    rw [row_at he x, List.getElem?_eq_getElem (by omega)]
    rfl
  have quiet : ∀ (k' : NestedKey) (u : Value), NestedIs s.heap k' u → k'.depth ≤ 8 → QuietAt prog w 8 s u := fun k' u hi hd' => quiet_key k' u 8 s hi hd'
  -- the plain walk
  have plain : wpAny (model prog w) A (dictWalkPlain d key (k.hash w) es (placesWithHash es.size (fun i => es[i]?.map (·.hash)) (k.hash w))) Q E s := by
    unfold dictWalkPlain
    refine wpAny_bind ?_
    refine wpAny_forIn_list _ (fun rest b s' => s' = s ∧ b = (none, ()) ∧ ∃ i, rest = (List.range' i (es.size - i)).filter (fun i => (es[i]?.map (·.hash)) == some (k.hash w)) ∧ i ≤ es.size ∧ ∀ j p, j < i → xs[j]? ≠ some (k, p)) _ ?_ ?_ _ _
      ⟨rfl, rfl, 0, by rw [placesWithHash, List.range_eq_range', Nat.sub_zero], Nat.zero_le _, fun _ _ q => absurd q (Nat.not_lt_zero _)⟩
    · rintro x rest b s' ⟨rfl, rfl, i, hr, hi, no⟩
      obtain ⟨le, lt, px, skip, hrest⟩ := filter_range'_cons _ _ _ _ _ hr.symm
      have hx : x < es.size := by omega
      obtain ⟨k', u, p, hkv, hex⟩ := rowOf x hx
      have no' : k' ≠ k → ∀ j p, j < x + 1 → xs[j]? ≠ some (k, p) := fun ne j p' hj hq => by
        rcases Nat.lt_or_ge j i with q | q
        · exact no j p' q hq
        rcases Nat.lt_or_ge j x with q' | q'
        · have y := skip j q q'
          rw [has j p' hq] at y
          cases y
        · obtain rfl : j = x := by omega
          rw [hkv] at hq
          cases hq
          exact ne rfl
      have go : k' ≠ k → ∃ i, rest = (List.range' i (es.size - i)).filter (fun i => (es[i]?.map (·.hash)) == some (k.hash w)) ∧ i ≤ es.size ∧ ∀ j p, j < i → xs[j]? ≠ some (k, p) := fun ne =>
        ⟨x + 1, by rw [hrest]; congr 2; omega, hx, no' ne⟩
      rw [hex]
      dsimp only
      by_cases hh : (k'.hash w == k.hash w) = true
      · rw [if_pos hh]
        refine wpAny_bind (wpAny_dictEpoch ho hd (wpAny_bind (eqs k' u p (List.mem_of_getElem? hkv) _ _ _ _ (wpAny_bind (wpAny_dictEpoch ho hd ?_)))))
        show wpAny _ _ (if (ep != ep) = true then _ else _) _ E _
        rw [if_neg (by simp)]
        cases hb : NestedKey.beq k' k with
        | true =>
          obtain rfl := (beq_iff k' k).mp hb
          exact wpAny_bind (wpAny_rule (wpAny_pure (wpAny_pure (z1 x _ hkv))))
        | false => exact wpAny_bind (wpAny_rule (wpAny_pure ⟨rfl, rfl, go fun e => by
            rw [e, NestedKey.beq_self] at hb
            cases hb⟩))
      · rw [if_neg hh]
        exact wpAny_pure ⟨rfl, rfl, go fun e => hh (by rw [e]; simp)⟩
    · rintro b s' ⟨rfl, rfl, i, hr, hi, no⟩
      refine wpAny_pure (z0 fun j p hj => ?_)
      rcases Nat.lt_or_ge j i with q | q
      · exact no j p q hj
      · have hjl : j < es.size := by
          rw [sz]
          exact (List.getElem?_eq_some_iff.mp hj).1
        have y := List.filter_eq_nil_iff.mp hr.symm j (List.mem_range'_1.mpr ⟨q, by omega⟩)
        exact y (has j p hj)
  have tell : ∀ (Q' : Bool → Shared → Prop), Q' false s → wpAny (model prog w) A (tableMayTell key ((placesWithHash es.size (fun i => es[i]?.map (·.hash)) (k.hash w)).filterMap (fun i => es[i]?.map (·.key)))) Q' E s := by
    intro Q' z
    have st : ∀ u ∈ (placesWithHash es.size (fun i => es[i]?.map (·.hash)) (k.hash w)).filterMap (fun i => es[i]?.map (·.key)), QuietAt prog w 8 s u := by
      intro u hu'
      obtain ⟨i, _, hi⟩ := List.mem_filterMap.mp hu'
      cases hei : es[i]? with
      | none =>
        rw [hei] at hi
        cases hi
      | some e =>
        rw [hei] at hi
        obtain rfl : e.key = u := by simpa using hi
        have hlt := (Array.getElem?_eq_some_iff.mp hei).1
        obtain ⟨k', u', p, hkv, hex⟩ := rowOf i hlt
        rw [hex] at hei
        cases hei
        have m := List.mem_of_getElem? hkv
        exact quiet k' u' (ok _ m).1 (ok _ m).2
    unfold tableMayTell
    split
    · exact wpAny_pure z
    · refine wpAny_bind (quiet k key hk h8 _ _ _ ?_)
      simp only [Bool.not_true, Bool.false_eq_true, if_false]
      refine wpAny_bind ?_
      refine wpAny_forIn_list _ (fun rest r s' => s' = s ∧ r = (none, ()) ∧ ∀ u ∈ rest, QuietAt prog w 8 s u) _ ?_ ?_ _ _ ⟨rfl, rfl, st⟩
      · rintro x rest r s' ⟨rfl, rfl, hr⟩
        refine wpAny_bind (hr x List.mem_cons_self _ _ _ ?_)
        simp only [Bool.not_true, Bool.false_eq_true, if_false]
        exact wpAny_pure ⟨rfl, rfl, fun u hu' => hr u (List.mem_cons_of_mem _ hu')⟩
      · rintro r s' ⟨rfl, rfl, _⟩
        exact wpAny_pure z
  have texts : ∀ x t, key = .str x t → (es.all fun e => isExactStrKey e.key) = true → wpAny (model prog w) A (foundByValue d key es x) Q E s := by
    intro x t ek hall
    subst ek
    have ekk : k = .text x := by
      cases hk
      rfl
    subst ekk
    have isT : ∀ j (hj : j < es.size), es[j].key.isStr x = true ↔ ∃ p, xs[j]? = some (NestedKey.text x, p) := by
      intro j hj
      obtain ⟨k', u', p, hkv, hex⟩ := rowOf j hj
      have e1 : es[j] = ⟨k'.hash w, u', p⟩ := by
        rw [Array.getElem?_eq_getElem hj] at hex
        exact Option.some.inj hex
      have h1 : isExactStrKey u' = true := by
        have := Array.all_eq_true.mp hall j hj
        rw [e1] at this
        exact this
      rw [e1]
      obtain ⟨y, ty, rfl⟩ : ∃ y ty, u' = .str y ty := by
        cases u' <;> first
          | exact ⟨_, _, rfl⟩
          | cases h1
      have h2 : k' = .text y := by
        have q := (ok _ (List.mem_of_getElem? hkv)).1
        cases q
        rfl
      subst h2
      constructor
      · intro q
        have : y = x := by simpa [Value.isStr] using q
        subst this
        exact ⟨_, hkv⟩
      · rintro ⟨p', q⟩
        rw [hkv] at q
        cases q
        simp [Value.isStr]
    unfold foundByValue
    cases hf : es.findIdx? (fun e => e.key.isStr x) with
    | none =>
      refine wpAny_pure (z0 fun j p hj => ?_)
      have hjl : j < es.size := by
        rw [sz]
        exact (List.getElem?_eq_some_iff.mp hj).1
      have q := Array.findIdx?_eq_none_iff.mp hf es[j] (Array.getElem_mem hjl)
      rw [(isT j hjl).mpr ⟨p, hj⟩] at q
      cases q
    | some i =>
      obtain ⟨hlt, hi, _⟩ := Array.findIdx?_eq_some_iff_getElem.mp hf
      obtain ⟨p, hp⟩ := (isT i hlt).mp hi
      obtain ⟨k', u', p', hkv, hex⟩ := rowOf i hlt
      rw [hp] at hkv
      cases hkv
      simp only [hex]
      refine wpAny_bind (wpAny_dictEpoch ho hd (wpAny_bind (eqs _ u' p' (List.mem_of_getElem? hp) _ _ _ _ (wpAny_bind (wpAny_dictEpoch ho hd ?_)))))
      show wpAny _ _ (if (ep != ep) = true then _ else _) _ E _
      rw [if_neg (by simp), NestedKey.beq_self]
      exact wpAny_bind (wpAny_rule (wpAny_pure (z1 i _ hp)))
  have hany : ∀ a, key = .ref a → ¬ (es.any fun e => e.key == Value.ref a && e.hash != k.hash w) = true := by
    intro a ek
    subst ek
    rw [← Array.any_toList, List.any_eq_true]
    rintro ⟨e, hin, hc⟩
    rw [he] at hin
    obtain ⟨r, hr, rfl⟩ := List.mem_map.mp hin
    simp only [rowE, Bool.and_eq_true, beq_iff_eq, bne_iff_ne, ne_eq] at hc
    obtain ⟨e1, ne⟩ := hc
    have q := (ok r hr).1
    rw [e1] at q
    exact ne (by rw [NestedIs.inj _ _ _ q hk])
  have fin : ∀ key', key' = key → wpAny (model prog w) A (dictFind d key' (k.hash w)) Q E s := by
    intro key' ek
    unfold dictFind
    try with_reducible refine wpAny_holding ?_
    refine wpAny_bind (wpAny_dictEntries ho hd ?_)
    have tell' := tell
    rw [← ek] at tell'
    have plain' := plain
    rw [← ek] at plain'
    clear tell plain
    cases key'
    case' str x t => refine wpAny_ite_split (fun hall => by
        rw [ek]
        exact texts x t ek.symm hall) (fun _ => ?_)
    all_goals refine wpAny_ite_split (fun _ => plain') (fun _ => ?_)
    case' ref => refine wpAny_ite_split (fun q => absurd q (hany _ ek.symm)) (fun _ => ?_)
    all_goals
      refine wpAny_ite_split (fun _ => wpAny_bind (wpAny_pure ?_)) (fun _ => wpAny_bind (tell' _ ?_))
      all_goals
        refine wpAny_ite_split (fun q => absurd q (by simp)) (fun _ => ?_)
        refine wpAny_bind ?_
        refine wpAny_forIn_list _ (fun rest b s' => s' = s ∧ ∃ i hit, b = (none, hit) ∧ rest = (List.range' i (es.size - i)).filter (fun i => (es[i]?.map (·.hash)) == some (k.hash w)) ∧ i ≤ es.size ∧
            ((hit = none ∧ ∀ j p, j < i → xs[j]? ≠ some (k, p)) ∨ ∃ j p, hit = some j ∧ j < i ∧ xs[j]? = some (k, p))) _ ?_ ?_ _ _
          ⟨rfl, 0, none, rfl, by rw [placesWithHash, List.range_eq_range', Nat.sub_zero], Nat.zero_le _, .inl ⟨rfl, fun _ _ q => absurd q (Nat.not_lt_zero _)⟩⟩
        · rintro x rest b s' ⟨rfl, i, hit, rfl, hr, hi, hH⟩
          obtain ⟨le, lt, px, skip, hrest⟩ := filter_range'_cons _ _ _ _ _ hr.symm
          have hx : x < es.size := by omega
          obtain ⟨k', u, p, hkv, hex⟩ := rowOf x hx
          have hrest' : rest = (List.range' (x + 1) (es.size - (x + 1))).filter (fun i => (es[i]?.map (·.hash)) == some (k.hash w)) := by
            rw [hrest]
            congr 2
            omega
          have before : (hit = none ∧ ∀ j p, j < x → xs[j]? ≠ some (k, p)) ∨ ∃ j p, hit = some j ∧ j < x ∧ xs[j]? = some (k, p) := by
            rcases hH with ⟨h0, no⟩ | ⟨j, p', h1, hj, hq⟩
            · refine .inl ⟨h0, fun j p' hj hq => ?_⟩
              rcases Nat.lt_or_ge j i with q | q
              · exact no j p' q hq
              · have y := skip j q hj
                rw [has j p' hq] at y
                cases y
            · exact .inr ⟨j, p', h1, by omega, hq⟩
          have stay : k' ≠ k → ((hit = none ∧ ∀ j p, j < x + 1 → xs[j]? ≠ some (k, p)) ∨ ∃ j p, hit = some j ∧ j < x + 1 ∧ xs[j]? = some (k, p)) := by
            intro ne
            rcases before with ⟨h0, no⟩ | ⟨j, p', h1, hj, hq⟩
            · refine .inl ⟨h0, fun j p' hj hq => ?_⟩
              rcases Nat.lt_or_ge j x with q | q
              · exact no j p' q hq
              · obtain rfl : j = x := by omega
                rw [hkv] at hq
                cases hq
                exact ne rfl
            · exact .inr ⟨j, p', h1, by omega, hq⟩
          rw [hex]
          refine wpAny_ite_split (fun hh => ?_) (fun hh => ?_)
          · have eq' := eqs k' u p (List.mem_of_getElem? hkv)
            rw [← ek] at eq'
            refine wpAny_bind (wpAny_dictEpoch ho hd (wpAny_bind (eq' _ _ _ _ (wpAny_bind (wpAny_dictEpoch ho hd ?_)))))
            refine wpAny_ite_split (fun q => absurd q (by simp)) (fun _ => ?_)
            refine wpAny_ite_split (fun hb => ?_) (fun hb => ?_)
            · obtain rfl := (beq_iff k' k).mp hb
              rcases before with ⟨rfl, _⟩ | ⟨j, p', _, hjx, hj⟩
              · refine wpAny_ite_split (fun q => absurd q (by simp)) (fun _ => ?_)
                refine wpAny_bind (wpAny_rule ?_)
                refine wpAny_ite_split (fun _ => ?_) (fun _ => ?_)
                · exact wpAny_pure (wpAny_pure (z1 x _ hkv))
                · exact wpAny_pure ⟨rfl, x + 1, some x, rfl, hrest', hx, .inr ⟨x, _, rfl, Nat.lt_succ_self x, hkv⟩⟩
              · exact absurd (row_one hn hj hkv) (by omega)
            · have ne : k' ≠ k := fun e => hb (by rw [e, NestedKey.beq_self])
              refine wpAny_bind (wpAny_rule ?_)
              refine wpAny_ite_split (fun q => absurd q (by simp)) (fun _ => ?_)
              exact wpAny_pure ⟨rfl, x + 1, hit, rfl, hrest', hx, stay ne⟩
          · exact wpAny_pure ⟨rfl, x + 1, hit, rfl, hrest', hx, stay fun e => hh (by rw [e]; simp)⟩
        · rintro b s' ⟨rfl, i, hit, rfl, hr, hi, hH⟩
          rcases hH with ⟨rfl, no⟩ | ⟨j, p, rfl, _, hj⟩
          · refine wpAny_pure (z0 fun j p hj => ?_)
            rcases Nat.lt_or_ge j i with q | q
            · exact no j p q hj
            · have hjl : j < es.size := by
                rw [sz]
                exact (List.getElem?_eq_some_iff.mp hj).1
              have y := List.filter_eq_nil_iff.mp hr.symm j (List.mem_range'_1.mpr ⟨q, by omega⟩)
              exact y (has j p hj)
          · exact wpAny_pure (z1 j p hj)
  exact fin key rfl
theorem look_iff (hn : (xs.map (·.1)).Nodup) : (∀ (j : Nat) (p : Value × Value), xs[j]? = some (k, p) → lookM xs k = some (k, p)) ∧ ((∀ (j : Nat) (p : Value × Value), xs[j]? ≠ some (k, p)) → lookM xs k = none) := by
  constructor
  · intro j p hj
    have m := List.mem_of_getElem? hj
    cases hl : lookM xs k with
    | none => exact absurd (NestedKey.beq_self k) (List.find?_eq_none.mp hl _ m)
    | some r =>
      obtain ⟨rk, rp⟩ := r
      have e1 := (beq_iff rk k).mp (List.find?_some (p := fun r : Row => NestedKey.beq r.1 k) (a := (rk, rp)) (l := xs) hl)
      obtain ⟨i, hi⟩ := List.mem_iff_getElem?.mp (List.mem_of_find?_eq_some (p := fun r : Row => NestedKey.beq r.1 k) (l := xs) hl)
      rw [e1] at hi
      obtain rfl := row_one hn hi hj
      rw [hi] at hj
      rw [e1]
      exact hj
  · intro no
    refine List.find?_eq_none.mpr fun r hr hb => ?_
    obtain ⟨i, hi⟩ := List.mem_iff_getElem?.mp hr
    obtain ⟨rk, rp⟩ := r
    obtain rfl := (beq_iff rk k).mp hb
    exact no i rp hi
theorem putM_new (no : ∀ (j : Nat) (p : Value × Value), xs[j]? ≠ some (k, p)) : putM xs k key v = xs ++ [(k, key, v)] := by
  unfold putM
  rw [if_neg]
  intro q
  obtain ⟨r, hr, hb⟩ := List.any_eq_true.mp q
  obtain ⟨i, hi⟩ := List.mem_iff_getElem?.mp hr
  obtain ⟨rk, rp⟩ := r
  obtain rfl := (beq_iff rk k).mp hb
  exact no i rp hi
theorem putM_old {j : Nat} {p : Value × Value} (hj : xs[j]? = some (k, p)) : putM xs k key v = xs.map (fun r => if NestedKey.beq r.1 k then (r.1, r.2.1, v) else r) := by
  unfold putM
  rw [if_pos]
  exact List.any_eq_true.mpr ⟨_, List.mem_of_getElem? hj, NestedKey.beq_self k⟩
theorem put_modify (hn : (xs.map (·.1)).Nodup) {j : Nat} {p : Value × Value} (hj : xs[j]? = some (k, p)) :
    (xs.map (rowE w)).modify j (fun e => { e with val := v }) = (xs.map fun r => if NestedKey.beq r.1 k then (r.1, r.2.1, v) else r).map (rowE w) := by
  apply List.ext_getElem?
  intro i
  rw [List.getElem?_modify, List.getElem?_map, List.getElem?_map, List.getElem?_map]
  by_cases hij : j = i
  · subst hij
    rw [hj]
    simp [rowE, NestedKey.beq_self]
  · cases hx : xs[i]? with
    | none => simp
    | some r =>
      obtain ⟨rk, rp⟩ := r
      have ne : NestedKey.beq rk k = false := by
        cases hb : NestedKey.beq rk k with
        | false => rfl
        | true =>
          obtain rfl := (beq_iff rk k).mp hb
          exact absurd (row_one hn hj hx) hij
      simp [hij, ne]
theorem keys_put : (xs.map fun r => if NestedKey.beq r.1 k then (r.1, r.2.1, v) else r).map (·.1) = xs.map (·.1) := by
  rw [List.map_map]
  refine List.map_congr_left fun r _ => ?_
  show (if NestedKey.beq r.1 k then (r.1, r.2.1, v) else r).1 = r.1
  split <;> rfl
theorem KeysOk.put {h : Heap} (ok : KeysOk h xs) (hk : NestedIs h k key) (h8 : k.depth ≤ 8) : KeysOk h (putM xs k key v) := by
  intro r hr
  unfold putM at hr
  split at hr
  · obtain ⟨q, hq, rfl⟩ := List.mem_map.mp hr
    split
    · exact ok q hq
    · exact ok q hq
  · rcases List.mem_append.mp hr with hr | hr
    · exact ok r hr
    · obtain rfl := List.mem_singleton.mp hr
      exact ⟨hk, h8⟩
theorem set_m {Q : Unit → Shared → Prop} (hu : A.units + 9 < cLine) (hk : NestedIs s.heap k key) (h8 : k.depth ≤ 8) (D : DM w s.heap d xs) (ok : KeysOk s.heap xs) (len : xs.length ≤ sizeLine)
    (z : ∀ h' tk, DM w h' d (putM xs k key v) → Heap.SameBut d s.heap h' → Q () { s with heap := h', toks := tk }) : wpAny (model prog w) A (dictSet d key v) Q E s := by
  obtain ⟨⟨o, es, ep, ho, hc, hd, he⟩, hn⟩ := D
  unfold dictSet
  try with_reducible refine wpAny_holding ?_
  refine wpAny_bind (pyHash_key k key A s _ hk (by omega) ?_)
  unfold dictSetHashed
  try with_reducible refine wpAny_holding ?_
  refine wpAny_bind (find_m (s := { s with toks := s.toks + k.draws }) hu hk h8 ho hd he ok hn (fun no => ?_) (fun j p hj => ?_))
  · refine wpAny_bind (wpAny_rule (wpAny_updateDictKeys (hz := by
      have e := row_size he
      omega) (s := { s with toks := s.toks + k.draws }) ho hd (z _ _ ⟨⟨_, _, ep + 1, Heap.get?_update_self _ ho (Obj.isFreed_of_dict (Obj.data_mapDictKeys hd _)), hc.mapDictKeys _, Obj.data_mapDictKeys hd _, ?_⟩, ?_⟩ (Heap.SameBut.update ..))))
    · rw [putM_new no]
      simp [he, rowE]
    · rw [putM_new no, List.map_append, List.nodup_append]
      refine ⟨hn, by simp, fun a ha b hb e => ?_⟩
      obtain rfl : b = k := by simpa using hb
      subst e
      obtain ⟨r, hr, er⟩ := List.mem_map.mp ha
      obtain ⟨i, hi⟩ := List.mem_iff_getElem?.mp hr
      obtain ⟨rk, rp⟩ := r
      obtain rfl : rk = a := er
      exact no i rp hi
  · refine wpAny_bind (wpAny_rule (wpAny_bind (wpAny_updateDict (s := { s with toks := s.toks + k.draws }) ho hd (wpAny_point (z _ _ ⟨⟨_, _, ep, Heap.get?_update_self _ ho (Obj.isFreed_of_dict (Obj.data_mapDict hd _)), hc.mapDict _, Obj.data_mapDict hd _, ?_⟩, ?_⟩ (Heap.SameBut.update ..))))))
    · rw [putM_old hj, ← put_modify hn hj, ← he]
      obtain ⟨l⟩ := es
      simp
    · rw [putM_old hj, keys_put]
      exact hn
theorem get_m {Q : Option Value → Shared → Prop} (hu : A.units + 9 < cLine) (hk : NestedIs s.heap k key) (h8 : k.depth ≤ 8) (D : DM w s.heap d xs) (ok : KeysOk s.heap xs)
    (z : ∀ tk, Q ((lookM xs k).map (·.2.2)) { s with toks := tk }) : wpAny (model prog w) A (dictGet d key) Q E s := by
  obtain ⟨⟨o, es, ep, ho, hc, hd, he⟩, hn⟩ := D
  unfold dictGet
  try with_reducible refine wpAny_holding ?_
  refine wpAny_bind (pyHash_key k key A s _ hk (by omega) (wpAny_bind (find_m (s := { s with toks := s.toks + k.draws }) hu hk h8 ho hd he ok hn (fun no => ?_) (fun j p hj => ?_))))
  · have q := z (s.toks + k.draws)
    rw [(look_iff hn).2 no] at q
    exact wpAny_pure q
  · have q := z (s.toks + k.draws)
    rw [(look_iff hn).1 j p hj] at q
    refine wpAny_bind (wpAny_dictEntries (s := { s with toks := s.toks + k.draws }) ho hd ?_)
    rw [row_at he j, hj]
    exact wpAny_pure q
theorem DM.typeIs (D : DM w s.heap d xs) : s.TypeIs (.ref d) "dict" := let ⟨o, _, _, ho, hc, _⟩ := D.at_; ⟨o, ho, hc.1⟩
theorem DM.raw {h : Heap} (D : DM w h d xs) : ∃ es ep, h.DictRaw d es ep ∧ es.toList = xs.map (rowE w) := let ⟨o, es, ep, ho, hc, hd, he⟩ := D.at_; ⟨es, ep, ⟨o, ho, hc, hd⟩, he⟩
/-- d[k], there -/
theorem item_m {r : Row} {Q : Value → Shared → Prop} (hu : A.units + 10 < cLine) (hk : NestedIs s.heap k key) (h8 : k.depth ≤ 8) (D : DM w s.heap d xs) (ok : KeysOk s.heap xs) (hr : lookM xs k = some r)
    (z : ∀ tk, Q r.2.2 { s with toks := tk }) : wpAny (model prog w) A (getItem (.ref d) key) Q E s := by
  unfold getItem
  try with_reducible refine wpAny_holding ?_
  refine wpAny_bind (wpAny_sequenceKey D.typeIs (by decide) ?_)
  refine wpAny_bind (wpAny_callSpecial?_slot (name := Str.ofString "__getitem__") D.typeIs slot_dict_getitem
    (wpAny_call_entry slot_dict_getitem D.typeIs entry_dict_getitem ?_ (args_dict_getitem _ _)))
  show wpAny _ _ (dictGet d key >>= _) _ _ s
  refine wpAny_bind (get_m (by rw [Around.in1_units]; omega) hk h8 D ok fun tk => ?_)
  rw [hr]
  exact wpAny_pure ⟨r.2.2, rfl, wpAny_pure (z tk)⟩
/-- d[k] = v -/
theorem store_m {Q : Unit → Shared → Prop} (hu : A.units + 10 < cLine) (hk : NestedIs s.heap k key) (h8 : k.depth ≤ 8) (D : DM w s.heap d xs) (ok : KeysOk s.heap xs) (len : xs.length ≤ sizeLine)
    (z : ∀ h' tk, DM w h' d (putM xs k key v) → Heap.SameBut d s.heap h' → Q () { s with heap := h', toks := tk }) : wpAny (model prog w) A (setItem (.ref d) key v) Q E s := by
  unfold setItem
  try with_reducible refine wpAny_holding ?_
  refine wpAny_bind (wpAny_sequenceKey D.typeIs (by decide) ?_)
  refine wpAny_bind (wpAny_callSpecial?_slot (name := Str.ofString "__setitem__") D.typeIs slot_dict_setitem
    (wpAny_call_entry slot_dict_setitem D.typeIs entry_dict_setitem ?_ (args_dict_setitem _ _ _)))
  show wpAny _ _ (Builtin.Dict.notOrdered "__setitem__" ⟨[.ref d, key, v], []⟩ >>= _) _ _ s
  refine wpAny_bind (wpAny_notOrdered_dict D.typeIs ?_)
  show wpAny _ _ (dictSet d key v >>= _) _ _ s
  exact wpAny_bind (set_m (by rw [Around.in1_units]; omega) hk h8 D ok len fun h' tk D' hs => wpAny_pure ⟨.none, rfl, wpAny_pure (z h' tk D' hs)⟩)
end
end KD
end PySem
/-! ### KE1 -/
namespace L2
namespace KE
open PySem PySem.Spec PyProof.Rows PySem.KD
/-! ## dicts with keys of several sorts, in the hand layer -/
abbrev MRow := NestedKey × V × V
def MRel (p : MRow) (r : KD.Row) : Prop := p.1 = r.1 ∧ RelV p.2.1 r.2.1 ∧ RelV p.2.2 r.2.2
def mdo (w : World) (d : Addr) (xs : List MRow) : HO := .ext fun h => xs.length ≤ 1000 ∧ (d == sysModules) = false ∧ ∃ rows, Paired MRel xs rows ∧ DM w h d rows
/-- the value v is the key k -/
def kAt (H : Hp) (k : NestedKey) : V → Prop
  | .int i => k = .num i
  | .bl b => k = .num (if b = true then 1 else 0)
  | .str x => k = .text x
  | .ref a => ∃ l : List Int, k = .tup (l.map .num) ∧ H a = some (.tup (l.map .int))
  | _ => False
def KAll (H : Hp) (xs : List MRow) : Prop := ∀ p ∈ xs, kAt H p.1 p.2.1
def lookH (xs : List MRow) (k : NestedKey) : Option MRow := xs.find? fun r => NestedKey.beq r.1 k
def putH (xs : List MRow) (k : NestedKey) (key v : V) : List MRow :=
  if xs.any (fun r => NestedKey.beq r.1 k) then xs.map (fun r => if NestedKey.beq r.1 k then (r.1, r.2.1, v) else r) else xs ++ [(k, key, v)]
def mergeH (xs ps : List MRow) : List MRow := ps.foldl (fun acc p => putH acc p.1 p.2.1 p.2.2) xs
theorem putH_len (xs : List MRow) (k : NestedKey) (key v : V) : (putH xs k key v).length ≤ xs.length + 1 := by
  unfold putH
  split
  · rw [List.length_map]
    omega
  · rw [List.length_append]
    exact Nat.le_refl _
theorem mergeH_len (ps : List MRow) : ∀ xs : List MRow, (mergeH xs ps).length ≤ xs.length + ps.length := by
  induction ps with
  | nil => exact fun xs => Nat.le_refl _
  | cons p ps ih =>
    intro xs
    have h1 := ih (putH xs p.1 p.2.1 p.2.2)
    have h2 := putH_len xs p.1 p.2.1 p.2.2
    show (mergeH (putH xs p.1 p.2.1 p.2.2) ps).length ≤ xs.length + (ps.length + 1)
    omega
theorem kAt.mono {H H' : Hp} {k : NestedKey} {v : V} (h : kAt H k v) (t : ∀ a xs, H a = some (.tup xs) → H' a = some (.tup xs)) : kAt H' k v := by
  cases v with
  | ref a =>
    obtain ⟨l, e, q⟩ := h
    exact ⟨l, e, t _ _ q⟩
  | _ => exact h
theorem nums_depth : ∀ l : List Int, NestedKey.depthAll (l.map .num) = 0
  | [] => rfl
  | i :: l => by
    show max 0 (NestedKey.depthAll (l.map .num)) = 0
    rw [nums_depth l]
    rfl
theorem nums_all {h : Heap} : ∀ {l : List Int} {us : List Value}, Vals (l.map .int) us → NestedAll h (l.map .num) us
  | [], _, .nil => .nil
  | i :: l, _, .cons ⟨t, e⟩ r => by
    subst e
    exact .cons (.int i t) (nums_all r)
section
variable {P : Program} {w : World} {H H' : Hp} {h h' : Heap} {d : Addr} {xs : List MRow} {rows : List KD.Row} {k : NestedKey} {key v : V} {u : Value}
theorem kAt.is (q : kAt H k key) (ok : HOk P w H h) (r : RelV key u) : NestedIs h k u ∧ k.depth ≤ 8 := by
  cases key with
  | int i =>
    obtain ⟨t, rfl⟩ := r
    obtain rfl : k = .num i := q
    exact ⟨.int i t, Nat.zero_le _⟩
  | bl b =>
    obtain rfl : u = Value.bool b := r
    obtain rfl : k = .num (if b = true then 1 else 0) := q
    exact ⟨.bool rfl, Nat.zero_le _⟩
  | str x =>
    obtain ⟨t, rfl⟩ := r
    obtain rfl : k = .text x := q
    exact ⟨.text x t, Nat.zero_le _⟩
  | ref a =>
    obtain rfl : u = Value.ref a := r
    obtain ⟨l, rfl, e⟩ := q
    obtain ⟨_, its, rr, o, h1, h2, n, h3⟩ := (show ObjOk P w H h a (.tup (l.map .int)) from ok a _ e)
    refine ⟨.tup h1 h2 h3 (by simpa using nums_all rr), ?_⟩
    show NestedKey.depthAll (l.map .num) + 1 ≤ 8
    rw [nums_depth]
    decide
  | _ => exact q.elim
theorem keysOk (q : KAll H xs) (ok : HOk P w H h) (r : Paired MRel xs rows) : KeysOk h rows := by
  induction r with
  | nil => exact fun _ hm => nomatch hm
  | @cons p r ps rs hr t ih =>
    intro x hx
    rcases List.mem_cons.mp hx with rfl | hx
    · have z := (q p List.mem_cons_self).is ok hr.2.1
      rw [hr.1] at z
      exact z
    · exact ih (fun p' hp => q p' (List.mem_cons_of_mem _ hp)) x hx
theorem dmKeep (D : DM w h d rows) (k : ∀ o, h.get? d = some o → h'.get? d = some o) : DM w h' d rows :=
  ⟨let ⟨o, es, ep, ho, r⟩ := D.at_; ⟨o, es, ep, k _ ho, r⟩, D.once⟩
theorem mdo_ok (l : xs.length ≤ 1000) (sy : (d == sysModules) = false) (r : Paired MRel xs rows) (D : DM w h d rows) : ObjOk P w H h d (mdo w d xs) :=
  ⟨⟨l, sy, rows, r, D⟩, let ⟨o, _, _, ho, _⟩ := D.at_; ⟨o, ho⟩, fun _ _ ⟨l', s', rows', r', D'⟩ k => ⟨l', s', rows', r', dmKeep D' k⟩⟩
theorem mdo_rd (ok : HOk P w H h) (e : Rd H d (mdo w d xs)) : xs.length ≤ 1000 ∧ (d == sysModules) = false ∧ ∃ rows, Paired MRel xs rows ∧ DM w h d rows :=
  (show ObjOk P w H h d (.ext _) from e.ok ok).1
theorem rel_any (r : Paired MRel xs rows) : (xs.any fun r => NestedKey.beq r.1 k) = rows.any fun r => NestedKey.beq r.1 k := by
  induction r with
  | nil => rfl
  | cons hr t ih => rw [List.any_cons, List.any_cons, ih, hr.1]
theorem rel_put (r : Paired MRel xs rows) {uk uv : Value} (rk : RelV key uk) (rv : RelV v uv) : Paired MRel (putH xs k key v) (putM rows k uk uv) := by
  unfold putH putM
  rw [rel_any r]
  split
  · rename_i q
    clear q
    induction r with
    | nil => exact .nil
    | @cons p r' ps rs hr t ih =>
      refine .cons ?_ ih
      show MRel (if NestedKey.beq p.1 k then (p.1, p.2.1, v) else p) (if NestedKey.beq r'.1 k then (r'.1, r'.2.1, uv) else r')
      rw [← hr.1]
      split
      · exact ⟨rfl, hr.2.1, rv⟩
      · exact hr
  · rename_i q
    clear q
    induction r with
    | nil => exact .cons ⟨rfl, rk, rv⟩ .nil
    | cons hr t ih => exact .cons hr ih
theorem rel_look (r : Paired MRel xs rows) {p : MRow} (e : lookH xs k = some p) : ∃ q, lookM rows k = some q ∧ MRel p q := by
  unfold lookH at e
  unfold lookM
  induction r with
  | nil => cases e
  | @cons p' r' ps rs hr t ih =>
    rw [List.find?_cons] at e ⊢
    rw [← hr.1]
    cases hb : NestedKey.beq p'.1 k with
    | true =>
      rw [hb] at e
      cases e
      exact ⟨r', rfl, hr⟩
    | false =>
      rw [hb] at e
      exact ih e
theorem KAll.put (q : KAll H xs) (hk : kAt H k key) : KAll H (putH xs k key v) := by
  intro p hp
  unfold putH at hp
  split at hp
  · obtain ⟨r, hr, rfl⟩ := List.mem_map.mp hp
    split
    · exact q r hr
    · exact q r hr
  · rcases List.mem_append.mp hp with hp | hp
    · exact q p hp
    · obtain rfl := List.mem_singleton.mp hp
      exact hk
end
/-! ### readings and rules -/
section
variable {X : Cx} {pins : List (Addr × Obj)} {σ : St} {H : Hp} {s : Shared} {d : Addr} {xs : List MRow}
theorem vals1' {x : V} {us : List Value} (r : Vals [x] us) : ∃ u, us = [u] ∧ RelV x u := by
  cases r with
  | cons h t =>
    cases t
    exact ⟨_, rfl, h⟩
/-- d[k], there -/
def rIxM (w : World) : R2 := fun x y H Q => ∃ a es k p, x = .ref a ∧ Rd H a (mdo w a es) ∧ KAll H es ∧ kAt H k y ∧ lookH es k = some p ∧ Q p.2.2 H
theorem ixM (hu : X.A.units + 10 < cLine) : IxR X (rIxM X.w) := by
  intro value slice pins s σ H x y v u Q I rx ry z hs
  obtain ⟨a, es, k, p, rfl, e, ka, hk, hp, q⟩ := z
  cases rx
  obtain ⟨l, sy, rows, rr, D⟩ := mdo_rd I.hok e
  obtain ⟨r, hr, rel⟩ := rel_look rr hp
  obtain ⟨nk, h8⟩ := hk.is I.hok ry
  exact tail_any D.typeIs slot_dict_getitem.lookup (item_m hu nk h8 D (keysOk ka I.hok rr) hr fun tk => ⟨p.2.2, H, I.tok tk, rel.2.2, q⟩) hs
/-- d[k] = v -/
def rSetM (w : World) : TSet := fun x y v H Q => ∃ a es k, x = .ref a ∧ H a = some (mdo w a es) ∧ es.length < 1000 ∧ KAll H es ∧ kAt H k y ∧ Q (upd H a (mdo w a (putH es k y v)))
theorem wrM {h' : Heap} {tk : Nat} {es : List MRow} {rows : List KD.Row} (I : Inv X pins σ H s) (e : H d = some (mdo X.w d xs)) (l : es.length ≤ 1000) (sy : (d == sysModules) = false) (rr : Paired MRel es rows) (D : DM X.w h' d rows) (hs : Heap.SameBut d s.heap h') :
    Inv X pins σ (upd H d (mdo X.w d es)) { s with heap := h', toks := tk } :=
  I.write (x := d) (e := d) (by rw [e]; exact trivial) (.inl rfl) (fun b q hb z => (hs.2 b hb).trans z) (let ⟨o, _, _, ho, _⟩ := D.at_; ⟨o, ho⟩) (mdo_ok l sy rr D)
theorem setM (hu : X.A.units + 10 < cLine) : PSet X (rSetM X.w) := by
  intro pins s σ H o i v ov iv u Q I ro ri rv z
  obtain ⟨a, es, k, rfl, e, l, ka, hk, q⟩ := z
  cases ro
  obtain ⟨l0, sy, rows, rr, D⟩ := mdo_rd I.hok (.inl e)
  obtain ⟨nk, h8⟩ := hk.is I.hok ri
  have ln : rows.length ≤ sizeLine := by
    rw [← Paired.length rr]
    exact Nat.le_of_lt (small1000 l0)
  refine store_m hu nk h8 D (keysOk ka I.hok rr) ln fun h' tk D' hs => ⟨_, wrM I e ?_ sy (rel_put rr ri rv) D' hs, q⟩
  have := putH_len es k i v
  omega
end
end KE
end L2
/-! ### KE2 -/
namespace PySem
namespace KD
section
variable {prog : Program} {w : World} {A : Around} {E : Value → Shared → Prop} {s : Shared} {d : Addr} {es : Array DictEntry} {ep : Nat}
theorem lenRaw {Q : Value → Shared → Prop} (sy : (d == sysModules) = false) (raw : s.heap.DictRaw d es ep) (fit : (es.size : Int) < 2 ^ 63) (z : ∀ t tk, Q (.int es.size t) { s with toks := tk }) :
    wpAny (model prog w) A (call (.builtin "len") [.ref d]) Q E s := by
  refine Calls.call_function_entry kind_len plain_len entry_len (args_len1 _) ?_
  unfold Builtin.«len»
  refine wpAny_bind (m := oneArg "len" _) (wpAny_pure ?_)
  refine wpAny_bind (m := callSpecial? (.ref d) (Str.ofString "__len__")) (wpAny_callSpecial?_slot (name := Str.ofString "__len__") raw.typeIs F.slot_dict_len (call_len_raw sy raw ?_))
  refine wpAny_bind (wpAny_holding (wpAny_pure ?_))
  refine wpAny_bind (wpAny_letGo ?_)
  refine wpAny_ite_split (fun q => absurd q (by omega)) (fun _ => ?_)
  refine wpAny_ite_split (fun q => absurd q (by omega)) (fun _ => ?_)
  exact wpAny_bind (wpAny_mkInt (wpAny_pure ⟨_, rfl, z _ _⟩))
end
end KD
end PySem
namespace L2
namespace KE
open PySem PySem.Spec PyProof.Rows PySem.KD
section
variable {X : Cx} {pins : List (Addr × Obj)} {σ : St} {H : Hp} {s : Shared} {d : Addr} {xs : List MRow}
theorem callLenM : CallR X (.builtin "len") (fun ys H Q => ∃ a es, ys = [.ref a] ∧ Rd H a (mdo X.w a es) ∧ Q (.int es.length) H) := by
  intro pins s σ H ys us Q I r z
  obtain ⟨a, es, rfl, e, q⟩ := z
  obtain ⟨u, rfl, ru⟩ := vals1' r
  cases ru
  obtain ⟨l, sy, rows, rr, D⟩ := mdo_rd I.hok e
  obtain ⟨ens, ep, raw, he⟩ := D.raw
  have hl : ens.size = es.length := by
    rw [row_size he]
    exact (Paired.length rr).symm
  refine lenRaw sy raw (by omega) fun t tk => ⟨.int es.length, H, I.tok tk, ⟨t, by rw [hl]⟩, q⟩
theorem rows_at {es : List MRow} {rows : List KD.Row} {ens : Array DictEntry} {w : World} (rr : Paired MRel es rows) (he : ens.toList = rows.map (rowE w)) {i : Nat} {p : MRow} (hp : es[i]? = some p) : ∃ u v, ens[i]? = some ⟨p.1.hash w, u, v⟩ ∧ RelV p.2.1 u ∧ RelV p.2.2 v := by
  obtain ⟨r, hr, rel⟩ := LiI.paired_get rr hp
  refine ⟨r.2.1, r.2.2, ?_, rel.2.1, rel.2.2⟩
  rw [row_at he i, hr, rel.1]
  rfl
/-- list(d): the keys -/
theorem callListM (hc : X.calm = true) : CallR X (.type "list") (fun ys H Q => ∃ a es, ys = [.ref a] ∧ Rd H a (mdo X.w a es) ∧ ∀ l, H l = none → Q (.ref l) (upd H l (.lst (es.map (·.2.1))))) := by
  intro pins s σ H ys us Q I r z
  obtain ⟨a, es, rfl, e, q⟩ := z
  obtain ⟨u, rfl, ru⟩ := vals1' r
  cases ru
  obtain ⟨l, sy, rows, rr, D⟩ := mdo_rd I.hok e
  obtain ⟨ens, ep, raw, he⟩ := D.raw
  have hl : ens.size = es.length := by
    rw [row_size he]
    exact (Paired.length rr).symm
  refine PySem.W.kdl_call (KdlSrc.rawDict (es := ens) (ep := ep) sy) (I.ok.hd hc) raw (by
    rw [hl]
    exact Nat.le_of_lt (small1000 l)) fun h' tk acc c' kp hS hacc => ?_
  refine ⟨.ref s.heap.objs.size, upd H s.heap.objs.size (.lst (es.map (·.2.1))), I.laid kp (Nat.le_refl _) (show ObjOk X.prog X.w _ _ _ (.lst (es.map (·.2.1))) from ⟨?_, acc.toList, c', ?_, ?_⟩), rfl, q _ (I.hok.fresh (Nat.le_refl _))⟩
  · rw [List.length_map]
    exact Nat.le_of_lt (small1000 l)
  · have el : acc.toList.length = acc.size := by simp
    refine vals_of_at (by rw [List.length_map, el, hacc.1, hl]) fun j x w h1 h2 => ?_
    obtain ⟨hi, ev⟩ := hacc.2 j w (by rw [← Array.getElem?_toList]; exact h2)
    rw [List.getElem?_map] at h1
    obtain ⟨p, hp, rfl⟩ := Option.map_eq_some_iff.mp h1
    obtain ⟨u, v, e1, e2, e3⟩ := rows_at rr he hp
    rw [Array.getElem?_eq_getElem hi] at e1
    rw [ev, Option.some.inj e1]
    exact e2
  · rw [Array.toArray_toList]
    exact hS
/-- list(d.values()) -/
def tListVals (w : World) (te : TE) : TE := fun σ H Q => te σ H fun x H1 => ∃ a es, x = .ref a ∧ Rd H1 a (mdo w a es) ∧ ∀ l, H1 l = none → Q (.ref l) (upd H1 l (.lst (es.map (·.2.2))))
theorem peListVals {e : Expr} {te : TE} {p apos cpos pos : Pos} (hc : X.calm = true) (he : PE X e te) (hg : Gl X "list") (hm : X.mg "list" = none) (hv : bootBuiltins "list" = some (.type "list")) (hbase : attributeBase e "values" X.env (eval e X.env) = eval e X.env := by rfl) (hline : (apos.endLine == cpos.line) = true := by rfl)
    (hs : starEach [.Call (.Attribute e "values" apos) [] [] cpos] X.env = (false, eval (.Call (.Attribute e "values" apos) [] [] cpos) X.env) :: starEach [] X.env := by rfl) :
    PE X (.Call (.Name "list" p) [.Call (.Attribute e "values" apos) [] [] cpos] [] pos) (tListVals X.w te) := by
  refine ⟨fun pins s σ H Q I hq => ?_⟩
  refine wpAny_Call_Name_kw (ld_blt I hg hm hv ?_)
  refine PyProof.Rows.callWith_type1 ?_ hs rfl
  rw [hs]
  show wpAny _ _ (spliced ((false, eval (.Call (.Attribute e "values" apos) [] [] cpos) X.env) :: backTo pos (starEach [] X.env))) _ _ s
  refine Calls.spliced_cons ?_
  refine wpAny_Call_method (T := "dict") (id := "dict.values") hbase rfl hline F.plainAttrs_dict F.slot_dict_values F.type_dict_values (thn (he.run pins s σ H _ I hq) fun u s1 ⟨x, H1, I1, rx, a, es, ex, e, q⟩ => ?_)
  subst ex
  obtain rfl : u = Value.ref a := rx
  obtain ⟨l, sy, rows, rr, D⟩ := mdo_rd I1.hok e
  obtain ⟨ens, ep, raw, heq⟩ := D.raw
  have hl : ens.size = es.length := by
    rw [row_size heq]
    exact (Paired.length rr).symm
  have I2 : Inv X pins σ H1 { s1 with heap := s1.heap.push { cls := .type "dict_values", data := .fields #[.ref a] } } := I1.kept (t' := s1.toks) fun b ob q => Heap.get?_push_of_some _ q
  refine ⟨raw.typeIs, fun b eb => ?_, ?_⟩
  · cases eb
    obtain ⟨o, ho, ex, _⟩ := raw
    exact ⟨o, ho, ex.2.1⟩
  show wpAny _ _ (callWith cpos (.builtin "dict.values") [.ref a] [] []) _ X.xe s1
  refine method_meetsIn F.slot_dict_values F.entry_dict_values rfl (PySem.evalArgs_none ⟨rfl, raw.typeIs, F.args_dict_values_1 _, _, meets_dict_values_raw a sy, ⟨ens, ep, raw⟩, ?_⟩)
  refine Calls.spliced_nil ?_
  refine PySem.W.kdl_call (KdlSrc.rawValues (es := ens) (ep := ep) (d := a)) (I1.ok.hd hc) ⟨⟨_, Heap.get?_push_size _ rfl, rfl, rfl⟩, raw.push _⟩ (by
    rw [hl]
    exact Nat.le_of_lt (small1000 l)) fun h' tk acc c' kp hS hacc => ?_
  refine ⟨.ref _, upd H1 _ (.lst (es.map (·.2.2))), I2.laid kp (Nat.le_refl _) (show ObjOk X.prog X.w _ _ _ (.lst (es.map (·.2.2))) from ⟨?_, acc.toList, c', ?_, ?_⟩), rfl, q _ (I2.hok.fresh (Nat.le_refl _))⟩
  · rw [List.length_map]
    exact Nat.le_of_lt (small1000 l)
  · have el : acc.toList.length = acc.size := by simp
    refine vals_of_at (by rw [List.length_map, el, hacc.1, hl]) fun j x w h1 h2 => ?_
    obtain ⟨hi, ev⟩ := hacc.2 j w (by rw [← Array.getElem?_toList]; exact h2)
    rw [List.getElem?_map] at h1
    obtain ⟨p, hp, rfl⟩ := Option.map_eq_some_iff.mp h1
    obtain ⟨u, v, e1, e2, e3⟩ := rows_at rr heq hp
    rw [Array.getElem?_eq_getElem hi] at e1
    rw [ev, Option.some.inj e1]
    exact e3
  · rw [Array.toArray_toList]
    exact hS
/-- for k in d, while d is locked -/
def ItkM (w : World) (d : Addr) (o : Obj) (es : List MRow) : It :=
  ⟨fun i H => H d = some (.frz o (mdo w d es)) ∧ i < es.length, fun i H x H' => H' = H ∧ ∃ p, es[i]? = some p ∧ x = p.2.1, fun i H => H d = some (.frz o (mdo w d es)) ∧ es.length ≤ i⟩
def iKeysMM (w : World) (td : TE) : TI := fun σ H R => td σ H fun x H1 => ∃ d o es, x = .ref d ∧ H1 d = some (.frz o (mdo w d es)) ∧ R (ItkM w d o es) H1
theorem frzM {o : Obj} {es : List MRow} (I : Inv X pins σ H s) (e : H d = some (.frz o (mdo X.w d es))) : (d == sysModules) = false ∧ s.heap.get? d = some o ∧ o.ExactDict ∧ ∃ (ens : Array DictEntry) (ep : Nat), o.data = .dict ens ep ∧ ens.size = es.length ∧
    ∀ (i : Nat) (p : MRow), es[i]? = some p → ∃ u v, ens[i]? = some (⟨p.1.hash X.w, u, v⟩ : DictEntry) ∧ RelV p.2.1 u ∧ RelV p.2.2 v := by
  obtain ⟨l, sy, rows, rr, D⟩ := mdo_rd I.hok (.inr ⟨o, e⟩)
  obtain ⟨o2, ens, ep, ho, ex, hd, he⟩ := D.at_
  have e0 : s.heap.get? d = some o := (show ObjOk X.prog X.w H s.heap d (.frz o (mdo X.w d es)) from I.hok d _ e).1
  rw [e0] at ho
  cases ho
  refine ⟨sy, e0, ex, ens, ep, hd, ?_, fun i p hp => rows_at rr he hp⟩
  rw [row_size he]
  exact (Paired.length rr).symm
theorem turnM {P : Program} {w : World} {K : PySem.W.Frag} {tg : Expr} {o : Obj} {es : List MRow} {ens : Array DictEntry} {ep : Nat} (it : Addr) (hod : o.data = .dict ens ep) : Turn P w K tg (ItkM w d o es) [it] it (fun i h => h.IsKeyIter it d i es.length ep) where
  mem := by simp
  obj := fun i h st b hb => by
    obtain rfl : b = it := by simpa using hb
    obtain ⟨oi, e, c, dd⟩ := st
    refine ⟨oi, e, fun v z => ?_⟩
    rw [dd] at z
    cases z
  keep := fun i h h' st k => st.at fun oi e => k it (by simp) oi e
  item := by
    intro X hP hw hK hc i pins s σ H E I hf st hg
    subst hP hw hK
    obtain ⟨hd, hi⟩ := hg
    obtain ⟨f0, f1, f2, f3, f4, f5⟩ := hf it (by simp)
    obtain ⟨sy, hgd, hx, ens', ep', hdt, hsz, ent⟩ := frzM I hd
    obtain ⟨rfl, rfl⟩ := dict_ep hod hdt
    obtain ⟨u, v, hen, r1, r2⟩ := ent i es[i] (List.getElem?_eq_getElem hi)
    refine next_key_item st hgd hdt hsz hen fun h' st' sb => ?_
    have I1 : Inv X pins σ H { s with heap := h' } := I.turned (t' := s.toks) (fun b ob hb e => (sb.2 b hb).trans e) f0 f1 f3 f4 f5
    obtain ⟨oi, e, c, dd⟩ := id st'
    exact ⟨u, rfl, go_of (s := { s with heap := h' }) e c dd (by decide) ⟨_, H, I1, r1, ⟨rfl, es[i], List.getElem?_eq_getElem hi, rfl⟩, st', fun b hb => (hf b hb).1⟩⟩
  done := by
    intro X hP hw hK hc i pins s σ H E I hf st hg
    subst hP hw hK
    obtain ⟨hd, hi⟩ := hg
    obtain ⟨f0, f1, f2, f3, f4, f5⟩ := hf it (by simp)
    obtain ⟨sy, hgd, hx, ens', ep', hdt, hsz, ent⟩ := frzM I hd
    obtain ⟨rfl, rfl⟩ := dict_ep hod hdt
    exact next_key_end (I.ok.hd hc) st hgd hdt hsz hi fun h' eb => ⟨rfl, I.turned (t' := s.toks) (fun b ob hb e => eb b ob hb e) f0 f1 f3 f4 f5⟩
  self := fun A i s Q E st h => wpAny_pyIter_keyiter st h
theorem piKeysM {tg e : Expr} {td : TE} (he : PE X e td) : PI X tg e (iKeysMM X.w td) := by
  refine ⟨fun pins s σ H R I z => ?_⟩
  refine thn (he.run pins s σ H _ I z) fun u s1 ⟨x, H1, I1, rx, d, o, es, ex, hd, q⟩ => ?_
  subst ex
  obtain rfl : u = Value.ref d := rx
  obtain ⟨sy, hgd, hx, ens, ep, hdt, hsz, ent⟩ := frzM I1 hd
  refine iter_keys sy hgd hx hdt (pi_one (tk := s1.toks) I1 _ (turnM _ hdt) ⟨_, Heap.get?_push_size _ rfl, rfl, ?_⟩ q)
  rw [hsz]
  rfl
theorem walkM {w : World} {o : Obj} {es : List MRow} : Walk (ItkM w d o es) es.length (fun H => H d = some (.frz o (mdo w d es))) (fun i H x H' => H' = H ∧ ∃ p, es[i]? = some p ∧ x = p.2.1) :=
  ⟨fun _ _ hi q => ⟨q, hi⟩, fun _ q => ⟨q, Nat.le_refl _⟩, fun _ _ _ _ _ _ y => y⟩
end
end KE
end L2
/-! ### KE3 -/
namespace L2
namespace KE
open PySem PySem.Spec PyProof.Rows PySem.KD
def mergeM (xs rs : List KD.Row) : List KD.Row := rs.foldl (fun acc r => putM acc r.1 r.2.1 r.2.2) xs
theorem merge_rel : ∀ {ps : List MRow} {rs : List KD.Row} {xs : List MRow} {ys : List KD.Row}, Paired MRel ps rs → Paired MRel xs ys → Paired MRel (mergeH xs ps) (mergeM ys rs)
  | _, _, _, _, .nil, r => r
  | p :: ps, q :: rs, xs, ys, .cons h t, r => by
    show Paired MRel (mergeH (putH xs p.1 p.2.1 p.2.2) ps) (mergeM (putM ys q.1 q.2.1 q.2.2) rs)
    rw [← h.1]
    exact merge_rel t (rel_put r h.2.1 h.2.2)
theorem mergeM_ok {h : Heap} : ∀ {rs xs : List KD.Row}, KeysOk h rs → KeysOk h xs → KeysOk h (mergeM xs rs)
  | [], _, _, q => q
  | r :: rs, xs, p, q => mergeM_ok (rs := rs) (xs := putM xs r.1 r.2.1 r.2.2) (fun x hx => p x (List.mem_cons_of_mem _ hx)) (q.put (p r List.mem_cons_self).1 (p r List.mem_cons_self).2)
theorem putM_len (xs : List KD.Row) (k : NestedKey) (key v : Value) : (putM xs k key v).length ≤ xs.length + 1 := by
  unfold putM
  split
  · rw [List.length_map]
    omega
  · rw [List.length_append]
    exact Nat.le_refl _
theorem mergeM_len (rs : List KD.Row) : ∀ xs : List KD.Row, (mergeM xs rs).length ≤ xs.length + rs.length := by
  induction rs with
  | nil => exact fun xs => Nat.le_refl _
  | cons p ps ih =>
    intro xs
    have h1 := ih (putM xs p.1 p.2.1 p.2.2)
    have h2 := putM_len xs p.1 p.2.1 p.2.2
    show (mergeM (putM xs p.1 p.2.1 p.2.2) ps).length ≤ xs.length + (ps.length + 1)
    omega
theorem mergeM_step (rs : List KD.Row) {i : Nat} {r : KD.Row} (h : rs[i]? = some r) : mergeM [] (rs.take (i + 1)) = putM (mergeM [] (rs.take i)) r.1 r.2.1 r.2.2 := by
  unfold mergeM
  rw [List.take_succ, h, List.foldl_append]
  rfl
section
variable {X : Cx} {pins : List (Addr × Obj)} {σ : St} {H : Hp} {s : Shared}
theorem pairs_rows (ok : HOk X.prog X.w H s.heap) : ∀ {ts : List Addr} {ps : List MRow}, Paired (fun (t : Addr) (p : MRow) => H t = some (.tup [p.2.1, p.2.2])) ts ps →
    ∃ rs : List KD.Row, Paired MRel ps rs ∧ rs.length = ts.length ∧ ∀ (j : Nat) (k v : Value), (rs.map (·.2))[j]? = some (k, v) → ∃ t, ts[j]? = some t ∧ PairAt s.heap t k v
  | _, _, .nil => ⟨[], .nil, rfl, fun j k v e => by simp at e⟩
  | t :: ts, p :: ps, .cons h r => by
    obtain ⟨rs, r1, l1, a1⟩ := pairs_rows ok r
    obtain ⟨_, its, rr, o, h1, h2, n, h3⟩ := (show ObjOk X.prog X.w H s.heap t (.tup [p.2.1, p.2.2]) from ok t _ h)
    match its, rr with
    | [u, v], .cons ru (.cons rv .nil) =>
      refine ⟨(p.1, u, v) :: rs, .cons ⟨rfl, ru, rv⟩ r1, congrArg Nat.succ l1, fun j k w e => ?_⟩
      cases j with
      | zero =>
        simp at e
        obtain ⟨rfl, rfl⟩ := e
        exact ⟨t, rfl, .inl ⟨o, h1, h2, n, h3⟩⟩
      | succ j => exact a1 j k w (by simpa using e)
/-- dict(pairs) -/
theorem callDictM (hu : X.A.units + 20 < cLine) (hc : X.calm = true) : CallR X (.type "dict") (fun ys H Q => ∃ (a : Addr) (ts : List Addr) (ps : List MRow), ys = [.ref a] ∧ H a = some (.lst (ts.map .ref)) ∧ Paired (fun (t : Addr) (p : MRow) => H t = some (.tup [p.2.1, p.2.2])) ts ps ∧ KAll H ps ∧ ps.length ≤ 900 ∧
    ∀ d, H d = none → Q (.ref d) (upd H d (mdo X.w d (mergeH [] ps)))) := by
  intro pins s σ H ys us Q I r z
  obtain ⟨a, ts, ps, rfl, ha, pr, ka, lp, q⟩ := z
  obtain ⟨u, rfl, ru⟩ := vals1' r
  cases ru
  obtain ⟨rs, rr, lr, at_⟩ := pairs_rows I.hok pr
  obtain ⟨z0, its, n, rv, hla⟩ := (show ObjOk X.prog X.w H s.heap a (.lst (ts.map V.ref)) from I.hok a _ ha)
  have lps : ps.length = rs.length := Paired.length rr
  have lit : its.length = ts.length := by
    have := Paired.length rv
    rw [List.length_map] at this
    exact this.symm
  have keys : KeysOk s.heap rs := keysOk ka I.hok rr
  have ref_at : ∀ j t, ts[j]? = some t → its[j]? = some (Value.ref t) := fun j t e => by
    obtain ⟨u, hu', rl⟩ := rv.get (i := j) (x := V.ref t) (by rw [List.getElem?_map, e]; rfl)
    rw [hu']
    exact congrArg some rl
  have ok : PlainSeq "list" s.heap a its.toArray ∧ PairItems s.heap its.toArray (fun j => ts.getD j 0) (rs.map (·.2)) := by
    refine ⟨⟨_, n, hla, rfl, rfl, rfl⟩, by simp [lit, lr], fun j k v e => ?_⟩
    obtain ⟨t, et, pa⟩ := at_ j k v e
    have eg : ts.getD j 0 = t := by rw [List.getD_eq_getElem?_getD, et]; rfl
    show its.toArray[j]? = some (Value.ref (ts.getD j 0)) ∧ PairAt s.heap (ts.getD j 0) k v
    rw [eg]
    exact ⟨by rw [List.getElem?_toArray]; exact ref_at j t et, pa⟩
  have big : (s.heap.objs.size == sysModules) = false := beq_eq_false_iff_ne.mpr (Ne.symm (Nat.ne_of_lt I.big))
  refine call_dict_arg (PairArg.list a its.toArray (fun j => ts.getD j 0) (rs.map (·.2))) ok fun s1 hs1 hdf ok1 => ?_
  subst hs1
  let d := s.heap.objs.size
  let Tab : Nat → Heap → Prop := fun i h => DM X.w h d (mergeM [] (rs.take i)) ∧ ∀ b o vs n, s.heap.get? b = some o → o.data = .seq vs n → h.get? b = some o
  have tab0 : Tab 0 (s.heap.push { cls := .type "dict", data := .dict #[] }) := by
    refine ⟨⟨⟨_, #[], 0, Heap.get?_push_size _ rfl, ⟨rfl, rfl, rfl⟩, rfl, rfl⟩, List.nodup_nil⟩, fun b o vs n e _ => Heap.get?_push_of_some _ e⟩
  refine updateFrom_arg (A := X.A.in1) (d := d) (Tab := Tab) (PairArg.list a its.toArray (fun j => ts.getD j 0) (rs.map (·.2))) .none (I.ok.hd hc) ok1 hdf tab0 (fun i h t => ?_) (fun i h h' wr' off new t kp => ?_) (fun i k v s2 Q2 E2 hi hrel t _ z2 => ?_) (fun h' tk t kp => ?_)
  · obtain ⟨⟨o, es, ep, ho, _⟩, _⟩ := t.1
    exact Heap.lt_size ho
  · refine ⟨dmKeep t.1 fun o e => kp d o off e, fun b o vs n e hd => kp b o (fun hb => ?_) (t.2 b o vs n e hd)⟩
    rcases new b hb with w0 | w0
    · cases w0
    · rw [Heap.get?_push_of_some _ e] at w0
      cases w0
  · have hr0 : (rs.map (·.2))[i]? = some (k, v) := hrel
    rw [List.getElem?_map] at hr0
    obtain ⟨r, er, e2⟩ := Option.map_eq_some_iff.mp hr0
    obtain ⟨kd, k', v'⟩ := r
    cases e2
    have kk : KeysOk s2.heap rs := fun x hx => ⟨NestedIs.at (fun b o vs n e hd => t.2 b o vs n e hd) _ _ (keys x hx).1, (keys x hx).2⟩
    have hm := List.mem_of_getElem? er
    have lm : (mergeM [] (rs.take i)).length ≤ sizeLine := by
      have h1 := mergeM_len (rs.take i) []
      rw [List.length_nil, List.length_take] at h1
      exact Nat.le_of_lt (small1000 (by omega))
    refine set_m (A := X.A.in1.in1) (by
      rw [Around.in1_units, Around.in1_units]
      omega) (kk _ hm).1 (kk _ hm).2 t.1 (mergeM_ok (fun x hx => kk x (List.mem_of_mem_take hx)) (fun x hx => nomatch hx)) lm fun h' tk D' hs => z2 h' tk ⟨?_, fun b o vs n e hd => ?_⟩ hs
    · rw [mergeM_step rs er]
      exact D'
    · have q1 := t.2 b o vs n e hd
      refine (hs.2 b fun eb => ?_).trans q1
      obtain ⟨⟨o3, es3, ep3, ho3, _, hd3, _⟩, _⟩ := t.1
      rw [eb, ho3] at q1
      cases q1
      rw [hd3] at hd
      cases hd
  · have t1 : DM X.w h' d (mergeM [] rs) := by
      have := t.1
      rw [List.length_map, List.take_length] at this
      exact this
    have l0 : (mergeH [] ps).length ≤ 1000 := by
      have := mergeH_len ps []
      rw [List.length_nil] at this
      omega
    refine ⟨rfl, .ref d, upd H d (mdo X.w d (mergeH [] ps)), I.laid (fun b o e => kp b o (Nat.ne_of_lt (Heap.lt_size e)) (fun w0 => nomatch w0) (Heap.get?_push_of_some _ e)) (Nat.le_refl _) (mdo_ok l0 big (merge_rel rr .nil) t1), rfl, q d (I.hok.fresh (Nat.le_refl _))⟩
end
end KE
end L2
/-! ### KE4 -/
namespace L2
namespace KE
open PySem PySem.Spec PyProof.Rows PySem.KD
/-! ## {k: v for target in iter}, keys of several sorts -/
theorem dictSetM {X : Cx} {pins : List (Addr × Obj)} {σ : St} {H : Hp} {s : Shared} {E : Value → Shared → Prop} {D : Addr} {xs : List MRow} {k : NestedKey} {y v : V} {u r : Value} {Q : Unit → Shared → Prop} (hu : X.A.units + 10 < cLine) (I : Inv X pins σ H s)
    (e : H D = some (mdo X.w D xs)) (l : xs.length < 1000) (ka : KAll H xs) (hk : kAt H k y) (ry : RelV y u) (rv : RelV v r) (z : ∀ s', Inv X pins σ (upd H D (mdo X.w D (putH xs k y v))) s' → Q () s') : wpAny (model X.prog X.w) X.A (dictSet D u r) Q E s := by
  obtain ⟨l0, sy, rows, rr, dm⟩ := mdo_rd I.hok (.inl e)
  obtain ⟨nk, h8⟩ := hk.is I.hok ry
  refine set_m (by omega) nk h8 dm (keysOk ka I.hok rr) (by
    rw [← Paired.length rr]
    exact Nat.le_of_lt (small1000 l0)) fun h' tk D' hs => z _ (wrM I e ?_ sy (rel_put rr ry rv) D' hs)
  have := putH_len xs k y v
  omega
/-- the reading: D the new dict; J goes on or stops; a turn stores one pair -/
def tDcM (w : World) (wi : TI) (g : TG) (tk tv : TE) (vs : List Nat) : TE := fun σ H Q => wi σ H fun J H1 => ∀ D, H1 D = none → ∃ W : Nat → Nat → Hp → Prop, (∃ m, W 0 m (upd H1 D (mdo w D []))) ∧ ∀ i m H, W i m H →
  (J.stop i H ∧ Q (.ref D) H) ∨ (J.go i H ∧ ∃ Nx : Hp → Prop, (∀ H', Nx H' → ∃ m', m' < m ∧ W (i + 1) m' H') ∧ ∀ x H', J.yld i H x H' → g x (wipe σ vs) H' fun σ2 H2 => wipe σ2 vs = wipe σ vs ∧ tk σ2 H2 fun y H4 => tv σ2 H4 fun z H5 =>
    ∃ xs k, kAt H5 k y ∧ H5 D = some (mdo w D xs) ∧ KAll H5 xs ∧ xs.length < 1000 ∧ Nx (upd H5 D (mdo w D (putH xs k y z))))
section
variable {X : Cx}
theorem dcM_core {pins : List (Addr × Obj)} {s : Shared} {σ : St} {H : Hp} {Q : VK} {kx vx tg iter : Expr} {scope : Scope} {own : List (Str × Nat)} {pos pos' : Pos} {wi : TI} {g : TG} {tk tv : TE} {use : Option (Value → Sem Unit)} {Qf : Value → Shared → Prop}
    (hu : X.A.units + 10 < cLine) (hc : X.calm = true) (hN : X.N.Nodup) (I : Inv X pins σ H s) (hi : PI X tg iter wi) (ok : BlkOk X.N X.env.scope scope own)
    (hg : ∀ (s : Shared) (H : Hp) (C : Addr) (cl : List (Str × Addr)) (fp : List Addr), PG (X.blk s H scope (compEnvC scope cl C X.env) fp) tg g)
    (hk : ∀ (s : Shared) (H : Hp) (C : Addr) (cl : List (Str × Addr)) (fp : List Addr), PE (X.blk s H scope (compEnvC scope cl C X.env) fp) kx tk)
    (he : ∀ (s : Shared) (H : Hp) (C : Addr) (cl : List (Str × Addr)) (fp : List Addr), PE (X.blk s H scope (compEnvC scope cl C X.env) fp) vx tv) (hs : ∀ x, foldedSetIterable iter X.env x = pure x)
    (z : tDcM X.w wi g tk tv (own.map (·.2)) σ H Q)
    (fin : ∀ D C s' m H', Inv X pins σ H' s' → Q (.ref D) H' → s'.heap.Ns C m → FpOk X pins H' C → compPost (model X.prog X.w) X.A X.xe use Qf (.ref D) C (.ok .next) s') :
    wpAny (model X.prog X.w) X.A (comprehension (.DictComp kx vx [⟨tg, iter, [], 0⟩] scope pos) scope X.env pos' newDict false (eval iter X.env) use) Qf X.xe s := by
  have cells : ∀ y ∈ scope.names, y.2 = .free → ∃ c, X.env.cells.lookup y.1 = some c := fun y hy e =>
    (ok.free y hy e).elim (fun q => I.ok.has _ (.inl q)) fun q => I.ok.has _ (.inr q)
  refine wpAny_comprehension_free (use := use) rfl hs (closure_ok cells) ok.kind (fun y hy e => by rw [ok.uniq y hy, e]) (thn (hi.run pins s σ H _ I z) fun xv s1 hx => thn hx fun itv s2 hq2 => ?_)
  obtain ⟨it, fp, tn, J, H2, ei, I2, T, st2, f2, q⟩ := hq2
  subst ei
  refine wpAny_newObj_type (newEnv_comp ?_)
  generalize eD : s2.heap.objs.size = D
  have Dn : H2 D = none := I2.hok.fresh (Nat.le_of_eq eD)
  obtain ⟨W, ⟨m0, w0⟩, turn⟩ := q D Dn
  generalize e3 : ({ s2 with heap := s2.heap.push { cls := .type "dict", data := .dict #[] } } : Shared) = s3
  have I3 : Inv X pins σ (upd H2 D (mdo X.w D [])) s3 := by
    rw [← e3]
    refine I2.laid (t' := s2.toks) (fun b o e => Heap.get?_push_of_some _ e) (Nat.le_of_eq eD) ?_
    rw [← eD]
    exact mdo_ok (Nat.zero_le _) (beq_eq_false_iff_ne.mpr (Ne.symm (Nat.ne_of_lt I2.big))) .nil ⟨⟨_, #[], 0, Heap.get?_push_size _ rfl, ⟨rfl, rfl, rfl⟩, rfl, rfl⟩, List.nodup_nil⟩
  have hp3 : s3.heap = s2.heap.push { cls := .type "dict", data := .dict #[] } := by rw [← e3]
  have low : ∀ b ∈ fp, b < s2.heap.objs.size := fun b hb => let ⟨_, e, _⟩ := T.obj _ _ st2 b hb; Heap.lt_size e
  have f3 : ∀ b ∈ fp, FpOk X pins (upd H2 D (mdo X.w D [])) b ∧ b < s3.heap.objs.size := fun b hb => by
    have lt := low b hb
    refine ⟨⟨?_, (f2 b hb).2⟩, ?_⟩
    · rw [upd_ne (by rw [← eD]; exact Nat.ne_of_lt lt)]
      exact (f2 b hb).1
    · rw [hp3, Heap.size_push]
      exact Nat.lt_succ_of_lt lt
  have st3 : tn 0 s3.heap := T.keep _ _ _ st2 fun b _ o e => by
    rw [hp3]
    exact Heap.get?_push_of_some _ e
  have I4 := block_start I3 ok hN f3
  have pg := hg s3 (upd H2 D (mdo X.w D [])) s3.heap.objs.size (cellsFrom (s3.heap.objs.size + 1) scope.names (cloFrom X.env.cells scope.names [])) fp
  have pk := hk s3 (upd H2 D (mdo X.w D [])) s3.heap.objs.size (cellsFrom (s3.heap.objs.size + 1) scope.names (cloFrom X.env.cells scope.names [])) fp
  have pe := he s3 (upd H2 D (mdo X.w D [])) s3.heap.objs.size (cellsFrom (s3.heap.objs.size + 1) scope.names (cloFrom X.env.cells scope.names [])) fp
  show codeAny _ _ (.compStart (.DictComp kx vx [⟨tg, iter, [], 0⟩] scope pos) 0 (.ref it) (.ref D) (compEnvC scope (cellsFrom (s3.heap.objs.size + 1) scope.names (cloFrom X.env.cells scope.names [])) s3.heap.objs.size X.env)) (compPost (model X.prog X.w) X.A X.xe use Qf (.ref D) s3.heap.objs.size) { s3 with heap := pushCells (s3.heap.push { cls := .type "dict", data := .dict #[] }) scope.names }
  have none3 : ∀ b ∈ fp, (upd H2 D (mdo X.w D [])) b = none := fun b hb => (f3 b hb).1.1
  generalize ec : compEnvC scope (cellsFrom (s3.heap.objs.size + 1) scope.names (cloFrom X.env.cells scope.names [])) s3.heap.objs.size X.env = ce at I4 pg pk pe ⊢
  have eL : ce.locals = s3.heap.objs.size := by
    subst ec
    rfl
  generalize eH : upd H2 D (mdo X.w D []) = H3 at I3 I4 pg pk pe w0 none3 f3
  generalize e4 : ({ s3 with heap := pushCells (s3.heap.push { cls := .type "dict", data := .dict #[] }) scope.names } : Shared) = s4 at I4 ⊢
  have st4 : tn 0 s4.heap := T.keep _ _ _ st3 fun b _ o e => by
    rw [← e4]
    exact pushCells_keeps _ _ _ _ (Heap.get?_push_of_some _ e)
  have foot : ∀ {σ' : St} {H' : Hp} {s' : Shared}, Inv (X.blk s3 H3 scope ce fp) [] σ' H' s' → (∀ b ∈ fp, H' b = none) → ∀ b ∈ fp, FpOk (X.blk s3 H3 scope ce fp) [] H' b := fun {σ' H' s'} K n b hb => by
    refine ⟨n b hb, (K.ok.exf b hb).1, K.ok.exfs b hb, .inl hb, fun x c e => (K.ok.exf b hb).2 x c e, fun p hp => ?_⟩
    exact absurd (show p ∈ ([] : List (Addr × Obj)) ++ [] from hp) (by simp)
  have loop : codeAny (model X.prog X.w) X.A (.compLoop (.DictComp kx vx [⟨tg, iter, [], 0⟩] scope pos) 0 (.ref it) (.ref D) ce) (compPost (model X.prog X.w) X.A X.xe use Qf (.ref D) s3.heap.objs.size) s4 := by
    refine compLoop_anyD (fun n s' => ∃ i H', Inv (X.blk s3 H3 scope ce fp) [] (wipe σ (own.map (·.2))) H' s' ∧ tn i s'.heap ∧ (∀ b ∈ fp, H' b = none) ∧ W i n H') ?_ m0 ⟨0, H3, I4, st4, none3, w0⟩
    rintro n s5 ⟨i, H5, I5, st5, n5, w5⟩
    rcases turn i n H5 w5 with ⟨stop, qq⟩ | ⟨go, Nx, hNx, step⟩
    · refine thnF (T.done (X.blk s3 H3 scope ce fp) rfl rfl rfl hc i [] s5 _ H5 (fun _ _ => False) I5 (foot I5 n5) st5 stop) fun r s6 ⟨hr, I6⟩ => ?_
      subst hr
      have I7 : Inv X pins σ H5 s6 := I3.call' (ch := fp) I6.os I6.base I6.hok I6.bare fun b hb =>
        ⟨(f3 b hb).1.2.2.2.1, (f3 b hb).1.2.1, (f3 b hb).1.2.2.2.2.1, (f3 b hb).1.2.2.2.2.2⟩
      have nC : H5 s3.heap.objs.size = none := by
        have y : H5 ce.locals = none := I6.free
        rw [eL] at y
        exact y
      obtain ⟨m, hn, _⟩ := I6.loc
      have hn' : s6.heap.Ns ce.locals m := hn
      rw [eL] at hn'
      exact fin D s3.heap.objs.size s6 m H5 I7 qq hn' (I3.fpOk (Nat.le_refl _) nC)
    · refine thnF (T.item (X.blk s3 H3 scope ce fp) rfl rfl rfl hc i [] s5 _ H5 (fun _ _ => False) I5 (foot I5 n5) st5 go) fun r s6 ⟨u, hr, h6⟩ => ?_
      subst hr
      refine thnF h6 fun _ s7 ⟨x, H7, I7, r7, y7, st7, n7⟩ => ?_
      have P7 := I7.pinned (foot I7 n7) (T.obj _ _ st7)
      refine thnF (pg.run _ s7 _ H7 x u _ P7 r7 (step x H7 y7)) fun _ s8 ⟨σ8, H8, I8, hw8, q8⟩ => ?_
      refine wpAny_pure (a := true) ?_
      have done : ∀ {s' : Shared} {H' : Hp}, Inv (X.blk s3 H3 scope ce fp) ([] ++ pinsAt fp s7.heap) σ8 H' s' → Nx H' → ∃ m, m < n ∧ ∃ i H', Inv (X.blk s3 H3 scope ce fp) [] (wipe σ (own.map (·.2))) H' s' ∧ tn i s'.heap ∧ (∀ b ∈ fp, H' b = none) ∧ W i m H' := by
        intro s' H' K nx
        obtain ⟨m', hm, w'⟩ := hNx H' nx
        have pin : ∀ b ∈ fp, ∀ o, s7.heap.get? b = some o → s'.heap.get? b = some o ∧ H' b = none := fun b hb o e =>
          let y := K.pin (b, o) (List.mem_append_right _ (List.mem_append_right _ (mem_pinsAt hb e)))
          ⟨y.1, y.2.1⟩
        have ll : (wipe σ (own.map (·.2))).length = σ8.length := by rw [← hw8, wipe_length]
        refine ⟨m', hm, i + 1, H', (K.unpinned (pins := [])).weak ll (fun j v e => ?_), T.keep _ _ _ st7 fun b hb o e => (pin b hb o e).1, fun b hb => ?_, w'⟩
        · rw [← hw8] at e
          exact (wipe_some e).1
        · obtain ⟨o, e, _⟩ := T.obj _ _ st7 b hb
          exact (pin b hb o e).2
      rw [if_pos rfl]
      have u8 : (X.blk s3 H3 scope ce fp).A.units + 10 < cLine := hu
      refine thnF (pk.run _ s8 σ8 H8 _ I8 q8) fun a1 s10 ⟨yk, H10, I10, r10, q10⟩ => ?_
      refine thnF (pe.run _ s10 σ8 H10 _ I10 q10) fun a2 s11 ⟨yv, H11, I11, r11, xs, k, kat, eD11, ka, l11, nx⟩ => ?_
      exact dictSetM (X := X.blk s3 H3 scope ce fp) u8 I11 eD11 l11 ka kat r10 r11 fun s12 I12 => done I12 nx
  exact codeAny_compStart_dict loop (T.self X.A 0 _ _ _ st4 loop)
/-- as a value -/
theorem peDcM {kx vx tg iter : Expr} {scope : Scope} {own : List (Str × Nat)} {pos : Pos} {wi : TI} {g : TG} {tk tv : TE} (hu : X.A.units + 10 < cLine) (hc : X.calm = true) (hN : X.N.Nodup) (hi : PI X tg iter wi) (ok : BlkOk X.N X.env.scope scope own)
    (hg : ∀ (s : Shared) (H : Hp) (C : Addr) (cl : List (Str × Addr)) (fp : List Addr), PG (X.blk s H scope (compEnvC scope cl C X.env) fp) tg g)
    (hk : ∀ (s : Shared) (H : Hp) (C : Addr) (cl : List (Str × Addr)) (fp : List Addr), PE (X.blk s H scope (compEnvC scope cl C X.env) fp) kx tk)
    (he : ∀ (s : Shared) (H : Hp) (C : Addr) (cl : List (Str × Addr)) (fp : List Addr), PE (X.blk s H scope (compEnvC scope cl C X.env) fp) vx tv) (hs : ∀ x, foldedSetIterable iter X.env x = pure x := by intro _; rfl) :
    PE X (.DictComp kx vx [⟨tg, iter, [], 0⟩] scope pos) (tDcM X.w wi g tk tv (own.map (·.2))) := by
  refine ⟨fun pins s σ H Q I z => ?_⟩
  rw [arm_eval_DictComp]
  refine dcM_core hu hc hN I hi ok hg hk he hs z fun D C s' m H' I' q hn f => ⟨m, hn, fun h2 sb => ?_⟩
  exact ⟨.ref D, H', I'.turned (t' := s'.toks) (fun b o hb e => (sb.2 b hb).trans e) f.1 f.2.1 f.2.2.2.1 f.2.2.2.2.1 f.2.2.2.2.2, rfl, q⟩
/-- over a walk -/
theorem dcM_it {w : World} {J : It} {n : Nat} {G : Hp → Prop} {Y : Nat → Hp → V → Hp → Prop} (wk : Walk J n G Y) {g : TG} {tk tv : TE} {vs : List Nat} {σ : St} {H1 : Hp} {D : Addr} {Qd : Hp → Prop} (Pv : Nat → Hp → Prop) (h0 : Pv 0 (upd H1 D (mdo w D []))) (hG : ∀ i H, i ≤ n → Pv i H → G H)
    (hs : ∀ i x H H', i < n → Pv i H → Y i H x H' → g x (wipe σ vs) H' fun σ2 H2 => wipe σ2 vs = wipe σ vs ∧ tk σ2 H2 fun y H4 => tv σ2 H4 fun z H5 =>
      ∃ xs k, kAt H5 k y ∧ H5 D = some (mdo w D xs) ∧ KAll H5 xs ∧ xs.length < 1000 ∧ Pv (i + 1) (upd H5 D (mdo w D (putH xs k y z)))) (hd : ∀ H, Pv n H → Qd H) :
    ∃ W : Nat → Nat → Hp → Prop, (∃ m, W 0 m (upd H1 D (mdo w D []))) ∧ ∀ i m H, W i m H →
      (J.stop i H ∧ Qd H) ∨ (J.go i H ∧ ∃ Nx : Hp → Prop, (∀ H', Nx H' → ∃ m', m' < m ∧ W (i + 1) m' H') ∧ ∀ x H', J.yld i H x H' → g x (wipe σ vs) H' fun σ2 H2 => wipe σ2 vs = wipe σ vs ∧ tk σ2 H2 fun y H4 => tv σ2 H4 fun z H5 =>
        ∃ xs k, kAt H5 k y ∧ H5 D = some (mdo w D xs) ∧ KAll H5 xs ∧ xs.length < 1000 ∧ Nx (upd H5 D (mdo w D (putH xs k y z)))) := by
  refine ⟨fun i m H => m = n - i ∧ i ≤ n ∧ Pv i H, ⟨n, by simp, Nat.zero_le _, h0⟩, ?_⟩
  rintro i m H ⟨rfl, hi, p⟩
  have q := hG i H hi p
  rcases Nat.lt_or_ge i n with lt | ge
  · exact .inr ⟨wk.goes i H lt q, Pv (i + 1), fun H' p' => ⟨n - (i + 1), by omega, rfl, lt, p'⟩, fun x H' y => hs i x H H' lt p (wk.yields i H x H' lt q y)⟩
  · obtain rfl : i = n := by omega
    exact .inl ⟨wk.stops H q, hd H p⟩
end
end KE
end L2
/-! ### KF -/
namespace L2
namespace KF
open PySem PySem.Spec PyProof.Rows PySem.KD KE
/-! ## values that are data, by what they are in the abstract heap -/
mutual
/-- x is the data d; its lists and dicts stand at fp -/
inductive Rep (w : World) (H : Hp) : V → PyData → List Addr → Prop
  | none : Rep w H .non .none []
  | bool (b : Bool) : Rep w H (.bl b) (.bool b) []
  | int (i : Int) : Rep w H (.int i) (.int i) []
  | str (x : Str) : Rep w H (.str x) (.str x) []
  | lst {a : Addr} {vs : List V} {ds : List PyData} {fp : List Addr} : H a = some (.lst vs) → RepAll w H vs ds fp → Rep w H (.ref a) (.list ds) (a :: fp)
  | tup {a : Addr} {vs : List V} {ds : List PyData} {fp : List Addr} : H a = some (.tup vs) → RepAll w H vs ds fp → Rep w H (.ref a) (.tuple ds) fp
  | dct {a : Addr} {es : List MRow} {kvs : List (PyData × PyData)} {fk fv : List Addr} : H a = some (mdo w a es) → KAll H es → (es.map (·.1)).Nodup → fk = [] → RepAll w H (es.map fun r => r.2.1) (kvs.map (·.1)) fk → RepAll w H (es.map fun r => r.2.2) (kvs.map (·.2)) fv → Rep w H (.ref a) (.dict kvs) (a :: fv)
inductive RepAll (w : World) (H : Hp) : List V → List PyData → List Addr → Prop
  | nil : RepAll w H [] [] []
  | cons {v : V} {d : PyData} {vs : List V} {ds : List PyData} {f1 f2 : List Addr} : Rep w H v d f1 → RepAll w H vs ds f2 → RepAll w H (v :: vs) (d :: ds) (f1 ++ f2)
end
/-- fp's objects and all tuples stay -/
structure Keep (fp : List Addr) (H H' : Hp) : Prop where
  at_ : ∀ a ∈ fp, H' a = H a
  tup : ∀ a xs, H a = some (.tup xs) → H' a = some (.tup xs)
theorem Keep.sub {f g : List Addr} {H H' : Hp} (k : Keep g H H') (s : ∀ a ∈ f, a ∈ g) : Keep f H H' := ⟨fun a h => k.at_ a (s a h), k.tup⟩
theorem KAll.keep {H H' : Hp} {es : List MRow} (q : KAll H es) (t : ∀ a xs, H a = some (.tup xs) → H' a = some (.tup xs)) : KAll H' es := fun p hp => (q p hp).mono t
mutual
theorem Rep.keep {w : World} {H H' : Hp} : ∀ {v : V} {d : PyData} {fp : List Addr}, Rep w H v d fp → Keep fp H H' → Rep w H' v d fp
  | _, _, _, .none, _ => .none
  | _, _, _, .bool b, _ => .bool b
  | _, _, _, .int i, _ => .int i
  | _, _, _, .str x, _ => .str x
  | _, _, _, .lst e r, k => .lst ((k.at_ _ List.mem_cons_self).trans e) (r.keep (k.sub fun a h => List.mem_cons_of_mem _ h))
  | _, _, _, .tup e r, k => .tup (k.tup _ _ e) (r.keep k)
  | _, _, _, .dct e ka nd hf rk rv, k => .dct ((k.at_ _ List.mem_cons_self).trans e) (KAll.keep ka k.tup) nd hf (rk.keep (k.sub fun a h => absurd (hf ▸ h) (by simp))) (rv.keep (k.sub fun a h => List.mem_cons_of_mem _ h))
theorem RepAll.keep {w : World} {H H' : Hp} : ∀ {vs : List V} {ds : List PyData} {fp : List Addr}, RepAll w H vs ds fp → Keep fp H H' → RepAll w H' vs ds fp
  | _, _, _, .nil, _ => .nil
  | _, _, _, .cons r rs, k => .cons (r.keep (k.sub fun a h => List.mem_append_left _ h)) (rs.keep (k.sub fun a h => List.mem_append_right _ h))
end
mutual
theorem Rep.dom {w : World} {H : Hp} : ∀ {v : V} {d : PyData} {fp : List Addr}, Rep w H v d fp → ∀ a ∈ fp, H a ≠ none
  | _, _, _, .none, _, h => nomatch h
  | _, _, _, .bool _, _, h => nomatch h
  | _, _, _, .int _, _, h => nomatch h
  | _, _, _, .str _, _, h => nomatch h
  | _, _, _, .lst e r, a, h => by
    rcases List.mem_cons.mp h with rfl | h
    · rw [e]; simp
    · exact r.dom a h
  | _, _, _, .tup e r, a, h => r.dom a h
  | _, _, _, .dct e _ _ _ _ rv, a, h => by
    rcases List.mem_cons.mp h with rfl | h
    · rw [e]; simp
    · exact rv.dom a h
theorem RepAll.dom {w : World} {H : Hp} : ∀ {vs : List V} {ds : List PyData} {fp : List Addr}, RepAll w H vs ds fp → ∀ a ∈ fp, H a ≠ none
  | _, _, _, .nil, _, h => nomatch h
  | _, _, _, .cons r rs, a, h => (List.mem_append.mp h).elim (r.dom a) (rs.dom a)
end
theorem RepAll.length {w : World} {H : Hp} : ∀ {vs : List V} {ds : List PyData} {fp : List Addr}, RepAll w H vs ds fp → vs.length = ds.length
  | _, _, _, .nil => rfl
  | _, _, _, .cons _ rs => congrArg Nat.succ rs.length
theorem vals_rows {w : World} {es : List MRow} {rows : List KD.Row} {ens : Array DictEntry} (l : es.length ≤ 1000) (rr : Paired MRel es rows) (he : ens.toList = rows.map (rowE w)) : Vals (es.map fun r => r.2.1) (ens.toList.map (·.key)) ∧ Vals (es.map fun r => r.2.2) (ens.toList.map (·.val)) := by
  rw [he, List.map_map, List.map_map]
  clear he l
  induction rr with
  | nil => exact ⟨.nil, .nil⟩
  | cons hr t ih => exact ⟨.cons hr.2.1 ih.1, .cons hr.2.2 ih.2⟩
/-! ### what is shown of it -/
section
variable {P : Program} {w : World} {H : Hp} {h : Heap}
mutual
theorem Rep.shows (ok : HOk P w H h) : ∀ {v : V} {d : PyData} {fp : List Addr}, Rep w H v d fp → d.showable = true → d.shown.length ≤ sizeLine → ∀ {u : Value}, RelV v u →
    ∃ as bs, Reads h u d as ∧ ReadAtMost h d.depth bs ∧ ReprK P w bs h d.depth u d.shown
  | _, _, _, .none, _, _, u, ru => by
    obtain rfl : u = Value.none := ru
    exact ⟨[], [], .none, (fun _ z => nomatch z), by simp only [PyData.shown]; exact .of_is ReprIs.none _ _ _⟩
  | _, _, _, .bool b, _, _, u, ru => by
    obtain rfl : u = Value.bool b := ru
    exact ⟨[], [], .bool b, (fun _ z => nomatch z), by simp only [PyData.shown]; exact .of_is (ReprIs.bool b) _ _ _⟩
  | _, _, _, .int i, hs, _, u, ru => by
    obtain ⟨t, rfl⟩ := ru
    exact ⟨[], [], .int i t, (fun _ z => nomatch z), by simp only [PyData.shown]; exact .of_is (ReprIs.int t (by simpa [PyData.showable] using hs)) _ _ _⟩
  | _, _, _, .str x, _, hz, u, ru => by
    obtain ⟨t, rfl⟩ := ru
    exact ⟨[], [], .str x t, (fun _ z => nomatch z), by simp only [PyData.shown]; exact .of_is (ReprIs.str x t (by simpa only [PyData.shown] using hz)) _ _ _⟩
  | _, _, _, .lst (a := a) (ds := ds) e r, hs, hz, u, ru => by
    obtain rfl : u = Value.ref a := ru
    obtain ⟨_, its, n, rv, ho⟩ := (show ObjOk P w H h a (.lst _) from ok a _ e)
    have hz' : (listText (PyData.shownAll ds)).length ≤ sizeLine := by simpa only [PyData.shown] using hz
    obtain ⟨as, bs, rd, hb, hk⟩ := r.shows ok (by simpa [PyData.showable] using hs) (fun t ht => Nat.le_trans (listText_mem_le ht) hz') rv
    have R : Reads h (.ref a) (.list ds) (a :: as) := .list ho rfl rfl (by simpa using rd)
    have hna : a ∉ bs := not_mem_of_deeper R (by simp only [PyData.depth]; omega) hb
    refine ⟨_, a :: bs, R, ReadAtMost.cons R (by simp only [PyData.depth]; omega) hb, ?_⟩
    simp only [PyData.depth, PyData.shown]
    cases its with
    | nil =>
      cases rd
      simp only [PyData.shownAll, listText_nil]
      exact ReprK.listEmpty ho rfl rfl
    | cons x l => exact ReprK.list ho rfl rfl hna (by simpa using hk.length_eq) (fun i y e => hk.item i y (by simpa using e))
  | _, _, _, .tup (a := a) (ds := ds) e r, hs, hz, u, ru => by
    obtain rfl : u = Value.ref a := ru
    obtain ⟨_, its, rv, o, ho, hc, n, hd⟩ := (show ObjOk P w H h a (.tup _) from ok a _ e)
    have hz' : (tupleText (PyData.shownAll ds)).length ≤ sizeLine := by simpa only [PyData.shown] using hz
    obtain ⟨as, bs, rd, hb, hk⟩ := r.shows ok (by simpa [PyData.showable] using hs) (fun t ht => Nat.le_trans (tupleText_mem_le ht) hz') rv
    have R : Reads h (.ref a) (.tuple ds) as := .tuple ho hc hd (by simpa using rd)
    have hna : a ∉ bs := not_mem_of_deeper R (by simp only [PyData.depth]; omega) hb
    refine ⟨_, a :: bs, R, ReadAtMost.cons R (by simp only [PyData.depth]; omega) hb, ?_⟩
    simp only [PyData.depth, PyData.shown]
    exact ReprK.tuple ho hc hd hna (by simpa using hk)
  | _, _, _, .dct (a := a) (es := es) (kvs := kvs) e ka nd hf rk rv, hs, hz, u, ru => by
    obtain rfl : u = Value.ref a := ru
    obtain ⟨l, sy, rows, rr, D⟩ := mdo_rd ok (.inl e)
    obtain ⟨o, ens, ep, ho, hc, hd, he⟩ := D.at_
    have hz' : (dictText (PyData.shownKv kvs)).length ≤ sizeLine := by simpa only [PyData.shown] using hz
    obtain ⟨hs1, hs2⟩ := PyData.showableKv_split kvs (by simpa [PyData.showable] using hs)
    obtain ⟨v1, v2⟩ := vals_rows l rr he
    obtain ⟨a1, b1, rd1, hb1, k1⟩ := rk.shows ok hs1 (fun t ht => let ⟨p, hp, hl⟩ := PyData.shownKv_key_le kvs t ht; Nat.le_trans hl (Nat.le_trans (dictText_mem_le hp) hz')) v1
    obtain ⟨a2, b2, rd2, hb2, k2⟩ := rv.shows ok hs2 (fun t ht => let ⟨p, hp, hl⟩ := PyData.shownKv_val_le kvs t ht; Nat.le_trans hl (Nat.le_trans (dictText_mem_le hp) hz')) v2
    have R : Reads h (.ref a) (.dict kvs) (a :: a1 ++ a2) := .dict ho hc.1 hd rd1 rd2
    have hb : ReadAtMost h (PyData.depthKv kvs) (b1 ++ b2) := (hb1.mono (PyData.depthAll_keys_le kvs)).append (hb2.mono (PyData.depthAll_vals_le kvs))
    have hna : a ∉ b1 ++ b2 := not_mem_of_deeper R (by simp only [PyData.depth]; omega) hb
    refine ⟨_, a :: (b1 ++ b2), R, ReadAtMost.cons R (by simp only [PyData.depth]; omega) hb, ?_⟩
    simp only [PyData.depth, PyData.shown, PyData.shownKv_eq]
    exact ReprK.dict ho hc.1 hd sy hna (ReprEntriesK.of_two ens.toList _ _
      (k1.more_le (fun b hb => List.mem_append_left _ hb) (PyData.depthAll_keys_le kvs)) (k2.more_le (fun b hb => List.mem_append_right _ hb) (PyData.depthAll_vals_le kvs)))
theorem RepAll.shows (ok : HOk P w H h) : ∀ {vs : List V} {ds : List PyData} {fp : List Addr}, RepAll w H vs ds fp → PyData.showableAll ds = true → (∀ t ∈ PyData.shownAll ds, t.length ≤ sizeLine) → ∀ {us : List Value}, Vals vs us →
    ∃ as bs, ReadsAll h us ds as ∧ ReadAtMost h (PyData.depthAll ds) bs ∧ ReprAllK P w bs h (PyData.depthAll ds) us (PyData.shownAll ds)
  | _, _, _, .nil, _, _, _, .nil => ⟨[], [], .nil, (fun _ z => nomatch z), by simp only [PyData.shownAll]; exact .nil⟩
  | _, _, _, .cons (d := d) (ds := ds) r rs, hs, hz, _, .cons hu ht => by
    have hs' : d.showable = true ∧ PyData.showableAll ds = true := by simpa [PyData.showableAll] using hs
    obtain ⟨a1, b1, r1, hb1, k1⟩ := r.shows ok hs'.1 (hz _ (by simp only [PyData.shownAll]; exact List.mem_cons_self ..)) hu
    obtain ⟨a2, b2, r2, hb2, k2⟩ := rs.shows ok hs'.2 (fun t ht => hz t (by simp only [PyData.shownAll]; exact List.mem_cons_of_mem _ ht)) ht
    refine ⟨_, b1 ++ b2, .cons r1 r2, ?_, ?_⟩
    · simp only [PyData.depthAll]
      exact (hb1.mono (Nat.le_max_left _ _)).append (hb2.mono (Nat.le_max_right _ _))
    · simp only [PyData.depthAll, PyData.shownAll]
      have g1 := (k1.more (as' := b1 ++ b2) fun _ z => List.mem_append_left _ z).level_le (Nat.le_max_left _ (PyData.depthAll ds))
      exact .cons g1 (k2.more_le (fun _ z => List.mem_append_right _ z) (Nat.le_max_right _ _))
end
end
end KF
end L2
/-! ### KG -/
namespace L2
namespace KF
open PySem PySem.Spec PyProof.Rows PySem.KD KE
/-! ## repr and isinstance of data -/
def tyD : PyData → String
  | .none => "NoneType"
  | .bool _ => "bool"
  | .int _ => "int"
  | .str _ => "str"
  | .list _ => "list"
  | .tuple _ => "tuple"
  | .dict _ => "dict"
def isDictD : PyData → Bool
  | .dict _ => true
  | _ => false
def isTupD : PyData → Bool
  | .tuple _ => true
  | _ => false
def isListD : PyData → Bool
  | .list _ => true
  | _ => false
theorem kit_none (b : String) (h : b = "dict" ∨ b = "tuple" ∨ b = "list") : kitB "NoneType" b = some false := by rcases h with rfl | rfl | rfl <;> decide +kernel
theorem kitDict (d : PyData) : kitB (tyD d) "dict" = some (isDictD d) := by cases d <;> (show kitB _ _ = some _; simp only [tyD, isDictD]; decide +kernel)
theorem kitTup (d : PyData) : kitB (tyD d) "tuple" = some (isTupD d) := by cases d <;> (show kitB _ _ = some _; simp only [tyD, isTupD]; decide +kernel)
theorem kitList (d : PyData) : kitB (tyD d) "list" = some (isListD d) := by cases d <;> (show kitB _ _ = some _; simp only [tyD, isListD]; decide +kernel)
theorem kitLT {K : PySem.W.Frag} (d : PyData) : PySem.W.kitAny K (.type (tyD d)) [.type "list", .type "tuple"] = some (isListD d || isTupD d) :=
  kitAny_cons (kit_ty (kitList d)) (fun e => by
    rw [e]
    exact kitAny_cons (kit_ty (kitTup d)) (fun e2 => by rw [e2]; rfl) (fun e2 => by rw [e2]; rfl)) (fun e => by rw [e]; rfl)
theorem kitLTD {K : PySem.W.Frag} (d : PyData) : PySem.W.kitAny K (.type (tyD d)) [.type "list", .type "tuple", .type "dict"] = some (isListD d || isTupD d || isDictD d) :=
  kitAny_cons (kit_ty (kitList d)) (fun e => by
    rw [e]
    exact kitAny_cons (kit_ty (kitTup d)) (fun e2 => by
      rw [e2]
      exact kitAny_cons (kit_ty (kitDict d)) (fun e3 => by rw [e3]; rfl) (fun e3 => by rw [e3]; rfl)) (fun e2 => by rw [e2]; rfl)) (fun e => by rw [e]; rfl)
section
variable {X : Cx} {pins : List (Addr × Obj)} {σ : St} {H : Hp} {s : Shared}
theorem kitR {v : V} {d : PyData} {fp : List Addr} {u : Value} (I : Inv X pins σ H s) (r : Rep X.w H v d fp) (ru : RelV v u) : ∃ P : Heap → Prop, PySem.W.KitX X.K u (.type (tyD d)) P ∧ P s.heap ∧ u ≠ .builtin "__main__.__loader__#opaque" := by
  cases r with
  | none => cases (show u = Value.none from ru); exact ⟨_, PySem.W.kitx_none, True.intro, fun z => nomatch z⟩
  | bool y => cases (show u = Value.bool y from ru); exact ⟨_, PySem.W.kitx_bool, True.intro, fun z => nomatch z⟩
  | int i =>
    obtain ⟨t, rfl⟩ := ru
    exact ⟨_, PySem.W.kitx_int, True.intro, fun z => nomatch z⟩
  | str y =>
    obtain ⟨t, rfl⟩ := ru
    exact ⟨_, PySem.W.kitx_str, True.intro, fun z => nomatch z⟩
  | @lst a vs ds fp e rr =>
    obtain rfl : u = Value.ref a := ru
    have ho := (show ObjOk X.prog X.w H s.heap a (.lst vs) from I.hok a _ e).2
    obtain ⟨its, n, _, h1⟩ := ho
    exact ⟨_, PySem.W.kitx_list, ⟨_, h1, rfl⟩, fun z => nomatch z⟩
  | @tup a vs ds fp e rr =>
    obtain rfl : u = Value.ref a := ru
    have ho := (show ObjOk X.prog X.w H s.heap a (.tup vs) from I.hok a _ e).2
    obtain ⟨its, _, o, h1, h2, _⟩ := ho
    exact ⟨_, PySem.W.kitx_tuple, ⟨o, h1, h2⟩, fun z => nomatch z⟩
  | @dct a es kvs fk fv e ka nd hf rk rv =>
    obtain rfl : u = Value.ref a := ru
    obtain ⟨_, _, rows, _, D⟩ := mdo_rd I.hok (.inl e)
    obtain ⟨o, ens, ep, ho, hc, _⟩ := D.at_
    exact ⟨_, PySem.W.kitx_dict, ⟨o, ho, hc.1⟩, fun z => nomatch z⟩
/-- isinstance(x, T), T one built-in type -/
def rIsD (w : World) : List V → Hp → VK → Prop := fun xs H Q => ∃ v d fp T b, xs = [v, .ty T] ∧ Rep w H v d fp ∧ kitB (tyD d) T = some b ∧ Q (.bl b) H
theorem callIsD : CallR X (.builtin "isinstance") (rIsD X.w) := by
  intro pins s σ H xs us Q I r h
  obtain ⟨v, d, fp, T, b, rfl, rp, e, q⟩ := h
  obtain ⟨u1, u2, rfl, r1, r2⟩ := vals2 r
  cases (show u2 = Value.type T from r2)
  obtain ⟨P, Z, p, hx⟩ := kitR I rp r1
  exact PySem.W.kia_one Z I.kIn p (kit_ty e) hx fun tk => ⟨.bl b, H, I.tok tk, rfl, q⟩
/-- isinstance(x, (T1, T2, ..)), built-in types -/
def rIsDT (w : World) : List V → Hp → VK → Prop := fun xs H Q => ∃ v d fp tp Ts b, xs = [v, .ref tp] ∧ H tp = some (.tup (List.map V.ty Ts)) ∧ Rep w H v d fp ∧ (∀ K, PySem.W.kitAny K (.type (tyD d)) (Ts.map Value.type) = some b) ∧ Q (.bl b) H
theorem vals_ty : ∀ {Ts : List String} {us : List Value}, Vals (Ts.map V.ty) us → us = Ts.map Value.type
  | [], _, .nil => rfl
  | _ :: _, _, .cons r t => by
    cases r
    rw [vals_ty t]
    rfl
theorem callIsDT : CallR X (.builtin "isinstance") (rIsDT X.w) := by
  intro pins s σ H xs us Q I r h
  obtain ⟨v, d, fp, tp, Ts, b, rfl, hT, rp, e, q⟩ := h
  obtain ⟨u1, u2, rfl, r1, r2⟩ := vals2 r
  cases (show u2 = Value.ref tp from r2)
  obtain ⟨P, Z, p, hx⟩ := kitR I rp r1
  have ho := (show ObjOk X.prog X.w H s.heap tp (.tup (Ts.map V.ty)) from I.hok tp _ hT).2
  obtain ⟨its, rv, o, h1, h2, n, h3⟩ := ho
  obtain rfl := vals_ty rv
  obtain ⟨oc, od, dt, sl⟩ := o
  simp only at h2 h3
  subst h2 h3
  exact PySem.W.kia_tup Z I.kIn p h1 (e _) hx fun tk => ⟨.bl b, H, I.tok tk, rfl, q⟩
/-- repr(x) -/
def rReprD (w : World) : List V → Hp → VK → Prop := fun xs H Q => ∃ v d fp, xs = [v] ∧ Rep w H v d fp ∧ d.showable = true ∧ d.shown.length ≤ sizeLine ∧ d.depth ≤ 20 ∧ Q (.str d.shown) H
theorem callReprD (hg : X.A.guards = some []) (hu : X.A.units + 40 < cLine) : CallR X (.builtin "repr") (rReprD X.w) := by
  intro pins s σ H xs us Q I r h
  obtain ⟨v, d, fp, rfl, rp, hs, hz, h20, q⟩ := h
  obtain ⟨u, rfl, ru⟩ := vals1' r
  obtain ⟨as, bs, rd, hb, _⟩ := rp.shows I.hok hs hz ru
  have fin : ∀ h' tk t, (∀ b o, s.heap.get? b = some o → h'.get? b = some o) → EP X pins σ Q (.str d.shown t) { s with heap := h', toks := tk } := fun h' tk t kp => ⟨.str d.shown, H, I.kept kp, ⟨t, rfl⟩, q⟩
  have k0 : ∀ b o, s.heap.get? b = some o → s.heap.get? b = some o := fun _ _ e => e
  have hu1 : X.A.units + 1 < cLine := by omega
  have hu2 : (X.A.in1).units + (d.depth + 1) < cLine := by
    show X.A.units + 1 + (d.depth + 1) < cLine
    omega
  have hg1 : (X.A.in1).guards = some [] := hg
  cases rp with
  | none =>
    obtain rfl : u = Value.none := ru
    refine PySem.P.repr_of_none ?_
    simpa only [PyData.shown] using fin _ _ _ k0
  | bool y =>
    obtain rfl : u = Value.bool y := ru
    refine PySem.P.repr_of_bool ?_
    simpa only [PyData.shown] using fin _ _ _ k0
  | int i =>
    obtain ⟨t, rfl⟩ := ru
    refine PySem.P.repr_of_int (by simpa [PyData.showable] using hs) ?_
    simpa only [PyData.shown] using fin _ _ _ k0
  | str y =>
    obtain ⟨t, rfl⟩ := ru
    refine PySem.P.repr_of_str ?_ (by simpa only [PyData.shown] using hz)
    simpa only [PyData.shown] using fin _ _ _ k0
  | @lst a vs ds fp e rr =>
    obtain rfl : u = Value.ref a := ru
    have ho := (show ObjOk X.prog X.w H s.heap a (.lst vs) from I.hok a _ e).2
    obtain ⟨its, n, rv, h1⟩ := ho
    have hz' : (listText (PyData.shownAll ds)).length ≤ sizeLine := by simpa only [PyData.shown] using hz
    have h20' : PyData.depthAll ds + 1 ≤ 20 := by simpa only [PyData.depth] using h20
    obtain ⟨as2, bs2, rd2, hb2, k2⟩ := rr.shows I.hok (by simpa [PyData.showable] using hs) (fun t ht => Nat.le_trans (listText_mem_le ht) hz') rv
    have R : Reads s.heap (.ref a) (.list ds) (a :: as2) := .list h1 rfl rfl (by simpa using rd2)
    have hna : a ∉ bs2 := not_mem_of_deeper R (by simp only [PyData.depth]; omega) hb2
    refine call_repr_slot hu1 ⟨_, h1, rfl⟩ F.slot_list_repr.toG ?_
    simp only [PyData.shown] at fin
    cases its with
    | nil =>
      cases rd2
      simp only [PyData.shownAll, listText_nil] at fin
      exact call_list_repr_empty ⟨_, h1, rfl⟩ h1 rfl ⟨_, _, rfl, fin _ _ _ k0⟩
    | cons x l =>
      exact call_list_reprK h1 rfl rfl hna (by simpa using k2.length_eq) (fun i y e => k2.item i y (by simpa using e)) hg1 (fun b _ => Clear.nil b) (by show X.A.units + 1 + _ < _; omega) k0 (fun h' t tk kp => ⟨_, _, rfl, fin h' tk t kp⟩) hz'
  | @tup a vs ds fp e rr =>
    obtain rfl : u = Value.ref a := ru
    have ho := (show ObjOk X.prog X.w H s.heap a (.tup vs) from I.hok a _ e).2
    obtain ⟨its, rv, o, h1, h2, n, h3⟩ := ho
    have hz' : (tupleText (PyData.shownAll ds)).length ≤ sizeLine := by simpa only [PyData.shown] using hz
    have h20' : PyData.depthAll ds + 1 ≤ 20 := by simpa only [PyData.depth] using h20
    obtain ⟨as2, bs2, rd2, hb2, k2⟩ := rr.shows I.hok (by simpa [PyData.showable] using hs) (fun t ht => Nat.le_trans (tupleText_mem_le ht) hz') rv
    have R : Reads s.heap (.ref a) (.tuple ds) as2 := .tuple h1 h2 h3 (by simpa using rd2)
    have hna : a ∉ bs2 := not_mem_of_deeper R (by simp only [PyData.depth]; omega) hb2
    simp only [PyData.shown] at fin
    refine call_repr_slot hu1 ⟨_, h1, h2⟩ F.slot_tuple_repr ?_
    exact call_tuple_reprK h1 h2 h3 hna (by simpa using k2) hg1 (fun b _ => Clear.nil b) (by show X.A.units + 1 + _ < _; omega) k0 (fun h' t tk kp => ⟨_, _, rfl, fin h' tk t kp⟩) hz'
  | @dct a es kvs fk fv e ka nd hf rk rv =>
    obtain rfl : u = Value.ref a := ru
    obtain ⟨as3, bs3, rd3, hb3, k3⟩ := (Rep.dct e ka nd hf rk rv).shows I.hok hs hz (show RelV (.ref a) (Value.ref a) from rfl)
    obtain ⟨l, sy, rows, rr, D⟩ := mdo_rd I.hok (.inl e)
    obtain ⟨o, ens, ep, ho, hc, hd, he⟩ := D.at_
    have hz' : (dictText (PyData.shownKv kvs)).length ≤ sizeLine := by simpa only [PyData.shown] using hz
    have h20' : PyData.depthKv kvs + 1 ≤ 20 := by simpa only [PyData.depth] using h20
    obtain ⟨hs1, hs2⟩ := PyData.showableKv_split kvs (by simpa [PyData.showable] using hs)
    obtain ⟨v1, v2⟩ := vals_rows l rr he
    obtain ⟨a1, b1, rd1, hb1, k1⟩ := rk.shows I.hok hs1 (fun t ht => let ⟨p, hp, hl⟩ := PyData.shownKv_key_le kvs t ht; Nat.le_trans hl (Nat.le_trans (dictText_mem_le hp) hz')) v1
    obtain ⟨a2, b2, rd2, hb2, k2⟩ := rv.shows I.hok hs2 (fun t ht => let ⟨p, hp, hl⟩ := PyData.shownKv_val_le kvs t ht; Nat.le_trans hl (Nat.le_trans (dictText_mem_le hp) hz')) v2
    have R : Reads s.heap (.ref a) (.dict kvs) (a :: a1 ++ a2) := .dict ho hc.1 hd rd1 rd2
    have hb : ReadAtMost s.heap (PyData.depthKv kvs) (b1 ++ b2) := (hb1.mono (PyData.depthAll_keys_le kvs)).append (hb2.mono (PyData.depthAll_vals_le kvs))
    have hna : a ∉ b1 ++ b2 := not_mem_of_deeper R (by simp only [PyData.depth]; omega) hb
    simp only [PyData.shown, PyData.shownKv_eq] at fin
    refine call_repr_slot hu1 ⟨_, ho, hc.1⟩ F.slot_dict_repr ?_
    exact call_dict_reprK ho hc.1 hd sy hna (ReprEntriesK.of_two ens.toList _ _
      (k1.more_le (fun _ z => List.mem_append_left _ z) (PyData.depthAll_keys_le kvs)) (k2.more_le (fun _ z => List.mem_append_right _ z) (PyData.depthAll_vals_le kvs))) hg1 (fun b _ => Clear.nil b) (by show X.A.units + 1 + _ < _; omega) k0 (fun h' t tk kp => ⟨_, _, rfl, fin h' tk t kp⟩) (by rw [← PyData.shownKv_eq]; exact hz')
end
end KF
end L2
/-! ### KH -/
namespace L2
namespace KF
open PySem PySem.Spec PyProof.Rows PySem.KD KE
/-! ## surelyset.kinds -/
def topS (i : Nat) : Stmt := PySem.Challenge.pw_surelyset_k12_errors_and_limits.main.body.getD i (.Pass ⟨0, 0, 0, 0⟩)
abbrev sCopied : Stmt := topS 7
abbrev sItems : Stmt := topS 8
abbrev sRebuilt : Stmt := topS 9
theorem scItems : FnScope ["value"] ["value"] (defScope sItems) := ⟨rfl, rfl, rfl, by decide +kernel, rfl, by decide +kernel, by decide +kernel⟩
theorem scRebuilt : FnScope ["value", "items", "key", "item"] ["value", "items"] (defScope sRebuilt) := ⟨rfl, rfl, rfl, by decide +kernel, rfl, by decide +kernel, by decide +kernel⟩
/-- what stands in a value -/
def kids : PyData → List PyData
  | .list ds => ds
  | .tuple ds => ds
  | .dict kvs => kvs.map (·.2)
  | _ => []
def isCont (d : PyData) : Bool := isListD d || isTupD d || isDictD d
theorem same_upd {H : Hp} {p : Addr} {o : HO} (h : H p = none) : Same H (upd H p o) := fun b x e => by
  rw [upd_ne (ne_of_none e h)]
  exact e
theorem Keep.same {fp : List Addr} {H H' : Hp} (s : Same H H') (d : ∀ a ∈ fp, H a ≠ none) : Keep fp H H' := ⟨fun a ha => by
  cases e : H a with
  | none => exact absurd e (d a ha)
  | some o => exact s a o e, fun a xs e => s a _ e⟩
theorem Rep.same {w : World} {H H' : Hp} {v : V} {d : PyData} {fp : List Addr} (r : Rep w H v d fp) (s : Same H H') : Rep w H' v d fp := r.keep (.same s r.dom)
theorem RepAll.same {w : World} {H H' : Hp} {v : List V} {d : List PyData} {fp : List Addr} (r : RepAll w H v d fp) (s : Same H H') : RepAll w H' v d fp := r.keep (.same s r.dom)
/-- the names that kinds uses -/
structure Blt (mg : Str → Option Value) : Prop where
  len : mg "len" = none
  list : mg "list" = none
  tuple : mg "tuple" = none
  dict : mg "dict" = none
  isi : mg "isinstance" = none
  zip : mg "zip" = none
  range : mg "range" = none
  reversed : mg "reversed" = none
section
variable {P : Program} {w : World} {K : PySem.W.Frag} {mg : Str → Option Value} {base : Heap}
def spItems (w : World) : Sp := fun vs H Q _ => ∃ G v d fp, vs = [v] ∧ Same G H ∧ Rep w G v d fp ∧ ∀ H' p ws fk, Same H H' → H p = none → H' p = some (.lst ws) → RepAll w G ws (kids d) fk → Q (.ref p) H'
theorem ok_items {f : Addr} {fd : FuncData} {k : Nat} (F : Fun K "items_of" "items_of" sItems f fd) (B : Blt mg) : FnOk P w K mg base CX0 (k + 1) f fd ["value"] (spItems w) := by
  refine F.ok scItems (fun vs H Q E h => ?_) (fun cdv A outer s H vs Q E hr h => ?_)
  · obtain ⟨G, v, d, fp, rfl, _⟩ := h
    rfl
  · obtain ⟨G, v, d, fp, rfl, sG, rp, q⟩ := h
    have hc : (cxOf CX0 P w K mg base ["value"] "items_of" (defScope sItems) f cdv A outer s H E).nox.calm = true := rfl
    refine ⟨_, pss_cons (ps_if (pt_val (pe_callB callIsD (by rfl) B.isi boot_isinstance (pa_cons (pv 0) (pa_cons (pe_bltn (v := .ty "dict") (by rfl) B.dict boot_dict rfl) pa_nil))))
          (pss_one (ps_ret (peListVals hc (pv 0) (by rfl) B.list boot_list))) pss_nil)
      (pss_cons (ps_if (pt_val (pe_callB callIsDT (by rfl) B.isi boot_isinstance (pa_cons (pv 0) (pa_cons (pe_tup (pa_cons (pe_bltn (v := .ty "list") (by rfl) B.list boot_list rfl) (pa_cons (pe_bltn (v := .ty "tuple") (by rfl) B.tuple boot_tuple rfl) pa_nil))) pa_nil))))
          (pss_one (ps_ret (pe_callTy call_list_of (by rfl) B.list boot_list (pa_cons (pv 0) pa_nil)))) pss_nil)
      (pss_one (ps_ret (pe_lst pa_nil)))), ?_⟩
    refine ⟨v, rfl, v, d, fp, "dict", isDictD d, rfl, rp.same sG, kitDict d, isDictD d, rfl, ?_⟩
    cases hd : isDictD d with
    | true =>
      refine iteT ?_
      cases rp with
      | @dct a es kvs fk fv e ka nd hf rk rv =>
        refine ⟨.ref a, rfl, a, es, rfl, .inl (sG _ _ e), fun l nl => ?_⟩
        exact q _ l _ fv (same_upd nl) nl upd_same rv
      | _ => cases hd
    | false =>
      refine iteF ?_
      refine ⟨v, rfl, by show 2 ≤ sizeLine; decide, fun t nt => ?_⟩
      have s1 := same_upd (o := HO.tup [.ty "list", .ty "tuple"]) nt
      refine ⟨v, d, fp, t, ["list", "tuple"], isListD d || isTupD d, rfl, upd_same, rp.same (sG.trans s1), fun K => kitLT d, isListD d || isTupD d, rfl, ?_⟩
      cases rp with
      | @lst a vs ds fp e rr =>
        refine iteT ⟨.ref a, rfl, a, vs, rfl, .inl (.inl (.inl (s1 _ _ (sG _ _ e)))), fun l nl => ?_⟩
        exact q _ l _ fp (s1.trans (same_upd nl)) (s1.free nl) upd_same rr
      | @tup a vs ds fp e rr =>
        refine iteT ⟨.ref a, rfl, a, vs, rfl, .inr (.inl (.inl (s1 _ _ (sG _ _ e)))), fun l nl => ?_⟩
        exact q _ l _ fp (s1.trans (same_upd nl)) (s1.free nl) upd_same rr
      | dct => cases hd
      | none => exact iteF ⟨Nat.zero_le _, fun l nl => q _ l _ [] (s1.trans (same_upd nl)) (s1.free nl) upd_same .nil⟩
      | bool b => exact iteF ⟨Nat.zero_le _, fun l nl => q _ l _ [] (s1.trans (same_upd nl)) (s1.free nl) upd_same .nil⟩
      | int i => exact iteF ⟨Nat.zero_le _, fun l nl => q _ l _ [] (s1.trans (same_upd nl)) (s1.free nl) upd_same .nil⟩
      | str x => exact iteF ⟨Nat.zero_le _, fun l nl => q _ l _ [] (s1.trans (same_upd nl)) (s1.free nl) upd_same .nil⟩
end
end KF
end L2
/-! ### KI -/
namespace L2
namespace KF
open PySem PySem.Spec PyProof.Rows PySem.KD KE
/-! ## rebuilt -/
def newRows (es : List MRow) (ws : List V) : List MRow := (es.zip ws).map fun p => (p.1.1, p.1.2.1, p.2)
theorem newRows_len {es : List MRow} {ws : List V} (h : es.length = ws.length) : (newRows es ws).length = es.length := by
  unfold newRows
  rw [List.length_map, List.length_zip, h, Nat.min_self]
theorem newRows_key : ∀ {es : List MRow} {ws : List V}, es.length = ws.length → (newRows es ws).map (·.1) = es.map (·.1)
  | [], [], _ => rfl
  | e :: es, x :: ws, h => by
    show e.1 :: (newRows es ws).map (·.1) = _
    rw [newRows_key (Nat.succ.inj h)]
    rfl
  | [], _ :: _, h => nomatch h
  | _ :: _, [], h => nomatch h
theorem newRows_kv : ∀ {es : List MRow} {ws : List V}, es.length = ws.length → (newRows es ws).map (fun r => r.2.1) = es.map fun r => r.2.1
  | [], [], _ => rfl
  | e :: es, x :: ws, h => by
    show e.2.1 :: (newRows es ws).map (fun r => r.2.1) = _
    rw [newRows_kv (Nat.succ.inj h)]
    rfl
  | [], _ :: _, h => nomatch h
  | _ :: _, [], h => nomatch h
theorem newRows_v : ∀ {es : List MRow} {ws : List V}, es.length = ws.length → (newRows es ws).map (fun r => r.2.2) = ws
  | [], [], _ => rfl
  | e :: es, x :: ws, h => by
    show x :: (newRows es ws).map (fun r => r.2.2) = _
    rw [newRows_v (Nat.succ.inj h)]
  | [], _ :: _, h => nomatch h
  | _ :: _, [], h => nomatch h
theorem newRows_at {es : List MRow} {ws : List V} {i : Nat} {e : MRow} {x : V} (h1 : es[i]? = some e) (h2 : ws[i]? = some x) : (newRows es ws)[i]? = some (e.1, e.2.1, x) := by
  unfold newRows
  have h3 : (es.zip ws)[i]? = some (e, x) := List.getElem?_zip_eq_some.mpr ⟨h1, h2⟩
  rw [List.getElem?_map, h3]
  rfl
theorem put_fresh {xs : List MRow} {k : NestedKey} {key v : V} (h : k ∉ xs.map (·.1)) : putH xs k key v = xs ++ [(k, key, v)] := by
  unfold putH
  rw [if_neg]
  intro z
  obtain ⟨r, hr, e⟩ := List.any_eq_true.mp z
  exact h (List.mem_map.mpr ⟨r, hr, (beq_iff r.1 k).mp e⟩)
theorem put_next {rows : List MRow} {i : Nat} {r : MRow} (nd : (rows.map (·.1)).Nodup) (h : rows[i]? = some r) : putH (rows.take i) r.1 r.2.1 r.2.2 = rows.take (i + 1) := by
  rw [List.take_add_one, h]
  refine put_fresh fun z => ?_
  rw [List.map_take] at z
  obtain ⟨j, hj, e⟩ := List.getElem_of_mem z
  rw [List.length_take, List.length_map] at hj
  rw [List.getElem_take, List.getElem_map] at e
  have hi := (List.getElem?_eq_some_iff.mp h)
  obtain ⟨hi, ei⟩ := hi
  have h2 : j = i := (List.getElem_inj (xs := rows.map (·.1)) (i := j) (j := i) (h₀ := by rw [List.length_map]; omega) (h₁ := by rw [List.length_map]; exact hi) nd).mp (by rw [List.getElem_map, List.getElem_map, e, ei])
  omega
/-- all but D's object stays -/
def SameBut (D : Addr) (H H' : Hp) : Prop := ∀ b o, b ≠ D → H b = some o → H' b = some o
theorem KAll.take {H : Hp} {es : List MRow} (q : KAll H es) (n : Nat) : KAll H (es.take n) := fun p hp => q p (List.mem_of_mem_take hp)
theorem KAll.new {H : Hp} {es : List MRow} {ws : List V} (q : KAll H es) : KAll H (newRows es ws) := fun p hp => by
  unfold newRows at hp
  obtain ⟨r, hr, rfl⟩ := List.mem_map.mp hp
  exact q r.1 (List.of_mem_zip hr).1
section
variable {P : Program} {w : World} {K : PySem.W.Frag} {mg : Str → Option Value} {base : Heap}
def spReb (w : World) : Sp := fun vs H Q _ => ∃ v b d fp ws f2, vs = [v, .ref b] ∧ Rep w H v d fp ∧ isCont d = true ∧ H b = some (.lst ws) ∧ RepAll w H ws (kids d) f2 ∧ (kids d).length ≤ 1000 ∧
  ∀ H' v' f3, Same H H' → Rep w H' v' d f3 → (∀ a ∈ f3, a ∈ f2 ∨ H a = none) → Q v' H'
theorem ok_reb {f : Addr} {fd : FuncData} {k : Nat} (F : Fun K "rebuilt" "rebuilt" sRebuilt f fd) (B : Blt mg) : FnOk P w K mg base CX0 (k + 1) f fd ["value", "items"] (spReb w) := by
  refine F.ok scRebuilt (fun vs H Q E h => ?_) (fun cdv A outer s H vs Q E hr h => ?_)
  · obtain ⟨v, b, d, fp, ws, f2, rfl, _⟩ := h
    rfl
  · obtain ⟨v, b, d, fp, ws, f2, rfl, rp, hcont, hb, rw_, h1000, q⟩ := h
    have hc : (cxOf CX0 P w K mg base ["value", "items", "key", "item"] "rebuilt" (defScope sRebuilt) f cdv A outer s H E).nox.calm = true := rfl
    have hu : (cxOf CX0 P w K mg base ["value", "items", "key", "item"] "rebuilt" (defScope sRebuilt) f cdv A outer s H E).nox.A.units + 10 < cLine := by
      have := hr.un
      show (A.deeper _).units + 10 < cLine
      omega
    refine ⟨_, pss_cons (ps_if (pt_val (pe_callB callIsD (by rfl) B.isi boot_isinstance (pa_cons (pv 0) (pa_cons (pe_bltn (v := .ty "dict") (by rfl) B.dict boot_dict rfl) pa_nil))))
          (pss_one (ps_ret (peDcM (own := [("key", 2), ("item", 3)]) (g := gTup K 2 (gCons (gName 2) (gCons (gName 3) gNil))) hu hc scRebuilt.nd
            (pi_zip (by rfl) B.zip (pa_cons (pe_callTy (callListM hc) (by rfl) B.list boot_list (pa_cons (pv 0) pa_nil)) (pa_cons (pv 1) pa_nil)))
            (blkOk_by (N := ["value", "items", "key", "item"]) (sc := defScope sRebuilt) (by decide +kernel))
            (fun _ _ _ _ _ => pg_tup (by rfl) (pgs_cons (pg_name (i := 2) scRebuilt.nd (by rfl) (by exact .inl rfl)) (pgs_cons (pg_name (i := 3) scRebuilt.nd (by rfl) (by exact .inl rfl)) pgs_nil)))
            (fun _ _ _ _ _ => pv 2) (fun _ _ _ _ _ => pv 3)))) pss_nil)
      (pss_cons (ps_if (pt_val (pe_callB callIsD (by rfl) B.isi boot_isinstance (pa_cons (pv 0) (pa_cons (pe_bltn (v := .ty "tuple") (by rfl) B.tuple boot_tuple rfl) pa_nil))))
          (pss_one (ps_ret (pe_callTy call_tuple_of (by rfl) B.tuple boot_tuple (pa_cons (pv 1) pa_nil)))) pss_nil)
      (pss_one (ps_ret (pe_callTy call_list_of (by rfl) B.list boot_list (pa_cons (pv 1) pa_nil))))), ?_⟩
    refine ⟨v, rfl, v, d, fp, "dict", isDictD d, rfl, rp, kitDict d, isDictD d, rfl, ?_⟩
    cases hd : isDictD d with
    | true =>
      refine iteT ?_
      cases rp with
      | @dct a es kvs fk fv e ka nd hf rk rv =>
        subst hf
        have hl : es.length = ws.length := by
          have h1 := rv.length
          have h2 := rw_.length
          rw [List.length_map] at h1
          rw [h1, h2]
          rfl
        have hl2 : es.length ≤ 1000 := by
          have h2 := rw_.length
          rw [hl, h2]
          exact h1000
        refine ⟨.ref a, rfl, a, es, rfl, .inl e, fun l nl => ?_⟩
        have s1 : Same H (upd H l (.lst (es.map (·.2.1)))) := same_upd nl
        refine ⟨.ref b, rfl, l, b, es.map (·.2.1), ws, rfl, .inl (.inl upd_same), .inl (.inl (s1 _ _ hb)), fun D nD => ?_⟩
        have sz : (newRows es ws).length = es.length := newRows_len hl
        refine dcM_it (walk_zip (n := es.length) (xs := es.map (·.2.1)) (ys := ws) (by rw [List.length_map, hl, Nat.min_self]))
          (fun i H2 => SameBut D (upd (upd H l (.lst (es.map (·.2.1)))) D (mdo w D [])) H2 ∧ H2 D = some (mdo w D ((newRows es ws).take i)))
          ⟨fun _ _ _ z => z, upd_same⟩ (fun i H2 _ h => ?_) (fun i x H2 H3 hi hp hy => ?_) (fun H2 hp => ?_)
        · have nDl : l ≠ D := fun z => by
            rw [← z, upd_same] at nD
            cases nD
          refine ⟨.inl (.inl (h.1 l _ nDl ?_)), .inl (.inl (h.1 b _ ?_ ?_))⟩
          · rw [upd_ne nDl, upd_same]
          · exact ne_of_none (s1 _ _ hb) nD
          · rw [upd_ne (ne_of_none (s1 _ _ hb) nD)]
            exact s1 _ _ hb
        · obtain ⟨T, x1, x2, rfl, nT, rfl, g1, g2⟩ := hy
          obtain ⟨hs, hD⟩ := hp
          have g3 : es[i]?.map (fun r => r.2.1) = some x1 := by
            rw [← List.getElem?_map]
            exact g1
          have g1 := g3
          obtain ⟨r, hr1, rfl⟩ := Option.map_eq_some_iff.mp g1
          have ga := newRows_at hr1 g2
          have sT : Same H2 (upd H2 T (.tup [r.2.1, x2])) := same_upd nT
          have tl : ∀ c xs, H c = some (.tup xs) → (upd H2 T (.tup [r.2.1, x2])) c = some (.tup xs) := fun c xs z => by
            have z1 := s1 _ _ z
            have nc := ne_of_none z1 nD
            refine sT _ _ (hs c _ nc ?_)
            rw [upd_ne nc]
            exact z1
          refine ⟨T, [r.2.1, x2], rfl, .inl (.inl upd_same), rfl, r.2.1, [x2], rfl, x2, [], rfl, rfl, rfl, r.2.1, rfl, x2, rfl, (newRows es ws).take i, r.1, ?_, ?_, ?_, ?_, ?_, ?_⟩
          · exact (ka r (List.mem_of_getElem? hr1)).mono tl
          · exact sT _ _ hD
          · exact KAll.keep (KAll.take (KAll.new ka) i) tl
          · rw [List.length_take, sz]
            omega
          · intro c o nc z
            rw [upd_ne nc]
            exact sT _ _ (hs c o nc z)
          · rw [upd_same, ← put_next (r := (r.1, r.2.1, x2)) (by rw [newRows_key hl]; exact nd) ga]
            rfl
        · obtain ⟨hs, hD⟩ := hp
          rw [List.take_of_length_le (by omega)] at hD
          have sH : Same H H2 := fun c o z => by
            have z1 := s1 _ _ z
            have nc := ne_of_none z1 nD
            refine hs c _ nc ?_
            rw [upd_ne nc]
            exact z1
          refine q H2 (.ref D) (D :: f2) sH (.dct hD (KAll.keep (KAll.new ka) fun c xs z => sH _ _ z) (by rw [newRows_key hl]; exact nd) rfl ?_ ?_) fun c hc2 => ?_
          · rw [newRows_kv hl]
            exact rk.same sH
          · rw [newRows_v hl]
            exact rw_.same sH
          · rcases List.mem_cons.mp hc2 with rfl | hc2
            · exact .inr (s1.free nD)
            · exact .inl hc2
      | _ => cases hd
    | false =>
      refine iteF ⟨v, rfl, v, d, fp, "tuple", isTupD d, rfl, rp, kitTup d, isTupD d, rfl, ?_⟩
      cases rp with
      | @lst a vs ds fp e rr =>
        refine iteF ⟨.ref b, rfl, b, ws, rfl, .inl (.inl (.inl hb)), fun l nl => ?_⟩
        refine q _ (.ref l) (l :: f2) (same_upd nl) (.lst upd_same (rw_.same (same_upd nl))) fun c hc2 => ?_
        rcases List.mem_cons.mp hc2 with rfl | hc2
        · exact .inr nl
        · exact .inl hc2
      | @tup a vs ds fp e rr =>
        refine iteT ⟨.ref b, rfl, b, ws, rfl, .inl ⟨.inl (.inl hb), fun l nl => ?_⟩⟩
        exact q _ (.ref l) f2 (same_upd nl) (.tup upd_same (rw_.same (same_upd nl))) fun c hc2 => .inl hc2
      | dct => cases hd
      | none => cases hcont
      | bool b => cases hcont
      | int i => cases hcont
      | str x => cases hcont
end
end KF
end L2
/-! ### KJ -/
namespace L2
namespace KF
open PySem PySem.Spec PyProof.Rows PySem.KD KE
/-! ## copied -/
mutual
def sz : PyData → Nat
  | .list xs => szAll xs + 1
  | .tuple xs => szAll xs + 1
  | .dict kvs => szKv kvs + 1
  | .none => 1
  | .bool _ => 1
  | .int _ => 1
  | .str _ => 1
def szAll : List PyData → Nat
  | [] => 0
  | x :: xs => sz x + szAll xs
def szKv : List (PyData × PyData) → Nat
  | [] => 0
  | (k, v) :: r => sz v + szKv r
end
theorem szKv_eq : ∀ kvs, szKv kvs = szAll (kvs.map (·.2))
  | [] => by simp only [szKv, List.map_nil, szAll]
  | (k, v) :: r => by simp only [szKv, List.map_cons, szAll, szKv_eq r]
theorem sz_kids (d : PyData) : sz d = szAll (kids d) + 1 := by
  cases d <;> simp only [sz, kids, szAll, szKv_eq]
theorem szAll_append : ∀ xs ys, szAll (xs ++ ys) = szAll xs + szAll ys
  | [], ys => by simp only [List.nil_append, szAll, Nat.zero_add]
  | x :: xs, ys => by simp only [List.cons_append, szAll, szAll_append xs ys, Nat.add_assoc]
theorem szAll_len : ∀ xs, xs.length ≤ szAll xs
  | [] => Nat.zero_le _
  | x :: xs => by
    have := szAll_len xs
    have := sz_kids x
    simp only [List.length_cons, szAll]
    omega
theorem drop_one {α : Type} {l : List α} {i : Nat} {x : α} (h : l[i]? = some x) : l.drop i = x :: l.drop (i + 1) := by
  obtain ⟨hi, e⟩ := List.getElem?_eq_some_iff.mp h
  rw [List.drop_eq_getElem_cons hi, e]
/-- the nodes found so far: their data ds, their starts ss -/
structure Bfs (ds : List PyData) (ss : List Nat) : Prop where
  le : ss.length ≤ ds.length
  at_ : ∀ j d, j < ss.length → ds[j]? = some d → ∃ s, ss[j]? = some s ∧ j < s ∧ s + (kids d).length ≤ ds.length ∧ ∀ m, m < (kids d).length → ds[s + m]? = (kids d)[m]?
theorem Bfs.next {ds : List PyData} {ss : List Nat} {d : PyData} (b : Bfs ds ss) (h : ds[ss.length]? = some d) : Bfs (ds ++ kids d) (ss ++ [ds.length]) := by
  have hl := (List.getElem?_eq_some_iff.mp h).1
  refine ⟨by rw [List.length_append, List.length_append]; simp only [List.length_singleton]; omega, fun j d' hj hd => ?_⟩
  rw [List.length_append, List.length_singleton] at hj
  by_cases hj2 : j < ss.length
  · have hd' : ds[j]? = some d' := by
      rw [List.getElem?_append_left (by omega)] at hd
      exact hd
    obtain ⟨s, h1, h2, h3, h4⟩ := b.at_ j d' hj2 hd'
    refine ⟨s, by rw [List.getElem?_append_left hj2]; exact h1, h2, by rw [List.length_append]; omega, fun m hm => ?_⟩
    rw [List.getElem?_append_left (by omega)]
    exact h4 m hm
  · have ej : j = ss.length := by omega
    subst ej
    rw [List.getElem?_append_left hl, h] at hd
    obtain rfl := Option.some.inj hd
    refine ⟨ds.length, by rw [List.getElem?_append_right (Nat.le_refl _), Nat.sub_self]; rfl, hl, by rw [List.length_append]; exact Nat.le_refl _, fun m hm => ?_⟩
    rw [List.getElem?_append_right (Nat.le_add_right _ _), Nat.add_sub_cancel_left]
theorem Bfs.size {ds : List PyData} {i N : Nat} {d : PyData} (h : ds[i]? = some d) (e : i + szAll (ds.drop i) = N) : i + 1 + szAll ((ds ++ kids d).drop (i + 1)) = N := by
  have hl := (List.getElem?_eq_some_iff.mp h).1
  rw [drop_one h] at e
  rw [List.drop_append_of_le_length (by omega), szAll_append]
  simp only [szAll] at e
  have := sz_kids d
  omega
theorem Bfs.bound {ds : List PyData} {i N : Nat} (hi : i ≤ ds.length) (e : i + szAll (ds.drop i) = N) : ds.length ≤ N := by
  have := szAll_len (ds.drop i)
  rw [List.length_drop] at this
  omega
/-- all of them are what they are -/
def Reps (w : World) (H : Hp) (vs : List V) (ds : List PyData) : Prop := Paired (fun v d => ∃ f, Rep w H v d f) vs ds
theorem Reps.of {w : World} {H : Hp} : ∀ {vs : List V} {ds : List PyData} {f : List Addr}, RepAll w H vs ds f → Reps w H vs ds
  | _, _, _, .nil => .nil
  | _, _, _, .cons r rs => .cons ⟨_, r⟩ (Reps.of rs)
theorem paired_append {α β : Type} {R : α → β → Prop} : ∀ {xs : List α} {ys : List β} {xs' : List α} {ys' : List β}, Paired R xs ys → Paired R xs' ys' → Paired R (xs ++ xs') (ys ++ ys')
  | _, _, _, _, .nil, h => h
  | _, _, _, _, .cons a t, h => .cons a (paired_append t h)
section
variable {X : Cx}
/-- len(x) of data -/
def rLenD (w : World) : List V → Hp → VK → Prop := fun xs H Q => ∃ v d fp, xs = [v] ∧ Rep w H v d fp ∧ isCont d = true ∧ Q (.int (kids d).length) H
theorem callLenD : CallR X (.builtin "len") (rLenD X.w) := by
  intro pins s σ H xs us Q I r z
  obtain ⟨v, d, fp, rfl, rp, hc, q⟩ := z
  cases rp with
  | @lst a vs ds fp e rr => exact call_len_seq pins s σ H _ us Q I r ⟨a, vs, rfl, .inl (.inl (.inl e)), by rw [rr.length]; exact q⟩
  | @tup a vs ds fp e rr => exact call_len_seq pins s σ H _ us Q I r ⟨a, vs, rfl, .inr (.inl (.inl e)), by rw [rr.length]; exact q⟩
  | @dct a es kvs fk fv e ka nd hf rk rv =>
    refine callLenM pins s σ H _ us Q I r ⟨a, es, rfl, .inl e, ?_⟩
    have h1 := rv.length
    rw [List.length_map] at h1
    rw [h1]
    exact q
  | _ => cases hc
end
/-- a part of the made ones -/
theorem repAll_of {w : World} {H : Hp} {N : Addr → Prop} : ∀ {vs : List V} {ds : List PyData}, vs.length = ds.length → (∀ (m : Nat) (v : V) (d : PyData), vs[m]? = some v → ds[m]? = some d → ∃ f, Rep w H v d f ∧ ∀ a ∈ f, N a) → ∃ f, RepAll w H vs ds f ∧ ∀ a ∈ f, N a
  | [], [], _, _ => ⟨[], .nil, fun _ z => nomatch z⟩
  | v :: vs, d :: ds, hl, h => by
    obtain ⟨f1, r1, n1⟩ := h 0 v d rfl rfl
    obtain ⟨f2, r2, n2⟩ := repAll_of (vs := vs) (ds := ds) (Nat.succ.inj hl) fun m v' d' e1 e2 => h (m + 1) v' d' e1 e2
    exact ⟨f1 ++ f2, .cons r1 r2, fun a z => (List.mem_append.mp z).elim (n1 a) (n2 a)⟩
  | [], _ :: _, hl, _ => nomatch hl
  | _ :: _, [], hl, _ => nomatch hl
theorem cut_nat (xs : List V) (i n : Nat) (h : i + n ≤ xs.length) : cutV xs (some (i : Int)) (some ((i : Int) + (n : Int))) = (xs.drop i).take n := by
  unfold cutV
  rw [HT.sIx_nat, show ((i : Int) + (n : Int)) = ((i + n : Nat) : Int) by omega, HT.sIx_nat, Nat.min_eq_left h, Nat.min_eq_left (by omega), Nat.add_sub_cancel_left]
abbrev cpN : List Str := ["value", "nodes", "starts", "at", "made", "k", "node"]
theorem scCopied : FnScope cpN ["value"] (defScope sCopied) := ⟨rfl, rfl, rfl, by decide +kernel, rfl, by decide +kernel, by decide +kernel⟩
theorem Rep.scalar {w : World} {H : Hp} {v : V} {d : PyData} {fp : List Addr} (r : Rep w H v d fp) (h : isCont d = false) : fp = [] := by
  cases r with
  | lst => cases h
  | tup => cases h
  | dct => cases h
  | _ => rfl
theorem atN {xs : List V} {i : Nat} {x : V} (h : xs[i]? = some x) : atI xs ((i : Nat) : Int) = some x := atI_nat h
theorem paired_at {α β : Type} {R : α → β → Prop} : ∀ {xs : List α} {ys : List β} {i : Nat} {x : α}, Paired R xs ys → xs[i]? = some x → ∃ y, ys[i]? = some y ∧ R x y
  | _, _, 0, _, .cons a _, h => ⟨_, rfl, by rw [← Option.some.inj h]; exact a⟩
  | _, _, i + 1, _, .cons _ t, h => paired_at (i := i) t h
  | _, _, _, _, .nil, h => by simp at h
/-- the first loop: nodes and starts, found so far -/
structure CpA (w : World) (H0 : Hp) (pn ps : Addr) (v : V) (d : PyData) (N i : Nat) (vs : List V) (ds : List PyData) (ss : List Nat) (H : Hp) : Prop where
  same : Same H0 H
  nodes : H pn = some (.lst vs)
  starts : H ps = some (.lst (ss.map fun k => V.int (k : Nat)))
  reps : Reps w H0 vs ds
  len : vs.length = ds.length
  bfs : Bfs ds ss
  at_ : ss.length = i
  size : i + szAll (ds.drop i) = N
  v0 : vs[0]? = some v
  d0 : ds[0]? = some d
/-- the second loop: the made ones from n - t on -/
structure CpB (w : World) (H1 : Hp) (pm : Addr) (vs : List V) (ds : List PyData) (t : Nat) (ms : List V) (H : Hp) : Prop where
  but : SameBut pm H1 H
  made : H pm = some (.lst ms)
  len : ms.length = ds.length
  low : ∀ j, j + t < ds.length → ms[j]? = vs[j]?
  high : ∀ (j : Nat) (m : V) (d : PyData), ds.length ≤ j + t → ms[j]? = some m → ds[j]? = some d → ∃ f, Rep w H m d f ∧ ∀ a ∈ f, H1 a = none
section
variable {P : Program} {w : World} {K : PySem.W.Frag} {mg : Str → Option Value} {base : Heap}
def spCopied (w : World) : Sp := fun vs H Q _ => ∃ v d fp, vs = [v] ∧ Rep w H v d fp ∧ sz d ≤ 1000 ∧ ∀ H' v' f3, Same H H' → Rep w H' v' d f3 → (∀ a ∈ f3, H a = none) → Q v' H'
theorem ok_copied {f fI fR : Addr} {fd fdI fdR : FuncData} (F : Fun K "copied" "copied" sCopied f fd) (FI : Fun K "items_of" "items_of" sItems fI fdI) (FR : Fun K "rebuilt" "rebuilt" sRebuilt fR fdR) (B : Blt mg)
    (gI : mg "items_of" = some (.ref fI)) (gR : mg "rebuilt" = some (.ref fR)) (bI : Binds K fdI ["value"] []) (bR : Binds K fdR ["value", "items"] []) : FnOk P w K mg base CX0 2 f fd ["value"] (spCopied w) := by
  have GI : FnOk P w K mg base CX0 1 fI fdI ["value"] (spItems w) := ok_items FI B
  have GR : FnOk P w K mg base CX0 1 fR fdR ["value", "items"] (spReb w) := ok_reb FR B
  refine F.ok scCopied (fun vs H Q E h => ?_) (fun cdv A outer s H vs Q E hr h => ?_)
  · obtain ⟨v, d, fp, rfl, _⟩ := h
    rfl
  · obtain ⟨v, d, fp, rfl, rp, hN, q⟩ := h
    refine ⟨_, pss_cons (ps_set (i := 1) scCopied.nd rfl (.inl rfl) (pe_lst (pa_cons (pv 0) pa_nil)))
      (pss_cons (ps_set (i := 2) scCopied.nd rfl (.inl rfl) (pe_lst pa_nil))
      (pss_cons (ps_set (i := 3) scCopied.nd rfl (.inl rfl) pe_int)
      (pss_cons (ps_while PassesOwn.never (pt_cmpR op_lt (pv 3) (pe_callB call_len_seq (by rfl) B.len PySem.boot_len (pa_cons (pv 1) pa_nil)) (nomark _))
          (pss_cons (ps_expr (pe_bm PySem.F.plainAttrs_list PySem.F.slot_list_append PySem.F.type_list_append mt_append (pv 2) (pa_cons (pe_callB call_len_seq (by rfl) B.len PySem.boot_len (pa_cons (pv 1) pa_nil)) pa_nil)))
          (pss_cons (ps_expr (pe_bm PySem.F.plainAttrs_list PySem.F.slot_list_extend PySem.F.type_list_extend mt_extend (pv 1) (pa_cons (pe_call GI hr (by rfl) gI FI.kp bI .nil pass0 (pa_cons (pe_ix ix_list (pv 1) (pv 3) (fun _ _ => rfl)) pa_nil)) pa_nil)))
          (pss_one (ps_aug (i := 3) scCopied.nd rfl (.inl rfl) pe_int ip_add)))))
      (pss_cons (ps_set (i := 4) scCopied.nd rfl (.inl rfl) (pe_callTy call_list_of (by rfl) B.list boot_list (pa_cons (pv 1) pa_nil)))
      (pss_cons (ps_for PassesOwn.never rfl (pi_revR (by rfl) B.reversed (prg_1 (by rfl) B.range (pe_callB call_len_seq (by rfl) B.len PySem.boot_len (pa_cons (pv 1) pa_nil)))) (pg_name (i := 5) scCopied.nd rfl (.inl rfl))
          (pss_cons (ps_set (i := 6) scCopied.nd rfl (.inl rfl) (pe_ix ix_list (pv 1) (pv 5) (fun _ _ => rfl)))
          (pss_one (ps_if (pt_val (pe_callB callIsDT (by rfl) B.isi boot_isinstance (pa_cons (pv 6) (pa_cons (pe_tup (pa_cons (pe_bltn (v := .ty "list") (by rfl) B.list boot_list rfl) (pa_cons (pe_bltn (v := .ty "tuple") (by rfl) B.tuple boot_tuple rfl) (pa_cons (pe_bltn (v := .ty "dict") (by rfl) B.dict boot_dict rfl) pa_nil)))) pa_nil))))
              (pss_one (ps_asg (pe_call GR hr (by rfl) gR FR.kp bR .nil pass0 (pa_cons (pv 6) (pa_cons (pe_slice sl_list (pv 4) (po_some (pe_ix ix_list (pv 2) (pv 5) (fun _ _ => rfl)))
                  (po_some (pe_op op_add (pe_ix ix_list (pv 2) (pv 5) (fun _ _ => rfl)) (pe_callB callLenD (by rfl) B.len PySem.boot_len (pa_cons (pv 6) pa_nil))))) pa_nil)))
                (pg_sub (pv 4) (pv 5) set_list))) pss_nil))))
      (pss_one (ps_ret (pe_ix ix_list (pv 4) pe_int (fun _ _ => rfl))))))))), ?_⟩
    -- nodes, starts, at
    refine ⟨v, rfl, by show 1 ≤ sizeLine; decide, fun pn nn => ⟨Nat.zero_le _, fun ps np => ?_⟩⟩
    have npn : ps ≠ pn := fun z => by
      rw [z, upd_same] at np
      cases np
    have s1 : Same H (upd H pn (.lst [v])) := same_upd nn
    have s2 : Same H (upd (upd H pn (.lst [v])) ps (.lst [])) := s1.trans (same_upd np)
    have nps : H ps = none := s1.free np
    refine while_by (fun σ H2 => ∃ i vs ds ss y4 y5 y6, σ = [some v, some (.ref pn), some (.ref ps), some (.int (i : Nat)), y4, y5, y6] ∧ CpA w H pn ps v d (sz d) i vs ds ss H2)
      (fun σ H2 => match σ with
        | [_, _, _, some (.int i), _, _, _] => 1000 - i.toNat
        | _ => 0) ⟨0, [v], [d], [], none, none, none, rfl, ⟨s2, ?_, upd_same, .cons ⟨fp, rp⟩ .nil, rfl, ⟨Nat.zero_le _, fun j d' hj => absurd hj (Nat.not_lt_zero j)⟩, rfl, ?_, rfl, rfl⟩⟩ (fun σ H2 hP => ?_) (fun σ H2 Q1 Q2 mono hq => ?_)
    · rw [upd_ne npn.symm, upd_same]
    · simp only [List.drop_zero, szAll]
      omega
    · obtain ⟨i, vs, ds, ss, y4, y5, y6, rfl, C⟩ := hP
      have hS : SqL K H2 pn vs := .inl (.inl C.nodes)
      refine ⟨.int (i : Nat), rfl, .ref pn, rfl, pn, vs, rfl, .inl hS, _, _, rfl, rfl, _, rfl, ite2 (fun lt => ?_) (fun ge => ?_)⟩
      · have li : i < vs.length := by
          have z := of_decide_eq_true lt
          omega
        have gv : vs[i]? = some vs[i] := List.getElem?_eq_getElem li
        obtain ⟨di, gd, fi, ri⟩ := paired_at C.reps gv
        have hb : ds.length ≤ sz d := Bfs.bound (by rw [← C.len]; omega) C.size
        have hps : (upd H2 ps (.lst (ss.map (fun k => V.int (k : Nat)) ++ [V.int (vs.length : Nat)]))) pn = some (.lst vs) := by
          rw [upd_ne npn.symm]
          exact C.nodes
        have s3 : Same H (upd H2 ps (.lst (ss.map (fun k => V.int (k : Nat)) ++ [V.int (vs.length : Nat)]))) := fun c o z => by
          rw [upd_ne (ne_of_none z nps)]
          exact C.same _ _ z
        -- starts.append(len(nodes))
        refine ⟨.ref ps, rfl, .inl ⟨rfl, _, .inl (.inl C.starts)⟩, .ref pn, rfl, pn, vs, rfl, .inl hS, ps, _, _, rfl, rfl, C.starts, ?_, ?_⟩
        · rw [List.length_map, C.at_]
          exact small1000 (by have := C.len; omega)
        -- nodes.extend(items_of(nodes[at]))
        refine ⟨.ref pn, rfl, .inl ⟨rfl, _, .inl (.inl hps)⟩, .ref pn, rfl, .int (i : Nat), rfl, pn, vs, _, vs[i], rfl, rfl, .inl (.inl hps), atN gv, H, vs[i], di, fi, rfl, s3, ri, fun H4 p ws fk s4 np4 ep rws => ?_⟩
        have hp4 : H4 pn = some (.lst vs) := s4 _ _ hps
        have lw := rws.length
        have nx := C.bfs.next (d := di) (by rw [C.at_]; exact gd)
        have sz2 := Bfs.size gd C.size
        have hb2 : (ds ++ kids di).length ≤ sz d := Bfs.bound (i := i + 1) (by
          rw [List.length_append]
          have := C.len
          omega) sz2
        rw [List.length_append] at hb2
        refine ⟨pn, p, vs, ws, rfl, rfl, hp4, ep, ?_, ?_⟩
        · have := C.len
          exact Nat.le_of_lt (small1000 (by omega))
        -- at += 1
        have nnp : ∀ c o, H c = some o → c ≠ pn := fun c o z => ne_of_none z nn
        refine ⟨_, rfl, i, 1, rfl, rfl, ⟨i + 1, vs ++ ws, ds ++ kids di, ss ++ [ds.length], y4, y5, y6, rfl, ⟨fun c o z => ?_, upd_same, ?_, paired_append C.reps (Reps.of rws), ?_, nx, ?_, sz2, ?_, ?_⟩⟩, ?_⟩
        · rw [upd_ne (nnp c o z)]
          exact s4 _ _ (s3 _ _ z)
        · rw [upd_ne npn, s4 _ _ upd_same, List.map_append, C.len]
          rfl
        · rw [List.length_append, List.length_append, C.len, lw]
        · rw [List.length_append, C.at_]
          rfl
        · rw [List.getElem?_append_left (by omega)]
          exact C.v0
        · rw [List.getElem?_append_left (by have := C.len; omega)]
          exact C.d0
        · show 1000 - ((i : Int) + 1).toNat < 1000 - (i : Int).toNat
          have := C.len
          omega
      · have hn : vs.length = i := by
          have z : ¬ ((i : Nat) : Int) < ((vs.length : Nat) : Int) := fun z => ge (decide_eq_true z)
          have := C.bfs.le
          have := C.at_
          have := C.len
          omega
        have hnd : ds.length = i := by rw [← C.len, hn]
        have hb : i ≤ sz d := by
          rw [← hnd]
          exact Bfs.bound (by rw [hnd]; exact Nat.le_refl _) C.size
        -- made = list(nodes)
        refine ⟨.ref pn, rfl, pn, vs, rfl, .inl hS, fun pm nm => ?_⟩
        have sm : Same H2 (upd H2 pm (.lst vs)) := same_upd nm
        have npm : H pm = none := C.same.free nm
        have hpn : (upd H2 pm (.lst vs)) pn = some (.lst vs) := sm _ _ C.nodes
        refine ⟨.ref pn, rfl, pn, vs, rfl, .inl (.inl (.inl hpn)), vs.length, rfl, by decide, by decide, by omega, by omega, ?_⟩
        refine for_it (walk_rangeC (lo := _) (c := -1)) (fun t σ H3 => ∃ ms y5 y6, σ = [some v, some (.ref pn), some (.ref ps), some (.int (i : Nat)), some (.ref pm), y5, y6] ∧ CpB w (upd H2 pm (.lst vs)) pm vs ds t ms H3)
          ⟨vs, y5, y6, rfl, fun _ _ _ z => z, upd_same, C.len, fun _ _ => rfl, fun j m d' hj hm _ => ?_⟩ (fun _ _ _ _ _ => trivial) (fun t x σ H3 H4 ht hP hy => ?_) (fun σ H3 hP => ?_)
        · have := (List.getElem?_eq_some_iff.mp hm).1
          have := C.len
          omega
        · obtain ⟨ms, z5, z6, rfl, D⟩ := hP
          obtain ⟨rfl, ex⟩ := hy
          have ht2 : t < i := by
            have z : t < (((vs.length : Nat) : Int) - 0).toNat := ht
            omega
          obtain ⟨k, hk⟩ : ∃ k, k + t + 1 = i := ⟨i - 1 - t, by omega⟩
          have ek : (0 : Int) + (((((vs.length : Nat) : Int) - 0).toNat : Nat) : Int) - 1 + ((t : Nat) : Int) * -1 = ((k : Nat) : Int) := by omega
          have ex2 : x = .int ((k : Nat) : Int) := ex.trans (congrArg V.int ek)
          subst ex2
          have lk : k < vs.length := by omega
          have gv : vs[k]? = some vs[k] := List.getElem?_eq_getElem lk
          obtain ⟨dk, gd, fk, rk⟩ := paired_at C.reps gv
          obtain ⟨sk, g1, g2, g3, g4⟩ := C.bfs.at_ k dk (by rw [C.at_]; omega) gd
          have nmp : pn ≠ pm := ne_of_none C.nodes nm
          have nms : ps ≠ pm := ne_of_none C.starts nm
          have e1 : H4 pn = some (.lst vs) := D.but _ _ nmp hpn
          have e2 : H4 ps = some (.lst (ss.map fun k => V.int (k : Nat))) := D.but _ _ nms (sm _ _ C.starts)
          have s4 : Same H H4 := fun c o z => D.but c o (ne_of_none z npm) (sm _ _ (C.same _ _ z))
          -- node = nodes[k]
          refine ⟨.ref pn, rfl, .int (k : Nat), rfl, pn, vs, _, vs[k], rfl, rfl, .inl (.inl e1), atN gv, ?_⟩
          -- isinstance(node, (list, tuple, dict))
          refine ⟨vs[k], rfl, by show 3 ≤ sizeLine; decide, fun T nT => ?_⟩
          have sT : Same H4 (upd H4 T (.tup [.ty "list", .ty "tuple", .ty "dict"])) := same_upd nT
          refine ⟨vs[k], dk, fk, T, ["list", "tuple", "dict"], isCont dk, rfl, upd_same, rk.same (s4.trans sT), fun K => kitLTD dk, isCont dk, rfl, ?_⟩
          have keepM : ∀ {H5 : Hp} {m : V} {d' : PyData} {f' : List Addr}, Same H4 H5 → Rep w H4 m d' f' → (∀ a ∈ f', (upd H2 pm (.lst vs)) a = none) → Rep w H5 m d' f' := fun s5 r _ => r.same s5
          cases hcont : isCont dk with
          | false =>
            refine iteF ⟨ms, _, _, rfl, fun c o nc z => sT _ _ (D.but c o nc z), sT _ _ D.made, D.len, fun j hj => D.low j (by omega), fun j m d' hj hm hd => ?_⟩
            by_cases hjk : j = k
            · subst hjk
              rw [D.low j (by omega), gv] at hm
              rw [gd] at hd
              obtain rfl := Option.some.inj hm
              obtain rfl := Option.some.inj hd
              refine ⟨fk, rk.same (s4.trans sT), fun a ha => ?_⟩
              rw [rk.scalar hcont] at ha
              exact nomatch ha
            · obtain ⟨f5, r5, n5⟩ := D.high j m d' (by omega) hm hd
              exact ⟨f5, r5.same sT, n5⟩
          | true =>
            have eT2 : (upd H4 T (.tup [.ty "list", .ty "tuple", .ty "dict"])) ps = _ := sT _ _ e2
            have gs : (ss.map fun k => V.int (k : Nat))[k]? = some (.int (sk : Nat)) := by
              rw [List.getElem?_map, g1]
              rfl
            have hsl : SqL K (upd H4 T (.tup [.ty "list", .ty "tuple", .ty "dict"])) ps (ss.map fun k => V.int (k : Nat)) := .inl (.inl eT2)
            refine iteT ⟨vs[k], rfl, .ref pm, rfl, .ref ps, rfl, .int (k : Nat), rfl, ps, _, _, .int (sk : Nat), rfl, rfl, hsl, atN gs, (sk : Nat), rfl, .ref ps, rfl, .int (k : Nat), rfl, ps, _, _, .int (sk : Nat), rfl, rfl, hsl, atN gs,
              vs[k], rfl, vs[k], dk, fk, rfl, rk.same (s4.trans sT), hcont, _, _, rfl, rfl, _, rfl, pm, ms, rfl, .inl (.inl (sT _ _ D.made)), fun c nc => ?_⟩
            have lc : sk + (kids dk).length ≤ ms.length := by rw [D.len]; exact g3
            have ec := cut_nat ms sk (kids dk).length lc
            have sc : Same H4 (upd (upd H4 T (.tup [.ty "list", .ty "tuple", .ty "dict"])) c (.lst (cutV ms (some (sk : Nat)) (some ((sk : Nat) + ((kids dk).length : Nat)))))) := sT.trans (same_upd nc)
            have lcut : ((ms.drop sk).take (kids dk).length).length = (kids dk).length := by
              rw [List.length_take, List.length_drop]
              omega
            obtain ⟨f2, r2, n2⟩ := repAll_of (w := w) (H := upd (upd H4 T (.tup [.ty "list", .ty "tuple", .ty "dict"])) c (.lst (cutV ms (some (sk : Nat)) (some ((sk : Nat) + ((kids dk).length : Nat)))))) (N := fun a => (upd H2 pm (.lst vs)) a = none) lcut fun m v' d' h1 h2 => by
              have lm := (List.getElem?_eq_some_iff.mp h2).1
              rw [List.getElem?_take_of_lt lm, List.getElem?_drop] at h1
              obtain ⟨f5, r5, n5⟩ := D.high (sk + m) v' d' (by omega) h1 ((g4 m lm).trans h2)
              exact ⟨f5, r5.same sc, n5⟩
            have hcutR : RepAll w (upd (upd H4 T (.tup [.ty "list", .ty "tuple", .ty "dict"])) c (.lst (cutV ms (some (sk : Nat)) (some ((sk : Nat) + ((kids dk).length : Nat)))))) (cutV ms (some (sk : Nat)) (some ((sk : Nat) + ((kids dk).length : Nat)))) (kids dk) f2 := ec ▸ r2
            refine ⟨vs[k], c, dk, fk, _, f2, rfl, rk.same (s4.trans sc), hcont, upd_same, hcutR, by omega, fun H5 v' f3 s5 r5 n5 => ?_⟩
            -- made[k] = ..
            have em5 : H5 pm = some (.lst ms) := s5 _ _ (sc _ _ D.made)
            have nf : ∀ a ∈ f3, (upd H2 pm (.lst vs)) a = none := fun a ha => by
              rcases n5 a ha with z | z
              · exact n2 a z
              · by_cases ea : a = pm
                · exfalso
                  rw [ea, sc _ _ D.made] at z
                  cases z
                · cases e6 : (upd H2 pm (.lst vs)) a with
                  | none => rfl
                  | some o =>
                    rw [sc _ _ (D.but a o ea e6)] at z
                    cases z
            have keepU : ∀ {m : V} {d' : PyData} {f' : List Addr}, Rep w H5 m d' f' → (∀ a ∈ f', (upd H2 pm (.lst vs)) a = none) → Rep w (upd H5 pm (.lst (ms.set k v'))) m d' f' := by
              intro m d' f' r n
              refine r.keep ⟨fun a ha => ?_, fun a xs z => ?_⟩
              · refine upd_ne fun z => ?_
                have := n a ha
                rw [z, upd_same] at this
                cases this
              · have na : a ≠ pm := fun q => by
                  rw [q, em5] at z
                  cases z
                rw [upd_ne na]
                exact z
            refine ⟨.ref pm, rfl, .int (k : Nat), rfl, pm, ms, k, k, rfl, rfl, em5, ?_, ms.set k v', _, _, rfl, fun b o nb z => ?_, upd_same, ?_, fun j hj => ?_, fun j m d' hj hm hd => ?_⟩
            · unfold ixN
              rw [if_pos (by omega), if_pos (by rw [D.len]; omega)]
              rfl
            · rw [upd_ne nb]
              exact s5 _ _ (sc _ _ (D.but b o nb z))
            · rw [List.length_set]
              exact D.len
            · rw [List.getElem?_set_ne (by omega)]
              exact D.low j (by omega)
            · by_cases hjk : j = k
              · subst hjk
                rw [List.getElem?_set_self (by rw [D.len]; omega)] at hm
                rw [gd] at hd
                obtain rfl := Option.some.inj hm
                obtain rfl := Option.some.inj hd
                exact ⟨f3, keepU r5 nf, nf⟩
              · rw [List.getElem?_set_ne (fun z => hjk z.symm)] at hm
                obtain ⟨f5, r6, n6⟩ := D.high j m d' (by omega) hm hd
                exact ⟨f5, keepU (r6.same (sc.trans s5)) n6, n6⟩
        · obtain ⟨ms, z5, z6, rfl, D⟩ := hP
          have zn : (((vs.length : Nat) : Int) - 0).toNat = ds.length := by omega
          rw [zn] at D
          have l0 := (List.getElem?_eq_some_iff.mp C.d0).1
          obtain ⟨m0, gm⟩ : ∃ m, ms[0]? = some m := ⟨ms[0]'(by rw [D.len]; exact l0), List.getElem?_eq_getElem _⟩
          obtain ⟨f5, r5, n5⟩ := D.high 0 m0 d (by omega) gm C.d0
          refine ⟨.ref pm, rfl, pm, ms, 0, m0, rfl, rfl, .inl (.inl D.made), atI_nat (j := 0) gm, ?_⟩
          refine q H3 m0 f5 (fun c o z => D.but c o (ne_of_none z npm) (sm _ _ (C.same _ _ z))) r5 fun a ha => ?_
          exact C.same.free (sm.free (n5 a ha))
    · obtain ⟨a1, e1, a2, e2, p, ys, e3, h3, i3, j3, e4, e5, b, e6, h6⟩ := hq
      exact ⟨a1, e1, a2, e2, p, ys, e3, h3, i3, j3, e4, e5, b, e6, mono _ _ h6⟩
end
end KF
end L2
/-! ### KL -/
namespace L2
namespace KF
open PySem PySem.Spec PyProof.Rows PySem.KD KE KC PySem.KA
/-! ## surelyset.errors -/
def clsB (s : Stmt) : List Stmt := match s with
  | .ClassDef _ _ _ b _ _ _ _ _ _ _ => b
  | _ => []
abbrev initOf (i : Nat) : Stmt := (clsB (topS i)).getD 0 (.Pass ⟨0, 0, 0, 0⟩)
/-- what an error's __init__ does: f holds a copy -/
def spErr (w : World) (C : Addr) (f : Str) : Sp := fun vs H Q _ => ∃ (x : Addr) (v : V) (d : PyData) (fp : List Addr), vs = [.ref x, v] ∧ H x = some (exo x C none) ∧ Rep w H v d fp ∧ sz d ≤ 1000 ∧
  ∀ H' dx v' f3, SameBut x H H' → H' x = some (exo x C (some dx)) → H dx = none → H' dx = some (exd dx [(f, v')]) → Rep w H' v' d f3 → (∀ a ∈ f3, H a = none ∧ a ≠ dx) → Q .non H'
/-- an error's class, as it stands behind the top -/
structure ErrC (K : PySem.W.Frag) (mg : Str → Option Value) (nm qual f : Str) (st : Stmt) (newId initId : String) (bm : List Value) (C fI : Addr) (fdI : FuncData) : Prop where
  ox : OXS K C newId initId bm f
  iC : PySem.W.findIn K (.ref C) "__init__" = some (some (.ref fI))
  tI : PySem.W.typeIn K (.ref fI) = some (.type "function")
  fn : Fun K "__init__" qual st fI fdI
  gC : mg nm = some (.ref C)
  b1 : Binds K fdI ["self", f] []
  bk : ∀ us ws : List Value, us.length = 1 → ws.length = 1 → bindArgs fdI ⟨us, [f].zip ws⟩ = pure ([("self" : Str), f].zip (us ++ ws))
/-- the base's own __init__ -/
structure BaseC (K : PySem.W.Frag) (mg : Str → Option Value) (B : Str) (Bs initId : String) : Prop where
  mB : mg B = none
  fi : PySem.W.findCls K (.type Bs) (.type "type") "__init__" = some (.val (.builtin initId))
section
variable {P : Program} {w : World} {K : PySem.W.Frag} {mg : Str → Option Value} {base : Heap}
theorem err_end {C x : Addr} {f : Str} {d : PyData} {H H2 : Hp} {Q : VK} {v' : V} {f3 : List Addr} (hx : H x = some (exo x C none))
    (q : ∀ H' dx v' f3, SameBut x H H' → H' x = some (exo x C (some dx)) → H dx = none → H' dx = some (exd dx [(f, v')]) → Rep w H' v' d f3 → (∀ a ∈ f3, H a = none ∧ a ≠ dx) → Q .non H')
    (s2 : Same H H2) (r2 : Rep w H2 v' d f3) (n2 : ∀ a ∈ f3, H a = none) : H2 x = some (exo x C none) ∧ ∀ dx, H2 dx = none → dx ≠ x → Q .non (upd (upd H2 dx (exd dx [(f, v')])) x (exo x C (some dx))) := by
  refine ⟨s2 _ _ hx, fun dx nd ne => ?_⟩
  have ndx : ∀ a ∈ f3, a ≠ dx := fun a ha z => by
    have z2 := r2.dom a ha
    rw [z] at z2
    exact z2 nd
  have nx : ∀ a ∈ f3, a ≠ x := fun a ha z => by
    have z2 := n2 a ha
    rw [z, hx] at z2
    cases z2
  refine q _ dx v' f3 (fun b o nb z => ?_) upd_same (s2.free nd) ?_ (r2.keep ⟨fun a ha => ?_, fun a xs z => ?_⟩) fun a ha => ⟨n2 a ha, ndx a ha⟩
  · rw [upd_ne nb, upd_ne (ne_of_none (s2 _ _ z) nd)]
    exact s2 _ _ z
  · rw [upd_ne ne, upd_same]
  · rw [upd_ne (nx a ha), upd_ne (ndx a ha)]
  · have na : a ≠ x := fun y => by
      rw [y, s2 _ _ hx] at z
      cases z
    rw [upd_ne na, upd_ne (ne_of_none z nd)]
    exact z
theorem ok_err11 {f1 C fI : Addr} {fd fdI : FuncData} (GC : FnOk P w K mg base CX0 2 f1 fd ["value"] (spCopied w)) (kC : PySem.W.keepIn K (.ref f1) = true) (bC : Binds K fd ["value"] []) (gC : mg "copied" = some (.ref f1))
    (BC : BaseC K mg "ValueError" "ValueError" "ValueError.__init__") (Er : ErrC K mg "InvalidFunctions" "InvalidFunctions.__init__" "value" (initOf 11) "ValueError.__new__" "ValueError.__init__" vTail C fI fdI) : FnOk P w K mg base CX0 3 fI fdI ["self", "value"] (spErr w C "value") := by
  have sc : FnScope ["self", "value"] ["self", "value"] (defScope (initOf 11)) := ⟨rfl, rfl, rfl, by decide +kernel, rfl, by decide +kernel, by decide +kernel⟩
  refine Er.fn.ok sc (fun vs H Q E h => ?_) (fun cdv A outer s H vs Q E hr h => ?_)
  · obtain ⟨x, v, d, fp, rfl, _⟩ := h
    rfl
  · obtain ⟨x, v, d, fp, rfl, hx, rp, hN, q⟩ := h
    refine ⟨_, pss_cons (ps_expr (peInitX Er.ox.toOX (by rfl) BC.mB (by decide +kernel) (by rfl) (by decide +kernel) BC.fi (by decide +kernel) (pa_cons (pv 0) (pa_cons pe_str pa_nil))))
      (pss_one (psSetX Er.ox (pv 0) (pe_call GC hr (by rfl) gC kC bC .nil pass0 (pa_cons (pv 1) pa_nil)))), ?_⟩
    refine ⟨.ref x, rfl, x, _, rfl, by show 1 ≤ 1000; decide, hx, v, rfl, v, d, fp, rfl, rp, hN, fun H2 v' f3 s2 r2 n2 => ?_⟩
    have z := err_end (C := C) hx q s2 r2 n2
    exact ⟨.ref x, rfl, x, rfl, z.1, z.2⟩
theorem ok_err12 {f1 C fI : Addr} {fd fdI : FuncData} (GC : FnOk P w K mg base CX0 2 f1 fd ["value"] (spCopied w)) (kC : PySem.W.keepIn K (.ref f1) = true) (bC : Binds K fd ["value"] []) (gC : mg "copied" = some (.ref f1))
    (BC : BaseC K mg "ValueError" "ValueError" "ValueError.__init__") (Er : ErrC K mg "InvalidFunction" "InvalidFunction.__init__" "name" (initOf 12) "ValueError.__new__" "ValueError.__init__" vTail C fI fdI) : FnOk P w K mg base CX0 3 fI fdI ["self", "name"] (spErr w C "name") := by
  have sc : FnScope ["self", "name"] ["self", "name"] (defScope (initOf 12)) := ⟨rfl, rfl, rfl, by decide +kernel, rfl, by decide +kernel, by decide +kernel⟩
  refine Er.fn.ok sc (fun vs H Q E h => ?_) (fun cdv A outer s H vs Q E hr h => ?_)
  · obtain ⟨x, v, d, fp, rfl, _⟩ := h
    rfl
  · obtain ⟨x, v, d, fp, rfl, hx, rp, hN, q⟩ := h
    refine ⟨_, pss_cons (ps_expr (peInitX Er.ox.toOX (by rfl) BC.mB (by decide +kernel) (by rfl) (by decide +kernel) BC.fi (by decide +kernel) (pa_cons (pv 0) (pa_cons pe_str pa_nil))))
      (pss_one (psSetX Er.ox (pv 0) (pe_call GC hr (by rfl) gC kC bC .nil pass0 (pa_cons (pv 1) pa_nil)))), ?_⟩
    refine ⟨.ref x, rfl, x, _, rfl, by show 1 ≤ 1000; decide, hx, v, rfl, v, d, fp, rfl, rp, hN, fun H2 v' f3 s2 r2 n2 => ?_⟩
    have z := err_end (C := C) hx q s2 r2 n2
    exact ⟨.ref x, rfl, x, rfl, z.1, z.2⟩
theorem ok_err13 {f1 C fI : Addr} {fd fdI : FuncData} (GC : FnOk P w K mg base CX0 2 f1 fd ["value"] (spCopied w)) (kC : PySem.W.keepIn K (.ref f1) = true) (bC : Binds K fd ["value"] []) (gC : mg "copied" = some (.ref f1))
    (BC : BaseC K mg "ValueError" "ValueError" "ValueError.__init__") (Er : ErrC K mg "InvalidNames" "InvalidNames.__init__" "name" (initOf 13) "ValueError.__new__" "ValueError.__init__" vTail C fI fdI) : FnOk P w K mg base CX0 3 fI fdI ["self", "name"] (spErr w C "name") := by
  have sc : FnScope ["self", "name"] ["self", "name"] (defScope (initOf 13)) := ⟨rfl, rfl, rfl, by decide +kernel, rfl, by decide +kernel, by decide +kernel⟩
  refine Er.fn.ok sc (fun vs H Q E h => ?_) (fun cdv A outer s H vs Q E hr h => ?_)
  · obtain ⟨x, v, d, fp, rfl, _⟩ := h
    rfl
  · obtain ⟨x, v, d, fp, rfl, hx, rp, hN, q⟩ := h
    refine ⟨_, pss_cons (ps_expr (peInitX Er.ox.toOX (by rfl) BC.mB (by decide +kernel) (by rfl) (by decide +kernel) BC.fi (by decide +kernel) (pa_cons (pv 0) (pa_cons pe_str pa_nil))))
      (pss_one (psSetX Er.ox (pv 0) (pe_call GC hr (by rfl) gC kC bC .nil pass0 (pa_cons (pv 1) pa_nil)))), ?_⟩
    refine ⟨.ref x, rfl, x, _, rfl, by show 1 ≤ 1000; decide, hx, v, rfl, v, d, fp, rfl, rp, hN, fun H2 v' f3 s2 r2 n2 => ?_⟩
    have z := err_end (C := C) hx q s2 r2 n2
    exact ⟨.ref x, rfl, x, rfl, z.1, z.2⟩
theorem ok_err14 {f1 C fI : Addr} {fd fdI : FuncData} (GC : FnOk P w K mg base CX0 2 f1 fd ["value"] (spCopied w)) (kC : PySem.W.keepIn K (.ref f1) = true) (bC : Binds K fd ["value"] []) (gC : mg "copied" = some (.ref f1))
    (BC : BaseC K mg "ValueError" "ValueError" "ValueError.__init__") (Er : ErrC K mg "InvalidStatement" "InvalidStatement.__init__" "spot" (initOf 14) "ValueError.__new__" "ValueError.__init__" vTail C fI fdI) : FnOk P w K mg base CX0 3 fI fdI ["self", "spot"] (spErr w C "spot") := by
  have sc : FnScope ["self", "spot"] ["self", "spot"] (defScope (initOf 14)) := ⟨rfl, rfl, rfl, by decide +kernel, rfl, by decide +kernel, by decide +kernel⟩
  refine Er.fn.ok sc (fun vs H Q E h => ?_) (fun cdv A outer s H vs Q E hr h => ?_)
  · obtain ⟨x, v, d, fp, rfl, _⟩ := h
    rfl
  · obtain ⟨x, v, d, fp, rfl, hx, rp, hN, q⟩ := h
    refine ⟨_, pss_cons (ps_expr (peInitX Er.ox.toOX (by rfl) BC.mB (by decide +kernel) (by rfl) (by decide +kernel) BC.fi (by decide +kernel) (pa_cons (pv 0) (pa_cons pe_str pa_nil))))
      (pss_one (psSetX Er.ox (pv 0) (pe_call GC hr (by rfl) gC kC bC .nil pass0 (pa_cons (pv 1) pa_nil)))), ?_⟩
    refine ⟨.ref x, rfl, x, _, rfl, by show 1 ≤ 1000; decide, hx, v, rfl, v, d, fp, rfl, rp, hN, fun H2 v' f3 s2 r2 n2 => ?_⟩
    have z := err_end (C := C) hx q s2 r2 n2
    exact ⟨.ref x, rfl, x, rfl, z.1, z.2⟩
theorem ok_err15 {f1 C fI : Addr} {fd fdI : FuncData} (GC : FnOk P w K mg base CX0 2 f1 fd ["value"] (spCopied w)) (kC : PySem.W.keepIn K (.ref f1) = true) (bC : Binds K fd ["value"] []) (gC : mg "copied" = some (.ref f1))
    (BC : BaseC K mg "ValueError" "ValueError" "ValueError.__init__") (Er : ErrC K mg "InvalidChoice" "InvalidChoice.__init__" "index" (initOf 15) "ValueError.__new__" "ValueError.__init__" vTail C fI fdI) : FnOk P w K mg base CX0 3 fI fdI ["self", "index"] (spErr w C "index") := by
  have sc : FnScope ["self", "index"] ["self", "index"] (defScope (initOf 15)) := ⟨rfl, rfl, rfl, by decide +kernel, rfl, by decide +kernel, by decide +kernel⟩
  refine Er.fn.ok sc (fun vs H Q E h => ?_) (fun cdv A outer s H vs Q E hr h => ?_)
  · obtain ⟨x, v, d, fp, rfl, _⟩ := h
    rfl
  · obtain ⟨x, v, d, fp, rfl, hx, rp, hN, q⟩ := h
    refine ⟨_, pss_cons (ps_expr (peInitX Er.ox.toOX (by rfl) BC.mB (by decide +kernel) (by rfl) (by decide +kernel) BC.fi (by decide +kernel) (pa_cons (pv 0) (pa_cons pe_str pa_nil))))
      (pss_one (psSetX Er.ox (pv 0) (pe_call GC hr (by rfl) gC kC bC .nil pass0 (pa_cons (pv 1) pa_nil)))), ?_⟩
    refine ⟨.ref x, rfl, x, _, rfl, by show 1 ≤ 1000; decide, hx, v, rfl, v, d, fp, rfl, rp, hN, fun H2 v' f3 s2 r2 n2 => ?_⟩
    have z := err_end (C := C) hx q s2 r2 n2
    exact ⟨.ref x, rfl, x, rfl, z.1, z.2⟩
theorem ok_err16 {f1 C fI : Addr} {fd fdI : FuncData} (GC : FnOk P w K mg base CX0 2 f1 fd ["value"] (spCopied w)) (kC : PySem.W.keepIn K (.ref f1) = true) (bC : Binds K fd ["value"] []) (gC : mg "copied" = some (.ref f1))
    (BC : BaseC K mg "ValueError" "ValueError" "ValueError.__init__") (Er : ErrC K mg "InvalidPlaces" "InvalidPlaces.__init__" "value" (initOf 16) "ValueError.__new__" "ValueError.__init__" vTail C fI fdI) : FnOk P w K mg base CX0 3 fI fdI ["self", "value"] (spErr w C "value") := by
  have sc : FnScope ["self", "value"] ["self", "value"] (defScope (initOf 16)) := ⟨rfl, rfl, rfl, by decide +kernel, rfl, by decide +kernel, by decide +kernel⟩
  refine Er.fn.ok sc (fun vs H Q E h => ?_) (fun cdv A outer s H vs Q E hr h => ?_)
  · obtain ⟨x, v, d, fp, rfl, _⟩ := h
    rfl
  · obtain ⟨x, v, d, fp, rfl, hx, rp, hN, q⟩ := h
    refine ⟨_, pss_cons (ps_expr (peInitX Er.ox.toOX (by rfl) BC.mB (by decide +kernel) (by rfl) (by decide +kernel) BC.fi (by decide +kernel) (pa_cons (pv 0) (pa_cons pe_str pa_nil))))
      (pss_one (psSetX Er.ox (pv 0) (pe_call GC hr (by rfl) gC kC bC .nil pass0 (pa_cons (pv 1) pa_nil)))), ?_⟩
    refine ⟨.ref x, rfl, x, _, rfl, by show 1 ≤ 1000; decide, hx, v, rfl, v, d, fp, rfl, rp, hN, fun H2 v' f3 s2 r2 n2 => ?_⟩
    have z := err_end (C := C) hx q s2 r2 n2
    exact ⟨.ref x, rfl, x, rfl, z.1, z.2⟩
theorem ok_err17 {f1 C fI : Addr} {fd fdI : FuncData} (GC : FnOk P w K mg base CX0 2 f1 fd ["value"] (spCopied w)) (kC : PySem.W.keepIn K (.ref f1) = true) (bC : Binds K fd ["value"] []) (gC : mg "copied" = some (.ref f1))
    (BC : BaseC K mg "ValueError" "ValueError" "ValueError.__init__") (Er : ErrC K mg "InvalidPaper" "InvalidPaper.__init__" "value" (initOf 17) "ValueError.__new__" "ValueError.__init__" vTail C fI fdI) : FnOk P w K mg base CX0 3 fI fdI ["self", "value"] (spErr w C "value") := by
  have sc : FnScope ["self", "value"] ["self", "value"] (defScope (initOf 17)) := ⟨rfl, rfl, rfl, by decide +kernel, rfl, by decide +kernel, by decide +kernel⟩
  refine Er.fn.ok sc (fun vs H Q E h => ?_) (fun cdv A outer s H vs Q E hr h => ?_)
  · obtain ⟨x, v, d, fp, rfl, _⟩ := h
    rfl
  · obtain ⟨x, v, d, fp, rfl, hx, rp, hN, q⟩ := h
    refine ⟨_, pss_cons (ps_expr (peInitX Er.ox.toOX (by rfl) BC.mB (by decide +kernel) (by rfl) (by decide +kernel) BC.fi (by decide +kernel) (pa_cons (pv 0) (pa_cons pe_str pa_nil))))
      (pss_one (psSetX Er.ox (pv 0) (pe_call GC hr (by rfl) gC kC bC .nil pass0 (pa_cons (pv 1) pa_nil)))), ?_⟩
    refine ⟨.ref x, rfl, x, _, rfl, by show 1 ≤ 1000; decide, hx, v, rfl, v, d, fp, rfl, rp, hN, fun H2 v' f3 s2 r2 n2 => ?_⟩
    have z := err_end (C := C) hx q s2 r2 n2
    exact ⟨.ref x, rfl, x, rfl, z.1, z.2⟩
theorem ok_err18 {f1 C fI : Addr} {fd fdI : FuncData} (GC : FnOk P w K mg base CX0 2 f1 fd ["value"] (spCopied w)) (kC : PySem.W.keepIn K (.ref f1) = true) (bC : Binds K fd ["value"] []) (gC : mg "copied" = some (.ref f1))
    (BC : BaseC K mg "ValueError" "ValueError" "ValueError.__init__") (Er : ErrC K mg "InvalidPrices" "InvalidPrices.__init__" "value" (initOf 18) "ValueError.__new__" "ValueError.__init__" vTail C fI fdI) : FnOk P w K mg base CX0 3 fI fdI ["self", "value"] (spErr w C "value") := by
  have sc : FnScope ["self", "value"] ["self", "value"] (defScope (initOf 18)) := ⟨rfl, rfl, rfl, by decide +kernel, rfl, by decide +kernel, by decide +kernel⟩
  refine Er.fn.ok sc (fun vs H Q E h => ?_) (fun cdv A outer s H vs Q E hr h => ?_)
  · obtain ⟨x, v, d, fp, rfl, _⟩ := h
    rfl
  · obtain ⟨x, v, d, fp, rfl, hx, rp, hN, q⟩ := h
    refine ⟨_, pss_cons (ps_expr (peInitX Er.ox.toOX (by rfl) BC.mB (by decide +kernel) (by rfl) (by decide +kernel) BC.fi (by decide +kernel) (pa_cons (pv 0) (pa_cons pe_str pa_nil))))
      (pss_one (psSetX Er.ox (pv 0) (pe_call GC hr (by rfl) gC kC bC .nil pass0 (pa_cons (pv 1) pa_nil)))), ?_⟩
    refine ⟨.ref x, rfl, x, _, rfl, by show 1 ≤ 1000; decide, hx, v, rfl, v, d, fp, rfl, rp, hN, fun H2 v' f3 s2 r2 n2 => ?_⟩
    have z := err_end (C := C) hx q s2 r2 n2
    exact ⟨.ref x, rfl, x, rfl, z.1, z.2⟩
theorem ok_err19 {f1 C fI : Addr} {fd fdI : FuncData} (GC : FnOk P w K mg base CX0 2 f1 fd ["value"] (spCopied w)) (kC : PySem.W.keepIn K (.ref f1) = true) (bC : Binds K fd ["value"] []) (gC : mg "copied" = some (.ref f1))
    (BC : BaseC K mg "ValueError" "ValueError" "ValueError.__init__") (Er : ErrC K mg "InvalidProfile" "InvalidProfile.__init__" "value" (initOf 19) "ValueError.__new__" "ValueError.__init__" vTail C fI fdI) : FnOk P w K mg base CX0 3 fI fdI ["self", "value"] (spErr w C "value") := by
  have sc : FnScope ["self", "value"] ["self", "value"] (defScope (initOf 19)) := ⟨rfl, rfl, rfl, by decide +kernel, rfl, by decide +kernel, by decide +kernel⟩
  refine Er.fn.ok sc (fun vs H Q E h => ?_) (fun cdv A outer s H vs Q E hr h => ?_)
  · obtain ⟨x, v, d, fp, rfl, _⟩ := h
    rfl
  · obtain ⟨x, v, d, fp, rfl, hx, rp, hN, q⟩ := h
    refine ⟨_, pss_cons (ps_expr (peInitX Er.ox.toOX (by rfl) BC.mB (by decide +kernel) (by rfl) (by decide +kernel) BC.fi (by decide +kernel) (pa_cons (pv 0) (pa_cons pe_str pa_nil))))
      (pss_one (psSetX Er.ox (pv 0) (pe_call GC hr (by rfl) gC kC bC .nil pass0 (pa_cons (pv 1) pa_nil)))), ?_⟩
    refine ⟨.ref x, rfl, x, _, rfl, by show 1 ≤ 1000; decide, hx, v, rfl, v, d, fp, rfl, rp, hN, fun H2 v' f3 s2 r2 n2 => ?_⟩
    have z := err_end (C := C) hx q s2 r2 n2
    exact ⟨.ref x, rfl, x, rfl, z.1, z.2⟩
theorem ok_err20 {f1 C fI : Addr} {fd fdI : FuncData} (GC : FnOk P w K mg base CX0 2 f1 fd ["value"] (spCopied w)) (kC : PySem.W.keepIn K (.ref f1) = true) (bC : Binds K fd ["value"] []) (gC : mg "copied" = some (.ref f1))
    (BC : BaseC K mg "ValueError" "ValueError" "ValueError.__init__") (Er : ErrC K mg "InvalidText" "InvalidText.__init__" "line" (initOf 20) "ValueError.__new__" "ValueError.__init__" vTail C fI fdI) : FnOk P w K mg base CX0 3 fI fdI ["self", "line"] (spErr w C "line") := by
  have sc : FnScope ["self", "line"] ["self", "line"] (defScope (initOf 20)) := ⟨rfl, rfl, rfl, by decide +kernel, rfl, by decide +kernel, by decide +kernel⟩
  refine Er.fn.ok sc (fun vs H Q E h => ?_) (fun cdv A outer s H vs Q E hr h => ?_)
  · obtain ⟨x, v, d, fp, rfl, _⟩ := h
    rfl
  · obtain ⟨x, v, d, fp, rfl, hx, rp, hN, q⟩ := h
    refine ⟨_, pss_cons (ps_expr (peInitX Er.ox.toOX (by rfl) BC.mB (by decide +kernel) (by rfl) (by decide +kernel) BC.fi (by decide +kernel) (pa_cons (pv 0) (pa_cons pe_str pa_nil))))
      (pss_one (psSetX Er.ox (pv 0) (pe_call GC hr (by rfl) gC kC bC .nil pass0 (pa_cons (pv 1) pa_nil)))), ?_⟩
    refine ⟨.ref x, rfl, x, _, rfl, by show 1 ≤ 1000; decide, hx, v, rfl, v, d, fp, rfl, rp, hN, fun H2 v' f3 s2 r2 n2 => ?_⟩
    have z := err_end (C := C) hx q s2 r2 n2
    exact ⟨.ref x, rfl, x, rfl, z.1, z.2⟩
theorem ok_err21 {f1 C fI : Addr} {fd fdI : FuncData} (GC : FnOk P w K mg base CX0 2 f1 fd ["value"] (spCopied w)) (kC : PySem.W.keepIn K (.ref f1) = true) (bC : Binds K fd ["value"] []) (gC : mg "copied" = some (.ref f1))
    (BC : BaseC K mg "ValueError" "ValueError" "ValueError.__init__") (Er : ErrC K mg "InvalidStates" "InvalidStates.__init__" "value" (initOf 21) "ValueError.__new__" "ValueError.__init__" vTail C fI fdI) : FnOk P w K mg base CX0 3 fI fdI ["self", "value"] (spErr w C "value") := by
  have sc : FnScope ["self", "value"] ["self", "value"] (defScope (initOf 21)) := ⟨rfl, rfl, rfl, by decide +kernel, rfl, by decide +kernel, by decide +kernel⟩
  refine Er.fn.ok sc (fun vs H Q E h => ?_) (fun cdv A outer s H vs Q E hr h => ?_)
  · obtain ⟨x, v, d, fp, rfl, _⟩ := h
    rfl
  · obtain ⟨x, v, d, fp, rfl, hx, rp, hN, q⟩ := h
    refine ⟨_, pss_cons (ps_expr (peInitX Er.ox.toOX (by rfl) BC.mB (by decide +kernel) (by rfl) (by decide +kernel) BC.fi (by decide +kernel) (pa_cons (pv 0) (pa_cons pe_str pa_nil))))
      (pss_one (psSetX Er.ox (pv 0) (pe_call GC hr (by rfl) gC kC bC .nil pass0 (pa_cons (pv 1) pa_nil)))), ?_⟩
    refine ⟨.ref x, rfl, x, _, rfl, by show 1 ≤ 1000; decide, hx, v, rfl, v, d, fp, rfl, rp, hN, fun H2 v' f3 s2 r2 n2 => ?_⟩
    have z := err_end (C := C) hx q s2 r2 n2
    exact ⟨.ref x, rfl, x, rfl, z.1, z.2⟩
theorem ok_err22 {f1 C fI : Addr} {fd fdI : FuncData} (GC : FnOk P w K mg base CX0 2 f1 fd ["value"] (spCopied w)) (kC : PySem.W.keepIn K (.ref f1) = true) (bC : Binds K fd ["value"] []) (gC : mg "copied" = some (.ref f1))
    (BC : BaseC K mg "ValueError" "ValueError" "ValueError.__init__") (Er : ErrC K mg "NotClosed" "NotClosed.__init__" "spot" (initOf 22) "ValueError.__new__" "ValueError.__init__" vTail C fI fdI) : FnOk P w K mg base CX0 3 fI fdI ["self", "spot"] (spErr w C "spot") := by
  have sc : FnScope ["self", "spot"] ["self", "spot"] (defScope (initOf 22)) := ⟨rfl, rfl, rfl, by decide +kernel, rfl, by decide +kernel, by decide +kernel⟩
  refine Er.fn.ok sc (fun vs H Q E h => ?_) (fun cdv A outer s H vs Q E hr h => ?_)
  · obtain ⟨x, v, d, fp, rfl, _⟩ := h
    rfl
  · obtain ⟨x, v, d, fp, rfl, hx, rp, hN, q⟩ := h
    refine ⟨_, pss_cons (ps_expr (peInitX Er.ox.toOX (by rfl) BC.mB (by decide +kernel) (by rfl) (by decide +kernel) BC.fi (by decide +kernel) (pa_cons (pv 0) (pa_cons pe_str pa_nil))))
      (pss_one (psSetX Er.ox (pv 0) (pe_call GC hr (by rfl) gC kC bC .nil pass0 (pa_cons (pv 1) pa_nil)))), ?_⟩
    refine ⟨.ref x, rfl, x, _, rfl, by show 1 ≤ 1000; decide, hx, v, rfl, v, d, fp, rfl, rp, hN, fun H2 v' f3 s2 r2 n2 => ?_⟩
    have z := err_end (C := C) hx q s2 r2 n2
    exact ⟨.ref x, rfl, x, rfl, z.1, z.2⟩
theorem ok_err23 {f1 C fI : Addr} {fd fdI : FuncData} (GC : FnOk P w K mg base CX0 2 f1 fd ["value"] (spCopied w)) (kC : PySem.W.keepIn K (.ref f1) = true) (bC : Binds K fd ["value"] []) (gC : mg "copied" = some (.ref f1))
    (BC : BaseC K mg "ValueError" "ValueError" "ValueError.__init__") (Er : ErrC K mg "Faulty" "Faulty.__init__" "spot" (initOf 23) "ValueError.__new__" "ValueError.__init__" vTail C fI fdI) : FnOk P w K mg base CX0 3 fI fdI ["self", "spot"] (spErr w C "spot") := by
  have sc : FnScope ["self", "spot"] ["self", "spot"] (defScope (initOf 23)) := ⟨rfl, rfl, rfl, by decide +kernel, rfl, by decide +kernel, by decide +kernel⟩
  refine Er.fn.ok sc (fun vs H Q E h => ?_) (fun cdv A outer s H vs Q E hr h => ?_)
  · obtain ⟨x, v, d, fp, rfl, _⟩ := h
    rfl
  · obtain ⟨x, v, d, fp, rfl, hx, rp, hN, q⟩ := h
    refine ⟨_, pss_cons (ps_expr (peInitX Er.ox.toOX (by rfl) BC.mB (by decide +kernel) (by rfl) (by decide +kernel) BC.fi (by decide +kernel) (pa_cons (pv 0) (pa_cons pe_str pa_nil))))
      (pss_one (psSetX Er.ox (pv 0) (pe_call GC hr (by rfl) gC kC bC .nil pass0 (pa_cons (pv 1) pa_nil)))), ?_⟩
    refine ⟨.ref x, rfl, x, _, rfl, by show 1 ≤ 1000; decide, hx, v, rfl, v, d, fp, rfl, rp, hN, fun H2 v' f3 s2 r2 n2 => ?_⟩
    have z := err_end (C := C) hx q s2 r2 n2
    exact ⟨.ref x, rfl, x, rfl, z.1, z.2⟩
theorem ok_err24 {f1 C fI : Addr} {fd fdI : FuncData} (GC : FnOk P w K mg base CX0 2 f1 fd ["value"] (spCopied w)) (kC : PySem.W.keepIn K (.ref f1) = true) (bC : Binds K fd ["value"] []) (gC : mg "copied" = some (.ref f1))
    (BC : BaseC K mg "KeyError" "KeyError" "KeyError.__init__") (Er : ErrC K mg "UnknownFunction" "UnknownFunction.__init__" "value" (initOf 24) "LookupError.__new__" "KeyError.__init__" kTail C fI fdI) : FnOk P w K mg base CX0 3 fI fdI ["self", "value"] (spErr w C "value") := by
  have sc : FnScope ["self", "value"] ["self", "value"] (defScope (initOf 24)) := ⟨rfl, rfl, rfl, by decide +kernel, rfl, by decide +kernel, by decide +kernel⟩
  refine Er.fn.ok sc (fun vs H Q E h => ?_) (fun cdv A outer s H vs Q E hr h => ?_)
  · obtain ⟨x, v, d, fp, rfl, _⟩ := h
    rfl
  · obtain ⟨x, v, d, fp, rfl, hx, rp, hN, q⟩ := h
    refine ⟨_, pss_cons (ps_expr (peInitX Er.ox.toOX (by rfl) BC.mB (by decide +kernel) (by rfl) (by decide +kernel) BC.fi (by decide +kernel) (pa_cons (pv 0) (pa_cons pe_str pa_nil))))
      (pss_one (psSetX Er.ox (pv 0) (pe_call GC hr (by rfl) gC kC bC .nil pass0 (pa_cons (pv 1) pa_nil)))), ?_⟩
    refine ⟨.ref x, rfl, x, _, rfl, by show 1 ≤ 1000; decide, hx, v, rfl, v, d, fp, rfl, rp, hN, fun H2 v' f3 s2 r2 n2 => ?_⟩
    have z := err_end (C := C) hx q s2 r2 n2
    exact ⟨.ref x, rfl, x, rfl, z.1, z.2⟩
theorem ok_err25 {f1 C fI : Addr} {fd fdI : FuncData} (GC : FnOk P w K mg base CX0 2 f1 fd ["value"] (spCopied w)) (kC : PySem.W.keepIn K (.ref f1) = true) (bC : Binds K fd ["value"] []) (gC : mg "copied" = some (.ref f1))
    (BC : BaseC K mg "KeyError" "KeyError" "KeyError.__init__") (Er : ErrC K mg "UnknownSpot" "UnknownSpot.__init__" "value" (initOf 25) "LookupError.__new__" "KeyError.__init__" kTail C fI fdI) : FnOk P w K mg base CX0 3 fI fdI ["self", "value"] (spErr w C "value") := by
  have sc : FnScope ["self", "value"] ["self", "value"] (defScope (initOf 25)) := ⟨rfl, rfl, rfl, by decide +kernel, rfl, by decide +kernel, by decide +kernel⟩
  refine Er.fn.ok sc (fun vs H Q E h => ?_) (fun cdv A outer s H vs Q E hr h => ?_)
  · obtain ⟨x, v, d, fp, rfl, _⟩ := h
    rfl
  · obtain ⟨x, v, d, fp, rfl, hx, rp, hN, q⟩ := h
    refine ⟨_, pss_cons (ps_expr (peInitX Er.ox.toOX (by rfl) BC.mB (by decide +kernel) (by rfl) (by decide +kernel) BC.fi (by decide +kernel) (pa_cons (pv 0) (pa_cons pe_str pa_nil))))
      (pss_one (psSetX Er.ox (pv 0) (pe_call GC hr (by rfl) gC kC bC .nil pass0 (pa_cons (pv 1) pa_nil)))), ?_⟩
    refine ⟨.ref x, rfl, x, _, rfl, by show 1 ≤ 1000; decide, hx, v, rfl, v, d, fp, rfl, rp, hN, fun H2 v' f3 s2 r2 n2 => ?_⟩
    have z := err_end (C := C) hx q s2 r2 n2
    exact ⟨.ref x, rfl, x, rfl, z.1, z.2⟩
theorem ok_err26 {f1 C fI : Addr} {fd fdI : FuncData} (GC : FnOk P w K mg base CX0 2 f1 fd ["value"] (spCopied w)) (kC : PySem.W.keepIn K (.ref f1) = true) (bC : Binds K fd ["value"] []) (gC : mg "copied" = some (.ref f1))
    (BC : BaseC K mg "KeyError" "KeyError" "KeyError.__init__") (Er : ErrC K mg "UnknownName" "UnknownName.__init__" "value" (initOf 26) "LookupError.__new__" "KeyError.__init__" kTail C fI fdI) : FnOk P w K mg base CX0 3 fI fdI ["self", "value"] (spErr w C "value") := by
  have sc : FnScope ["self", "value"] ["self", "value"] (defScope (initOf 26)) := ⟨rfl, rfl, rfl, by decide +kernel, rfl, by decide +kernel, by decide +kernel⟩
  refine Er.fn.ok sc (fun vs H Q E h => ?_) (fun cdv A outer s H vs Q E hr h => ?_)
  · obtain ⟨x, v, d, fp, rfl, _⟩ := h
    rfl
  · obtain ⟨x, v, d, fp, rfl, hx, rp, hN, q⟩ := h
    refine ⟨_, pss_cons (ps_expr (peInitX Er.ox.toOX (by rfl) BC.mB (by decide +kernel) (by rfl) (by decide +kernel) BC.fi (by decide +kernel) (pa_cons (pv 0) (pa_cons pe_str pa_nil))))
      (pss_one (psSetX Er.ox (pv 0) (pe_call GC hr (by rfl) gC kC bC .nil pass0 (pa_cons (pv 1) pa_nil)))), ?_⟩
    refine ⟨.ref x, rfl, x, _, rfl, by show 1 ≤ 1000; decide, hx, v, rfl, v, d, fp, rfl, rp, hN, fun H2 v' f3 s2 r2 n2 => ?_⟩
    have z := err_end (C := C) hx q s2 r2 n2
    exact ⟨.ref x, rfl, x, rfl, z.1, z.2⟩
theorem ok_err27 {f1 C fI : Addr} {fd fdI : FuncData} (GC : FnOk P w K mg base CX0 2 f1 fd ["value"] (spCopied w)) (kC : PySem.W.keepIn K (.ref f1) = true) (bC : Binds K fd ["value"] []) (gC : mg "copied" = some (.ref f1))
    (BC : BaseC K mg "IndexError" "IndexError" "IndexError.__init__") (Er : ErrC K mg "OutOfRange" "OutOfRange.__init__" "value" (initOf 27) "IndexError.__new__" "IndexError.__init__" iTail C fI fdI) : FnOk P w K mg base CX0 3 fI fdI ["self", "value"] (spErr w C "value") := by
  have sc : FnScope ["self", "value"] ["self", "value"] (defScope (initOf 27)) := ⟨rfl, rfl, rfl, by decide +kernel, rfl, by decide +kernel, by decide +kernel⟩
  refine Er.fn.ok sc (fun vs H Q E h => ?_) (fun cdv A outer s H vs Q E hr h => ?_)
  · obtain ⟨x, v, d, fp, rfl, _⟩ := h
    rfl
  · obtain ⟨x, v, d, fp, rfl, hx, rp, hN, q⟩ := h
    refine ⟨_, pss_cons (ps_expr (peInitX Er.ox.toOX (by rfl) BC.mB (by decide +kernel) (by rfl) (by decide +kernel) BC.fi (by decide +kernel) (pa_cons (pv 0) (pa_cons pe_str pa_nil))))
      (pss_one (psSetX Er.ox (pv 0) (pe_call GC hr (by rfl) gC kC bC .nil pass0 (pa_cons (pv 1) pa_nil)))), ?_⟩
    refine ⟨.ref x, rfl, x, _, rfl, by show 1 ≤ 1000; decide, hx, v, rfl, v, d, fp, rfl, rp, hN, fun H2 v' f3 s2 r2 n2 => ?_⟩
    have z := err_end (C := C) hx q s2 r2 n2
    exact ⟨.ref x, rfl, x, rfl, z.1, z.2⟩
theorem ok_err28 {f1 C fI : Addr} {fd fdI : FuncData} (GC : FnOk P w K mg base CX0 2 f1 fd ["value"] (spCopied w)) (kC : PySem.W.keepIn K (.ref f1) = true) (bC : Binds K fd ["value"] []) (gC : mg "copied" = some (.ref f1))
    (BC : BaseC K mg "OverflowError" "OverflowError" "OverflowError.__init__") (Er : ErrC K mg "TooMany" "TooMany.__init__" "limit" (initOf 28) "OverflowError.__new__" "OverflowError.__init__" oTail C fI fdI) : FnOk P w K mg base CX0 3 fI fdI ["self", "limit"] (spErr w C "limit") := by
  have sc : FnScope ["self", "limit"] ["self", "limit"] (defScope (initOf 28)) := ⟨rfl, rfl, rfl, by decide +kernel, rfl, by decide +kernel, by decide +kernel⟩
  refine Er.fn.ok sc (fun vs H Q E h => ?_) (fun cdv A outer s H vs Q E hr h => ?_)
  · obtain ⟨x, v, d, fp, rfl, _⟩ := h
    rfl
  · obtain ⟨x, v, d, fp, rfl, hx, rp, hN, q⟩ := h
    refine ⟨_, pss_cons (ps_expr (peInitX Er.ox.toOX (by rfl) BC.mB (by decide +kernel) (by rfl) (by decide +kernel) BC.fi (by decide +kernel) (pa_cons (pv 0) (pa_cons pe_str pa_nil))))
      (pss_one (psSetX Er.ox (pv 0) (pe_call GC hr (by rfl) gC kC bC .nil pass0 (pa_cons (pv 1) pa_nil)))), ?_⟩
    refine ⟨.ref x, rfl, x, _, rfl, by show 1 ≤ 1000; decide, hx, v, rfl, v, d, fp, rfl, rp, hN, fun H2 v' f3 s2 r2 n2 => ?_⟩
    have z := err_end (C := C) hx q s2 r2 n2
    exact ⟨.ref x, rfl, x, rfl, z.1, z.2⟩
def spTrial (C : Addr) : Sp := fun vs H Q _ => ∃ x : Addr, vs = [.ref x] ∧ H x = some (exo x C none) ∧ Q .non H
theorem ok_trial {C fI : Addr} {fdI : FuncData} (BC : BaseC K mg "RuntimeError" "RuntimeError" "RuntimeError.__init__") (ox : OX K C "RuntimeError.__new__" "RuntimeError.__init__" rTail)
    (F : Fun K "__init__" "InTrial.__init__" (initOf 29) fI fdI) : FnOk P w K mg base CX0 1 fI fdI ["self"] (spTrial C) := by
  have sc : FnScope ["self"] ["self"] (defScope (initOf 29)) := ⟨rfl, rfl, rfl, by decide +kernel, rfl, by decide +kernel, by decide +kernel⟩
  refine F.ok sc (fun vs H Q E h => ?_) (fun cdv A outer s H vs Q E hr h => ?_)
  · obtain ⟨x, rfl, _⟩ := h
    rfl
  · obtain ⟨x, rfl, hx, q⟩ := h
    refine ⟨_, pss_one (ps_expr (peInitX ox (by rfl) BC.mB (by decide +kernel) (by rfl) (by decide +kernel) BC.fi (by decide +kernel) (pa_cons (pv 0) (pa_cons pe_str pa_nil)))), ?_⟩
    exact ⟨.ref x, rfl, x, _, rfl, by show 1 ≤ 1000; decide, hx, q⟩
end
end KF
end L2
/-! ### KM -/
namespace L2
namespace KF
open PySem PySem.Spec PyProof.Rows PySem.KD KE KC PySem.KA
/-! ## _law_made -/
/-- a row of made errors: the error, its field twice, its kind -/
def RowF (w : World) (H : Hp) (d : PyData) (N : Addr → Prop) (c : Addr × Int) (val : V) : Prop := ∃ (T x dx : Addr) (fs : List (Str × V)) (v1 v2 : V) (f1 f2 : List Addr), val = .ref T ∧ H T = some (.tup [.ref x, v1, v2, .int c.2]) ∧ H x = some (exo x c.1 (some dx)) ∧ H dx = some (exd dx fs) ∧
  Rep w H v1 d f1 ∧ Rep w H v2 d f2 ∧ ∀ a ∈ x :: dx :: (f1 ++ f2), N a
theorem RowF.keep {w : World} {H H' : Hp} {d : PyData} {N : Addr → Prop} {c : Addr × Int} {val : V} (r : RowF w H d N c val) (k : ∀ a, N a → H' a = H a) (t : ∀ a xs, H a = some (.tup xs) → H' a = some (.tup xs)) : RowF w H' d N c val := by
  obtain ⟨T, x, dx, fs, v1, v2, f1, f2, e, eT, ex, ed, r1, r2, n⟩ := r
  refine ⟨T, x, dx, fs, v1, v2, f1, f2, e, t _ _ eT, ?_, ?_, r1.keep ⟨fun a ha => k a (n a ?_), t⟩, r2.keep ⟨fun a ha => k a (n a ?_), t⟩, n⟩
  · rw [k x (n x List.mem_cons_self)]
    exact ex
  · rw [k dx (n dx (List.mem_cons_of_mem _ List.mem_cons_self))]
    exact ed
  · exact List.mem_cons_of_mem _ (List.mem_cons_of_mem _ (List.mem_append_left _ ha))
  · exact List.mem_cons_of_mem _ (List.mem_cons_of_mem _ (List.mem_append_right _ ha))
theorem RowF.weak {w : World} {H : Hp} {d : PyData} {N N' : Addr → Prop} {c : Addr × Int} {val : V} (r : RowF w H d N c val) (k : ∀ a, N a → H a ≠ none → N' a) : RowF w H d N' c val := by
  obtain ⟨T, x, dx, fs, v1, v2, f1, f2, e, eT, ex, ed, r1, r2, n⟩ := r
  refine ⟨T, x, dx, fs, v1, v2, f1, f2, e, eT, ex, ed, r1, r2, fun a ha => k a (n a ha) ?_⟩
  rcases List.mem_cons.mp ha with rfl | ha
  · rw [ex]; exact fun z => nomatch z
  rcases List.mem_cons.mp ha with rfl | ha
  · rw [ed]; exact fun z => nomatch z
  rcases List.mem_append.mp ha with ha | ha
  · exact r1.dom a ha
  · exact r2.dom a ha
abbrev tOne (C : Addr) (w : World) (f : Str) : TE := tMakeX C (spErr w C f) E0 (tCons (tVar 0) tNil)
abbrev tRow (K : PySem.W.Frag) (w : World) (C : Addr) (f : Str) (k : Int) : TE := tTup (tCons (tOne C w f) (tCons (tXat K C f (tOne C w f)) (tCons (tXat K C f (tOne C w f)) (tCons (tC (.int k)) tNil))))
theorem made_one {w : World} {C : Addr} {f : Str} {H : Hp} {v : V} {d : PyData} {fp : List Addr} {σ : St} {Q : VK} (e0 : σ[0]? = some (some v)) (rp : Rep w H v d fp) (hN : sz d ≤ 1000)
    (q : ∀ H' x dx v' f3, Same H H' → H x = none → H dx = none → H' x = some (exo x C (some dx)) → H' dx = some (exd dx [(f, v')]) → Rep w H' v' d f3 → (∀ a ∈ f3, H a = none ∧ a ≠ x ∧ a ≠ dx) → Q (.ref x) H') : tOne C w f σ H Q := by
  refine ⟨v, e0, by show 1 ≤ 1000; decide, fun x nx => ?_⟩
  have s1 := same_upd (o := exo x C none) nx
  refine ⟨x, v, d, fp, rfl, upd_same, rp.same s1, hN, fun H' dx v' f3 sb ex nd ed r3 n3 => ⟨rfl, ?_⟩⟩
  have ndx : dx ≠ x := fun z => by
    rw [z, upd_same] at nd
    cases nd
  refine q H' x dx v' f3 (fun b o z => sb b o (ne_of_none z nx) (s1 _ _ z)) nx (s1.free nd) ex ed r3 fun a ha => ⟨s1.free (n3 a ha).1, fun z => ?_, (n3 a ha).2⟩
  have z2 := (n3 a ha).1
  rw [z, upd_same] at z2
  cases z2
theorem c_tup {t : TA} {σ : St} {H : Hp} {Q : VK} (h : t σ H fun xs H1 => xs.length ≤ sizeLine ∧ ∀ p, H1 p = none → Q (.ref p) (upd H1 p (.tup xs))) : tTup t σ H Q := h
theorem c_lst {t : TA} {σ : St} {H : Hp} {Q : VK} (h : t σ H fun xs H1 => xs.length ≤ sizeLine ∧ ∀ p, H1 p = none → Q (.ref p) (upd H1 p (.lst xs))) : tLst t σ H Q := h
theorem c_cons {t : TE} {u : TA} {σ : St} {H : Hp} {Q : List V → Hp → Prop} (h : t σ H fun x H1 => u σ H1 fun xs H2 => Q (x :: xs) H2) : tCons t u σ H Q := h
theorem c_asg {t : TE} {g : TG} {D : Ends} {σ : St} {H : Hp} (h : t σ H fun x H1 => g x σ H1 D.nx) : tAsg t g D σ H := h
theorem c_xat {K : PySem.W.Frag} {C : Addr} {f : Str} {te : TE} {σ : St} {H : Hp} {Q : VK} (h : te σ H fun x H1 => ∃ (a dx : Addr) (fs : List (Str × V)) (v : V), x = .ref a ∧ H1 a = some (exo a C (some dx)) ∧ H1 dx = some (exd dx fs) ∧ fs.lookup f = some v ∧ Q v H1) : tXat K C f te σ H Q := h
theorem row_made {K : PySem.W.Frag} {w : World} {C : Addr} {f : Str} {k : Int} {H : Hp} {v : V} {d : PyData} {fp : List Addr} {σ : St} {Q : VK} (e0 : σ[0]? = some (some v)) (rp : Rep w H v d fp) (hN : sz d ≤ 1000)
    (q : ∀ H' T, Same H H' → RowF w H' d (fun a => H a = none) (C, k) (.ref T) → Q (.ref T) H') : tRow K w C f k σ H Q := by
  have lk : ∀ v' : V, List.lookup f [(f, v')] = some v' := fun v' => by simp [List.lookup]
  refine c_tup (c_cons (made_one e0 rp hN fun H1 x dx v0 f0 s1 nx ndx ex ed r0 n0 => ?_))
  refine c_cons (c_xat (made_one e0 (rp.same s1) hN fun H2 x2 dx2 v1 f1 s2 nx2 ndx2 ex2 ed2 r1 n1 => ⟨x2, dx2, _, v1, rfl, ex2, ed2, lk v1, ?_⟩))
  refine c_cons (c_xat (made_one e0 (rp.same (s1.trans s2)) hN fun H3 x3 dx3 v2 f2 s3 nx3 ndx3 ex3 ed3 r2 n2 => ⟨x3, dx3, _, v2, rfl, ex3, ed3, lk v2, ?_⟩))
  refine ⟨by show 4 ≤ sizeLine; decide, fun T nT => ?_⟩
  have s4 := same_upd (o := HO.tup [.ref x, v1, v2, .int k]) nT
  refine q _ T (((s1.trans s2).trans s3).trans s4) ⟨T, x, dx, _, v1, v2, f1, f2, rfl, upd_same, s4 _ _ (s3 _ _ (s2 _ _ ex)), s4 _ _ (s3 _ _ (s2 _ _ ed)), (r1.same s3).same s4, r2.same s4, fun a ha => ?_⟩
  rcases List.mem_cons.mp ha with rfl | ha
  · exact nx
  rcases List.mem_cons.mp ha with rfl | ha
  · exact ndx
  rcases List.mem_append.mp ha with ha | ha
  · exact s1.free (n1 a ha).1
  · exact (s1.trans s2).free (n2 a ha).1
/-- the rows made so far -/
structure MadeSt (w : World) (G : Hp) (thing : V) (d : PyData) (pf : Addr) (cs : List (Addr × Int)) (σ : St) (H : Hp) : Prop where
  sg : σ = [some thing, some (.ref pf)]
  same : Same G H
  npf : G pf = none
  at_ : ∃ rows, H pf = some (.lst rows) ∧ Paired (RowF w H d fun a => G a = none ∧ a ≠ pf) cs rows ∧ rows.length ≤ 900
abbrev tApp (K : PySem.W.Frag) (w : World) (C : Addr) (f : Str) (k : Int) : TS := tDrop (tBM K "list" rAppend (tVar 1) (tCons (tRow K w C f k) tNil))
theorem paired_mono {α β : Type} {R S : α → β → Prop} : ∀ {xs : List α} {ys : List β}, Paired R xs ys → (∀ x y, R x y → S x y) → Paired S xs ys
  | _, _, .nil, _ => .nil
  | _, _, .cons a t, h => .cons (h _ _ a) (paired_mono t h)
theorem made_step {K : PySem.W.Frag} {w : World} {G : Hp} {thing : V} {d : PyData} {fp : List Addr} {pf : Addr} {cs : List (Addr × Int)} {C : Addr} {f : Str} {k : Int} {σ : St} {H : Hp} {D : Ends} (rp : Rep w G thing d fp) (hN : sz d ≤ 1000) (M : MadeSt w G thing d pf cs σ H) (lc : cs.length ≤ 800)
    (q : ∀ σ' H', MadeSt w G thing d pf (cs ++ [(C, k)]) σ' H' → D.nx σ' H') : tApp K w C f k D σ H := by
  obtain ⟨rfl, sG, npf, rows, ep, pr, lr⟩ := M
  refine ⟨.ref pf, rfl, .inl ⟨rfl, _, .inl (.inl ep)⟩, ?_⟩
  refine c_cons (row_made rfl (rp.same sG) hN fun H' T s1 rf => ?_)
  have ep' := s1 _ _ ep
  refine ⟨pf, rows, .ref T, rfl, rfl, ep', small1000 (by omega), ?_⟩
  have nt : ∀ {a : Addr} {xs : List V}, H' a = some (.tup xs) → a ≠ pf := fun {a xs} z y => by
    rw [y, ep'] at z
    cases z
  have tk : ∀ a xs, H' a = some (.tup xs) → (upd H' pf (.lst (rows ++ [.ref T]))) a = some (.tup xs) := fun a xs z => by
    rw [upd_ne (nt z)]
    exact z
  have hl : cs.length = rows.length := Paired.length pr
  refine q _ _ ⟨rfl, fun b o z => ?_, npf, rows ++ [.ref T], upd_same, paired_append (paired_mono pr fun c val r => ?_) (.cons ?_ .nil), ?_⟩
  · rw [upd_ne (ne_of_none z npf)]
    exact s1 _ _ (sG _ _ z)
  · have r2 : RowF w H' d (fun a => (G a = none ∧ a ≠ pf) ∧ H a ≠ none) c val := (r.weak fun a na nz => ⟨na, nz⟩).keep (fun a na => by
      cases e : H a with
      | none => exact absurd e na.2
      | some o => exact s1 _ _ e) fun a xs z => s1 _ _ z
    exact (r2.keep (fun a na => upd_ne na.1.2) tk).weak fun a na _ => na.1
  · have r2 : RowF w H' d (fun a => G a = none ∧ a ≠ pf) (C, k) (.ref T) := rf.weak fun a na _ => ⟨sG.free na, fun z => by
      rw [z, ep] at na
      cases na⟩
    exact r2.keep (fun a na => upd_ne na.2) tk
  · rw [List.length_append, List.length_singleton, ← hl]
    omega
abbrev sMade : Stmt := topS 36
theorem scMade : FnScope ["_law_thing", "_law_found"] ["_law_thing"] (defScope sMade) := ⟨rfl, rfl, rfl, by decide +kernel, rfl, by decide +kernel, by decide +kernel⟩
/-- an error's class with its __init__ -/
structure ErrOk (P : Program) (w : World) (K : PySem.W.Frag) (mg : Str → Option Value) (base : Heap) (nm f : Str) (C : Addr) : Prop where
  ex : ∃ (newId initId : String) (bm : List Value) (fI : Addr) (fdI : FuncData), OXS K C newId initId bm f ∧ PySem.W.findIn K (.ref C) "__init__" = some (some (.ref fI)) ∧ PySem.W.typeIn K (.ref fI) = some (.type "function") ∧ mg nm = some (.ref C) ∧ Binds K fdI ["self", f] [] ∧
    (∀ us ws : List Value, us.length = 1 → ws.length = 1 → bindArgs fdI ⟨us, [f].zip ws⟩ = pure ([("self" : Str), f].zip (us ++ ws))) ∧ FnOk P w K mg base CX0 3 fI fdI ["self", f] (spErr w C f)
def spMade (w : World) (cs : List (Addr × Int)) : Sp := fun vs H Q _ => ∃ v d fp, vs = [v] ∧ Rep w H v d fp ∧ sz d ≤ 1000 ∧ ∀ H' pf rows, Same H H' → H pf = none → H' pf = some (.lst rows) → Paired (RowF w H' d fun a => H a = none ∧ a ≠ pf) cs rows → Q (.ref pf) H'
section
variable {P : Program} {w : World} {K : PySem.W.Frag} {mg : Str → Option Value} {base : Heap}
theorem ok_made {f : Addr} {fd : FuncData} {C0 C1 C2 C3 C4 C5 C6 C7 C8 C9 C10 C11 C12 C13 C14 C15 C16 C17 : Addr} (F : Fun K "_law_made" "_law_made" sMade f fd) (E0 : ErrOk P w K mg base "InvalidFunctions" "value" C0) (E1 : ErrOk P w K mg base "InvalidFunction" "name" C1) (E2 : ErrOk P w K mg base "InvalidNames" "name" C2) (E3 : ErrOk P w K mg base "InvalidStatement" "spot" C3) (E4 : ErrOk P w K mg base "InvalidChoice" "index" C4) (E5 : ErrOk P w K mg base "InvalidPlaces" "value" C5) (E6 : ErrOk P w K mg base "InvalidPaper" "value" C6) (E7 : ErrOk P w K mg base "InvalidPrices" "value" C7) (E8 : ErrOk P w K mg base "InvalidProfile" "value" C8) (E9 : ErrOk P w K mg base "InvalidText" "line" C9) (E10 : ErrOk P w K mg base "InvalidStates" "value" C10) (E11 : ErrOk P w K mg base "NotClosed" "spot" C11) (E12 : ErrOk P w K mg base "Faulty" "spot" C12) (E13 : ErrOk P w K mg base "UnknownFunction" "value" C13) (E14 : ErrOk P w K mg base "UnknownSpot" "value" C14) (E15 : ErrOk P w K mg base "UnknownName" "value" C15) (E16 : ErrOk P w K mg base "OutOfRange" "value" C16) (E17 : ErrOk P w K mg base "TooMany" "limit" C17) :
    FnOk P w K mg base CX0 5 f fd ["_law_thing"] (spMade w [(C0, 0), (C1, 0), (C2, 0), (C3, 0), (C4, 0), (C5, 0), (C6, 0), (C7, 0), (C8, 0), (C9, 0), (C10, 0), (C11, 0), (C12, 0), (C13, 1), (C14, 1), (C15, 1), (C16, 2), (C17, 3)]) := by
  obtain ⟨nw0, in0, bm0, fI0, fd0, ox0, iC0, tI0, gC0, b0, k0, G0⟩ := E0.ex
  obtain ⟨nw1, in1, bm1, fI1, fd1, ox1, iC1, tI1, gC1, b1, k1, G1⟩ := E1.ex
  obtain ⟨nw2, in2, bm2, fI2, fd2, ox2, iC2, tI2, gC2, b2, k2, G2⟩ := E2.ex
  obtain ⟨nw3, in3, bm3, fI3, fd3, ox3, iC3, tI3, gC3, b3, k3, G3⟩ := E3.ex
  obtain ⟨nw4, in4, bm4, fI4, fd4, ox4, iC4, tI4, gC4, b4, k4, G4⟩ := E4.ex
  obtain ⟨nw5, in5, bm5, fI5, fd5, ox5, iC5, tI5, gC5, b5, k5, G5⟩ := E5.ex
  obtain ⟨nw6, in6, bm6, fI6, fd6, ox6, iC6, tI6, gC6, b6, k6, G6⟩ := E6.ex
  obtain ⟨nw7, in7, bm7, fI7, fd7, ox7, iC7, tI7, gC7, b7, k7, G7⟩ := E7.ex
  obtain ⟨nw8, in8, bm8, fI8, fd8, ox8, iC8, tI8, gC8, b8, k8, G8⟩ := E8.ex
  obtain ⟨nw9, in9, bm9, fI9, fd9, ox9, iC9, tI9, gC9, b9, k9, G9⟩ := E9.ex
  obtain ⟨nw10, in10, bm10, fI10, fd10, ox10, iC10, tI10, gC10, b10, k10, G10⟩ := E10.ex
  obtain ⟨nw11, in11, bm11, fI11, fd11, ox11, iC11, tI11, gC11, b11, k11, G11⟩ := E11.ex
  obtain ⟨nw12, in12, bm12, fI12, fd12, ox12, iC12, tI12, gC12, b12, k12, G12⟩ := E12.ex
  obtain ⟨nw13, in13, bm13, fI13, fd13, ox13, iC13, tI13, gC13, b13, k13, G13⟩ := E13.ex
  obtain ⟨nw14, in14, bm14, fI14, fd14, ox14, iC14, tI14, gC14, b14, k14, G14⟩ := E14.ex
  obtain ⟨nw15, in15, bm15, fI15, fd15, ox15, iC15, tI15, gC15, b15, k15, G15⟩ := E15.ex
  obtain ⟨nw16, in16, bm16, fI16, fd16, ox16, iC16, tI16, gC16, b16, k16, G16⟩ := E16.ex
  obtain ⟨nw17, in17, bm17, fI17, fd17, ox17, iC17, tI17, gC17, b17, k17, G17⟩ := E17.ex
  refine F.ok scMade (fun vs H Q E h => ?_) (fun cdv A outer s H vs Q E hr h => ?_)
  · obtain ⟨v, d, fp, rfl, _⟩ := h
    rfl
  · obtain ⟨v, d, fp, rfl, rp, hN, q⟩ := h
    refine ⟨_, pss_cons (ps_set (i := 1) scMade.nd rfl (.inl rfl) (pe_lst (pa_cons (pe_tup (pa_cons (peMakeX ox0.toOX iC0 tI0 G0 hr b0 pass0 (by rfl) gC0 (pa_cons (pv 0) pa_nil)) (pa_cons (peXat ox0 (peMakeXK ox0.toOX iC0 tI0 G0 hr k0 pass0 (by rfl) gC0 (pv 0))) (pa_cons (peXat ox0 (peMakeX ox0.toOX iC0 tI0 G0 hr b0 pass0 (by rfl) gC0 (pa_cons (pv 0) pa_nil))) (pa_cons pe_int pa_nil))))) pa_nil)))
      (pss_cons (ps_expr (pe_bm PySem.F.plainAttrs_list PySem.F.slot_list_append PySem.F.type_list_append mt_append (pv 1) (pa_cons (pe_tup (pa_cons (peMakeX ox1.toOX iC1 tI1 G1 hr b1 pass0 (by rfl) gC1 (pa_cons (pv 0) pa_nil)) (pa_cons (peXat ox1 (peMakeXK ox1.toOX iC1 tI1 G1 hr k1 pass0 (by rfl) gC1 (pv 0))) (pa_cons (peXat ox1 (peMakeX ox1.toOX iC1 tI1 G1 hr b1 pass0 (by rfl) gC1 (pa_cons (pv 0) pa_nil))) (pa_cons pe_int pa_nil))))) pa_nil)))
      (pss_cons (ps_expr (pe_bm PySem.F.plainAttrs_list PySem.F.slot_list_append PySem.F.type_list_append mt_append (pv 1) (pa_cons (pe_tup (pa_cons (peMakeX ox2.toOX iC2 tI2 G2 hr b2 pass0 (by rfl) gC2 (pa_cons (pv 0) pa_nil)) (pa_cons (peXat ox2 (peMakeXK ox2.toOX iC2 tI2 G2 hr k2 pass0 (by rfl) gC2 (pv 0))) (pa_cons (peXat ox2 (peMakeX ox2.toOX iC2 tI2 G2 hr b2 pass0 (by rfl) gC2 (pa_cons (pv 0) pa_nil))) (pa_cons pe_int pa_nil))))) pa_nil)))
      (pss_cons (ps_expr (pe_bm PySem.F.plainAttrs_list PySem.F.slot_list_append PySem.F.type_list_append mt_append (pv 1) (pa_cons (pe_tup (pa_cons (peMakeX ox3.toOX iC3 tI3 G3 hr b3 pass0 (by rfl) gC3 (pa_cons (pv 0) pa_nil)) (pa_cons (peXat ox3 (peMakeXK ox3.toOX iC3 tI3 G3 hr k3 pass0 (by rfl) gC3 (pv 0))) (pa_cons (peXat ox3 (peMakeX ox3.toOX iC3 tI3 G3 hr b3 pass0 (by rfl) gC3 (pa_cons (pv 0) pa_nil))) (pa_cons pe_int pa_nil))))) pa_nil)))
      (pss_cons (ps_expr (pe_bm PySem.F.plainAttrs_list PySem.F.slot_list_append PySem.F.type_list_append mt_append (pv 1) (pa_cons (pe_tup (pa_cons (peMakeX ox4.toOX iC4 tI4 G4 hr b4 pass0 (by rfl) gC4 (pa_cons (pv 0) pa_nil)) (pa_cons (peXat ox4 (peMakeXK ox4.toOX iC4 tI4 G4 hr k4 pass0 (by rfl) gC4 (pv 0))) (pa_cons (peXat ox4 (peMakeX ox4.toOX iC4 tI4 G4 hr b4 pass0 (by rfl) gC4 (pa_cons (pv 0) pa_nil))) (pa_cons pe_int pa_nil))))) pa_nil)))
      (pss_cons (ps_expr (pe_bm PySem.F.plainAttrs_list PySem.F.slot_list_append PySem.F.type_list_append mt_append (pv 1) (pa_cons (pe_tup (pa_cons (peMakeX ox5.toOX iC5 tI5 G5 hr b5 pass0 (by rfl) gC5 (pa_cons (pv 0) pa_nil)) (pa_cons (peXat ox5 (peMakeXK ox5.toOX iC5 tI5 G5 hr k5 pass0 (by rfl) gC5 (pv 0))) (pa_cons (peXat ox5 (peMakeX ox5.toOX iC5 tI5 G5 hr b5 pass0 (by rfl) gC5 (pa_cons (pv 0) pa_nil))) (pa_cons pe_int pa_nil))))) pa_nil)))
      (pss_cons (ps_expr (pe_bm PySem.F.plainAttrs_list PySem.F.slot_list_append PySem.F.type_list_append mt_append (pv 1) (pa_cons (pe_tup (pa_cons (peMakeX ox6.toOX iC6 tI6 G6 hr b6 pass0 (by rfl) gC6 (pa_cons (pv 0) pa_nil)) (pa_cons (peXat ox6 (peMakeXK ox6.toOX iC6 tI6 G6 hr k6 pass0 (by rfl) gC6 (pv 0))) (pa_cons (peXat ox6 (peMakeX ox6.toOX iC6 tI6 G6 hr b6 pass0 (by rfl) gC6 (pa_cons (pv 0) pa_nil))) (pa_cons pe_int pa_nil))))) pa_nil)))
      (pss_cons (ps_expr (pe_bm PySem.F.plainAttrs_list PySem.F.slot_list_append PySem.F.type_list_append mt_append (pv 1) (pa_cons (pe_tup (pa_cons (peMakeX ox7.toOX iC7 tI7 G7 hr b7 pass0 (by rfl) gC7 (pa_cons (pv 0) pa_nil)) (pa_cons (peXat ox7 (peMakeXK ox7.toOX iC7 tI7 G7 hr k7 pass0 (by rfl) gC7 (pv 0))) (pa_cons (peXat ox7 (peMakeX ox7.toOX iC7 tI7 G7 hr b7 pass0 (by rfl) gC7 (pa_cons (pv 0) pa_nil))) (pa_cons pe_int pa_nil))))) pa_nil)))
      (pss_cons (ps_expr (pe_bm PySem.F.plainAttrs_list PySem.F.slot_list_append PySem.F.type_list_append mt_append (pv 1) (pa_cons (pe_tup (pa_cons (peMakeX ox8.toOX iC8 tI8 G8 hr b8 pass0 (by rfl) gC8 (pa_cons (pv 0) pa_nil)) (pa_cons (peXat ox8 (peMakeXK ox8.toOX iC8 tI8 G8 hr k8 pass0 (by rfl) gC8 (pv 0))) (pa_cons (peXat ox8 (peMakeX ox8.toOX iC8 tI8 G8 hr b8 pass0 (by rfl) gC8 (pa_cons (pv 0) pa_nil))) (pa_cons pe_int pa_nil))))) pa_nil)))
      (pss_cons (ps_expr (pe_bm PySem.F.plainAttrs_list PySem.F.slot_list_append PySem.F.type_list_append mt_append (pv 1) (pa_cons (pe_tup (pa_cons (peMakeX ox9.toOX iC9 tI9 G9 hr b9 pass0 (by rfl) gC9 (pa_cons (pv 0) pa_nil)) (pa_cons (peXat ox9 (peMakeXK ox9.toOX iC9 tI9 G9 hr k9 pass0 (by rfl) gC9 (pv 0))) (pa_cons (peXat ox9 (peMakeX ox9.toOX iC9 tI9 G9 hr b9 pass0 (by rfl) gC9 (pa_cons (pv 0) pa_nil))) (pa_cons pe_int pa_nil))))) pa_nil)))
      (pss_cons (ps_expr (pe_bm PySem.F.plainAttrs_list PySem.F.slot_list_append PySem.F.type_list_append mt_append (pv 1) (pa_cons (pe_tup (pa_cons (peMakeX ox10.toOX iC10 tI10 G10 hr b10 pass0 (by rfl) gC10 (pa_cons (pv 0) pa_nil)) (pa_cons (peXat ox10 (peMakeXK ox10.toOX iC10 tI10 G10 hr k10 pass0 (by rfl) gC10 (pv 0))) (pa_cons (peXat ox10 (peMakeX ox10.toOX iC10 tI10 G10 hr b10 pass0 (by rfl) gC10 (pa_cons (pv 0) pa_nil))) (pa_cons pe_int pa_nil))))) pa_nil)))
      (pss_cons (ps_expr (pe_bm PySem.F.plainAttrs_list PySem.F.slot_list_append PySem.F.type_list_append mt_append (pv 1) (pa_cons (pe_tup (pa_cons (peMakeX ox11.toOX iC11 tI11 G11 hr b11 pass0 (by rfl) gC11 (pa_cons (pv 0) pa_nil)) (pa_cons (peXat ox11 (peMakeXK ox11.toOX iC11 tI11 G11 hr k11 pass0 (by rfl) gC11 (pv 0))) (pa_cons (peXat ox11 (peMakeX ox11.toOX iC11 tI11 G11 hr b11 pass0 (by rfl) gC11 (pa_cons (pv 0) pa_nil))) (pa_cons pe_int pa_nil))))) pa_nil)))
      (pss_cons (ps_expr (pe_bm PySem.F.plainAttrs_list PySem.F.slot_list_append PySem.F.type_list_append mt_append (pv 1) (pa_cons (pe_tup (pa_cons (peMakeX ox12.toOX iC12 tI12 G12 hr b12 pass0 (by rfl) gC12 (pa_cons (pv 0) pa_nil)) (pa_cons (peXat ox12 (peMakeXK ox12.toOX iC12 tI12 G12 hr k12 pass0 (by rfl) gC12 (pv 0))) (pa_cons (peXat ox12 (peMakeX ox12.toOX iC12 tI12 G12 hr b12 pass0 (by rfl) gC12 (pa_cons (pv 0) pa_nil))) (pa_cons pe_int pa_nil))))) pa_nil)))
      (pss_cons (ps_expr (pe_bm PySem.F.plainAttrs_list PySem.F.slot_list_append PySem.F.type_list_append mt_append (pv 1) (pa_cons (pe_tup (pa_cons (peMakeX ox13.toOX iC13 tI13 G13 hr b13 pass0 (by rfl) gC13 (pa_cons (pv 0) pa_nil)) (pa_cons (peXat ox13 (peMakeXK ox13.toOX iC13 tI13 G13 hr k13 pass0 (by rfl) gC13 (pv 0))) (pa_cons (peXat ox13 (peMakeX ox13.toOX iC13 tI13 G13 hr b13 pass0 (by rfl) gC13 (pa_cons (pv 0) pa_nil))) (pa_cons pe_int pa_nil))))) pa_nil)))
      (pss_cons (ps_expr (pe_bm PySem.F.plainAttrs_list PySem.F.slot_list_append PySem.F.type_list_append mt_append (pv 1) (pa_cons (pe_tup (pa_cons (peMakeX ox14.toOX iC14 tI14 G14 hr b14 pass0 (by rfl) gC14 (pa_cons (pv 0) pa_nil)) (pa_cons (peXat ox14 (peMakeXK ox14.toOX iC14 tI14 G14 hr k14 pass0 (by rfl) gC14 (pv 0))) (pa_cons (peXat ox14 (peMakeX ox14.toOX iC14 tI14 G14 hr b14 pass0 (by rfl) gC14 (pa_cons (pv 0) pa_nil))) (pa_cons pe_int pa_nil))))) pa_nil)))
      (pss_cons (ps_expr (pe_bm PySem.F.plainAttrs_list PySem.F.slot_list_append PySem.F.type_list_append mt_append (pv 1) (pa_cons (pe_tup (pa_cons (peMakeX ox15.toOX iC15 tI15 G15 hr b15 pass0 (by rfl) gC15 (pa_cons (pv 0) pa_nil)) (pa_cons (peXat ox15 (peMakeXK ox15.toOX iC15 tI15 G15 hr k15 pass0 (by rfl) gC15 (pv 0))) (pa_cons (peXat ox15 (peMakeX ox15.toOX iC15 tI15 G15 hr b15 pass0 (by rfl) gC15 (pa_cons (pv 0) pa_nil))) (pa_cons pe_int pa_nil))))) pa_nil)))
      (pss_cons (ps_expr (pe_bm PySem.F.plainAttrs_list PySem.F.slot_list_append PySem.F.type_list_append mt_append (pv 1) (pa_cons (pe_tup (pa_cons (peMakeX ox16.toOX iC16 tI16 G16 hr b16 pass0 (by rfl) gC16 (pa_cons (pv 0) pa_nil)) (pa_cons (peXat ox16 (peMakeXK ox16.toOX iC16 tI16 G16 hr k16 pass0 (by rfl) gC16 (pv 0))) (pa_cons (peXat ox16 (peMakeX ox16.toOX iC16 tI16 G16 hr b16 pass0 (by rfl) gC16 (pa_cons (pv 0) pa_nil))) (pa_cons pe_int pa_nil))))) pa_nil)))
      (pss_cons (ps_expr (pe_bm PySem.F.plainAttrs_list PySem.F.slot_list_append PySem.F.type_list_append mt_append (pv 1) (pa_cons (pe_tup (pa_cons (peMakeX ox17.toOX iC17 tI17 G17 hr b17 pass0 (by rfl) gC17 (pa_cons (pv 0) pa_nil)) (pa_cons (peXat ox17 (peMakeXK ox17.toOX iC17 tI17 G17 hr k17 pass0 (by rfl) gC17 (pv 0))) (pa_cons (peXat ox17 (peMakeX ox17.toOX iC17 tI17 G17 hr b17 pass0 (by rfl) gC17 (pa_cons (pv 0) pa_nil))) (pa_cons pe_int pa_nil))))) pa_nil)))
      (pss_one (ps_ret (pv 1)))))))))))))))))))), ?_⟩
    have first : ∀ {D : Ends}, (∀ σ' H' pf, MadeSt w H v d pf [(C0, 0)] σ' H' → D.nx σ' H') → (tAsg (tLst (tCons (tRow K w C0 "value" 0) tNil)) (gName 1)) D (start ["_law_thing", "_law_found"] [v]) H := by
      intro D qq
      refine c_asg (c_lst (c_cons (row_made rfl rp hN fun H1 T s1 rf => ⟨by show 1 ≤ sizeLine; decide, fun pf np => ?_⟩)))
      have s2 := same_upd (o := HO.lst [.ref T]) np
      refine qq _ _ pf ⟨rfl, s1.trans s2, s1.free np, [.ref T], upd_same, .cons ?_ .nil, by show 1 ≤ 900; decide⟩
      have r2 : RowF w H1 d (fun a => H a = none ∧ a ≠ pf) (C0, 0) (.ref T) := rf.weak fun a na nz => ⟨na, fun z => nz (by rw [z]; exact np)⟩
      exact r2.keep (fun a na => upd_ne na.2) fun a xs z => s2 _ _ z
    refine first fun σ1 H1 pf M1 => ?_
    refine made_step rp hN M1 (Nat.le_of_ble_eq_true rfl) fun σ2 H2 M2 => ?_
    refine made_step rp hN M2 (Nat.le_of_ble_eq_true rfl) fun σ3 H3 M3 => ?_
    refine made_step rp hN M3 (Nat.le_of_ble_eq_true rfl) fun σ4 H4 M4 => ?_
    refine made_step rp hN M4 (Nat.le_of_ble_eq_true rfl) fun σ5 H5 M5 => ?_
    refine made_step rp hN M5 (Nat.le_of_ble_eq_true rfl) fun σ6 H6 M6 => ?_
    refine made_step rp hN M6 (Nat.le_of_ble_eq_true rfl) fun σ7 H7 M7 => ?_
    refine made_step rp hN M7 (Nat.le_of_ble_eq_true rfl) fun σ8 H8 M8 => ?_
    refine made_step rp hN M8 (Nat.le_of_ble_eq_true rfl) fun σ9 H9 M9 => ?_
    refine made_step rp hN M9 (Nat.le_of_ble_eq_true rfl) fun σ10 H10 M10 => ?_
    refine made_step rp hN M10 (Nat.le_of_ble_eq_true rfl) fun σ11 H11 M11 => ?_
    refine made_step rp hN M11 (Nat.le_of_ble_eq_true rfl) fun σ12 H12 M12 => ?_
    refine made_step rp hN M12 (Nat.le_of_ble_eq_true rfl) fun σ13 H13 M13 => ?_
    refine made_step rp hN M13 (Nat.le_of_ble_eq_true rfl) fun σ14 H14 M14 => ?_
    refine made_step rp hN M14 (Nat.le_of_ble_eq_true rfl) fun σ15 H15 M15 => ?_
    refine made_step rp hN M15 (Nat.le_of_ble_eq_true rfl) fun σ16 H16 M16 => ?_
    refine made_step rp hN M16 (Nat.le_of_ble_eq_true rfl) fun σ17 H17 M17 => ?_
    refine made_step rp hN M17 (Nat.le_of_ble_eq_true rfl) fun σ18 H18 M18 => ?_
    obtain ⟨rfl, sG, npf, rows, ep, pr, _⟩ := M18
    exact ⟨.ref pf, rfl, q _ pf rows sG npf ep pr⟩
end
end KF
end L2
/-! ### KN -/
namespace L2
namespace KF
open PySem PySem.Spec PyProof.Rows PySem.KD KE KC PySem.KA
/-! ## _law_kinds, _law_own -/
abbrev sKinds : Stmt := topS 37
abbrev sOwn : Stmt := topS 38
abbrev kiN : List Str := ["_law_error", "_law_some", "_law_k"]
abbrev owN : List Str := ["_law_error", "_law_some", "_law_told"]
theorem scKinds : FnScope kiN ["_law_error"] (defScope sKinds) := ⟨rfl, rfl, rfl, by decide +kernel, rfl, by decide +kernel, by decide +kernel⟩
theorem scOwn : FnScope owN ["_law_error"] (defScope sOwn) := ⟨rfl, rfl, rfl, by decide +kernel, rfl, by decide +kernel, by decide +kernel⟩
/-- an error at x, of the class at C -/
def ErrAt (H : Hp) (x C : Addr) : Prop := ∃ d, H x = some (exo x C d) ∧ ∀ dx, d = some dx → ∃ fs, H dx = some (exd dx fs)
theorem ErrAt.same {H H' : Hp} {x C : Addr} (e : ErrAt H x C) (s : Same H H') : ErrAt H' x C := by
  obtain ⟨d, e1, e2⟩ := e
  refine ⟨d, s _ _ e1, fun dx ed => ?_⟩
  obtain ⟨fs, e3⟩ := e2 dx ed
  exact ⟨fs, s _ _ e3⟩
/-- isinstance(error, c) at v -/
theorem is_err {K : PySem.W.Frag} {H : Hp} {x C : Addr} {c : V} {cv : Value} {b : Bool} {Q : VK} (e : ErrAt H x C) (xc : ExcC K C) (hc : ∀ u, RelV c u → u = cv) (k : PySem.W.kitOne K (.ref C) cv = some b) (q : Q (.bl b) H) : rIsX K [.ref x, c] H Q := by
  obtain ⟨d, e1, e2⟩ := e
  exact ⟨x, C, d, c, cv, b, rfl, e1, e2, xc, hc, k, q⟩
theorem rel_ty (n : String) : ∀ u, RelV (.ty n) u → u = Value.type n := fun _ h => h
theorem rel_ref (a : Addr) : ∀ u, RelV (.ref a) u → u = Value.ref a := fun _ h => h
def kindTys : List String := ["ValueError", "KeyError", "IndexError", "OverflowError", "RuntimeError"]
def ticks (bs : List Bool) (n : Nat) : List V := ((List.range n).filter fun j => bs.getD j false).map fun j => V.int (j : Nat)
theorem ticks_next (bs : List Bool) (n : Nat) : ticks bs (n + 1) = if bs.getD n false = true then ticks bs n ++ [V.int (n : Nat)] else ticks bs n := by
  unfold ticks
  have e : List.filter (fun j => bs.getD j false) [n] = if bs.getD n false = true then [n] else [] := by
    rw [List.filter_cons, List.filter_nil]
  rw [List.range_succ, List.filter_append, e]
  split
  · rw [List.map_append]
    rfl
  · rw [List.append_nil]
theorem ticks_len (bs : List Bool) (n : Nat) : (ticks bs n).length ≤ n := by
  unfold ticks
  rw [List.length_map]
  exact Nat.le_trans (List.length_filter_le _ _) (by simp)
structure BltK (mg : Str → Option Value) : Prop where
  isi : mg "isinstance" = none
  range : mg "range" = none
  len : mg "len" = none
  v : mg "ValueError" = none
  k : mg "KeyError" = none
  i : mg "IndexError" = none
  o : mg "OverflowError" = none
  r : mg "RuntimeError" = none
section
variable {P : Program} {w : World} {K : PySem.W.Frag} {mg : Str → Option Value} {base : Heap}
def spKinds (K : PySem.W.Frag) : Sp := fun vs H Q _ => ∃ x C b0 b1 b2 b3 b4, vs = [.ref x] ∧ ErrAt H x C ∧ ExcC K C ∧ PySem.W.kitOne K (.ref C) (.type "ValueError") = some b0 ∧ PySem.W.kitOne K (.ref C) (.type "KeyError") = some b1 ∧ PySem.W.kitOne K (.ref C) (.type "IndexError") = some b2 ∧
  PySem.W.kitOne K (.ref C) (.type "OverflowError") = some b3 ∧ PySem.W.kitOne K (.ref C) (.type "RuntimeError") = some b4 ∧ ∀ H' p, Same H H' → H' p = some (.lst (ticks [b0, b1, b2, b3, b4] 5)) → Q (.ref p) H'
theorem ok_kinds {f : Addr} {fd : FuncData} {k : Nat} (F : Fun K "_law_kinds" "_law_kinds" sKinds f fd) (B : BltK mg) : FnOk P w K mg base CX0 (k + 1) f fd ["_law_error"] (spKinds K) := by
  refine F.ok scKinds (fun vs H Q E h => ?_) (fun cdv A outer s H vs Q E hr h => ?_)
  · obtain ⟨x, C, b0, b1, b2, b3, b4, rfl, _⟩ := h
    rfl
  · obtain ⟨x, C, b0, b1, b2, b3, b4, rfl, ea, xc, k0, k1, k2, k3, k4, q⟩ := h
    refine ⟨_, pss_cons (ps_set (i := 1) scKinds.nd rfl (.inr rfl) (pe_lst (pa_cons (pe_callB callIsX (by rfl) B.isi boot_isinstance (pa_cons (pv 0) (pa_cons (pe_bltn (v := .ty "ValueError") (by rfl) B.v (by decide +kernel) rfl) pa_nil)))
        (pa_cons (pe_callB callIsX (by rfl) B.isi boot_isinstance (pa_cons (pv 0) (pa_cons (pe_bltn (v := .ty "KeyError") (by rfl) B.k (by decide +kernel) rfl) pa_nil)))
        (pa_cons (pe_callB callIsX (by rfl) B.isi boot_isinstance (pa_cons (pv 0) (pa_cons (pe_bltn (v := .ty "IndexError") (by rfl) B.i (by decide +kernel) rfl) pa_nil))) pa_nil)))))
      (pss_cons (ps_set (i := 1) scKinds.nd rfl (.inr rfl) (pe_op op_cat (pv 1) (pe_lst (pa_cons (pe_callB callIsX (by rfl) B.isi boot_isinstance (pa_cons (pv 0) (pa_cons (pe_bltn (v := .ty "OverflowError") (by rfl) B.o (by decide +kernel) rfl) pa_nil)))
        (pa_cons (pe_callB callIsX (by rfl) B.isi boot_isinstance (pa_cons (pv 0) (pa_cons (pe_bltn (v := .ty "RuntimeError") (by rfl) B.r (by decide +kernel) rfl) pa_nil))) pa_nil)))))
      (pss_one (ps_ret (pe_lc (own := [("_law_k", 2)]) (g := gName 2) (tt := tB (tOp (rIxL K) (tVar 1) (tVar 2))) rfl scKinds.nd (pi_range1 (by rfl) B.range (pa_cons (pe_callB call_len_seq (by rfl) B.len PySem.boot_len (pa_cons (pv 1) pa_nil)) pa_nil))
        (blkOk_by (N := kiN) (sc := defScope sKinds) (by decide +kernel)) (fun _ _ _ _ _ => pg_name (i := 2) scKinds.nd rfl (Or.inl rfl)) (fun _ _ _ _ _ => pts_one (pt_val (pe_ix ix_list (pv 1) (pv 2) (fun _ _ => rfl)))) (fun _ _ _ _ _ => pv 2))))), ?_⟩
    obtain ⟨dd, e1, e2⟩ := ea
    refine ⟨.ref x, rfl, x, C, dd, _, _, b0, rfl, e1, e2, xc, rel_ty _, k0, .ref x, rfl, x, C, dd, _, _, b1, rfl, e1, e2, xc, rel_ty _, k1, .ref x, rfl, x, C, dd, _, _, b2, rfl, e1, e2, xc, rel_ty _, k2, by show 3 ≤ sizeLine; decide, fun l1 n1 => ?_⟩
    have s1 := same_upd (o := HO.lst [.bl b0, .bl b1, .bl b2]) n1
    have f1 := s1 _ _ e1
    have f2 : ∀ dx, dd = some dx → ∃ fs, (upd H l1 (.lst [.bl b0, .bl b1, .bl b2])) dx = some (exd dx fs) := fun dx ed => let ⟨fs, e3⟩ := e2 dx ed; ⟨fs, s1 _ _ e3⟩
    refine ⟨.ref l1, rfl, .ref x, rfl, x, C, dd, _, _, b3, rfl, f1, f2, xc, rel_ty _, k3, .ref x, rfl, x, C, dd, _, _, b4, rfl, f1, f2, xc, rel_ty _, k4, by show 2 ≤ sizeLine; decide, fun l2 n2 => ?_⟩
    have s2 := same_upd (o := HO.lst [.bl b3, .bl b4]) n2
    refine ⟨l1, l2, _, _, rfl, rfl, s2 _ _ upd_same, upd_same, by show 5 ≤ sizeLine; decide, fun l3 n3 => ?_⟩
    have s3 := same_upd (o := HO.lst ([.bl b0, .bl b1, .bl b2] ++ [.bl b3, .bl b4])) n3
    refine ⟨.ref l3, rfl, l3, _, rfl, .inl (.inl (.inl upd_same)), 5, rfl, by decide, by decide, fun D nD => ?_⟩
    have hl3 : ∀ H4, SameBut D (upd (upd (upd H l1 (.lst [.bl b0, .bl b1, .bl b2])) l2 (.lst [.bl b3, .bl b4])) l3 (.lst ([.bl b0, .bl b1, .bl b2] ++ [.bl b3, .bl b4]))) H4 → H4 l3 = some (.lst [.bl b0, .bl b1, .bl b2, .bl b3, .bl b4]) := fun H4 h4 => h4 l3 _ (fun z => by
      rw [← z, upd_same] at nD
      cases nD) upd_same
    refine lc_it (walk_range (lo := 0) (n := 5)) (fun i H4 => SameBut D (upd (upd (upd H l1 (.lst [.bl b0, .bl b1, .bl b2])) l2 (.lst [.bl b3, .bl b4])) l3 (.lst ([.bl b0, .bl b1, .bl b2] ++ [.bl b3, .bl b4]))) H4 ∧ H4 D = some (.lst (ticks [b0, b1, b2, b3, b4] i)))
      ⟨fun b o nb z => by rw [upd_ne nb]; exact z, upd_same⟩ (fun _ _ _ _ => trivial) (fun i y H4 H5 hi hp hy => ?_) (fun H4 hp => ?_)
    · obtain ⟨rfl, ey⟩ := hy
      have ey2 : y = .int ((i : Nat) : Int) := ey.trans (congrArg V.int (Int.zero_add _))
      subst ey2
      obtain ⟨sb, eD⟩ := hp
      have gb : ([V.bl b0, .bl b1, .bl b2, .bl b3, .bl b4])[i]? = some (.bl ([b0, b1, b2, b3, b4].getD i false)) := by
        match i, hi with
        | 0, _ => rfl
        | 1, _ => rfl
        | 2, _ => rfl
        | 3, _ => rfl
        | 4, _ => rfl
      refine ⟨rfl, .ref l3, rfl, .int (i : Nat), rfl, l3, _, _, _, rfl, rfl, .inl (.inl (hl3 _ sb)), atN gb, _, rfl, ?_⟩
      have tn := ticks_next [b0, b1, b2, b3, b4] i
      cases hb : [b0, b1, b2, b3, b4].getD i false with
      | true =>
        rw [hb] at tn
        refine iteT ⟨.int (i : Nat), rfl, _, eD, Nat.lt_of_le_of_lt (ticks_len _ _) (small1000 (by omega)), fun b o nb z => ?_, ?_⟩
        · rw [upd_ne nb]
          exact sb b o nb z
        · rw [upd_same, tn]
          rfl
      | false =>
        rw [hb] at tn
        refine iteF ⟨sb, ?_⟩
        rw [tn]
        exact eD
    · obtain ⟨sb, eD⟩ := hp
      refine q H4 D (fun b o z => ?_) eD
      have z3 := s3 _ _ (s2 _ _ (s1 _ _ z))
      exact sb b o (ne_of_none z3 nD) z3
def hits (bs : List Bool) : List V := (bs.filter id).map V.bl
theorem hits_next {bs : List Bool} {i : Nat} {b : Bool} (h : bs[i]? = some b) : hits (bs.take (i + 1)) = if b = true then hits (bs.take i) ++ [V.bl b] else hits (bs.take i) := by
  unfold hits
  have e : List.filter id [b] = if b = true then [b] else [] := by
    rw [List.filter_cons, List.filter_nil]
    rfl
  rw [List.take_add_one, h, List.filter_append]
  show ((bs.take i).filter id ++ List.filter id [b]).map V.bl = _
  rw [e]
  split
  · rw [List.map_append]
    rfl
  · rw [List.append_nil]
theorem hits_len (bs : List Bool) : (hits bs).length ≤ bs.length := by
  unfold hits
  rw [List.length_map]
  exact List.length_filter_le _ _
/-- the own classes, in the order of the law -/
structure OwnB (K : PySem.W.Frag) (C : Addr) (Cs : List Addr) (bs : List Bool) : Prop where
  len : bs.length = Cs.length
  at_ : ∀ (j : Nat) (D : Addr) (b : Bool), Cs[j]? = some D → bs[j]? = some b → PySem.W.kitOne K (.ref C) (.ref D) = some b
def spOwn (K : PySem.W.Frag) (Cs : List Addr) : Sp := fun vs H Q _ => ∃ x C bs, vs = [.ref x] ∧ ErrAt H x C ∧ ExcC K C ∧ OwnB K C Cs bs ∧ ∀ H', Same H H' → Q (.int (hits bs).length) H'
theorem ok_own {f : Addr} {fd : FuncData} {k : Nat} {C0 C1 C2 C3 C4 C5 C6 C7 C8 C9 C10 C11 C12 C13 C14 C15 C16 C17 C18 : Addr} (F : Fun K "_law_own" "_law_own" sOwn f fd) (isi : mg "isinstance" = none) (len : mg "len" = none)
    (g0 : mg "InvalidFunctions" = some (.ref C0)) (g1 : mg "InvalidFunction" = some (.ref C1)) (g2 : mg "InvalidNames" = some (.ref C2)) (g3 : mg "InvalidStatement" = some (.ref C3)) (g4 : mg "InvalidChoice" = some (.ref C4)) (g5 : mg "InvalidPlaces" = some (.ref C5)) (g6 : mg "InvalidPaper" = some (.ref C6)) (g7 : mg "InvalidPrices" = some (.ref C7)) (g8 : mg "InvalidProfile" = some (.ref C8)) (g9 : mg "InvalidText" = some (.ref C9)) (g10 : mg "InvalidStates" = some (.ref C10)) (g11 : mg "NotClosed" = some (.ref C11)) (g12 : mg "Faulty" = some (.ref C12)) (g13 : mg "UnknownFunction" = some (.ref C13)) (g14 : mg "UnknownSpot" = some (.ref C14)) (g15 : mg "UnknownName" = some (.ref C15)) (g16 : mg "OutOfRange" = some (.ref C16)) (g17 : mg "TooMany" = some (.ref C17)) (g18 : mg "InTrial" = some (.ref C18)) : FnOk P w K mg base CX0 (k + 1) f fd ["_law_error"] (spOwn K [C0, C1, C2, C3, C4, C5, C6, C7, C8, C9, C10, C11, C12, C13, C14, C15, C16, C17, C18]) := by
  refine F.ok scOwn (fun vs H Q E h => ?_) (fun cdv A outer s H vs Q E hr h => ?_)
  · obtain ⟨x, C, bs, rfl, _⟩ := h
    rfl
  · obtain ⟨x, C, bs, rfl, ea, xc, ob, q⟩ := h
    obtain ⟨bl, hk⟩ := ob
    match bs, bl with
    | [b0, b1, b2, b3, b4, b5, b6, b7, b8, b9, b10, b11, b12, b13, b14, b15, b16, b17, b18], _ =>
    obtain ⟨dd, e1, e2⟩ := ea
    have e3 : ∀ {H' : Hp}, Same H H' → ∀ dx, dd = some dx → ∃ fs, H' dx = some (exd dx fs) := fun s dx ed => let ⟨fs, z⟩ := e2 dx ed; ⟨fs, s _ _ z⟩
    have k0 := hk 0 _ _ rfl rfl
    have k1 := hk 1 _ _ rfl rfl
    have k2 := hk 2 _ _ rfl rfl
    have k3 := hk 3 _ _ rfl rfl
    have k4 := hk 4 _ _ rfl rfl
    have k5 := hk 5 _ _ rfl rfl
    have k6 := hk 6 _ _ rfl rfl
    have k7 := hk 7 _ _ rfl rfl
    have k8 := hk 8 _ _ rfl rfl
    have k9 := hk 9 _ _ rfl rfl
    have k10 := hk 10 _ _ rfl rfl
    have k11 := hk 11 _ _ rfl rfl
    have k12 := hk 12 _ _ rfl rfl
    have k13 := hk 13 _ _ rfl rfl
    have k14 := hk 14 _ _ rfl rfl
    have k15 := hk 15 _ _ rfl rfl
    have k16 := hk 16 _ _ rfl rfl
    have k17 := hk 17 _ _ rfl rfl
    have k18 := hk 18 _ _ rfl rfl
    refine ⟨_, pss_cons (ps_set (i := 1) scOwn.nd rfl (.inl rfl) (pe_lst (pa_cons (pe_callB callIsX (by rfl) isi boot_isinstance (pa_cons (pv 0) (pa_cons (pe_glob (v := .ref C0) (by rfl) g0 rfl) pa_nil))) (pa_cons (pe_callB callIsX (by rfl) isi boot_isinstance (pa_cons (pv 0) (pa_cons (pe_glob (v := .ref C1) (by rfl) g1 rfl) pa_nil))) (pa_cons (pe_callB callIsX (by rfl) isi boot_isinstance (pa_cons (pv 0) (pa_cons (pe_glob (v := .ref C2) (by rfl) g2 rfl) pa_nil))) pa_nil)))))
      (pss_cons (ps_set (i := 1) scOwn.nd rfl (.inl rfl) (pe_op op_cat (pv 1) (pe_lst (pa_cons (pe_callB callIsX (by rfl) isi boot_isinstance (pa_cons (pv 0) (pa_cons (pe_glob (v := .ref C3) (by rfl) g3 rfl) pa_nil))) (pa_cons (pe_callB callIsX (by rfl) isi boot_isinstance (pa_cons (pv 0) (pa_cons (pe_glob (v := .ref C4) (by rfl) g4 rfl) pa_nil))) pa_nil)))))
      (pss_cons (ps_set (i := 1) scOwn.nd rfl (.inl rfl) (pe_op op_cat (pv 1) (pe_lst (pa_cons (pe_callB callIsX (by rfl) isi boot_isinstance (pa_cons (pv 0) (pa_cons (pe_glob (v := .ref C5) (by rfl) g5 rfl) pa_nil))) (pa_cons (pe_callB callIsX (by rfl) isi boot_isinstance (pa_cons (pv 0) (pa_cons (pe_glob (v := .ref C6) (by rfl) g6 rfl) pa_nil))) (pa_cons (pe_callB callIsX (by rfl) isi boot_isinstance (pa_cons (pv 0) (pa_cons (pe_glob (v := .ref C7) (by rfl) g7 rfl) pa_nil))) pa_nil))))))
      (pss_cons (ps_set (i := 1) scOwn.nd rfl (.inl rfl) (pe_op op_cat (pv 1) (pe_lst (pa_cons (pe_callB callIsX (by rfl) isi boot_isinstance (pa_cons (pv 0) (pa_cons (pe_glob (v := .ref C8) (by rfl) g8 rfl) pa_nil))) (pa_cons (pe_callB callIsX (by rfl) isi boot_isinstance (pa_cons (pv 0) (pa_cons (pe_glob (v := .ref C9) (by rfl) g9 rfl) pa_nil))) (pa_cons (pe_callB callIsX (by rfl) isi boot_isinstance (pa_cons (pv 0) (pa_cons (pe_glob (v := .ref C10) (by rfl) g10 rfl) pa_nil))) pa_nil))))))
      (pss_cons (ps_set (i := 1) scOwn.nd rfl (.inl rfl) (pe_op op_cat (pv 1) (pe_lst (pa_cons (pe_callB callIsX (by rfl) isi boot_isinstance (pa_cons (pv 0) (pa_cons (pe_glob (v := .ref C11) (by rfl) g11 rfl) pa_nil))) pa_nil))))
      (pss_cons (ps_set (i := 1) scOwn.nd rfl (.inl rfl) (pe_op op_cat (pv 1) (pe_lst (pa_cons (pe_callB callIsX (by rfl) isi boot_isinstance (pa_cons (pv 0) (pa_cons (pe_glob (v := .ref C12) (by rfl) g12 rfl) pa_nil))) (pa_cons (pe_callB callIsX (by rfl) isi boot_isinstance (pa_cons (pv 0) (pa_cons (pe_glob (v := .ref C13) (by rfl) g13 rfl) pa_nil))) (pa_cons (pe_callB callIsX (by rfl) isi boot_isinstance (pa_cons (pv 0) (pa_cons (pe_glob (v := .ref C14) (by rfl) g14 rfl) pa_nil))) pa_nil))))))
      (pss_cons (ps_set (i := 1) scOwn.nd rfl (.inl rfl) (pe_op op_cat (pv 1) (pe_lst (pa_cons (pe_callB callIsX (by rfl) isi boot_isinstance (pa_cons (pv 0) (pa_cons (pe_glob (v := .ref C15) (by rfl) g15 rfl) pa_nil))) (pa_cons (pe_callB callIsX (by rfl) isi boot_isinstance (pa_cons (pv 0) (pa_cons (pe_glob (v := .ref C16) (by rfl) g16 rfl) pa_nil))) (pa_cons (pe_callB callIsX (by rfl) isi boot_isinstance (pa_cons (pv 0) (pa_cons (pe_glob (v := .ref C17) (by rfl) g17 rfl) pa_nil))) pa_nil))))))
      (pss_one (ps_ret (pe_callB call_len_seq (by rfl) len PySem.boot_len (pa_cons (pe_lc (own := [("_law_told", 2)]) (g := gName 2) (tt := tB (tVar 2)) rfl scOwn.nd (pi_list (pe_op op_cat (pv 1) (pe_lst (pa_cons (pe_callB callIsX (by rfl) isi boot_isinstance (pa_cons (pv 0) (pa_cons (pe_glob (v := .ref C18) (by rfl) g18 rfl) pa_nil))) pa_nil))))
        (blkOk_by (N := owN) (sc := defScope sOwn) (by decide +kernel)) (fun _ _ _ _ _ => pg_name (i := 2) scOwn.nd rfl (Or.inl rfl)) (fun _ _ _ _ _ => pts_one (pt_val (pv 2))) (fun _ _ _ _ _ => pv 2)) pa_nil)))))))))), ?_⟩
    have s0 : Same H H := Same.refl H
    refine ⟨.ref x, rfl, x, C, dd, _, _, b0, rfl, s0 _ _ e1, e3 s0, xc, rel_ref _, k0, .ref x, rfl, x, C, dd, _, _, b1, rfl, s0 _ _ e1, e3 s0, xc, rel_ref _, k1, .ref x, rfl, x, C, dd, _, _, b2, rfl, s0 _ _ e1, e3 s0, xc, rel_ref _, k2, by show 3 ≤ sizeLine; decide, fun a0 n0 => ?_⟩
    have s1 := s0.trans (same_upd (o := HO.lst [.bl b0, .bl b1, .bl b2]) n0)
    refine ⟨.ref a0, rfl, .ref x, rfl, x, C, dd, _, _, b3, rfl, s1 _ _ e1, e3 s1, xc, rel_ref _, k3, .ref x, rfl, x, C, dd, _, _, b4, rfl, s1 _ _ e1, e3 s1, xc, rel_ref _, k4, by show 2 ≤ sizeLine; decide, fun p0 m0 => ?_⟩
    have u0 := same_upd (o := HO.lst [.bl b3, .bl b4]) m0
    refine ⟨a0, p0, _, _, rfl, rfl, u0 _ _ upd_same, upd_same, by show 5 ≤ sizeLine; decide, fun c0 w0 => ?_⟩
    have s2 := (s1.trans u0).trans (same_upd (o := HO.lst [.bl b0, .bl b1, .bl b2, .bl b3, .bl b4]) w0)
    refine ⟨.ref c0, rfl, .ref x, rfl, x, C, dd, _, _, b5, rfl, s2 _ _ e1, e3 s2, xc, rel_ref _, k5, .ref x, rfl, x, C, dd, _, _, b6, rfl, s2 _ _ e1, e3 s2, xc, rel_ref _, k6, .ref x, rfl, x, C, dd, _, _, b7, rfl, s2 _ _ e1, e3 s2, xc, rel_ref _, k7, by show 3 ≤ sizeLine; decide, fun p1 m1 => ?_⟩
    have u1 := same_upd (o := HO.lst [.bl b5, .bl b6, .bl b7]) m1
    refine ⟨c0, p1, _, _, rfl, rfl, u1 _ _ upd_same, upd_same, by show 8 ≤ sizeLine; decide, fun c1 w1 => ?_⟩
    have s3 := (s2.trans u1).trans (same_upd (o := HO.lst [.bl b0, .bl b1, .bl b2, .bl b3, .bl b4, .bl b5, .bl b6, .bl b7]) w1)
    refine ⟨.ref c1, rfl, .ref x, rfl, x, C, dd, _, _, b8, rfl, s3 _ _ e1, e3 s3, xc, rel_ref _, k8, .ref x, rfl, x, C, dd, _, _, b9, rfl, s3 _ _ e1, e3 s3, xc, rel_ref _, k9, .ref x, rfl, x, C, dd, _, _, b10, rfl, s3 _ _ e1, e3 s3, xc, rel_ref _, k10, by show 3 ≤ sizeLine; decide, fun p2 m2 => ?_⟩
    have u2 := same_upd (o := HO.lst [.bl b8, .bl b9, .bl b10]) m2
    refine ⟨c1, p2, _, _, rfl, rfl, u2 _ _ upd_same, upd_same, by show 11 ≤ sizeLine; decide, fun c2 w2 => ?_⟩
    have s4 := (s3.trans u2).trans (same_upd (o := HO.lst [.bl b0, .bl b1, .bl b2, .bl b3, .bl b4, .bl b5, .bl b6, .bl b7, .bl b8, .bl b9, .bl b10]) w2)
    refine ⟨.ref c2, rfl, .ref x, rfl, x, C, dd, _, _, b11, rfl, s4 _ _ e1, e3 s4, xc, rel_ref _, k11, by show 1 ≤ sizeLine; decide, fun p3 m3 => ?_⟩
    have u3 := same_upd (o := HO.lst [.bl b11]) m3
    refine ⟨c2, p3, _, _, rfl, rfl, u3 _ _ upd_same, upd_same, by show 12 ≤ sizeLine; decide, fun c3 w3 => ?_⟩
    have s5 := (s4.trans u3).trans (same_upd (o := HO.lst [.bl b0, .bl b1, .bl b2, .bl b3, .bl b4, .bl b5, .bl b6, .bl b7, .bl b8, .bl b9, .bl b10, .bl b11]) w3)
    refine ⟨.ref c3, rfl, .ref x, rfl, x, C, dd, _, _, b12, rfl, s5 _ _ e1, e3 s5, xc, rel_ref _, k12, .ref x, rfl, x, C, dd, _, _, b13, rfl, s5 _ _ e1, e3 s5, xc, rel_ref _, k13, .ref x, rfl, x, C, dd, _, _, b14, rfl, s5 _ _ e1, e3 s5, xc, rel_ref _, k14, by show 3 ≤ sizeLine; decide, fun p4 m4 => ?_⟩
    have u4 := same_upd (o := HO.lst [.bl b12, .bl b13, .bl b14]) m4
    refine ⟨c3, p4, _, _, rfl, rfl, u4 _ _ upd_same, upd_same, by show 15 ≤ sizeLine; decide, fun c4 w4 => ?_⟩
    have s6 := (s5.trans u4).trans (same_upd (o := HO.lst [.bl b0, .bl b1, .bl b2, .bl b3, .bl b4, .bl b5, .bl b6, .bl b7, .bl b8, .bl b9, .bl b10, .bl b11, .bl b12, .bl b13, .bl b14]) w4)
    refine ⟨.ref c4, rfl, .ref x, rfl, x, C, dd, _, _, b15, rfl, s6 _ _ e1, e3 s6, xc, rel_ref _, k15, .ref x, rfl, x, C, dd, _, _, b16, rfl, s6 _ _ e1, e3 s6, xc, rel_ref _, k16, .ref x, rfl, x, C, dd, _, _, b17, rfl, s6 _ _ e1, e3 s6, xc, rel_ref _, k17, by show 3 ≤ sizeLine; decide, fun p5 m5 => ?_⟩
    have u5 := same_upd (o := HO.lst [.bl b15, .bl b16, .bl b17]) m5
    refine ⟨c4, p5, _, _, rfl, rfl, u5 _ _ upd_same, upd_same, by show 18 ≤ sizeLine; decide, fun c5 w5 => ?_⟩
    have s7 := (s6.trans u5).trans (same_upd (o := HO.lst [.bl b0, .bl b1, .bl b2, .bl b3, .bl b4, .bl b5, .bl b6, .bl b7, .bl b8, .bl b9, .bl b10, .bl b11, .bl b12, .bl b13, .bl b14, .bl b15, .bl b16, .bl b17]) w5)
    refine ⟨.ref c5, rfl, .ref x, rfl, x, C, dd, _, _, b18, rfl, s7 _ _ e1, e3 s7, xc, rel_ref _, k18, by show 1 ≤ sizeLine; decide, fun p6 m6 => ?_⟩
    have u6 := same_upd (o := HO.lst [.bl b18]) m6
    refine ⟨c5, p6, _, _, rfl, rfl, u6 _ _ upd_same, upd_same, by show 19 ≤ sizeLine; decide, fun c6 w6 => ?_⟩
    have s8 := (s7.trans u6).trans (same_upd (o := HO.lst [.bl b0, .bl b1, .bl b2, .bl b3, .bl b4, .bl b5, .bl b6, .bl b7, .bl b8, .bl b9, .bl b10, .bl b11, .bl b12, .bl b13, .bl b14, .bl b15, .bl b16, .bl b17, .bl b18]) w6)
    refine ⟨c6, rfl, ⟨_, .inl (.inl upd_same)⟩, fun D nD => ?_⟩
    generalize hG : upd _ c6 _ = G at nD ⊢
    have sG : Same H G := by
      rw [← hG]
      exact s8
    have eG : G c6 = some (.lst ([b0, b1, b2, b3, b4, b5, b6, b7, b8, b9, b10, b11, b12, b13, b14, b15, b16, b17, b18].map V.bl)) := by
      rw [← hG]
      exact upd_same
    refine lc_it (walk_list (K := K) (a := c6) (xs := [b0, b1, b2, b3, b4, b5, b6, b7, b8, b9, b10, b11, b12, b13, b14, b15, b16, b17, b18].map V.bl)) (fun i H4 => SameBut D G H4 ∧ H4 D = some (.lst (hits ([b0, b1, b2, b3, b4, b5, b6, b7, b8, b9, b10, b11, b12, b13, b14, b15, b16, b17, b18].take i))))
      ⟨fun b o nb z => by rw [upd_ne nb]; exact z, upd_same⟩ (fun i H4 _ hp => .inl (.inl (hp.1 _ _ (fun z => ?_) eG))) (fun i y H4 H5 hi hp hy => ?_) (fun H4 hp => ?_)
    · rw [← z, eG] at nD
      cases nD
    · obtain ⟨rfl, ey⟩ := hy
      obtain ⟨sb, eD⟩ := hp
      rw [List.getElem?_map] at ey
      obtain ⟨b, gb, rfl⟩ := Option.map_eq_some_iff.mp ey
      have tn := hits_next gb
      refine ⟨rfl, .bl b, rfl, b, rfl, ?_⟩
      cases b with
      | true =>
        refine iteT ⟨.bl true, rfl, _, eD, Nat.lt_of_le_of_lt (hits_len _) ?_, fun c o nb z => ?_, ?_⟩
        · rw [List.length_take]
          exact small1000 (Nat.le_trans (Nat.min_le_right _ _) (by show 19 ≤ 1000; decide))
        · rw [upd_ne nb]
          exact sb c o nb z
        · rw [upd_same, tn]
          rfl
      | false =>
        refine iteF ⟨sb, ?_⟩
        rw [tn]
        exact eD
    · obtain ⟨sb, eD⟩ := hp
      refine ⟨D, _, rfl, .inl (.inl (.inl eD)), ?_⟩
      exact q H4 fun b o z => sb b o (ne_of_none (sG _ _ z) nD) (sG _ _ z)
end
end KF
end L2
/-! ### KO -/
namespace L2
namespace KF
open PySem PySem.Spec PyProof.Rows PySem.KD KE KC PySem.KA
/-! ## _law_spoil -/
/-- what a value is, its items apart -/
inductive Shape (w : World) (H : Hp) : V → PyData → Prop
  | none : Shape w H .non .none
  | bool (b : Bool) : Shape w H (.bl b) (.bool b)
  | int (i : Int) : Shape w H (.int i) (.int i)
  | str (x : Str) : Shape w H (.str x) (.str x)
  | lst {a : Addr} {vs : List V} {ds : List PyData} : H a = some (.lst vs) → Shape w H (.ref a) (.list ds)
  | tup {a : Addr} {vs : List V} {ds : List PyData} : H a = some (.tup vs) → Shape w H (.ref a) (.tuple ds)
  | dct {a : Addr} {es : List MRow} {kvs : List (PyData × PyData)} : H a = some (mdo w a es) → Shape w H (.ref a) (.dict kvs)
section
variable {X : Cx} {pins : List (Addr × Obj)} {σ : St} {H : Hp} {s : Shared}
theorem kitS {v : V} {d : PyData} {u : Value} (I : Inv X pins σ H s) (r : Shape X.w H v d) (ru : RelV v u) : ∃ P : Heap → Prop, PySem.W.KitX X.K u (.type (tyD d)) P ∧ P s.heap ∧ u ≠ .builtin "__main__.__loader__#opaque" := by
  cases r with
  | none => exact kitR I .none ru
  | bool y => exact kitR I (.bool y) ru
  | int i => exact kitR I (.int i) ru
  | str y => exact kitR I (.str y) ru
  | @lst a vs ds e =>
    obtain rfl : u = Value.ref a := ru
    have ho := (show ObjOk X.prog X.w H s.heap a (.lst vs) from I.hok a _ e).2
    obtain ⟨its, n, _, h1⟩ := ho
    exact ⟨_, PySem.W.kitx_list, ⟨_, h1, rfl⟩, fun z => nomatch z⟩
  | @tup a vs ds e =>
    obtain rfl : u = Value.ref a := ru
    have ho := (show ObjOk X.prog X.w H s.heap a (.tup vs) from I.hok a _ e).2
    obtain ⟨its, _, o, h1, h2, _⟩ := ho
    exact ⟨_, PySem.W.kitx_tuple, ⟨o, h1, h2⟩, fun z => nomatch z⟩
  | @dct a es kvs e =>
    obtain rfl : u = Value.ref a := ru
    obtain ⟨_, _, rows, _, D⟩ := mdo_rd I.hok (.inl e)
    obtain ⟨o, ens, ep, ho, hc, _⟩ := D.at_
    exact ⟨_, PySem.W.kitx_dict, ⟨o, ho, hc.1⟩, fun z => nomatch z⟩
def rIsS (w : World) : List V → Hp → VK → Prop := fun xs H Q => ∃ v d T b, xs = [v, .ty T] ∧ Shape w H v d ∧ kitB (tyD d) T = some b ∧ Q (.bl b) H
theorem callIsS : CallR X (.builtin "isinstance") (rIsS X.w) := by
  intro pins s σ H xs us Q I r h
  obtain ⟨v, d, T, b, rfl, rp, e, q⟩ := h
  obtain ⟨u1, u2, rfl, r1, r2⟩ := vals2 r
  cases (show u2 = Value.type T from r2)
  obtain ⟨P, Z, p, hx⟩ := kitS I rp r1
  exact PySem.W.kia_one Z I.kIn p (kit_ty e) hx fun tk => ⟨.bl b, H, I.tok tk, rfl, q⟩
def rIsST (w : World) : List V → Hp → VK → Prop := fun xs H Q => ∃ v d tp Ts b, xs = [v, .ref tp] ∧ H tp = some (.tup (List.map V.ty Ts)) ∧ Shape w H v d ∧ (∀ K, PySem.W.kitAny K (.type (tyD d)) (Ts.map Value.type) = some b) ∧ Q (.bl b) H
theorem callIsST : CallR X (.builtin "isinstance") (rIsST X.w) := by
  intro pins s σ H xs us Q I r h
  obtain ⟨v, d, tp, Ts, b, rfl, hT, rp, e, q⟩ := h
  obtain ⟨u1, u2, rfl, r1, r2⟩ := vals2 r
  cases (show u2 = Value.ref tp from r2)
  obtain ⟨P, Z, p, hx⟩ := kitS I rp r1
  have ho := (show ObjOk X.prog X.w H s.heap tp (.tup (Ts.map V.ty)) from I.hok tp _ hT).2
  obtain ⟨its, rv, o, h1, h2, n, h3⟩ := ho
  obtain rfl := vals_ty rv
  obtain ⟨oc, od, dt, sl⟩ := o
  simp only at h2 h3
  subst h2 h3
  exact PySem.W.kia_tup Z I.kIn p h1 (e _) hx fun tk => ⟨.bl b, H, I.tok tk, rfl, q⟩
end
mutual
theorem Rep.noTup {w : World} {H : Hp} : ∀ {v : V} {d : PyData} {fp : List Addr}, Rep w H v d fp → ∀ a ∈ fp, ∀ xs, H a ≠ some (.tup xs)
  | _, _, _, .none, _, h => nomatch h
  | _, _, _, .bool _, _, h => nomatch h
  | _, _, _, .int _, _, h => nomatch h
  | _, _, _, .str _, _, h => nomatch h
  | _, _, _, .lst e r, a, h => by
    rcases List.mem_cons.mp h with rfl | h
    · rw [e]
      exact fun xs z => nomatch z
    · exact r.noTup a h
  | _, _, _, .tup e r, a, h => r.noTup a h
  | _, _, _, .dct e _ _ _ _ rv, a, h => by
    rcases List.mem_cons.mp h with rfl | h
    · rw [e]
      exact fun xs z => nomatch z
    · exact rv.noTup a h
theorem RepAll.noTup {w : World} {H : Hp} : ∀ {vs : List V} {ds : List PyData} {fp : List Addr}, RepAll w H vs ds fp → ∀ a ∈ fp, ∀ xs, H a ≠ some (.tup xs)
  | _, _, _, .nil, _, h => nomatch h
  | _, _, _, .cons r rs, a, h => (List.mem_append.mp h).elim (r.noTup a) (rs.noTup a)
end
/-- all but fp's objects stay -/
def Off (fp : List Addr) (H H' : Hp) : Prop := ∀ b o, b ∉ fp → H b = some o → H' b = some o
/-- spoilt up to the i-th -/
structure SpSt (w : World) (fp : List Addr) (vs : List V) (ds : List PyData) (i : Nat) (H Hi : Hp) : Prop where
  off : Off fp H Hi
  rest : ∃ f, RepAll w Hi (vs.drop i) (ds.drop i) f ∧ f.Nodup ∧ ∀ b ∈ f, b ∈ fp
theorem nodup_app {l1 l2 : List Addr} (h : (l1 ++ l2).Nodup) : l1.Nodup ∧ l2.Nodup ∧ ∀ b ∈ l2, b ∉ l1 := by
  obtain ⟨h1, h2, h3⟩ := List.nodup_append.mp h
  exact ⟨h1, h2, fun b hb ha => h3 b ha b hb rfl⟩
theorem SpSt.turn {w : World} {fp : List Addr} {vs : List V} {ds : List PyData} {i : Nat} {H Hi : Hp} {x : V} (S : SpSt w fp vs ds i H Hi) (hx : vs[i]? = some x) :
    ∃ d f1, Rep w Hi x d f1 ∧ f1.Nodup ∧ ds[i]? = some d ∧ (∀ b ∈ f1, b ∈ fp) ∧ ∀ H', Off f1 Hi H' → SpSt w fp vs ds (i + 1) H H' := by
  obtain ⟨off, f, ra, nd, sub⟩ := S
  have hl : vs.length - i = ds.length - i := by
    have z := ra.length
    rw [List.length_drop, List.length_drop] at z
    exact z
  have li := (List.getElem?_eq_some_iff.mp hx).1
  have ld : i < ds.length := by omega
  have gd : ds[i]? = some ds[i] := List.getElem?_eq_getElem ld
  rw [drop_one hx, drop_one gd] at ra
  cases ra with
  | @cons _ _ _ _ f1 f2 r rs =>
    obtain ⟨n1, n2, dj⟩ := nodup_app nd
    refine ⟨ds[i], f1, r, n1, gd, fun b hb => sub b (List.mem_append_left _ hb), fun H' o' => ⟨fun b o hb e => o' b o (fun z => hb (sub b (List.mem_append_left _ z))) (off b o hb e), f2, rs.keep ⟨fun a ha => ?_, fun a xs e => ?_⟩, n2, fun b hb => sub b (List.mem_append_right _ hb)⟩⟩
    · cases e : Hi a with
      | none => exact absurd e (rs.dom a ha)
      | some o => exact o' a o (dj a ha) e
    · exact o' a _ (fun z => r.noTup a z xs e) e
theorem look_at {es : List MRow} : ∀ {i : Nat} {r : MRow}, (es.map (·.1)).Nodup → es[i]? = some r → lookH es r.1 = some r := by
  induction es with
  | nil => intro i r _ h; simp at h
  | cons e es ih =>
    intro i r nd h
    unfold lookH
    rw [List.find?_cons]
    cases i with
    | zero =>
      obtain rfl : e = r := Option.some.inj h
      rw [(beq_iff e.1 e.1).mpr rfl]
    | succ i =>
      have h' : es[i]? = some r := h
      have nd' := List.nodup_cons.mp nd
      have ne : NestedKey.beq e.1 r.1 = false := by
        cases hb : NestedKey.beq e.1 r.1 with
        | false => rfl
        | true =>
          have z := (beq_iff _ _).mp hb
          exact absurd (List.mem_map.mpr ⟨r, List.mem_of_getElem? h', z.symm⟩) nd'.1
      rw [ne]
      exact ih nd'.2 h'
theorem depth_at : ∀ {ds : List PyData} {i : Nat} {d : PyData}, ds[i]? = some d → d.depth ≤ PyData.depthAll ds
  | x :: ds, 0, d, h => by
    rw [← Option.some.inj h]
    simp only [PyData.depthAll]
    exact Nat.le_max_left _ _
  | x :: ds, i + 1, d, h => by
    have := depth_at (ds := ds) (i := i) h
    simp only [PyData.depthAll]
    exact Nat.le_trans this (Nat.le_max_right _ _)
theorem sz_at : ∀ {ds : List PyData} {i : Nat} {d : PyData}, ds[i]? = some d → sz d ≤ szAll ds
  | x :: ds, 0, d, h => by
    rw [← Option.some.inj h]
    simp only [szAll]
    omega
  | x :: ds, i + 1, d, h => by
    have := sz_at (ds := ds) (i := i) h
    simp only [szAll]
    omega
abbrev sSpoil : Stmt := topS 39
abbrev spN : List Str := ["_law_thing", "_law_part", "_law_key"]
theorem scSpoil : FnScope spN ["_law_thing"] (defScope sSpoil) := ⟨rfl, rfl, rfl, by decide +kernel, rfl, by decide +kernel, by decide +kernel⟩
structure BltS (mg : Str → Option Value) : Prop where
  isi : mg "isinstance" = none
  list : mg "list" = none
  tuple : mg "tuple" = none
  dict : mg "dict" = none
section
variable {P : Program} {w : World} {K : PySem.W.Frag} {mg : Str → Option Value} {base : Heap}
def spSp (w : World) (n : Nat) : Sp := fun vs H Q _ => ∃ v d fp, vs = [v] ∧ Rep w H v d fp ∧ fp.Nodup ∧ d.depth < n ∧ sz d ≤ 900 ∧ ∀ H', Off fp H H' → Q .non H'
theorem ok_spoil {f : Addr} {fd : FuncData} (F : Fun K "_law_spoil" "_law_spoil" sSpoil f fd) (B : BltS mg) (g : mg "_law_spoil" = some (.ref f)) (bS : Binds K fd ["_law_thing"] []) : ∀ n, FnOk P w K mg base CX0 n f fd ["_law_thing"] (spSp w n)
  | 0 => ⟨fun vs H Q E h => by obtain ⟨v, d, fp, rfl, _, _, z, _⟩ := h; exact absurd z (Nat.not_lt_zero _), fun A outer s H args us vs Q E _ _ _ _ h => by obtain ⟨v, d, fp, rfl, _, _, z, _⟩ := h; exact absurd z (Nat.not_lt_zero _)⟩
  | n + 1 => by
    have IH := ok_spoil F B g bS n
    refine F.ok scSpoil (fun vs H Q E h => ?_) (fun cdv A outer s H vs Q E hr h => ?_)
    · obtain ⟨v, d, fp, rfl, _⟩ := h
      rfl
    obtain ⟨v, d, fp, rfl, rp, nd, hdp, hsz, q⟩ := h
    have hu : (cxOf CX0 P w K mg base spN "_law_spoil" (defScope sSpoil) f cdv A outer s H E).nox.A.units + 10 < cLine := by
      have := hr.un
      show (A.deeper _).units + 10 < cLine
      omega
    cases rp with
    | @lst a vs ds fp e rr =>
      have hd1 : PyData.depthAll ds + 1 < n + 1 := by simpa only [PyData.depth] using hdp
      have hs1 : szAll ds + 1 ≤ 900 := by simpa only [sz] using hsz
      obtain ⟨na, ndf⟩ := List.nodup_cons.mp nd
      have hlv := rr.length
      have hlz := szAll_len ds
      refine ⟨_, pss_cons (ps_if (pt_val (pe_callB callIsST (by rfl) B.isi boot_isinstance (pa_cons (pv 0) (pa_cons (pe_tup (pa_cons (pe_bltn (v := .ty "list") (by rfl) B.list boot_list rfl) (pa_cons (pe_bltn (v := .ty "tuple") (by rfl) B.tuple boot_tuple rfl) pa_nil))) pa_nil))))
          (pss_one (ps_for PassesOwn.never rfl (pi_list (pv 0)) (pg_name (i := 1) scSpoil.nd rfl (.inl rfl)) (pss_one (ps_expr (pe_call IH hr (by rfl) g F.kp bS .nil pass0 (pa_cons (pv 1) pa_nil)))))) pss_nil)
        (pss_cons (ps_if (pt_val (pe_callB callIsS (by rfl) B.isi boot_isinstance (pa_cons (pv 0) (pa_cons (pe_bltn (v := .ty "dict") (by rfl) B.dict boot_dict rfl) pa_nil))))
          (pss_cons (ps_lock (ps_for PassesOwn.never rfl (piKeysM (pv 0)) (pg_name (i := 2) scSpoil.nd rfl (.inl rfl)) (pss_one (ps_expr (pe_call IH hr (by rfl) g F.kp bS .nil pass0 (pa_cons (pe_ix (ixM hu) (pv 0) (pv 2) (fun _ _ => rfl)) pa_nil))))))
            (pss_one (ps_asg pe_int (pg_sub (pv 0) pe_str (setM hu))))) pss_nil)
        (pss_one (ps_if (pt_val (pe_callB callIsS (by rfl) B.isi boot_isinstance (pa_cons (pv 0) (pa_cons (pe_bltn (v := .ty "list") (by rfl) B.list boot_list rfl) pa_nil))))
          (pss_one (ps_expr (pe_bm PySem.F.plainAttrs_list PySem.F.slot_list_append PySem.F.type_list_append mt_append (pv 0) (pa_cons pe_str pa_nil)))) pss_nil))), ?_⟩
      refine ⟨.ref a, rfl, by show 2 ≤ sizeLine; decide, fun T nT => ?_⟩
      have s1 := same_upd (o := HO.tup [.ty "list", .ty "tuple"]) nT
      refine ⟨.ref a, .list ds, T, ["list", "tuple"], true, rfl, upd_same, .lst (s1 _ _ e), fun K => kitLT _, true, rfl, iteT ⟨.ref a, rfl, a, rfl, ⟨vs, .inl (.inl (s1 _ _ e))⟩, ?_⟩⟩
      refine for_it (walk_list (K := K) (a := a) (xs := vs)) (fun i σ Hi => ∃ y1 y2, σ = [some (.ref a), y1, y2] ∧ SpSt w fp vs ds i (upd H T (.tup [.ty "list", .ty "tuple"])) Hi ∧ Hi a = some (.lst vs)) ⟨none, none, rfl, ⟨fun _ _ _ z => z, fp, rr.same s1, ndf, fun _ z => z⟩, s1 _ _ e⟩
        (fun i σ Hi _ hp => ?_) (fun i x σ Hi Hj hi hp hy => ?_) (fun σ Hi hp => ?_)
      · obtain ⟨_, _, _, _, ea⟩ := hp
        exact .inl (.inl ea)
      · obtain ⟨y1, y2, rfl, S, ea⟩ := hp
        obtain ⟨rfl, gx⟩ := hy
        obtain ⟨dx, f1, rx, n1, gd, sub, nxt⟩ := S.turn gx
        have h1 := depth_at gd
        have h2 := sz_at gd
        refine ⟨x, rfl, x, dx, f1, rfl, rx, n1, by omega, by omega, fun H' o' => ⟨some x, y2, rfl, nxt H' o', ?_⟩⟩
        exact o' a _ (fun z => na (sub a z)) ea
      · obtain ⟨y1, y2, rfl, S, ea⟩ := hp
        refine ⟨.ref a, rfl, .ref a, .list ds, "dict", false, rfl, .lst ea, kitDict _, false, rfl, iteF ⟨.ref a, rfl, .ref a, .list ds, "list", true, rfl, .lst ea, kitList _, true, rfl, iteT ?_⟩⟩
        refine ⟨.ref a, rfl, .inl ⟨rfl, _, .inl (.inl ea)⟩, a, vs, _, rfl, rfl, ea, small1000 (by omega), ?_⟩
        refine q _ fun b o hb z => ?_
        have nb : b ≠ a := fun y => hb (by rw [y]; exact List.mem_cons_self)
        rw [upd_ne nb]
        exact S.off b o (fun y => hb (List.mem_cons_of_mem _ y)) (s1 _ _ z)
    | @tup a vs ds fp e rr =>
      have hd1 : PyData.depthAll ds + 1 < n + 1 := by simpa only [PyData.depth] using hdp
      have hs1 : szAll ds + 1 ≤ 900 := by simpa only [sz] using hsz
      have ndf := nd
      refine ⟨_, pss_cons (ps_if (pt_val (pe_callB callIsST (by rfl) B.isi boot_isinstance (pa_cons (pv 0) (pa_cons (pe_tup (pa_cons (pe_bltn (v := .ty "list") (by rfl) B.list boot_list rfl) (pa_cons (pe_bltn (v := .ty "tuple") (by rfl) B.tuple boot_tuple rfl) pa_nil))) pa_nil))))
          (pss_one (ps_for PassesOwn.never rfl (pi_tup (pv 0)) (pg_name (i := 1) scSpoil.nd rfl (.inl rfl)) (pss_one (ps_expr (pe_call IH hr (by rfl) g F.kp bS .nil pass0 (pa_cons (pv 1) pa_nil)))))) pss_nil)
        (pss_cons (ps_if (pt_val (pe_callB callIsS (by rfl) B.isi boot_isinstance (pa_cons (pv 0) (pa_cons (pe_bltn (v := .ty "dict") (by rfl) B.dict boot_dict rfl) pa_nil))))
          (pss_cons (ps_lock (ps_for PassesOwn.never rfl (piKeysM (pv 0)) (pg_name (i := 2) scSpoil.nd rfl (.inl rfl)) (pss_one (ps_expr (pe_call IH hr (by rfl) g F.kp bS .nil pass0 (pa_cons (pe_ix (ixM hu) (pv 0) (pv 2) (fun _ _ => rfl)) pa_nil))))))
            (pss_one (ps_asg pe_int (pg_sub (pv 0) pe_str (setM hu))))) pss_nil)
        (pss_one (ps_if (pt_val (pe_callB callIsS (by rfl) B.isi boot_isinstance (pa_cons (pv 0) (pa_cons (pe_bltn (v := .ty "list") (by rfl) B.list boot_list rfl) pa_nil))))
          (pss_one (ps_expr (pe_bm PySem.F.plainAttrs_list PySem.F.slot_list_append PySem.F.type_list_append mt_append (pv 0) (pa_cons pe_str pa_nil)))) pss_nil))), ?_⟩
      refine ⟨.ref a, rfl, by show 2 ≤ sizeLine; decide, fun T nT => ?_⟩
      have s1 := same_upd (o := HO.tup [.ty "list", .ty "tuple"]) nT
      refine ⟨.ref a, .tuple ds, T, ["list", "tuple"], true, rfl, upd_same, .tup (s1 _ _ e), fun K => kitLT _, true, rfl, iteT ⟨.ref a, rfl, a, rfl, ⟨vs, .inl (.inl (s1 _ _ e))⟩, ?_⟩⟩
      refine for_it (walk_tup (K := K) (a := a) (xs := vs)) (fun i σ Hi => ∃ y1 y2, σ = [some (.ref a), y1, y2] ∧ SpSt w fp vs ds i (upd H T (.tup [.ty "list", .ty "tuple"])) Hi ∧ Hi a = some (.tup vs)) ⟨none, none, rfl, ⟨fun _ _ _ z => z, fp, rr.same s1, ndf, fun _ z => z⟩, s1 _ _ e⟩
        (fun i σ Hi _ hp => ?_) (fun i x σ Hi Hj hi hp hy => ?_) (fun σ Hi hp => ?_)
      · obtain ⟨_, _, _, _, ea⟩ := hp
        exact .inl (.inl ea)
      · obtain ⟨y1, y2, rfl, S, ea⟩ := hp
        obtain ⟨rfl, gx⟩ := hy
        obtain ⟨dx, f1, rx, n1, gd, sub, nxt⟩ := S.turn gx
        have h1 := depth_at gd
        have h2 := sz_at gd
        refine ⟨x, rfl, x, dx, f1, rfl, rx, n1, by omega, by omega, fun H' o' => ⟨some x, y2, rfl, nxt H' o', ?_⟩⟩
        exact o' a _ (fun z => rx.noTup a z vs ea) ea
      · obtain ⟨y1, y2, rfl, S, ea⟩ := hp
        refine ⟨.ref a, rfl, .ref a, .tuple ds, "dict", false, rfl, .tup ea, kitDict _, false, rfl, iteF ⟨.ref a, rfl, .ref a, .tuple ds, "list", false, rfl, .tup ea, kitList _, false, rfl, iteF ?_⟩⟩
        exact q _ fun b o hb z => S.off b o hb (s1 _ _ z)
    | @dct a es kvs fk fv e ka ndk hf rk rv =>
      have hd1 : PyData.depthKv kvs + 1 < n + 1 := by simpa only [PyData.depth] using hdp
      have hs1 : szAll (kvs.map (·.2)) + 1 ≤ 900 := by simpa only [sz, szKv_eq] using hsz
      have hdv := PyData.depthAll_vals_le kvs
      obtain ⟨na, ndf⟩ := List.nodup_cons.mp nd
      have hlv := rv.length
      rw [List.length_map] at hlv
      have hlz := szAll_len (kvs.map (·.2))
      refine ⟨_, pss_cons (ps_if (pt_val (pe_callB callIsST (by rfl) B.isi boot_isinstance (pa_cons (pv 0) (pa_cons (pe_tup (pa_cons (pe_bltn (v := .ty "list") (by rfl) B.list boot_list rfl) (pa_cons (pe_bltn (v := .ty "tuple") (by rfl) B.tuple boot_tuple rfl) pa_nil))) pa_nil))))
          (pss_one (ps_for PassesOwn.never rfl (pi_list (pv 0)) (pg_name (i := 1) scSpoil.nd rfl (.inl rfl)) (pss_one (ps_expr (pe_call IH hr (by rfl) g F.kp bS .nil pass0 (pa_cons (pv 1) pa_nil)))))) pss_nil)
        (pss_cons (ps_if (pt_val (pe_callB callIsS (by rfl) B.isi boot_isinstance (pa_cons (pv 0) (pa_cons (pe_bltn (v := .ty "dict") (by rfl) B.dict boot_dict rfl) pa_nil))))
          (pss_cons (ps_lock (ps_for PassesOwn.never rfl (piKeysM (pv 0)) (pg_name (i := 2) scSpoil.nd rfl (.inl rfl)) (pss_one (ps_expr (pe_call IH hr (by rfl) g F.kp bS .nil pass0 (pa_cons (pe_ix (ixM hu) (pv 0) (pv 2) (fun _ _ => rfl)) pa_nil))))))
            (pss_one (ps_asg pe_int (pg_sub (pv 0) pe_str (setM hu))))) pss_nil)
        (pss_one (ps_if (pt_val (pe_callB callIsS (by rfl) B.isi boot_isinstance (pa_cons (pv 0) (pa_cons (pe_bltn (v := .ty "list") (by rfl) B.list boot_list rfl) pa_nil))))
          (pss_one (ps_expr (pe_bm PySem.F.plainAttrs_list PySem.F.slot_list_append PySem.F.type_list_append mt_append (pv 0) (pa_cons pe_str pa_nil)))) pss_nil))), ?_⟩
      refine ⟨.ref a, rfl, by show 2 ≤ sizeLine; decide, fun T nT => ?_⟩
      have s1 := same_upd (o := HO.tup [.ty "list", .ty "tuple"]) nT
      refine ⟨.ref a, .dict kvs, T, ["list", "tuple"], false, rfl, upd_same, .dct (s1 _ _ e), fun K => kitLT _, false, rfl, iteF ?_⟩
      refine ⟨.ref a, rfl, .ref a, .dict kvs, "dict", true, rfl, .dct (s1 _ _ e), kitDict _, true, rfl, iteT ?_⟩
      refine ⟨a, _, s1 _ _ e, trivial, fun od => ⟨.ref a, rfl, a, od, es, rfl, upd_same, ?_⟩⟩
      have tL : ∀ c xs, (upd H T (.tup [.ty "list", .ty "tuple"])) c = some (.tup xs) → (upd (upd H T (.tup [.ty "list", .ty "tuple"])) a (.frz od (mdo w a es))) c = some (.tup xs) := fun c xs z => by
        have nc : c ≠ a := fun y => by
          rw [y, s1 _ _ e] at z
          cases z
        rw [upd_ne nc]
        exact z
      have rvL : RepAll w (upd (upd H T (.tup [.ty "list", .ty "tuple"])) a (.frz od (mdo w a es))) (es.map fun r => r.2.2) (kvs.map (·.2)) fv := (rv.same s1).keep ⟨fun b hb => upd_ne fun y => na (by rw [← y]; exact hb), tL⟩
      refine for_it (walkM (w := w) (d := a) (o := od) (es := es)) (fun i σ Hi => ∃ y1 y2, σ = [some (.ref a), y1, y2] ∧ SpSt w fv (es.map fun r : MRow => r.2.2) (kvs.map fun x : PyData × PyData => x.2) i (upd (upd H T (.tup [.ty "list", .ty "tuple"])) a (.frz od (mdo w a es))) Hi) ⟨none, none, rfl, ⟨fun _ _ _ z => z, fv, rvL, ndf, fun _ z => z⟩⟩
        (fun i σ Hi _ hp => ?_) (fun i x σ Hi Hj hi hp hy => ?_) (fun σ Hi hp => ?_)
      · obtain ⟨_, _, _, S⟩ := hp
        exact S.off a _ na upd_same
      · obtain ⟨y1, y2, rfl, S⟩ := hp
        obtain ⟨rfl, p, gp, rfl⟩ := hy
        have ea := S.off a _ na upd_same
        have gx : (es.map fun r => r.2.2)[i]? = some p.2.2 := by
          rw [List.getElem?_map, gp]
          rfl
        have tI : ∀ c xs, H c = some (.tup xs) → Hj c = some (.tup xs) := fun c xs z => S.off c _ (fun y => rv.noTup c y xs z) (tL c xs (s1 _ _ z))
        obtain ⟨dx, f1, rx, n1, gd, sub, nxt⟩ := S.turn gx
        have h1 := depth_at gd
        have h2 := sz_at gd
        refine ⟨.ref a, rfl, p.2.1, rfl, a, es, p.1, p, rfl, .inr ⟨od, ea⟩, KAll.keep ka tI, (ka p (List.mem_of_getElem? gp)).mono tI, look_at ndk gp, ?_⟩
        exact ⟨p.2.2, dx, f1, rfl, rx, n1, by omega, by omega, fun H' o' => ⟨y1, some p.2.1, rfl, nxt H' o'⟩⟩
      · obtain ⟨y1, y2, rfl, S⟩ := hp
        have ea := S.off a _ na upd_same
        have tI : ∀ c xs, H c = some (.tup xs) → (upd Hi a (mdo w a es)) c = some (.tup xs) := fun c xs z => by
          have z2 := S.off c _ (fun y => rv.noTup c y xs z) (tL c xs (s1 _ _ z))
          have nc : c ≠ a := fun y => by
            rw [y, ea] at z2
            cases z2
          rw [upd_ne nc]
          exact z2
        refine ⟨ea, .ref a, rfl, a, es, .text "spoilt", rfl, upd_same, by omega, KAll.keep ka tI, rfl, ?_⟩
        refine ⟨.ref a, rfl, .ref a, .dict kvs, "list", false, rfl, .dct upd_same, kitList _, false, rfl, iteF ?_⟩
        refine q _ fun b o hb z => ?_
        have nb : b ≠ a := fun y => hb (by rw [y]; exact List.mem_cons_self)
        rw [upd_ne nb, upd_ne nb]
        refine S.off b o (fun y => hb (List.mem_cons_of_mem _ y)) ?_
        rw [upd_ne nb]
        exact s1 _ _ z
    | none  =>
      refine ⟨_, pss_cons (ps_if (pt_val (pe_callB callIsST (by rfl) B.isi boot_isinstance (pa_cons (pv 0) (pa_cons (pe_tup (pa_cons (pe_bltn (v := .ty "list") (by rfl) B.list boot_list rfl) (pa_cons (pe_bltn (v := .ty "tuple") (by rfl) B.tuple boot_tuple rfl) pa_nil))) pa_nil))))
          (pss_one (ps_for PassesOwn.never rfl (pi_list (pv 0)) (pg_name (i := 1) scSpoil.nd rfl (.inl rfl)) (pss_one (ps_expr (pe_call IH hr (by rfl) g F.kp bS .nil pass0 (pa_cons (pv 1) pa_nil)))))) pss_nil)
        (pss_cons (ps_if (pt_val (pe_callB callIsS (by rfl) B.isi boot_isinstance (pa_cons (pv 0) (pa_cons (pe_bltn (v := .ty "dict") (by rfl) B.dict boot_dict rfl) pa_nil))))
          (pss_cons (ps_lock (ps_for PassesOwn.never rfl (piKeysM (pv 0)) (pg_name (i := 2) scSpoil.nd rfl (.inl rfl)) (pss_one (ps_expr (pe_call IH hr (by rfl) g F.kp bS .nil pass0 (pa_cons (pe_ix (ixM hu) (pv 0) (pv 2) (fun _ _ => rfl)) pa_nil))))))
            (pss_one (ps_asg pe_int (pg_sub (pv 0) pe_str (setM hu))))) pss_nil)
        (pss_one (ps_if (pt_val (pe_callB callIsS (by rfl) B.isi boot_isinstance (pa_cons (pv 0) (pa_cons (pe_bltn (v := .ty "list") (by rfl) B.list boot_list rfl) pa_nil))))
          (pss_one (ps_expr (pe_bm PySem.F.plainAttrs_list PySem.F.slot_list_append PySem.F.type_list_append mt_append (pv 0) (pa_cons pe_str pa_nil)))) pss_nil))), ?_⟩
      refine ⟨.non, rfl, by show 2 ≤ sizeLine; decide, fun T nT => ?_⟩
      have s1 := same_upd (o := HO.tup [.ty "list", .ty "tuple"]) nT
      refine ⟨.non, .none, T, ["list", "tuple"], false, rfl, upd_same, .none, fun K => kitLT _, false, rfl, iteF ?_⟩
      refine ⟨.non, rfl, .non, .none, "dict", false, rfl, .none, kitDict _, false, rfl, iteF ⟨.non, rfl, .non, .none, "list", false, rfl, .none, kitList _, false, rfl, iteF ?_⟩⟩
      exact q _ fun b o hb z => s1 _ _ z
    | bool b =>
      refine ⟨_, pss_cons (ps_if (pt_val (pe_callB callIsST (by rfl) B.isi boot_isinstance (pa_cons (pv 0) (pa_cons (pe_tup (pa_cons (pe_bltn (v := .ty "list") (by rfl) B.list boot_list rfl) (pa_cons (pe_bltn (v := .ty "tuple") (by rfl) B.tuple boot_tuple rfl) pa_nil))) pa_nil))))
          (pss_one (ps_for PassesOwn.never rfl (pi_list (pv 0)) (pg_name (i := 1) scSpoil.nd rfl (.inl rfl)) (pss_one (ps_expr (pe_call IH hr (by rfl) g F.kp bS .nil pass0 (pa_cons (pv 1) pa_nil)))))) pss_nil)
        (pss_cons (ps_if (pt_val (pe_callB callIsS (by rfl) B.isi boot_isinstance (pa_cons (pv 0) (pa_cons (pe_bltn (v := .ty "dict") (by rfl) B.dict boot_dict rfl) pa_nil))))
          (pss_cons (ps_lock (ps_for PassesOwn.never rfl (piKeysM (pv 0)) (pg_name (i := 2) scSpoil.nd rfl (.inl rfl)) (pss_one (ps_expr (pe_call IH hr (by rfl) g F.kp bS .nil pass0 (pa_cons (pe_ix (ixM hu) (pv 0) (pv 2) (fun _ _ => rfl)) pa_nil))))))
            (pss_one (ps_asg pe_int (pg_sub (pv 0) pe_str (setM hu))))) pss_nil)
        (pss_one (ps_if (pt_val (pe_callB callIsS (by rfl) B.isi boot_isinstance (pa_cons (pv 0) (pa_cons (pe_bltn (v := .ty "list") (by rfl) B.list boot_list rfl) pa_nil))))
          (pss_one (ps_expr (pe_bm PySem.F.plainAttrs_list PySem.F.slot_list_append PySem.F.type_list_append mt_append (pv 0) (pa_cons pe_str pa_nil)))) pss_nil))), ?_⟩
      refine ⟨.bl b, rfl, by show 2 ≤ sizeLine; decide, fun T nT => ?_⟩
      have s1 := same_upd (o := HO.tup [.ty "list", .ty "tuple"]) nT
      refine ⟨.bl b, .bool b, T, ["list", "tuple"], false, rfl, upd_same, (.bool b), fun K => kitLT _, false, rfl, iteF ?_⟩
      refine ⟨.bl b, rfl, .bl b, .bool b, "dict", false, rfl, (.bool b), kitDict _, false, rfl, iteF ⟨.bl b, rfl, .bl b, .bool b, "list", false, rfl, (.bool b), kitList _, false, rfl, iteF ?_⟩⟩
      exact q _ fun b o hb z => s1 _ _ z
    | int i =>
      refine ⟨_, pss_cons (ps_if (pt_val (pe_callB callIsST (by rfl) B.isi boot_isinstance (pa_cons (pv 0) (pa_cons (pe_tup (pa_cons (pe_bltn (v := .ty "list") (by rfl) B.list boot_list rfl) (pa_cons (pe_bltn (v := .ty "tuple") (by rfl) B.tuple boot_tuple rfl) pa_nil))) pa_nil))))
          (pss_one (ps_for PassesOwn.never rfl (pi_list (pv 0)) (pg_name (i := 1) scSpoil.nd rfl (.inl rfl)) (pss_one (ps_expr (pe_call IH hr (by rfl) g F.kp bS .nil pass0 (pa_cons (pv 1) pa_nil)))))) pss_nil)
        (pss_cons (ps_if (pt_val (pe_callB callIsS (by rfl) B.isi boot_isinstance (pa_cons (pv 0) (pa_cons (pe_bltn (v := .ty "dict") (by rfl) B.dict boot_dict rfl) pa_nil))))
          (pss_cons (ps_lock (ps_for PassesOwn.never rfl (piKeysM (pv 0)) (pg_name (i := 2) scSpoil.nd rfl (.inl rfl)) (pss_one (ps_expr (pe_call IH hr (by rfl) g F.kp bS .nil pass0 (pa_cons (pe_ix (ixM hu) (pv 0) (pv 2) (fun _ _ => rfl)) pa_nil))))))
            (pss_one (ps_asg pe_int (pg_sub (pv 0) pe_str (setM hu))))) pss_nil)
        (pss_one (ps_if (pt_val (pe_callB callIsS (by rfl) B.isi boot_isinstance (pa_cons (pv 0) (pa_cons (pe_bltn (v := .ty "list") (by rfl) B.list boot_list rfl) pa_nil))))
          (pss_one (ps_expr (pe_bm PySem.F.plainAttrs_list PySem.F.slot_list_append PySem.F.type_list_append mt_append (pv 0) (pa_cons pe_str pa_nil)))) pss_nil))), ?_⟩
      refine ⟨.int i, rfl, by show 2 ≤ sizeLine; decide, fun T nT => ?_⟩
      have s1 := same_upd (o := HO.tup [.ty "list", .ty "tuple"]) nT
      refine ⟨.int i, .int i, T, ["list", "tuple"], false, rfl, upd_same, (.int i), fun K => kitLT _, false, rfl, iteF ?_⟩
      refine ⟨.int i, rfl, .int i, .int i, "dict", false, rfl, (.int i), kitDict _, false, rfl, iteF ⟨.int i, rfl, .int i, .int i, "list", false, rfl, (.int i), kitList _, false, rfl, iteF ?_⟩⟩
      exact q _ fun b o hb z => s1 _ _ z
    | str x =>
      refine ⟨_, pss_cons (ps_if (pt_val (pe_callB callIsST (by rfl) B.isi boot_isinstance (pa_cons (pv 0) (pa_cons (pe_tup (pa_cons (pe_bltn (v := .ty "list") (by rfl) B.list boot_list rfl) (pa_cons (pe_bltn (v := .ty "tuple") (by rfl) B.tuple boot_tuple rfl) pa_nil))) pa_nil))))
          (pss_one (ps_for PassesOwn.never rfl (pi_list (pv 0)) (pg_name (i := 1) scSpoil.nd rfl (.inl rfl)) (pss_one (ps_expr (pe_call IH hr (by rfl) g F.kp bS .nil pass0 (pa_cons (pv 1) pa_nil)))))) pss_nil)
        (pss_cons (ps_if (pt_val (pe_callB callIsS (by rfl) B.isi boot_isinstance (pa_cons (pv 0) (pa_cons (pe_bltn (v := .ty "dict") (by rfl) B.dict boot_dict rfl) pa_nil))))
          (pss_cons (ps_lock (ps_for PassesOwn.never rfl (piKeysM (pv 0)) (pg_name (i := 2) scSpoil.nd rfl (.inl rfl)) (pss_one (ps_expr (pe_call IH hr (by rfl) g F.kp bS .nil pass0 (pa_cons (pe_ix (ixM hu) (pv 0) (pv 2) (fun _ _ => rfl)) pa_nil))))))
            (pss_one (ps_asg pe_int (pg_sub (pv 0) pe_str (setM hu))))) pss_nil)
        (pss_one (ps_if (pt_val (pe_callB callIsS (by rfl) B.isi boot_isinstance (pa_cons (pv 0) (pa_cons (pe_bltn (v := .ty "list") (by rfl) B.list boot_list rfl) pa_nil))))
          (pss_one (ps_expr (pe_bm PySem.F.plainAttrs_list PySem.F.slot_list_append PySem.F.type_list_append mt_append (pv 0) (pa_cons pe_str pa_nil)))) pss_nil))), ?_⟩
      refine ⟨.str x, rfl, by show 2 ≤ sizeLine; decide, fun T nT => ?_⟩
      have s1 := same_upd (o := HO.tup [.ty "list", .ty "tuple"]) nT
      refine ⟨.str x, .str x, T, ["list", "tuple"], false, rfl, upd_same, (.str x), fun K => kitLT _, false, rfl, iteF ?_⟩
      refine ⟨.str x, rfl, .str x, .str x, "dict", false, rfl, (.str x), kitDict _, false, rfl, iteF ⟨.str x, rfl, .str x, .str x, "list", false, rfl, (.str x), kitList _, false, rfl, iteF ?_⟩⟩
      exact q _ fun b o hb z => s1 _ _ z
end
end KF
end L2
/-! ### KP -/
namespace L2
namespace KF
open PySem PySem.Spec PyProof.Rows PySem.KD KE KC PySem.KA
/-! ## the pen -/
abbrev sPen : Stmt := topS 31
abbrev sDraw : Stmt := topS 32
abbrev sPick : Stmt := topS 33
abbrev drN : List Str := ["_law_pen_here", "_law_many", "_law_digit", "_law_at", "_law_cell", "_law_mixed"]
theorem scPen : FnScope ["_law_script"] ["_law_script"] (defScope sPen) := ⟨rfl, rfl, rfl, by decide +kernel, rfl, by decide +kernel, by decide +kernel⟩
theorem scDraw : FnScope drN ["_law_pen_here", "_law_many"] (defScope sDraw) := ⟨rfl, rfl, rfl, by decide +kernel, rfl, by decide +kernel, by decide +kernel⟩
theorem scPick : FnScope ["_law_pen_here", "_law_items"] ["_law_pen_here", "_law_items"] (defScope sPick) := ⟨rfl, rfl, rfl, by decide +kernel, rfl, by decide +kernel, by decide +kernel⟩
abbrev kCells : Key := .inr "cells"
abbrev kAtt : Key := .inr "at"
abbrev kLeft : Key := .inr "left"
def penRows (c : Addr) (at_ left : Int) : List (Key × V) := [(kCells, .ref c), (kAtt, .int at_), (kLeft, .int left)]
/-- the pen at p, its cells at c -/
structure PenAt (H : Hp) (p c : Addr) (ns : List Int) (at_ left : Int) : Prop where
  row : H p = some (.dK (penRows c at_ left))
  cells : H c = some (.lst (ns.map V.int))
theorem PenAt.same {H H' : Hp} {p c : Addr} {ns : List Int} {a l : Int} (e : PenAt H p c ns a l) (s : Same H H') : PenAt H' p c ns a l := ⟨s _ _ e.row, s _ _ e.cells⟩
theorem PenAt.ne {H : Hp} {p c : Addr} {ns : List Int} {a l : Int} (e : PenAt H p c ns a l) : c ≠ p := fun z => by
  have h1 := e.row
  rw [← z, e.cells] at h1
  cases h1
theorem val_cells (c : Addr) (a l : Int) : valV (penRows c a l) kCells = some (.ref c) := by rfl
theorem val_at (c : Addr) (a l : Int) : valV (penRows c a l) kAtt = some (.int a) := by rfl
theorem val_left (c : Addr) (a l : Int) : valV (penRows c a l) kLeft = some (.int l) := by rfl
theorem put_at (c : Addr) (a l b : Int) : putK (penRows c a l) kAtt (.int b) = penRows c b l := by rfl
theorem put_left (c : Addr) (a l b : Int) : putK (penRows c a l) kLeft (.int b) = penRows c a b := by rfl
theorem merge_pen (c : Addr) (a l : Int) : mergeK [] (penRows c a l) = penRows c a l := by rfl
theorem PenAt.get {H : Hp} {p c : Addr} {ns : List Int} {a l : Int} (e : PenAt H p c ns a l) (k : Key) : DGet H p (kV k) (valV (penRows c a l) k) := DGet.k e.row
theorem PenAt.putL {H : Hp} {p c : Addr} {ns : List Int} {a l : Int} (e : PenAt H p c ns a l) (b : Int) : PenAt (upd H p (.dK (penRows c a b))) p c ns a b ∧ DPut H p (kV kLeft) (.int b) (upd H p (.dK (penRows c a b))) := by
  refine ⟨⟨upd_same, by rw [upd_ne e.ne]; exact e.cells⟩, ?_⟩
  rw [← put_left c a l b]
  exact DPut.k e.row (by show 3 < sizeLine; decide)
theorem PenAt.putA {H : Hp} {p c : Addr} {ns : List Int} {a l : Int} (e : PenAt H p c ns a l) (b : Int) : PenAt (upd H p (.dK (penRows c b l))) p c ns b l ∧ DPut H p (kV kAtt) (.int b) (upd H p (.dK (penRows c b l))) := by
  refine ⟨⟨upd_same, by rw [upd_ne e.ne]; exact e.cells⟩, ?_⟩
  rw [← put_at c a l b]
  exact DPut.k e.row (by show 3 < sizeLine; decide)
theorem SameBut.refl (p : Addr) (H : Hp) : SameBut p H H := fun _ _ _ z => z
theorem SameBut.trans {p : Addr} {H H1 H2 : Hp} (a : SameBut p H H1) (b : SameBut p H1 H2) : SameBut p H H2 := fun c o n z => b c o n (a c o n z)
theorem Same.but {H H' : Hp} (s : Same H H') (p : Addr) : SameBut p H H' := fun c o _ z => s c o z
theorem but_upd (p : Addr) (H : Hp) (o : HO) : SameBut p H (upd H p o) := fun c x n z => by
  rw [upd_ne n]
  exact z
/-- lists of ints against [] -/
theorem ints_dp {K : PySem.W.Frag} {H : Hp} : ∀ ns : List Int, DpAll K H (ns.map V.int) (ns.map PyData.int)
  | [] => .nil
  | n :: ns => .cons (.int n) (ints_dp ns)
theorem ints_lay : ∀ ns : List Int, PyData.canLayAll0 (ns.map PyData.int) = true
  | [] => by simp only [List.map_nil, PyData.canLayAll0]
  | n :: ns => by simp only [List.map_cons, PyData.canLayAll0, PyData.canLay0, ints_lay ns, Bool.and_self]
theorem ints_depth : ∀ ns : List Int, PyData.depthAll (ns.map PyData.int) ≤ 1
  | [] => by simp only [List.map_nil, PyData.depthAll]; decide
  | n :: ns => by
    have := ints_depth ns
    simp only [List.map_cons, PyData.depthAll, PyData.depth]
    omega
theorem ints_shaped (ns : List Int) : SeqAt.shaped (.list (ns.map PyData.int)) = true := by
  unfold SeqAt.shaped
  have := ints_depth ns
  rw [Bool.and_eq_true]
  exact ⟨by simp only [PyData.canLay0, ints_lay], decide_eq_true (by simp only [PyData.depth]; omega)⟩
theorem ints_eqv (ns : List Int) : PyData.eqv (.list (ns.map PyData.int)) (.list []) = ns.isEmpty := by
  cases ns with
  | nil => simp [PyData.eqv, PyData.eqvAll]
  | cons n ns => simp [PyData.eqv, PyData.eqvAll]
structure BltD (mg : Str → Option Value) : Prop where
  int : mg "int" = none
  len : mg "len" = none
  list : mg "list" = none
section
variable {P : Program} {w : World} {K : PySem.W.Frag} {mg : Str → Option Value} {base : Heap}
def spPen (K : PySem.W.Frag) : Sp := fun vs H Q _ => ∃ a ns, vs = [.ref a] ∧ SqL K H a (List.map V.int ns) ∧ ns.length ≤ 63 ∧ ∀ H' p c ns', Same H H' → H p = none → H c = none → ns'.length ≤ 63 → PenAt H' p c ns' 0 0 → Q (.ref p) H'
theorem ok_pen {f : Addr} {fd : FuncData} {k : Nat} (F : Fun K "_law_pen" "_law_pen" sPen f fd) (B : BltD mg) : FnOk P w K mg base CX0 (k + 1) f fd ["_law_script"] (spPen K) := by
  refine F.ok scPen (fun vs H Q E h => ?_) (fun cdv A outer s H vs Q E hr h => ?_)
  · obtain ⟨a, ns, rfl, _⟩ := h
    rfl
  · obtain ⟨a, ns, rfl, hS, hl, q⟩ := h
    refine ⟨_, pss_one (ps_ret (pe_disp (pps_cons pe_str (pe_callTy call_list_of (by rfl) B.list boot_list (pa_cons (pe_slice sl_list (pv 0) po_none (po_some pe_int)) pa_nil)) (pps_cons pe_str pe_int (pps_cons pe_str pe_int pps_nil))) rfl rfl (by decide) (by decide))), ?_⟩
    intro p np
    have s1 := same_upd (o := HO.dK []) np
    refine ⟨.ref a, rfl, 63, rfl, a, _, rfl, s1.seq hS, fun c nc => ?_⟩
    have s2 := same_upd (o := HO.lst (cutV (ns.map V.int) none (some 63))) nc
    refine ⟨c, _, rfl, .inl (.inl (.inl upd_same)), fun l nl => ?_⟩
    have s3 := same_upd (o := HO.lst (cutV (ns.map V.int) none (some 63))) nl
    refine ⟨s3 _ _ (s2 _ _ upd_same), penRows l 0 0, rfl, by show 3 ≤ 15; decide, ?_⟩
    rw [merge_pen]
    have npl : l ≠ p := fun z => by
      rw [z, s2 _ _ upd_same] at nl
      cases nl
    have ec : cutV (ns.map V.int) none (some 63) = (ns.take (min 63 ns.length)).map V.int := by
      unfold cutV
      rw [HT.sIx_none, show (63 : Int) = ((63 : Nat) : Int) from rfl, HT.sIx_nat, List.length_map, List.drop_zero, Nat.sub_zero, List.map_take]
    refine q _ p l (ns.take (min 63 ns.length)) (fun b o z => ?_) np (s1.free (s2.free nl)) ?_ ⟨upd_same, ?_⟩
    · rw [upd_ne (ne_of_none z np)]
      exact s3 _ _ (s2 _ _ (s1 _ _ z))
    · rw [List.length_take]
      omega
    · rw [upd_ne npl, upd_same, ec]
/-- a digit drawn: the pen goes on -/
def spDraw : Sp := fun vs H Q _ => ∃ (p c : Addr) (ns : List Int) (a l m : Int), vs = [.ref p, .int m] ∧ PenAt H p c ns a l ∧ ns.length ≤ 63 ∧ 0 ≤ a ∧ a ≤ 1000000 ∧ 0 ≤ l ∧ 1 ≤ m ∧ m ≤ 1000 ∧
  ∀ H' d a' l', SameBut p H H' → PenAt H' p c ns a' l' → a ≤ a' → a' ≤ a + 1 → 0 ≤ l' → 0 ≤ d → d < m → Q (.int d) H'
abbrev tI1 (t : TE) : TE := tCB (fun xs H Q => (∃ i, xs = [V.int i] ∧ Q (V.int i) H) ∨ ∃ k, xs = [V.bl k] ∧ Q (V.int (if k = true then 1 else 0)) H) (tCons t tNil)
abbrev tMod (a b : TE) : TE := tOp (rI (fun _ j => 0 < j) fun i j => V.int (i % j)) a b
abbrev tMul (a b : TE) : TE := tOp (rI CMul fun i j => V.int (i * j)) a b
abbrev tAdd (a b : TE) : TE := tOp (rI0 fun i j => V.int (i + j)) a b
abbrev tSub (a b : TE) : TE := tOp (rI0 fun i j => V.int (i - j)) a b
abbrev tDvd (a b : TE) : TE := tOp (rI CDiv fun i j => V.int (i / j)) a b
abbrev tPow (a b : TE) : TE := tOp (rI CPow fun i j => V.int (i ^ j.toNat)) a b
def tMix : TS := tSeq (tAsg (tAdd (tAdd (tAdd (tMul (tMod (tI1 (tVar 4)) (tC (.int 2147483587))) (tC (.int 48271))) (tMul (tMul (tC (.int 40014)) (tVar 3)) (tVar 3))) (tMul (tC (.int 59)) (tVar 3))) (tC (.int 17))) (gName 5))
  (tSeq (tAsg (tMod (tI1 (tVar 5)) (tC (.int 2147483629))) (gName 5)) (tSeq (tAsg (tMod (tI1 (tMul (tVar 5) (tAdd (tVar 5) (tC (.int 69621))))) (tC (.int 2147483549))) (gName 5))
  (tRet (tMod (tI1 (tDvd (tMod (tI1 (tMul (tVar 5) (tVar 5))) (tC (.int 2147483579))) (tC (.int 32)))) (tVar 1)))))
theorem Int.pos_of_lt_lit {j : Int} (h : 0 < j) : 0 < j := h
theorem cmul_mod {x k y : Int} (h : 0 < k) (h2 : k < 1099511627776) : CMul (x % k) y := by
  have h3 := Int.emod_lt_of_pos x h
  have h4 := Int.emod_nonneg x (show k ≠ 0 by omega)
  exact .inl ⟨by omega, by omega⟩
theorem mix_ok {D : Ends} {H : Hp} {x0 y2 y5 : Option V} {a m cell : Int} (hm0 : 0 < m) (ha : 0 ≤ a) (ha2 : a ≤ 1000000) (q : ∀ e : Int, D.rt (.int (e % m)) H) : tMix D [x0, some (.int m), y2, some (.int a), some (.int cell), y5] H := by
  refine ⟨.int cell, rfl, .inl ⟨cell, rfl, cell, 2147483587, rfl, rfl, Int.pos_of_lt_lit (by decide), _, 48271, rfl, rfl, .inr ⟨by decide, by decide⟩, .int a, rfl, 40014, a, rfl, rfl, .inl ⟨by decide, by decide⟩, .int a, rfl, _, a, rfl, rfl, .inr ⟨by omega, by omega⟩, _, _, rfl, rfl, .int a, rfl, 59, a, rfl, rfl, .inl ⟨by decide, by decide⟩, _, _, rfl, rfl, _, 17, rfl, rfl, ?_⟩⟩
  refine ⟨.int _, rfl, .inl ⟨_, rfl, _, 2147483629, rfl, rfl, Int.pos_of_lt_lit (by decide), ?_⟩⟩
  refine ⟨.int _, rfl, .int _, rfl, _, 69621, rfl, rfl, _, _, rfl, rfl, cmul_mod (by decide) (by decide), .inl ⟨_, rfl, _, 2147483549, rfl, rfl, Int.pos_of_lt_lit (by decide), ?_⟩⟩
  refine ⟨.int _, rfl, .int _, rfl, _, _, rfl, rfl, cmul_mod (by decide) (by decide), .inl ⟨_, rfl, _, 2147483579, rfl, rfl, Int.pos_of_lt_lit (by decide), _, 32, rfl, rfl, ⟨by decide, by decide⟩, .inl ⟨_, rfl, .int m, rfl, _, m, rfl, rfl, hm0, q _⟩⟩⟩
def tTail (K : PySem.W.Frag) : TS := tSeq (tIfS (tAnd (tTest (tOp (rI0 fun i j => V.bl (decide (i < j))) (tVar 3) (tCB (fun xs H Q => ∃ p ys, xs = [V.ref p] ∧ (SqL K H p ys ∨ SqT K H p ys) ∧ Q (V.int ys.length) H) (tCons (tDGet (tVar 0) (tC (.str "cells"))) tNil))))
    (tTest (tOp (rI0 fun i j => V.bl (decide (j ≤ i))) (tVar 4) (tPow (tC (.int 10)) (tC (.int 18))))))
    (tSeq (sDPut (tVar 0) (tC (.str "left")) (tDvd (tSub (tVar 4) (tPow (tC (.int 10)) (tC (.int 18)))) (tVar 1))) (tRet (tMod (tI1 (tSub (tVar 4) (tPow (tC (.int 10)) (tC (.int 18))))) (tVar 1)))) tNext) tMix
theorem tail_ok {K : PySem.W.Frag} {D : Ends} {H : Hp} {p c : Addr} {ns : List Int} {y2 y5 : Option V} {a b l m cell : Int} (pen : PenAt H p c ns b l) (hl : 0 ≤ l) (hm0 : 0 < m) (hm2 : m ≤ 1000) (ha : 0 ≤ a) (ha2 : a ≤ 1000000)
    (q : ∀ H' (e : Int) l', SameBut p H H' → PenAt H' p c ns b l' → 0 ≤ l' → D.rt (.int (e % m)) H') : tTail K D [some (.ref p), some (.int m), y2, some (.int a), some (.int cell), y5] H := by
  have hSq : SqL K H c (ns.map V.int) := .inl (.inl pen.cells)
  refine ⟨.int a, rfl, .ref p, rfl, p, .ref c, rfl, pen.get kCells, c, _, rfl, .inl hSq, a, _, rfl, rfl, _, rfl, ?_⟩
  have mixed : tMix D [some (.ref p), some (.int m), y2, some (.int a), some (.int cell), y5] H := mix_ok hm0 ha ha2 fun e => q H e l (SameBut.refl _ _) pen hl
  cases decide (a < ((ns.map V.int).length : Nat)) with
  | false => exact iteF (iteF mixed)
  | true =>
    refine iteT ⟨.int cell, rfl, 10, 18, rfl, rfl, ⟨by decide, by decide, by decide⟩, cell, _, rfl, rfl, _, rfl, ite2 (fun big => ?_) (fun small => mixed)⟩
    have hbig : (0 : Int) ≤ cell - 10 ^ (18 : Int).toNat := by
      have z := of_decide_eq_true big
      exact Int.sub_nonneg_of_le z
    obtain ⟨pn3, dp3⟩ := pen.putL ((cell - 10 ^ (18 : Int).toNat) / m)
    refine ⟨.int cell, rfl, 10, 18, rfl, rfl, ⟨by decide, by decide, by decide⟩, cell, _, rfl, rfl, .int m, rfl, _, m, rfl, rfl, ⟨hm0, by omega⟩, .ref p, rfl, p, _, rfl, dp3, ?_⟩
    refine ⟨.int cell, rfl, 10, 18, rfl, rfl, ⟨by decide, by decide, by decide⟩, cell, _, rfl, rfl, .inl ⟨_, rfl, .int m, rfl, _, m, rfl, rfl, hm0, ?_⟩⟩
    exact q _ _ _ (but_upd _ _ _) pn3 (Int.ediv_nonneg hbig (by omega))
theorem ok_draw {f : Addr} {fd : FuncData} {k : Nat} (F : Fun K "_law_draw" "_law_draw" sDraw f fd) (B : BltD mg) : FnOk P w K mg base CX0 (k + 1) f fd ["_law_pen_here", "_law_many"] spDraw := by
  refine F.ok scDraw (fun vs H Q E h => ?_) (fun cdv A outer s H vs Q E hr h => ?_)
  · obtain ⟨p, c, ns, a, l, m, rfl, _⟩ := h
    rfl
  · obtain ⟨p, c, ns, a, l, m, rfl, pen, hns, ha, ha2, hl, hm1, hm2, q⟩ := h
    have hu : (cxOf CX0 P w K mg base drN "_law_draw" (defScope sDraw) f cdv A outer s H E).nox.A.units + 1 < cLine := by
      have := hr.un
      show (A.deeper _).units + 1 < cLine
      omega
    have hu64 : (cxOf CX0 P w K mg base drN "_law_draw" (defScope sDraw) f cdv A outer s H E).nox.A.units + 64 < cLine := by
      have := hr.un
      show (A.deeper _).units + 64 < cLine
      omega
    have hm0 : (0 : Int) < m := by omega
    refine ⟨_, pss_cons (ps_if (pt_cmpR op_ge (pe_dget hu (pv 0) pe_str (fun _ _ => rfl)) (pv 1) (nomark _))
          (pss_cons (ps_set (i := 2) scDraw.nd rfl (.inl rfl) (pe_op op_mod (pe_callTy call_int1 (by rfl) B.int boot_int (pa_cons (pe_dget hu (pv 0) pe_str (fun _ _ => rfl)) pa_nil)) (pv 1)))
          (pss_cons (ps_dput hu (pv 0) pe_str (pe_op op_fdiv (pe_dget hu (pv 0) pe_str (fun _ _ => rfl)) (pv 1)) rfl) (pss_one (ps_ret (pv 2))))) pss_nil)
      (pss_cons (ps_set (i := 3) scDraw.nd rfl (.inl rfl) (pe_dget hu (pv 0) pe_str (fun _ _ => rfl)))
      (pss_cons (ps_dput hu (pv 0) pe_str (pe_op op_add (pv 3) pe_int) rfl)
      (pss_cons (ps_set (i := 4) scDraw.nd rfl (.inl rfl) (pe_op op_add (pe_op op_mul pe_int (pv 3)) pe_int))
      (pss_cons (ps_if (pt_cmpR (op_neD hu64) (pe_dget hu (pv 0) pe_str (fun _ _ => rfl)) (pe_lst pa_nil) (nomark _))
          (pss_one (ps_set (i := 4) scDraw.nd rfl (.inl rfl) (pe_ix ix_list (pe_dget hu (pv 0) pe_str (fun _ _ => rfl)) (pe_op op_mod (pe_callTy call_int1 (by rfl) B.int boot_int (pa_cons (pv 3) pa_nil)) (pe_callB call_len_seq (by rfl) B.len PySem.boot_len (pa_cons (pe_dget hu (pv 0) pe_str (fun _ _ => rfl)) pa_nil))) (fun _ _ => rfl)))) pss_nil)
      (pss_cons (ps_if (PW.pt (pw_and (pt_cmpR op_lt (pv 3) (pe_callB call_len_seq (by rfl) B.len PySem.boot_len (pa_cons (pe_dget hu (pv 0) pe_str (fun _ _ => rfl)) pa_nil)) (nomark _)) (pw_and1 (pt_cmpR op_ge (pv 4) (pe_op op_pow pe_int pe_int) (nomark _)))))
          (pss_cons (ps_dput hu (pv 0) pe_str (pe_op op_fdiv (pe_op op_sub (pv 4) (pe_op op_pow pe_int pe_int)) (pv 1)) rfl)
          (pss_one (ps_ret (pe_op op_mod (pe_callTy call_int1 (by rfl) B.int boot_int (pa_cons (pe_op op_sub (pv 4) (pe_op op_pow pe_int pe_int)) pa_nil)) (pv 1))))) pss_nil)
      (pss_cons (ps_set (i := 5) scDraw.nd rfl (.inl rfl) (pe_op op_add (pe_op op_add (pe_op op_add (pe_op op_mul (pe_op op_mod (pe_callTy call_int1 (by rfl) B.int boot_int (pa_cons (pv 4) pa_nil)) pe_int) pe_int) (pe_op op_mul (pe_op op_mul pe_int (pv 3)) (pv 3))) (pe_op op_mul pe_int (pv 3))) pe_int))
      (pss_cons (ps_set (i := 5) scDraw.nd rfl (.inl rfl) (pe_op op_mod (pe_callTy call_int1 (by rfl) B.int boot_int (pa_cons (pv 5) pa_nil)) pe_int))
      (pss_cons (ps_set (i := 5) scDraw.nd rfl (.inl rfl) (pe_op op_mod (pe_callTy call_int1 (by rfl) B.int boot_int (pa_cons (pe_op op_mul (pv 5) (pe_op op_add (pv 5) pe_int)) pa_nil)) pe_int))
      (pss_one (ps_ret (pe_op op_mod (pe_callTy call_int1 (by rfl) B.int boot_int (pa_cons (pe_op op_fdiv (pe_op op_mod (pe_callTy call_int1 (by rfl) B.int boot_int (pa_cons (pe_op op_mul (pv 5) (pv 5)) pa_nil)) pe_int) pe_int) pa_nil)) (pv 1)))))))))))), ?_⟩
    have g0 := fun k => pen.get k
    -- if pen['left'] >= many
    refine ⟨.ref p, rfl, p, .int l, rfl, g0 kLeft, _, rfl, _, _, rfl, rfl, _, rfl, ite2 (fun ge => ?_) (fun lt => ?_)⟩
    · obtain ⟨pn, dp⟩ := pen.putL (l / m)
      refine ⟨.ref p, rfl, p, .int l, rfl, g0 kLeft, .inl ⟨l, rfl, .int m, rfl, l, m, rfl, rfl, hm0, ?_⟩⟩
      refine ⟨.ref p, rfl, p, .int l, rfl, g0 kLeft, .int m, rfl, l, m, rfl, rfl, ⟨hm0, by omega⟩, .ref p, rfl, p, _, rfl, dp, .int (l % m), rfl, ?_⟩
      exact q _ (l % m) a (l / m) (but_upd _ _ _) pn (Int.le_refl _) (by omega) (Int.ediv_nonneg hl (by omega)) (Int.emod_nonneg _ (by omega)) (Int.emod_lt_of_pos _ hm0)
    · obtain ⟨pn, dp⟩ := pen.putA (a + 1)
      have b1 := but_upd p H (.dK (penRows c (a + 1) l))
      -- at, pen['at'], cell
      refine ⟨.ref p, rfl, p, .int a, rfl, g0 kAtt, .int a, rfl, a, 1, rfl, rfl, .ref p, rfl, p, _, rfl, dp, ?_⟩
      refine ⟨.int a, rfl, 41, a, rfl, rfl, .inl ⟨by decide, by decide⟩, 41 * a, 23, rfl, rfl, ?_⟩
      generalize upd H p (.dK (penRows c (a + 1) l)) = H1 at pn b1 ⊢
      have g1 := fun k => pn.get k
      -- if pen['cells'] != []
      refine ⟨.ref p, rfl, p, .ref c, rfl, g1 kCells, Nat.zero_le _, fun o no => ?_⟩
      have so := same_upd (o := HO.lst []) no
      refine ⟨.list (ns.map PyData.int), .list [], .lst (.inl (.inl (so _ _ pn.cells))) (ints_dp ns), .lst (.inl (.inl upd_same)) .nil, ints_shaped ns, ints_shaped [], !ns.isEmpty, by rw [ints_eqv], ?_⟩
      generalize upd H1 o (.lst []) = H2 at so ⊢
      have s2 : Same H1 H2 := so
      have pn2 := pn.same s2
      have b2 : SameBut p H H2 := b1.trans (Same.but s2 p)
      have tail : ∀ (cell : Int), tTail K { nx := fun _ H' => Q .non H', rt := Q } [some (.ref p), some (.int m), none, some (.int a), some (.int cell), none] H2 := fun cell =>
        tail_ok pn2 hl hm0 (by omega) ha ha2 fun H3 e l' b3 pe hl' => q H3 (e % m) (a + 1) l' (b2.trans b3) pe (by omega) (Int.le_refl _) hl' (Int.emod_nonneg _ (by omega)) (Int.emod_lt_of_pos _ hm0)
      cases hne : ns.isEmpty with
      | true => exact iteF (tail _)
      | false =>
        have hpos : 0 < ns.length := by
          cases ns with
          | nil => cases hne
          | cons _ _ => exact Nat.succ_pos _
        have hlen : ((ns.map V.int).length : Int) = (ns.length : Int) := by rw [List.length_map]
        have e0 := Int.emod_nonneg a (show ((ns.map V.int).length : Int) ≠ 0 by omega)
        have e1 := Int.emod_lt_of_pos a (show (0 : Int) < ((ns.map V.int).length : Int) by omega)
        obtain ⟨j, hj⟩ := Int.eq_ofNat_of_zero_le e0
        have lj : j < ns.length := by omega
        have gj : atI (ns.map V.int) (a % ((ns.map V.int).length : Int)) = some (.int ns[j]) := by
          rw [hj]
          refine atN ?_
          rw [List.getElem?_map, List.getElem?_eq_getElem lj]
          rfl
        refine iteT ⟨.ref p, rfl, p, .ref c, rfl, pn2.get kCells, .int a, rfl, .inl ⟨a, rfl, .ref p, rfl, p, .ref c, rfl, pn2.get kCells, c, _, rfl, .inl (.inl (.inl pn2.cells)), a, _, rfl, rfl, by omega, c, _, _, _, rfl, rfl, .inl (.inl pn2.cells), gj, ?_⟩⟩
        exact tail _
end
end KF
end L2
/-! ### KQ -/
namespace L2
namespace KF
open PySem PySem.Spec PyProof.Rows PySem.KD KE KC PySem.KA
/-! ## how great the drawn things are -/
def szB : Nat → Nat
  | 0 => 1
  | n + 1 => 3 * szB n + 1
def lnB : Nat → Nat
  | 0 => 402
  | n + 1 => 3 * (lnB n + 24) + 3
/-- a drawn thing of n levels -/
structure Thing (n : Nat) (d : PyData) : Prop where
  show_ : d.showable = true
  depth : d.depth ≤ n + 1
  sz : sz d ≤ szB n
  len : d.shown.length ≤ lnB n
/-- a key of such a dict -/
structure KeyD (d : PyData) : Prop where
  show_ : d.showable = true
  depth : d.depth ≤ 1
  len : d.shown.length ≤ 20
theorem szB_mono (n : Nat) : szB n ≤ szB (n + 1) := by
  show szB n ≤ 3 * szB n + 1
  omega
theorem lnB_mono (n : Nat) : lnB n ≤ lnB (n + 1) := by
  show lnB n ≤ 3 * (lnB n + 24) + 3
  omega
theorem Thing.up {n : Nat} {d : PyData} (t : Thing n d) : Thing (n + 1) d := ⟨t.show_, by have := t.depth; omega, Nat.le_trans t.sz (szB_mono n), Nat.le_trans t.len (lnB_mono n)⟩
theorem things_all {n : Nat} : ∀ {ds : List PyData}, (∀ d ∈ ds, Thing n d) → PyData.showableAll ds = true ∧ PyData.depthAll ds ≤ n + 1 ∧ szAll ds ≤ ds.length * szB n ∧ ((PyData.shownAll ds).map (·.length)).sum ≤ ds.length * lnB n ∧ (PyData.shownAll ds).length = ds.length
  | [], _ => ⟨by simp only [PyData.showableAll], by simp only [PyData.depthAll]; omega, by simp only [szAll]; omega, by simp only [PyData.shownAll]; simp, by simp only [PyData.shownAll]; rfl⟩
  | d :: ds, h => by
    obtain ⟨h1, h2, h3, h4, h5⟩ := things_all (ds := ds) fun x hx => h x (List.mem_cons_of_mem _ hx)
    have t := h d List.mem_cons_self
    have e : (ds.length + 1) * szB n = ds.length * szB n + szB n := Nat.succ_mul _ _
    have e2 : (ds.length + 1) * lnB n = ds.length * lnB n + lnB n := Nat.succ_mul _ _
    have t1 := t.sz
    have t2 := t.len
    have t3 := t.depth
    refine ⟨by simp only [PyData.showableAll, t.show_, h1, Bool.and_self], by simp only [PyData.depthAll]; omega, by simp only [szAll, List.length_cons]; omega, ?_, by simp only [PyData.shownAll, List.length_cons, h5]⟩
    simp only [PyData.shownAll, List.map_cons, List.sum_cons, List.length_cons]
    omega
theorem mul3 {a b : Nat} (h : a ≤ 3) : a * b ≤ 3 * b := Nat.mul_le_mul_right _ h
theorem Thing.list {n : Nat} {ds : List PyData} (h : ∀ d ∈ ds, Thing n d) (l : ds.length ≤ 3) : Thing (n + 1) (.list ds) := by
  obtain ⟨h1, h2, h3, h4, h5⟩ := things_all h
  have z := listText_len_le (PyData.shownAll ds)
  have m1 := mul3 (b := szB n) l
  have m2 := mul3 (b := lnB n) l
  refine ⟨by simp only [PyData.showable, h1], by simp only [PyData.depth]; omega, ?_, ?_⟩
  · simp only [L2.KF.sz]
    show _ ≤ 3 * szB n + 1
    omega
  · simp only [PyData.shown]
    show _ ≤ 3 * (lnB n + 24) + 3
    omega
theorem Thing.tuple {n : Nat} {ds : List PyData} (h : ∀ d ∈ ds, Thing n d) (l : ds.length ≤ 3) : Thing (n + 1) (.tuple ds) := by
  obtain ⟨h1, h2, h3, h4, h5⟩ := things_all h
  have z := tupleText_len_le (PyData.shownAll ds)
  have m1 := mul3 (b := szB n) l
  have m2 := mul3 (b := lnB n) l
  refine ⟨by simp only [PyData.showable, h1], by simp only [PyData.depth]; omega, ?_, ?_⟩
  · simp only [L2.KF.sz]
    show _ ≤ 3 * szB n + 1
    omega
  · simp only [PyData.shown]
    show _ ≤ 3 * (lnB n + 24) + 3
    omega
theorem rows_all {n : Nat} : ∀ {kvs : List (PyData × PyData)}, (∀ p ∈ kvs, KeyD p.1 ∧ Thing n p.2) → PyData.showableKv kvs = true ∧ PyData.depthKv kvs ≤ n + 1 ∧ szKv kvs ≤ kvs.length * szB n ∧ ((PyData.shownKv kvs).map (·.length)).sum ≤ kvs.length * (lnB n + 22)
  | [], _ => ⟨by simp only [PyData.showableKv], by simp only [PyData.depthKv]; omega, by simp only [szKv]; omega, by simp only [PyData.shownKv]; simp⟩
  | (k, v) :: r, h => by
    obtain ⟨h1, h2, h3, h4⟩ := rows_all (kvs := r) fun x hx => h x (List.mem_cons_of_mem _ hx)
    obtain ⟨kd, t⟩ := h (k, v) List.mem_cons_self
    have e : (r.length + 1) * szB n = r.length * szB n + szB n := Nat.succ_mul _ _
    have e2 : (r.length + 1) * (lnB n + 22) = r.length * (lnB n + 22) + (lnB n + 22) := Nat.succ_mul _ _
    have t1 : sz v ≤ szB n := t.sz
    have t2 : v.shown.length ≤ lnB n := t.len
    have t3 : v.depth ≤ n + 1 := t.depth
    have t4 : k.shown.length ≤ 20 := kd.len
    have t5 : k.depth ≤ 1 := kd.depth
    have t6 : k.showable = true := kd.show_
    have t7 : v.showable = true := t.show_
    refine ⟨by simp only [PyData.showableKv, t6, t7, h1, Bool.and_self], by simp only [PyData.depthKv]; omega, by simp only [szKv, List.length_cons]; omega, ?_⟩
    have e3 : (k.shown ++ ": " ++ v.shown).length = k.shown.length + 2 + v.shown.length := by
      rw [strLen_append, strLen_append]
      rfl
    simp only [PyData.shownKv, List.map_cons, List.sum_cons, List.length_cons]
    rw [e3]
    omega
theorem Thing.dict {n : Nat} {kvs : List (PyData × PyData)} (h : ∀ p ∈ kvs, KeyD p.1 ∧ Thing n p.2) (l : kvs.length ≤ 3) : Thing (n + 1) (.dict kvs) := by
  obtain ⟨h1, h2, h3, h4⟩ := rows_all h
  have z := dictText_len_le (PyData.shownKv kvs)
  have e := PyData.shownKv_length kvs
  have m1 := mul3 (b := szB n) l
  have m2 := mul3 (b := lnB n + 22) l
  refine ⟨by simp only [PyData.showable, h1], by simp only [PyData.depth]; omega, ?_, ?_⟩
  · simp only [L2.KF.sz]
    show _ ≤ 3 * szB n + 1
    omega
  · simp only [PyData.shown]
    show _ ≤ 3 * (lnB n + 24) + 3
    omega
theorem thing_none : Thing 0 .none := ⟨by decide +kernel, by decide +kernel, by decide +kernel, by decide +kernel⟩
theorem thing_bool (b : Bool) : Thing 0 (.bool b) := by cases b <;> exact ⟨by decide +kernel, by decide +kernel, by decide +kernel, by decide +kernel⟩
theorem thing_int {i : Int} (h : i.natAbs < 10 ^ 12) : Thing 0 (.int i) := by
  refine ⟨?_, by simp only [PyData.depth]; omega, by simp only [L2.KF.sz]; decide, Nat.le_trans (PyData.shown_int_le h) (by decide)⟩
  simp only [PyData.showable]
  refine decide_eq_true (Nat.lt_of_le_of_lt (m := 40) ?_ (by decide))
  by_cases z : i.natAbs = 0
  · rw [z]
    decide
  · exact Nat.le_of_lt ((Nat.log2_lt z).mpr (Nat.lt_of_lt_of_le h (by decide)))
theorem thing_nines : Thing 0 (.int (10 ^ 400 - 1)) := ⟨by decide +kernel, by decide +kernel, by decide +kernel, by decide +kernel⟩
theorem thing_word {x : Str} (h : x ∈ ([("" : Str), "main", "a b", "{}"])) : Thing 0 (.str x) := by
  have e : ∀ y ∈ ([("" : Str), "main", "a b", "{}"]), (PyData.str y).showable = true ∧ (PyData.str y).depth ≤ 0 + 1 ∧ sz (.str y) ≤ szB 0 ∧ (PyData.str y).shown.length ≤ lnB 0 := by decide +kernel
  obtain ⟨h1, h2, h3, h4⟩ := e x h
  exact ⟨h1, h2, h3, h4⟩
/-! ## '9' * 400 -/
def nines : Str := ⟨(List.replicate 400 (Str.ofString "9").cps).foldl (· ++ ·) #[]⟩
theorem nines_int : intText? nines = some (10 ^ 400 - 1) := by decide +kernel
theorem nines_len : nines.length ≤ 640 := by decide +kernel
theorem op_nines {X : Cx} : OpR X (binaryOp .Mult) (fun x y H Q => x = .str "9" ∧ y = .int 400 ∧ Q (.str nines) H) := by
  intro pins s σ H x y v u Q I rx ry h
  obtain ⟨rfl, rfl, q⟩ := h
  obtain ⟨t, rfl⟩ := rx
  obtain ⟨t', rfl⟩ := ry
  refine PySem.P.mul_str (by decide) (fun _ _ => by decide +kernel) (fun _ _ => by decide +kernel) ?_
  rw [if_neg (by decide), if_neg (by decide +kernel)]
  exact ⟨Nat.le_trans nines_len (by decide), .str nines, H, I.tok _, ⟨_, rfl⟩, q⟩
/-! ## _law_pick -/
section
variable {P : Program} {w : World} {K : PySem.W.Frag} {mg : Str → Option Value} {base : Heap}
def spPick (K : PySem.W.Frag) : Sp := fun vs H Q _ => ∃ (p c b : Addr) (ns : List Int) (a l : Int) (xs : List V), vs = [.ref p, .ref b] ∧ PenAt H p c ns a l ∧ ns.length ≤ 63 ∧ 0 ≤ a ∧ a ≤ 1000000 ∧ 0 ≤ l ∧ H b = some (.lst xs) ∧ 1 ≤ xs.length ∧ xs.length ≤ 100 ∧
  ∀ H' x a' l', SameBut p H H' → PenAt H' p c ns a' l' → a ≤ a' → a' ≤ a + 1 → 0 ≤ l' → x ∈ xs → Q x H'
theorem ok_pick {f fD : Addr} {fd fdD : FuncData} (F : Fun K "_law_pick" "_law_pick" sPick f fd) (FD : Fun K "_law_draw" "_law_draw" sDraw fD fdD) (gD : mg "_law_draw" = some (.ref fD)) (bD : Binds K fdD ["_law_pen_here", "_law_many"] []) (B : BltD mg) :
    FnOk P w K mg base CX0 2 f fd ["_law_pen_here", "_law_items"] (spPick K) := by
  have GD : FnOk P w K mg base CX0 1 fD fdD ["_law_pen_here", "_law_many"] spDraw := ok_draw FD B
  refine F.ok scPick (fun vs H Q E h => ?_) (fun cdv A outer s H vs Q E hr h => ?_)
  · obtain ⟨p, c, b, ns, a, l, xs, rfl, _⟩ := h
    rfl
  · obtain ⟨p, c, b, ns, a, l, xs, rfl, pen, hns, ha, ha2, hl, hb, h1, h2, q⟩ := h
    refine ⟨_, pss_one (ps_ret (pe_ix ix_list (pv 1) (pe_call GD hr (by rfl) gD FD.kp bD .nil pass0 (pa_cons (pv 0) (pa_cons (pe_callB call_len_seq (by rfl) B.len PySem.boot_len (pa_cons (pv 1) pa_nil)) pa_nil))) (fun _ _ => rfl))), ?_⟩
    refine ⟨.ref b, rfl, .ref p, rfl, .ref b, rfl, b, xs, rfl, .inl (.inl (.inl hb)), p, c, ns, a, l, _, rfl, pen, hns, ha, ha2, hl, by omega, by omega, fun H' d a' l' sb pen' h3 h4 h5 h6 h7 => ?_⟩
    have nb : b ≠ p := fun z => by
      have e := pen.row
      rw [← z, hb] at e
      cases e
    have eb : H' b = some (.lst xs) := sb b _ nb hb
    obtain ⟨j, rfl⟩ := Int.eq_ofNat_of_zero_le h6
    have lj : j < xs.length := by omega
    refine ⟨b, xs, _, xs[j], rfl, rfl, .inl (.inl eb), atN (List.getElem?_eq_getElem lj), ?_⟩
    exact q H' _ a' l' sb pen' h3 h4 h5 (List.getElem_mem lj)
end
end KF
end L2
/-! ### KR -/
namespace L2
namespace KF
open PySem PySem.Spec PyProof.Rows PySem.KD KE KC PySem.KA
/-! ## dicts drawn -/
/-- tuples stay -/
def TupK (H H' : Hp) : Prop := ∀ a xs, H a = some (.tup xs) → H' a = some (.tup xs)
theorem TupK.keep0 {H H' : Hp} (t : TupK H H') : Keep [] H H' := ⟨fun a h => (nomatch h), t⟩
/-- a pair of the list that dict(..) takes -/
def KRow (w : World) (H : Hp) (t : Addr) (p : MRow) : Prop := H t = some (.tup [p.2.1, p.2.2]) ∧ kAt H p.1 p.2.1 ∧ ∃ kd, Rep w H p.2.1 kd [] ∧ KeyD kd
theorem KRow.mono {w : World} {H H' : Hp} {t : Addr} {p : MRow} (k : KRow w H t p) (h : TupK H H') : KRow w H' t p := by
  obtain ⟨h1, h2, kd, h3, h4⟩ := k
  exact ⟨h _ _ h1, h2.mono h, kd, h3.keep h.keep0, h4⟩
/-- items whose lists and dicts are apart, all in S -/
def RepN (w : World) (H : Hp) (vs : List V) (ds : List PyData) (S : Addr → Prop) : Prop := ∃ f, RepAll w H vs ds f ∧ f.Nodup ∧ ∀ a ∈ f, S a
theorem RepN.nil {w : World} {H : Hp} {S : Addr → Prop} : RepN w H [] [] S := ⟨[], .nil, List.nodup_nil, fun _ h => nomatch h⟩
theorem RepN.weak {w : World} {H : Hp} {vs : List V} {ds : List PyData} {S T : Addr → Prop} (r : RepN w H vs ds S) (h : ∀ a, S a → T a) : RepN w H vs ds T := by
  obtain ⟨f, r1, r2, r3⟩ := r
  exact ⟨f, r1, r2, fun a ha => h a (r3 a ha)⟩
theorem RepN.cons {w : World} {H : Hp} {v : V} {d : PyData} {f : List Addr} {vs : List V} {ds : List PyData} {S : Addr → Prop} (r : Rep w H v d f) (nf : f.Nodup) (rs : RepN w H vs ds S) (dj : ∀ a ∈ f, ¬ S a) : RepN w H (v :: vs) (d :: ds) fun a => S a ∨ a ∈ f := by
  obtain ⟨g, r1, r2, r3⟩ := rs
  refine ⟨f ++ g, .cons r r1, List.nodup_append.mpr ⟨nf, r2, fun a ha b hb e => ?_⟩, fun a ha => ?_⟩
  · subst e
    exact dj a ha (r3 a hb)
  · rcases List.mem_append.mp ha with h | h
    · exact .inr h
    · exact .inl (r3 a h)
theorem repAll_snoc {w : World} {H : Hp} : ∀ {vs : List V} {ds : List PyData} {f : List Addr} {v : V} {d : PyData} {g : List Addr}, RepAll w H vs ds f → Rep w H v d g → RepAll w H (vs ++ [v]) (ds ++ [d]) (f ++ g)
  | _, _, _, v, d, g, .nil, r => by
    have z : RepAll w H [v] [d] (g ++ []) := .cons r .nil
    rw [List.append_nil] at z
    exact z
  | _, _, _, v, d, g, .cons (f1 := f1) (f2 := f2) h t, r => by
    rw [List.append_assoc]
    exact .cons h (repAll_snoc t r)
theorem RepN.snoc {w : World} {H : Hp} {v : V} {d : PyData} {f : List Addr} {vs : List V} {ds : List PyData} {S : Addr → Prop} (rs : RepN w H vs ds S) (r : Rep w H v d f) (nf : f.Nodup) (dj : ∀ a ∈ f, ¬ S a) : RepN w H (vs ++ [v]) (ds ++ [d]) fun a => S a ∨ a ∈ f := by
  obtain ⟨g, r1, r2, r3⟩ := rs
  refine ⟨g ++ f, repAll_snoc r1 r, List.nodup_append.mpr ⟨r2, nf, fun a ha b hb e => ?_⟩, fun a ha => ?_⟩
  · subst e
    exact dj a hb (r3 a ha)
  · rcases List.mem_append.mp ha with h | h
    · exact .inl (r3 a h)
    · exact .inr h
/-- one of them exchanged -/
theorem repAll_set {w : World} {H : Hp} {v : V} {d : PyData} {g : List Addr} (r : Rep w H v d g) : ∀ {vs : List V} {ds : List PyData} {f : List Addr} (j : Nat), RepAll w H vs ds f → j < vs.length → f.Nodup → g.Nodup → (∀ a ∈ g, a ∉ f) →
    ∃ f', RepAll w H (vs.set j v) (ds.set j d) f' ∧ f'.Nodup ∧ ∀ a ∈ f', a ∈ f ∨ a ∈ g
  | _, _, _, j, .nil, h, _, _, _ => absurd h (Nat.not_lt_zero _)
  | _, _, _, 0, .cons (f1 := f1) (f2 := f2) h t, _, nf, ng, dj => by
    obtain ⟨n1, n2, n3⟩ := nodup_app nf
    refine ⟨g ++ f2, .cons r t, List.nodup_append.mpr ⟨ng, n2, fun a ha b hb e => ?_⟩, fun a ha => ?_⟩
    · subst e
      exact dj a ha (List.mem_append_right _ hb)
    · rcases List.mem_append.mp ha with h | h
      · exact .inr h
      · exact .inl (List.mem_append_right _ h)
  | _, _, _, j + 1, .cons (f1 := f1) (f2 := f2) h t, hj, nf, ng, dj => by
    obtain ⟨n1, n2, n3⟩ := nodup_app nf
    obtain ⟨f', r1, r2, r3⟩ := repAll_set r j t (Nat.lt_of_succ_lt_succ hj) n2 ng fun a ha z => dj a ha (List.mem_append_right _ z)
    refine ⟨f1 ++ f', .cons h r1, List.nodup_append.mpr ⟨n1, r2, fun a ha b hb e => ?_⟩, fun a ha => ?_⟩
    · subst e
      rcases r3 a hb with z | z
      · exact n3 a z ha
      · exact dj a z (List.mem_append_left _ ha)
    · rcases List.mem_append.mp ha with h | h
      · exact .inl (List.mem_append_left _ h)
      · rcases r3 a h with z | z
        · exact .inl (List.mem_append_right _ z)
        · exact .inr z
theorem put_set {k : NestedKey} {key v : V} : ∀ {xs : List MRow}, (xs.map (·.1)).Nodup → k ∈ xs.map (·.1) → ∃ j p, xs[j]? = some p ∧ p.1 = k ∧ putH xs k key v = xs.set j (p.1, p.2.1, v) := by
  intro xs nd hk
  have any : xs.any (fun r => NestedKey.beq r.1 k) = true := by
    obtain ⟨r, hr, e⟩ := List.mem_map.mp hk
    exact List.any_eq_true.mpr ⟨r, hr, (beq_iff _ _).mpr e⟩
  unfold putH
  rw [if_pos any]
  clear any
  induction xs with
  | nil => cases hk
  | cons x xs ih =>
    obtain ⟨n1, n2⟩ := List.nodup_cons.mp nd
    by_cases e : x.1 = k
    · refine ⟨0, x, rfl, e, ?_⟩
      rw [List.map_cons, if_pos ((beq_iff _ _).mpr e), List.set_cons_zero]
      congr 1
      have z : xs.map (fun r => if NestedKey.beq r.1 k = true then (r.1, r.2.1, v) else r) = xs.map id := by
        refine List.map_congr_left fun r hr => ?_
        rw [if_neg]
        · rfl
        · intro z
          exact n1 (List.mem_map.mpr ⟨r, hr, ((beq_iff _ _).mp z).trans e.symm⟩)
      rw [z, List.map_id]
    · have hk2 : k ∈ xs.map (·.1) := by
        rcases List.mem_cons.mp hk with z | z
        · exact absurd z.symm e
        · exact z
      obtain ⟨j, p, h1, h2, h3⟩ := ih n2 hk2
      refine ⟨j + 1, p, h1, h2, ?_⟩
      rw [List.map_cons, if_neg (fun z => e ((beq_iff _ _).mp z)), h3, List.set_cons_succ]
theorem map_set_same {α β : Type} {l : List α} {g : α → β} {y b : α} {j : Nat} (h : l[j]? = some y) (e : g b = g y) : (l.set j b).map g = l.map g := by
  refine List.ext_getElem? fun i => ?_
  rw [List.getElem?_map, List.getElem?_map]
  by_cases hi : i = j
  · subst hi
    rw [List.getElem?_set_self (List.getElem?_eq_some_iff.mp h).1, h]
    exact congrArg some e
  · rw [List.getElem?_set_ne (Ne.symm hi)]
/-- a dict's rows, as they are merged -/
structure DSt (w : World) (n : Nat) (H : Hp) (xs : List MRow) (kvs : List (PyData × PyData)) (S : Addr → Prop) : Prop where
  ka : KAll H xs
  nd : (xs.map (·.1)).Nodup
  rk : RepAll w H (xs.map fun r => r.2.1) (kvs.map (·.1)) []
  rv : RepN w H (xs.map fun r => r.2.2) (kvs.map (·.2)) S
  good : ∀ p ∈ kvs, KeyD p.1 ∧ Thing n p.2
theorem DSt.put {w : World} {n : Nat} {H : Hp} {xs : List MRow} {kvs : List (PyData × PyData)} {S : Addr → Prop} {k : NestedKey} {key v : V} {kd d : PyData} {f : List Addr} (D : DSt w n H xs kvs S) (hk : kAt H k key) (rk : Rep w H key kd []) (kD : KeyD kd)
    (r : Rep w H v d f) (nf : f.Nodup) (t : Thing n d) (dj : ∀ a ∈ f, ¬ S a) : ∃ kvs', DSt w n H (putH xs k key v) kvs' (fun a => S a ∨ a ∈ f) ∧ kvs'.length ≤ kvs.length + 1 := by
  have lx : xs.length = kvs.length := by
    have z := D.rk.length
    rw [List.length_map, List.length_map] at z
    exact z
  by_cases hm : k ∈ xs.map (·.1)
  · obtain ⟨j, p, h1, h2, h3⟩ := put_set (key := key) (v := v) D.nd hm
    have lj := (List.getElem?_eq_some_iff.mp h1).1
    obtain ⟨q, hq⟩ : ∃ q, kvs[j]? = some q := ⟨kvs[j]'(by omega), List.getElem?_eq_getElem _⟩
    rw [h3]
    refine ⟨kvs.set j (q.1, d), ⟨fun x hx => ?_, ?_, ?_, ?_, fun x hx => ?_⟩, by rw [List.length_set]; exact Nat.le_succ _⟩
    · rcases List.mem_or_eq_of_mem_set hx with z | z
      · exact D.ka x z
      · subst z
        exact D.ka p (List.mem_of_getElem? h1)
    · rw [map_set_same (b := (p.1, p.2.1, v)) h1 rfl]
      exact D.nd
    · rw [map_set_same (b := (p.1, p.2.1, v)) h1 rfl, map_set_same (b := (q.1, d)) hq rfl]
      exact D.rk
    · obtain ⟨g, r1, r2, r3⟩ := D.rv
      obtain ⟨f', s1, s2, s3⟩ := repAll_set r j r1 (by rw [List.length_map]; exact lj) r2 nf fun a ha z => dj a ha (r3 a z)
      rw [List.map_set, List.map_set]
      exact ⟨f', s1, s2, fun a ha => (s3 a ha).elim (fun z => .inl (r3 a z)) .inr⟩
    · rcases List.mem_or_eq_of_mem_set hx with z | z
      · exact D.good x z
      · subst z
        exact ⟨(D.good q (List.mem_of_getElem? hq)).1, t⟩
  · rw [put_fresh hm]
    refine ⟨kvs ++ [(kd, d)], ⟨?_, ?_, ?_, ?_, ?_⟩, by rw [List.length_append]; exact Nat.le_refl _⟩
    · intro x hx
      rcases List.mem_append.mp hx with z | z
      · exact D.ka x z
      · obtain rfl := List.mem_singleton.mp z
        exact hk
    · rw [List.map_append]
      exact List.nodup_append.mpr ⟨D.nd, by simp, fun a ha b hb e => by
        obtain rfl := List.mem_singleton.mp hb
        exact hm (e ▸ ha)⟩
    · rw [List.map_append, List.map_append]
      exact repAll_snoc D.rk rk
    · rw [List.map_append, List.map_append]
      exact D.rv.snoc r nf dj
    · intro x hx
      rcases List.mem_append.mp hx with z | z
      · exact D.good x z
      · obtain rfl := List.mem_singleton.mp z
        exact ⟨kD, t⟩
/-- all pairs merged -/
theorem merge_st {w : World} {n : Nat} {H : Hp} : ∀ {ts : List Addr} {ps : List MRow} {vs : List V} {ds : List PyData} {f : List Addr} {xs : List MRow} {kvs : List (PyData × PyData)} {S : Addr → Prop}, Paired (KRow w H) ts ps → ps.map (fun p => p.2.2) = vs → RepAll w H vs ds f → f.Nodup → (∀ d ∈ ds, Thing n d) →
    (∀ a ∈ f, ¬ S a) → DSt w n H xs kvs S → ∃ kvs', DSt w n H (mergeH xs ps) kvs' (fun a => S a ∨ a ∈ f) ∧ kvs'.length ≤ kvs.length + ps.length
  | _, _, _, _, _, xs, kvs, S, .nil, e, ra, nf, ht, dj, D => by
    cases e
    cases ra
    exact ⟨kvs, ⟨D.ka, D.nd, D.rk, D.rv.weak fun a h => .inl h, D.good⟩, Nat.le_refl _⟩
  | _, _, _, _, _, xs, kvs, S, .cons (a := t) (b := p) h hr, e, ra, nf, ht, dj, D => by
    cases ra with
    | nil => cases e
    | @cons v d vs ds f1 f2 r rs =>
      have e1 : p.2.2 = v := (List.cons.inj e).1
      have e2 := (List.cons.inj e).2
      obtain ⟨n1, n2, n3⟩ := nodup_app nf
      obtain ⟨h1, h2, kd, h3, h4⟩ := h
      obtain ⟨kvs1, D1, l1⟩ := D.put (v := p.2.2) h2 h3 h4 (e1 ▸ r) n1 (ht d List.mem_cons_self) fun a ha => dj a (List.mem_append_left _ ha)
      obtain ⟨kvs2, D2, l2⟩ := merge_st hr e2 rs n2 (fun x hx => ht x (List.mem_cons_of_mem _ hx)) (fun a ha z => z.elim (fun y => dj a (List.mem_append_right _ ha) y) fun y => n3 a ha y) D1
      refine ⟨kvs2, ⟨D2.ka, D2.nd, D2.rk, D2.rv.weak fun a z => ?_, D2.good⟩, by rw [List.length_cons]; omega⟩
      rcases z with (z | z) | z
      · exact .inl z
      · exact .inr (List.mem_append_left _ z)
      · exact .inr (List.mem_append_right _ z)
end KF
end L2
/-! ### KS -/
namespace L2
namespace KF
open PySem PySem.Spec PyProof.Rows PySem.KD KE KC PySem.KA
/-! ## _law_any -/
abbrev sAny : Stmt := topS 35
abbrev anN : List Str := ["_law_pen_here", "_law_deep", "_law_sort", "_law_rows", "_law_k"]
theorem scAny : FnScope anN ["_law_pen_here", "_law_deep"] (defScope sAny) := ⟨rfl, rfl, rfl, by decide +kernel, rfl, by decide +kernel, by decide +kernel⟩
def cost : Nat → Int
  | 0 => 3
  | n + 1 => 3 * cost n + 5
theorem cost_pos : ∀ n, 3 ≤ cost n
  | 0 => Int.le_refl _
  | n + 1 => by
    have := cost_pos n
    show 3 ≤ 3 * cost n + 5
    omega
theorem rep_but {w : World} {p : Addr} {H H' : Hp} {rows : List (Key × V)} {vs : List V} {ds : List PyData} {f : List Addr} (sb : SameBut p H H') (hp : H p = some (.dK rows)) (r : RepAll w H vs ds f) (nf : ∀ a ∈ f, a ≠ p) : RepAll w H' vs ds f := by
  refine r.keep ⟨fun a ha => ?_, fun a xs e => sb a _ (fun z => ?_) e⟩
  · cases e : H a with
    | none => exact absurd e (r.dom a ha)
    | some o => exact sb a o (nf a ha) e
  · rw [z, hp] at e
    cases e
theorem rep_updL {w : World} {D : Addr} {H : Hp} {xs : List V} {o : HO} {vs : List V} {ds : List PyData} {f : List Addr} (hD : H D = some (.lst xs)) (r : RepAll w H vs ds f) (nf : ∀ a ∈ f, a ≠ D) : RepAll w (upd H D o) vs ds f := by
  refine r.keep ⟨fun a ha => upd_ne (nf a ha), fun a ys e => ?_⟩
  have na : a ≠ D := fun z => by
    rw [z, hD] at e
    cases e
  rw [upd_ne na]
  exact e
theorem tup_but {p : Addr} {H H' : Hp} {rows : List (Key × V)} (sb : SameBut p H H') (hp : H p = some (.dK rows)) : TupK H H' := fun a xs e => sb a _ (fun z => by
  rw [z, hp] at e
  cases e) e
theorem tup_same {H H' : Hp} (s : Same H H') : TupK H H' := fun a xs e => s a _ e
theorem tup_updL {D : Addr} {H : Hp} {xs : List V} {o : HO} (hD : H D = some (.lst xs)) : TupK H (upd H D o) := fun a ys e => by
  have na : a ≠ D := fun z => by
    rw [z, hD] at e
    cases e
  rw [upd_ne na]
  exact e
theorem TupK.trans {H H1 H2 : Hp} (a : TupK H H1) (b : TupK H1 H2) : TupK H H2 := fun c xs e => b c xs (a c xs e)
/-- the small things -/
abbrev words : List V := [.str "", .str "main", .str "a b", .str "{}"]
abbrev tSmall (K : PySem.W.Frag) : TE := tOp (rIxL K) (tLst (tCons (tC .non) (tCons (tC (.bl true)) (tCons (tSub (tCall spDraw [] E0 (tCons (tVar 0) (tCons (tC (.int 9)) tNil))) (tC (.int 4)))
  (tCons (tCB (fun xs H Q => ∃ a n, xs = [.str a] ∧ PySem.intText? a = some n ∧ a.length ≤ 640 ∧ Q (.int n) H) (tCons (tOp (fun x y H Q => x = .str "9" ∧ y = .int 400 ∧ Q (.str nines) H) (tC (.str "9")) (tC (.int 400))) tNil))
  (tCons (tCall (spPick K) [] E0 (tCons (tVar 0) (tCons (tLst (tCons (tC (.str "")) (tCons (tC (.str "main")) (tCons (tC (.str "a b")) (tCons (tC (.str "{}")) tNil))))) tNil))) tNil)))))) (tVar 2)
theorem small_ok {K : PySem.W.Frag} {w : World} {p c : Addr} {ns : List Int} {a l d : Int} {x1 x3 x4 : Option V} {H : Hp} {Q : VK} (pen : PenAt H p c ns a l) (hns : ns.length ≤ 63) (ha : 0 ≤ a) (ha2 : a + 2 ≤ 1000000) (hl : 0 ≤ l) (hd0 : 0 ≤ d) (hd5 : d < 5)
    (q : ∀ H' v dd a' l', SameBut p H H' → PenAt H' p c ns a' l' → a ≤ a' → a' ≤ a + 2 → 0 ≤ l' → Thing 0 dd → Rep w H' v dd [] → Q v H') : tSmall K [some (.ref p), x1, some (.int d), x3, x4] H Q := by
  refine ⟨.ref p, rfl, p, c, ns, a, l, 9, rfl, pen, hns, ha, by omega, hl, by decide, by decide, fun H1 d1 a1 l1 sb1 pen1 h1 h2 h3 h4 h5 => ?_⟩
  refine ⟨d1, 4, rfl, rfl, rfl, rfl, nines, _, rfl, nines_int, nines_len, ?_⟩
  refine ⟨.ref p, rfl, by show 4 ≤ sizeLine; decide, fun b nb => ?_⟩
  have s2 := same_upd (o := HO.lst words) nb
  refine ⟨p, c, b, ns, a1, l1, words, rfl, pen1.same s2, hns, by omega, by omega, h3, upd_same, by decide, by decide, fun H3 x a3 l3 sb3 pen3 i1 i2 i3 hx => ?_⟩
  refine ⟨by show 5 ≤ sizeLine; decide, fun t nt => ⟨.int d, rfl, ?_⟩⟩
  have s4 := same_upd (o := HO.lst [.non, .bl true, .int (d1 - 4), .int (10 ^ 400 - 1), x]) nt
  have sb : SameBut p H (upd H3 t (.lst [.non, .bl true, .int (d1 - 4), .int (10 ^ 400 - 1), x])) := ((sb1.trans (Same.but s2 p)).trans sb3).trans (Same.but s4 p)
  have fin : ∀ {v : V} {dd : PyData}, Thing 0 dd → Rep w (upd H3 t (.lst [.non, .bl true, .int (d1 - 4), .int (10 ^ 400 - 1), x])) v dd [] → Q v (upd H3 t (.lst [.non, .bl true, .int (d1 - 4), .int (10 ^ 400 - 1), x])) := fun {v dd} t1 r1 => q _ v dd a3 l3 sb (pen3.same s4) (by omega) (by omega) i3 t1 r1
  have hsq : SqL K (upd H3 t (.lst [.non, .bl true, .int (d1 - 4), .int (10 ^ 400 - 1), x])) t [.non, .bl true, .int (d1 - 4), .int (10 ^ 400 - 1), x] := .inl (.inl upd_same)
  obtain ⟨j, rfl⟩ := Int.eq_ofNat_of_zero_le hd0
  have hj : j < 5 := by omega
  match j, hj with
  | 0, _ => exact ⟨t, _, _, _, rfl, rfl, hsq, atN (i := 0) rfl, fin thing_none .none⟩
  | 1, _ => exact ⟨t, _, _, _, rfl, rfl, hsq, atN (i := 1) rfl, fin (thing_bool true) (.bool true)⟩
  | 2, _ => exact ⟨t, _, _, _, rfl, rfl, hsq, atN (i := 2) rfl, fin (thing_int (by omega)) (.int _)⟩
  | 3, _ => exact ⟨t, _, _, _, rfl, rfl, hsq, atN (i := 3) rfl, fin thing_nines (.int _)⟩
  | 4, _ =>
    refine ⟨t, _, _, _, rfl, rfl, hsq, atN (i := 4) rfl, ?_⟩
    rcases List.mem_cons.mp hx with rfl | hx
    · exact fin (thing_word (by decide)) (.str _)
    rcases List.mem_cons.mp hx with rfl | hx
    · exact fin (thing_word (by decide)) (.str _)
    rcases List.mem_cons.mp hx with rfl | hx
    · exact fin (thing_word (by decide)) (.str _)
    obtain rfl := List.mem_singleton.mp hx
    exact fin (thing_word (by decide)) (.str _)
def spAny (w : World) (m : Nat) : Sp := fun vs H Q _ => ∃ (p c : Addr) (ns : List Int) (a l : Int) (k : Nat), vs = [.ref p, .int (k : Nat)] ∧ k + 1 = m ∧ PenAt H p c ns a l ∧ ns.length ≤ 63 ∧ 0 ≤ a ∧ a + cost k ≤ 1000000 ∧ 0 ≤ l ∧
  ∀ H' v d fp a' l', SameBut p H H' → PenAt H' p c ns a' l' → a ≤ a' → a' ≤ a + cost k → 0 ≤ l' → Thing k d → Rep w H' v d fp → fp.Nodup → (∀ x ∈ fp, H x = none) → Q v H'
abbrev tRows (w : World) (m : Nat) : TE := tLc (iRng1 (tCons (tCall spDraw [] E0 (tCons (tVar 0) (tCons (tC (.int 4)) tNil))) tNil)) (gName 4) tYes (tCall (spAny w m) [] E0 (tCons (tVar 0) (tCons (tSub (tVar 1) (tC (.int 1))) tNil))) [4]
/-- the rows drawn so far -/
structure RowsSt (w : World) (k : Nat) (p c : Addr) (ns : List Int) (H : Hp) (D : Addr) (a : Int) (i : Nat) (Hi : Hp) : Prop where
  sb : SameBut p H Hi
  ex : ∃ a' l' vs ds f, PenAt Hi p c ns a' l' ∧ a ≤ a' ∧ a' ≤ a + i * cost k ∧ 0 ≤ l' ∧ Hi D = some (.lst vs) ∧ RepAll w Hi vs ds f ∧ f.Nodup ∧ (∀ x ∈ f, H x = none ∧ x ≠ D) ∧ vs.length = i ∧ ∀ d ∈ ds, Thing k d
theorem rows_ok {w : World} {p c : Addr} {ns : List Int} {a l : Int} {k : Nat} {x2 x3 x4 : Option V} {H : Hp} {Q : VK} (pen : PenAt H p c ns a l) (hns : ns.length ≤ 63) (ha : 0 ≤ a) (ha2 : a + 1 + 3 * cost k ≤ 1000000) (hl : 0 ≤ l)
    (q : ∀ H' D vs ds f a' l', SameBut p H H' → PenAt H' p c ns a' l' → a ≤ a' → a' ≤ a + 1 + 3 * cost k → 0 ≤ l' → H' D = some (.lst vs) → H D = none → RepAll w H' vs ds f → f.Nodup → (∀ x ∈ f, H x = none ∧ x ≠ D) → vs.length ≤ 3 → (∀ d ∈ ds, Thing k d) → Q (.ref D) H') :
    tRows w (k + 1) [some (.ref p), some (.int ((k + 1 : Nat) : Int)), x2, x3, x4] H Q := by
  have cp := cost_pos k
  refine ⟨.ref p, rfl, p, c, ns, a, l, 4, rfl, pen, hns, ha, by omega, hl, by decide, by decide, fun H1 r a1 l1 sb1 pen1 h1 h2 h3 h4 h5 => ⟨r, rfl, by omega, by omega, fun D nD => ?_⟩⟩
  obtain ⟨rn, rfl⟩ := Int.eq_ofNat_of_zero_le h4
  have e1 := pen1.row
  have npD : p ≠ D := fun z => by
    rw [← z, e1] at nD
    cases nD
  have fromH : ∀ {x : Addr}, H1 x = none → H x = none := fun {x} hx => by
    cases e : H x with
    | none => rfl
    | some o =>
      have nx : x ≠ p := fun z => by
        rw [z, e1] at hx
        cases hx
      rw [sb1 x o nx e] at hx
      cases hx
  refine lc_range (lo := 0) (n := (Int.ofNat rn).toNat) (fun i Hi => RowsSt w k p c ns H1 D a1 i Hi) ⟨Same.but (same_upd nD) p, a1, l1, [], [], [], pen1.same (same_upd nD), Int.le_refl _, by omega, h3, upd_same, .nil, List.nodup_nil, (fun _ z => nomatch z), rfl, fun _ z => nomatch z⟩ (fun i Hi hi S => ?_) (fun Hi S => ?_)
  · obtain ⟨sb, a', l', vs, ds, f, pn, g1, g2, g3, eD, ra, nf, fr, lv, th⟩ := S
    have hi3 : i < 3 + 1 := by
      have : (Int.ofNat rn).toNat = rn := rfl
      have : (Int.ofNat rn) < 4 := h5
      omega
    have hi2 : i < 3 := by
      have z : (Int.ofNat rn).toNat = rn := rfl
      have z2 : ((rn : Nat) : Int) < 4 := h5
      omega
    have hm : (i : Int) * cost k + cost k ≤ 3 * cost k := by
      match i, hi2 with
      | 0, _ => omega
      | 1, _ => omega
      | 2, _ => omega
    refine ⟨rfl, .ref p, rfl, _, rfl, _, 1, rfl, rfl, p, c, ns, a', l', k, by simp, rfl, pn, hns, by omega, by omega, g3, fun H4 v d fp a4 l4 sb4 pn4 i1 i2 i3 t r nfp frp => ?_⟩
    have eD4 : H4 D = some (.lst vs) := sb4 D _ npD.symm eD
    have nfp2 : ∀ x ∈ f, x ≠ p := fun x hx z => by
      have y := (fr x hx).1
      rw [z, e1] at y
      cases y
    have ra4 := rep_but sb4 pn.row ra nfp2
    have vD : ∀ x ∈ fp, x ≠ D := fun x hx z => by
      have y := frp x hx
      rw [z, eD] at y
      cases y
    have frH : ∀ x ∈ fp, H1 x = none := fun x hx => by
      cases e : H1 x with
      | none => rfl
      | some o =>
        have y := frp x hx
        have nx : x ≠ p := fun z => by
          rw [z, pn.row] at y
          cases y
        rw [sb x o nx e] at y
        cases y
    have raN := repAll_snoc ra4 r
    refine ⟨vs, eD4, small1000 (by omega), fun b o nb z => ?_, a4, l4, vs ++ [v], ds ++ [d], f ++ fp, ⟨?_, ?_⟩, by omega, ?_, i3, upd_same, ?_, ?_, ?_, ?_, ?_⟩
    · rw [upd_ne (ne_of_none z nD)]
      exact sb4 b o nb (sb b o nb z)
    · rw [upd_ne npD]
      exact pn4.row
    · have ncD : c ≠ D := fun z => by
        have y := pen1.cells
        rw [z, nD] at y
        cases y
      rw [upd_ne ncD]
      exact pn4.cells
    · have e2 : ((i + 1 : Nat) : Int) * cost k = (i : Int) * cost k + cost k := by
        rw [Int.natCast_add, Int.add_mul]
        simp
      rw [e2]
      omega
    · refine rep_updL eD4 raN fun x hx => ?_
      rcases List.mem_append.mp hx with z | z
      · exact (fr x z).2
      · exact vD x z
    · refine List.nodup_append.mpr ⟨nf, nfp, fun x hx y hy e => ?_⟩
      subst e
      exact ra.dom x hx (frp x hy)
    · intro x hx
      rcases List.mem_append.mp hx with z | z
      · exact fr x z
      · exact ⟨frH x z, vD x z⟩
    · rw [List.length_append, lv]
      rfl
    · intro x hx
      rcases List.mem_append.mp hx with z | z
      · exact th x z
      · obtain rfl := List.mem_singleton.mp z
        exact t
  · obtain ⟨sb, a', l', vs, ds, f, pn, g1, g2, g3, eD, ra, nf, fr, lv, th⟩ := S
    have z2 : ((rn : Nat) : Int) < 4 := h5
    have z3 : (Int.ofNat rn).toNat = rn := rfl
    have hm : ((Int.ofNat rn).toNat : Int) * cost k ≤ 3 * cost k := by
      rw [z3]
      match rn, (show rn < 4 by omega) with
      | 0, _ => omega
      | 1, _ => omega
      | 2, _ => omega
      | 3, _ => omega
    exact q Hi D vs ds f a' l' (sb1.trans sb) pn (by omega) (by omega) g3 eD (fromH nD) ra nf (fun x hx => ⟨fromH (fr x hx).1, (fr x hx).2⟩) (by omega) th
abbrev tKeys : TE := tLst (tCons (tVar 4) (tCons (tCB (fun xs H Q => ∃ i, xs = [.int i] ∧ i.natAbs.log2 < 1920 ∧ Q (.str (toString i)) H) (tCons (tVar 4) tNil)) (tCons (tTup (tCons (tVar 4) (tCons (tVar 4) tNil))) (tCons (tOp (rI0 fun i j => V.bl (decide (j < i))) (tVar 4) (tC (.int 1))) tNil))))
abbrev tPair (K : PySem.W.Frag) : TE := tTup (tCons (tCall (spPick K) [] E0 (tCons (tVar 0) (tCons tKeys tNil))) (tCons (tOp (rIxL K) (tVar 3) (tVar 4)) tNil))
abbrev tDict (K : PySem.W.Frag) (w : World) : TE := tCB (fun ys H Q => ∃ (a : Addr) (ts : List Addr) (ps : List MRow), ys = [.ref a] ∧ H a = some (.lst (ts.map .ref)) ∧ Paired (fun (t : Addr) (p : MRow) => H t = some (.tup [p.2.1, p.2.2])) ts ps ∧ KAll H ps ∧ ps.length ≤ 900 ∧ ∀ d, H d = none → Q (.ref d) (upd H d (mdo w d (mergeH [] ps))))
  (tCons (tLc (iRng1 (tCons (tCB (fun xs H Q => ∃ p ys, xs = [V.ref p] ∧ (SqL K H p ys ∨ SqT K H p ys) ∧ Q (V.int ys.length) H) (tCons (tVar 3) tNil)) tNil)) (gName 4) tYes (tPair K) [4]) tNil)
theorem paired_right {α β : Type} {R : α → β → Prop} : ∀ {xs : List α} {ys : List β} {y : β}, Paired R xs ys → y ∈ ys → ∃ x, R x y
  | _, _, _, .cons a t, h => by
    rcases List.mem_cons.mp h with rfl | h
    · exact ⟨_, a⟩
    · exact paired_right t h
/-- a key drawn -/
theorem key_ok {w : World} {H : Hp} {T : Addr} {i : Nat} {x : V} (hi : i < 3) (eT : H T = some (.tup [.int (i : Nat), .int (i : Nat)])) (hx : x ∈ [V.int (i : Nat), V.str (toString ((i : Nat) : Int)), V.ref T, V.bl (decide (1 < ((i : Nat) : Int)))]) :
    ∃ nk, kAt H nk x ∧ ∃ kd, Rep w H x kd [] ∧ KeyD kd := by
  rcases List.mem_cons.mp hx with rfl | hx
  · refine ⟨_, rfl, _, .int _, ?_⟩
    match i, hi with
    | 0, _ => exact ⟨by decide +kernel, by decide +kernel, by decide +kernel⟩
    | 1, _ => exact ⟨by decide +kernel, by decide +kernel, by decide +kernel⟩
    | 2, _ => exact ⟨by decide +kernel, by decide +kernel, by decide +kernel⟩
  rcases List.mem_cons.mp hx with rfl | hx
  · refine ⟨_, rfl, _, .str _, ?_⟩
    match i, hi with
    | 0, _ => exact ⟨by decide +kernel, by decide +kernel, by decide +kernel⟩
    | 1, _ => exact ⟨by decide +kernel, by decide +kernel, by decide +kernel⟩
    | 2, _ => exact ⟨by decide +kernel, by decide +kernel, by decide +kernel⟩
  rcases List.mem_cons.mp hx with rfl | hx
  · refine ⟨.tup ([(i : Int), (i : Int)].map .num), ⟨[(i : Int), (i : Int)], rfl, eT⟩, .tuple [.int (i : Nat), .int (i : Nat)], .tup eT (.cons (.int _) (.cons (.int _) .nil)), ?_⟩
    match i, hi with
    | 0, _ => exact ⟨by decide +kernel, by decide +kernel, by decide +kernel⟩
    | 1, _ => exact ⟨by decide +kernel, by decide +kernel, by decide +kernel⟩
    | 2, _ => exact ⟨by decide +kernel, by decide +kernel, by decide +kernel⟩
  obtain rfl := List.mem_singleton.mp hx
  refine ⟨_, rfl, _, .bool _, ?_⟩
  cases decide (1 < ((i : Nat) : Int)) <;> exact ⟨by decide +kernel, by decide +kernel, by decide +kernel⟩
/-- the pairs made so far -/
structure PairSt (w : World) (p c : Addr) (ns : List Int) (H : Hp) (D : Addr) (vs : List V) (a : Int) (i : Nat) (Hi : Hp) : Prop where
  sb : SameBut p H Hi
  ex : ∃ a' l' ts ps, PenAt Hi p c ns a' l' ∧ a ≤ a' ∧ a' ≤ a + i ∧ 0 ≤ l' ∧ Hi D = some (.lst (ts.map V.ref)) ∧ Paired (KRow w Hi) ts ps ∧ ps.map (fun r => r.2.2) = vs.take i ∧ ts.length = i
theorem dict_ok {K : PySem.W.Frag} {w : World} {p c R : Addr} {ns : List Int} {a l : Int} {k : Nat} {x1 x2 x4 : Option V} {H : Hp} {Q : VK} {vs : List V} {ds : List PyData} {f : List Addr} (pen : PenAt H p c ns a l) (hns : ns.length ≤ 63) (ha : 0 ≤ a) (ha2 : a + 3 ≤ 1000000) (hl : 0 ≤ l)
    (eR : H R = some (.lst vs)) (ra : RepAll w H vs ds f) (nfp : ∀ x ∈ f, x ≠ p) (nf : f.Nodup) (lv : vs.length ≤ 3) (th : ∀ d ∈ ds, Thing k d)
    (q : ∀ H' D d g a' l', SameBut p H H' → PenAt H' p c ns a' l' → a ≤ a' → a' ≤ a + 3 → 0 ≤ l' → Thing (k + 1) d → Rep w H' (.ref D) d (D :: g) → (D :: g).Nodup → H D = none → (∀ x ∈ g, x ∈ f) → Q (.ref D) H') :
    tDict K w [some (.ref p), x1, x2, some (.ref R), x4] H Q := by
  have e0 := pen.row
  refine ⟨.ref R, rfl, R, vs, rfl, .inl (.inl (.inl eR)), vs.length, rfl, by omega, by omega, fun D nD => ?_⟩
  have npD : p ≠ D := ne_of_none e0 nD
  have nRD : R ≠ D := ne_of_none eR nD
  have nRp : R ≠ p := fun z => by
    rw [z, e0] at eR
    cases eR
  refine lc_range (lo := 0) (n := (Int.ofNat vs.length).toNat) (fun i Hi => PairSt w p c ns H D vs a i Hi) ⟨Same.but (same_upd nD) p, a, l, [], [], pen.same (same_upd nD), Int.le_refl _, by omega, hl, upd_same, .nil, rfl, rfl⟩ (fun i Hi hi S => ?_) (fun Hi S => ?_)
  · obtain ⟨sb, a', l', ts, ps, pn, g1, g2, g3, eD, pr, pv, lt⟩ := S
    have hi1 : i < vs.length := hi
    have hi3 : i < 3 := by omega
    have es : (0 : Int) + ((i : Nat) : Int) = ((i : Nat) : Int) := Int.zero_add _
    rw [es]
    have eRi : Hi R = some (.lst vs) := sb R _ nRp (by exact eR)
    have hlog : ((i : Nat) : Int).natAbs.log2 < 1920 := by
      match i, hi3 with
      | 0, _ => decide
      | 1, _ => decide
      | 2, _ => decide
    refine ⟨rfl, .ref p, rfl, .int (i : Nat), rfl, .int (i : Nat), rfl, _, rfl, hlog, .int (i : Nat), rfl, .int (i : Nat), rfl, by show 2 ≤ sizeLine; decide, fun T nT => ⟨.int (i : Nat), rfl, _, 1, rfl, rfl, by show 4 ≤ sizeLine; decide, fun L nL => ?_⟩⟩
    have sT := same_upd (o := HO.tup [.int (i : Nat), .int (i : Nat)]) nT
    have sL := same_upd (o := HO.lst [.int (i : Nat), .str (toString ((i : Nat) : Int)), .ref T, .bl (decide (1 < ((i : Nat) : Int)))]) nL
    have sTL := sT.trans sL
    refine ⟨p, c, L, ns, a', l', [.int (i : Nat), .str (toString ((i : Nat) : Int)), .ref T, .bl (decide (1 < ((i : Nat) : Int)))], rfl, pn.same sTL, hns, by omega, by omega, g3, upd_same, by show 1 ≤ 4; decide, by show 4 ≤ 100; decide, fun H5 x a5 l5 sb5 pn5 i1 i2 i3 hx => ?_⟩
    have sb6 : SameBut p Hi H5 := (Same.but sTL p).trans sb5
    have eR5 : H5 R = some (.lst vs) := sb6 R _ nRp eRi
    have eD5 : H5 D = some (.lst (ts.map V.ref)) := sb6 D _ npD.symm eD
    refine ⟨.ref R, rfl, .int (i : Nat), rfl, R, vs, _, vs[i], rfl, rfl, .inl (.inl eR5), atN (List.getElem?_eq_getElem hi1), by show 2 ≤ sizeLine; decide, fun T2 nT2 => ?_⟩
    have s7 := same_upd (o := HO.tup [x, vs[i]]) nT2
    have tk1 : TupK Hi (upd H5 T2 (.tup [x, vs[i]])) := (tup_but sb6 pn.row).trans (tup_same s7)
    have eT5 : (upd H5 T2 (.tup [x, vs[i]])) T = some (.tup [.int (i : Nat), .int (i : Nat)]) := s7 _ _ (tup_but sb5 (pn.same sTL).row _ _ (sL _ _ upd_same))
    have eD7 := s7 _ _ eD5
    have tk2 := tup_updL (o := HO.lst (ts.map V.ref ++ [.ref T2])) eD7
    obtain ⟨nk, ka, kd, kr, kg⟩ := key_ok (w := w) hi3 eT5 hx
    refine ⟨_, eD7, small1000 (by rw [List.length_map]; omega), fun b o nb z => ?_, a5, l5, ts ++ [T2], ps ++ [(nk, x, vs[i])], ⟨?_, ?_⟩, by omega, by omega, i3, by rw [upd_same, List.map_append]; rfl, ?_, ?_, ?_⟩
    · rw [upd_ne (ne_of_none z nD)]
      exact s7 _ _ (sb6 b o nb (sb b o nb z))
    · rw [upd_ne npD]
      exact s7 _ _ pn5.row
    · have ncD : c ≠ D := ne_of_none pen.cells nD
      rw [upd_ne ncD]
      exact s7 _ _ pn5.cells
    · refine paired_append (paired_mono pr fun t r h => h.mono (tk1.trans tk2)) (.cons ⟨tk2 _ _ upd_same, ka.mono tk2, kd, kr.keep tk2.keep0, kg⟩ .nil)
    · rw [List.map_append, pv, List.take_add_one, List.getElem?_eq_getElem hi1]
      rfl
    · rw [List.length_append, lt]
      rfl
  · obtain ⟨sb, a', l', ts, ps, pn, g1, g2, g3, eD, pr, pv, lt⟩ := S
    have z3 : (Int.ofNat vs.length).toNat = vs.length := rfl
    have lps : ts.length = ps.length := Paired.length pr
    have g2' : a' ≤ a + ((Int.ofNat vs.length).toNat : Int) := g2
    have raN := rep_but sb e0 ra nfp
    have pv2 : ps.map (fun r => r.2.2) = vs := by
      rw [pv]
      exact List.take_of_length_le (Nat.le_of_eq z3.symm)
    obtain ⟨kvs, Dd, lk⟩ := merge_st (n := k) (xs := []) (kvs := []) (S := fun _ => False) pr pv2 raN nf th (fun _ _ z => z) ⟨(fun _ z => nomatch z), List.nodup_nil, .nil, RepN.nil, fun _ z => nomatch z⟩
    have kaps : KAll Hi ps := fun r hr => by
      obtain ⟨t, ht⟩ := paired_right pr hr
      exact ht.2.1
    refine ⟨D, ts, ps, rfl, eD, paired_mono pr fun t r h => h.1, kaps, by omega, fun M nM => ?_⟩
    obtain ⟨g, rg, ng, sg⟩ := Dd.rv
    have sM := same_upd (o := mdo w M (mergeH [] ps)) nM
    have nMg : M ∉ g := fun z => rg.dom M z nM
    refine q _ M (.dict kvs) g a' l' (fun b o nb z => sM _ _ (sb b o nb z)) (pn.same sM) g1 (by omega) g3 (Thing.dict Dd.good ?_) (.dct upd_same (KAll.keep Dd.ka (tup_same sM)) Dd.nd rfl (Dd.rk.same sM) (rg.same sM)) (List.nodup_cons.mpr ⟨nMg, ng⟩) ?_ fun x hx => (sg x hx).elim (fun z => z.elim) id
    · have : ([] : List (PyData × PyData)).length = 0 := rfl
      omega
    · cases e : H M with
      | none => rfl
      | some o =>
        have nx : M ≠ p := fun z => by
          rw [z, pn.row] at nM
          cases nM
        rw [sb M o nx e] at nM
        cases nM
end KF
end L2
/-! ### KT -/
namespace L2
namespace KF
open PySem PySem.Spec PyProof.Rows PySem.KD KE KC PySem.KA
theorem thing_le {d : PyData} (t : Thing 0 d) : ∀ k, Thing k d
  | 0 => t
  | k + 1 => (thing_le t k).up
theorem c_next {D : Ends} {σ : St} {H : Hp} (h : D.nx σ H) : tNext D σ H := h
theorem c_seq {t u : TS} {D : Ends} {σ : St} {H : Hp} (h : t { D with nx := u D } σ H) : tSeq t u D σ H := h
theorem c_ret {t : TE} {D : Ends} {σ : St} {H : Hp} (h : t σ H D.rt) : tRet t D σ H := h
structure BltA (mg : Str → Option Value) : Prop where
  int : mg "int" = none
  str : mg "str" = none
  len : mg "len" = none
  range : mg "range" = none
  tuple : mg "tuple" = none
  dict : mg "dict" = none
section
variable {P : Program} {w : World} {K : PySem.W.Frag} {mg : Str → Option Value} {base : Heap}
theorem ok_any {f fD fP : Addr} {fd fdD fdP : FuncData} (F : Fun K "_law_any" "_law_any" sAny f fd) (FD : Fun K "_law_draw" "_law_draw" sDraw fD fdD) (FP : Fun K "_law_pick" "_law_pick" sPick fP fdP) (g : mg "_law_any" = some (.ref f)) (gD : mg "_law_draw" = some (.ref fD)) (gP : mg "_law_pick" = some (.ref fP))
    (bA : Binds K fd ["_law_pen_here", "_law_deep"] []) (bD : Binds K fdD ["_law_pen_here", "_law_many"] []) (bP : Binds K fdP ["_law_pen_here", "_law_items"] []) (BD : BltD mg) (B : BltA mg) : ∀ m, FnOk P w K mg base CX0 (m + 2) f fd ["_law_pen_here", "_law_deep"] (spAny w m)
  | 0 => ⟨fun vs H Q E h => by obtain ⟨p, c, ns, a, l, k, rfl, z, _⟩ := h; exact absurd z (Nat.succ_ne_zero _), fun A outer s H args us vs Q E _ _ _ _ h => by obtain ⟨p, c, ns, a, l, k, rfl, z, _⟩ := h; exact absurd z (Nat.succ_ne_zero _)⟩
  | m + 1 => by
    have IH := ok_any F FD FP g gD gP bA bD bP BD B m
    have GD : FnOk P w K mg base CX0 1 fD fdD ["_law_pen_here", "_law_many"] spDraw := ok_draw FD BD
    have GP : FnOk P w K mg base CX0 2 fP fdP ["_law_pen_here", "_law_items"] (spPick K) := ok_pick FP FD gD bD BD
    refine F.ok scAny (fun vs H Q E h => ?_) (fun cdv A outer s H vs Q E hr h => ?_)
    · obtain ⟨p, c, ns, a, l, k, rfl, _⟩ := h
      rfl
    obtain ⟨p, c, ns, a, l, k, rfl, hk, pen, hns, ha, ha2, hl, q⟩ := h
    obtain rfl : k = m := Nat.succ.inj hk
    have hr1 := hr.mono (show 1 ≤ k + 2 by omega)
    have hr2 := hr.mono (show 2 ≤ k + 2 by omega)
    have hu : (cxOf CX0 P w K mg base anN "_law_any" (defScope sAny) f cdv A outer s H E).nox.A.units + 20 < cLine := by
      have := hr.un
      show (A.deeper _).units + 20 < cLine
      omega
    have hc : (cxOf CX0 P w K mg base anN "_law_any" (defScope sAny) f cdv A outer s H E).nox.calm = true := rfl
    refine ⟨_, pss_cons (ps_set (i := 2) scAny.nd rfl (.inl rfl) (pe_ifExp (pt_cmpR op_gt (pv 1) pe_int (nomark _))
          (pe_call GD hr1 (by rfl) gD FD.kp bD .nil pass0 (pa_cons (pv 0) (pa_cons pe_int pa_nil))) (pe_call GD hr1 (by rfl) gD FD.kp bD .nil pass0 (pa_cons (pv 0) (pa_cons pe_int pa_nil)))))
      (pss_cons (ps_if (pt_cmpR op_lt (pv 2) pe_int (nomark _)) (pss_one (ps_ret (pe_ix ix_list (pe_lst (pa_cons pe_non (pa_cons pe_bl (pa_cons (pe_op op_sub (pe_call GD hr1 (by rfl) gD FD.kp bD .nil pass0 (pa_cons (pv 0) (pa_cons pe_int pa_nil))) pe_int)
          (pa_cons (pe_callTy call_int_str (by rfl) B.int boot_int (pa_cons (pe_op op_nines pe_str pe_int) pa_nil))
          (pa_cons (pe_call GP hr2 (by rfl) gP FP.kp bP .nil pass0 (pa_cons (pv 0) (pa_cons (pe_lst (pa_cons pe_str (pa_cons pe_str (pa_cons pe_str (pa_cons pe_str pa_nil))))) pa_nil))) pa_nil)))))) (pv 2) (fun _ _ => rfl)))) pss_nil)
      (pss_cons (ps_set (i := 3) scAny.nd rfl (.inr rfl) (pe_lc (own := [("_law_k", 4)]) (g := gName 4) (tt := tYes) rfl scAny.nd (pi_range1 (by rfl) B.range (pa_cons (pe_call GD hr1 (by rfl) gD FD.kp bD .nil pass0 (pa_cons (pv 0) (pa_cons pe_int pa_nil))) pa_nil))
          (blkOk_by (N := anN) (sc := defScope sAny) (by decide +kernel)) (fun _ _ _ _ _ => pg_name (i := 4) scAny.nd rfl (Or.inl rfl)) (fun _ _ _ _ _ => pts_nil)
          (fun _ _ _ _ _ => pe_call IH hr (by rfl) g F.kp bA .nil pass0 (pa_cons (pv 0) (pa_cons (pe_op op_sub (pv 1) pe_int) pa_nil)))))
      (pss_cons (ps_if (pt_cmpR op_eq (pv 2) pe_int (nomark _)) (pss_one (ps_ret (pe_callTy call_tuple_of (by rfl) B.tuple boot_tuple (pa_cons (pv 3) pa_nil)))) pss_nil)
      (pss_cons (ps_if (pt_cmpR op_eq (pv 2) pe_int (nomark _)) (pss_one (ps_ret (pe_callTy (callDictM hu hc) (by rfl) B.dict boot_dict (pa_cons
          (pe_lc (own := [("_law_k", 4)]) (g := gName 4) (tt := tYes) (te := tPair K) rfl scAny.nd (pi_range1 (by rfl) B.range (pa_cons (pe_callB call_len_seq (by rfl) B.len PySem.boot_len (pa_cons (pv 3) pa_nil)) pa_nil))
          (blkOk_by (N := anN) (sc := defScope sAny) (by decide +kernel)) (fun _ _ _ _ _ => pg_name (i := 4) scAny.nd rfl (Or.inl rfl)) (fun _ _ _ _ _ => pts_nil)
          (fun _ _ _ _ _ => pe_tup (pa_cons (pe_call GP hr2 (by rfl) gP FP.kp bP .nil pass0 (pa_cons (pv 0) (pa_cons (pe_lst (pa_cons (pv 4) (pa_cons (pe_callTy call_str_int (by rfl) B.str boot_str (pa_cons (pv 4) pa_nil))
            (pa_cons (pe_tup (pa_cons (pv 4) (pa_cons (pv 4) pa_nil))) (pa_cons (pe_cmpR op_gt (pv 4) pe_int (nomark _)) pa_nil))))) pa_nil))) (pa_cons (pe_ix ix_list (pv 3) (pv 4) (fun _ _ => rfl)) pa_nil)))) pa_nil)))) pss_nil)
      (pss_one (ps_ret (pv 3))))))), ?_⟩
    have fin0 : ∀ {d : Int} {H1 : Hp} {a1 l1 : Int}, SameBut p H H1 → PenAt H1 p c ns a1 l1 → a ≤ a1 → a1 ≤ a + 1 → 0 ≤ l1 → 0 ≤ d → d < 5 → tSmall K [some (.ref p), some (.int (k : Nat)), some (.int d), none, none] H1 Q := fun {d H1 a1 l1} sb pn h1 h2 h3 h4 h5 =>
      small_ok (w := w) pn hns (by omega) (by have := cost_pos k; omega) h3 h4 h5 fun H2 v dd a2 l2 sb2 pn2 i1 i2 i3 t r => q H2 v dd [] a2 l2 (sb.trans sb2) pn2 (by omega) (by have := cost_pos k; omega) i3 (thing_le t k) r List.nodup_nil fun _ z => nomatch z
    refine ⟨.int (k : Nat), rfl, _, 0, rfl, rfl, _, rfl, ?_⟩
    cases k with
    | zero =>
      refine iteF ⟨.ref p, rfl, p, c, ns, a, l, 5, rfl, pen, hns, ha, by have := cost_pos 0; omega, hl, by decide, by decide, fun H1 d a1 l1 sb1 pen1 h1 h2 h3 h4 h5 => ?_⟩
      refine ⟨.int d, rfl, d, 5, rfl, rfl, _, rfl, ite2 (fun lt => ?_) (fun ge => absurd (decide_eq_true h5) ge)⟩
      exact fin0 sb1 pen1 h1 h2 h3 h4 h5
    | succ k =>
      have ec : cost (k + 1) = 3 * cost k + 5 := rfl
      have cp := cost_pos k
      have pos : decide ((0 : Int) < ((k + 1 : Nat) : Int)) = true := decide_eq_true (by omega)
      rw [pos]
      refine iteT ⟨.ref p, rfl, p, c, ns, a, l, 9, rfl, pen, hns, ha, by omega, hl, by decide, by decide, fun H1 d a1 l1 sb1 pen1 h1 h2 h3 h4 h5 => ?_⟩
      refine ⟨.int d, rfl, d, 5, rfl, rfl, _, rfl, ite2 (fun lt => fin0 sb1 pen1 h1 h2 h3 h4 (of_decide_eq_true lt)) (fun ge => ?_)⟩
      have fromH : ∀ {x : Addr}, H1 x = none → H x = none := fun {x} hx => by
        cases e : H x with
        | none => rfl
        | some o =>
          have nx : x ≠ p := fun z => by
            rw [z, pen1.row] at hx
            cases hx
          rw [sb1 x o nx e] at hx
          cases hx
      refine c_next (c_seq (c_asg (rows_ok (w := w) (k := k) pen1 hns (by omega) (by omega) h3 fun H2 D vs ds f a2 l2 sb2 pen2 i1 i2 i3 eD nD ra nf fr lv th => ?_)))
      have sb12 := sb1.trans sb2
      have frH : ∀ x ∈ f, H x = none := fun x hx => fromH (fr x hx).1
      have nfp : ∀ x ∈ f, x ≠ p := fun x hx z => by
        have y := (fr x hx).1
        rw [z, pen1.row] at y
        cases y
      have hlen := ra.length
      refine ⟨.int d, rfl, rfl, _, rfl, ite2 (fun e5 => ?_) (fun n5 => ?_)⟩
      · refine ⟨.ref D, rfl, D, vs, rfl, .inl ⟨.inl (.inl eD), fun T nT => ?_⟩⟩
        have sT := same_upd (o := HO.tup vs) nT
        exact q _ (.ref T) (.tuple ds) f a2 l2 (sb12.trans (Same.but sT p)) (pen2.same sT) (by omega) (by omega) i3 (Thing.tuple th (by omega)) (.tup upd_same (ra.same sT)) nf frH
      refine ⟨.int d, rfl, rfl, _, rfl, ite2 (fun e6 => ?_) (fun n6 => ?_)⟩
      · refine c_ret (dict_ok (w := w) (k := k) (ds := ds) pen2 hns (by omega) (by omega) i3 eD ra nfp nf lv th fun H3 M dd g a3 l3 sb3 pen3 j1 j2 j3 t r ng nM sg => ?_)
        have sb13 := sb12.trans sb3
        refine q H3 (.ref M) dd (M :: g) a3 l3 sb13 pen3 (by omega) (by omega) j3 t r ng fun x hx => ?_
        rcases List.mem_cons.mp hx with rfl | hx
        · cases e : H x with
          | none => rfl
          | some o =>
            have nx : x ≠ p := fun z => by
              rw [z, pen2.row] at nM
              cases nM
            rw [sb12 x o nx e] at nM
            cases nM
        · exact frH x (sg x hx)
      · refine ⟨.ref D, rfl, ?_⟩
        refine q H2 (.ref D) (.list ds) (D :: f) a2 l2 sb12 pen2 (by omega) (by omega) i3 (Thing.list th (by omega)) (.lst eD ra) (List.nodup_cons.mpr ⟨fun z => (fr D z).2 rfl, nf⟩) fun x hx => ?_
        rcases List.mem_cons.mp hx with rfl | hx
        · exact fromH nD
        · exact frH x hx
end
end KF
end L2
/-! ### KU0 -/
namespace L2
namespace KF
open PySem PySem.Spec PyProof.Rows PySem.KD KE KC PySem.KA
def zeros : Str := ⟨(List.replicate 300 (Str.ofString "0").cps).foldl (· ++ ·) #[]⟩
theorem zeros_int : intText? (Str.ofString "1" ++ zeros) = some (10 ^ 300) := by decide +kernel
theorem zeros_len : (Str.ofString "1" ++ zeros).length ≤ 640 := by decide +kernel
theorem zeros_len2 : zeros.length ≤ 640 := by decide +kernel
theorem op_zeros {X : Cx} : OpR X (binaryOp .Mult) (fun x y H Q => x = .str "0" ∧ y = .int 300 ∧ Q (.str zeros) H) := by
  intro pins s σ H x y v u Q I rx ry h
  obtain ⟨rfl, rfl, q⟩ := h
  obtain ⟨t, rfl⟩ := rx
  obtain ⟨t', rfl⟩ := ry
  refine PySem.P.mul_str (by decide) (fun _ _ => by decide +kernel) (fun _ _ => by decide +kernel) ?_
  rw [if_neg (by decide), if_neg (by decide +kernel)]
  exact ⟨Nat.le_trans zeros_len2 (by decide), .str zeros, H, I.tok _, ⟨_, rfl⟩, q⟩
end KF
end L2
/-! ### KV -/
namespace L2
namespace KF
open PySem PySem.Spec PyProof.Rows PySem.KD KE KC PySem.KA
/-! ## law -/
abbrev sLaw : Stmt := topS 40
abbrev laN : List Str := ["_law_script", "_law_pen_here", "_law_turn", "_law_thing", "_law_kept", "_law_made_here", "_law_error", "_law_named", "_law_placed", "_law_kind", "_law_limits"]
theorem scLaw : FnScope laN ["_law_script"] (defScope sLaw) := ⟨rfl, rfl, rfl, by decide +kernel, rfl, by decide +kernel, by decide +kernel⟩
theorem eqv_ints : ∀ ns : List Int, PyData.eqvAll (ns.map PyData.int) (ns.map PyData.int) = true
  | [] => by simp [PyData.eqvAll]
  | n :: ns => by simp [PyData.eqvAll, PyData.eqv, eqv_ints ns]
theorem eqv_list_ints (ns : List Int) : PyData.eqv (.list (ns.map PyData.int)) (.list (ns.map PyData.int)) = true := by
  have := eqv_ints ns
  simp only [PyData.eqv, this]
/-- what is told of an error's class -/
structure ErrFacts (K : PySem.W.Frag) (Cs : List Addr) (C : Addr) (k : Int) : Prop where
  xc : ExcC K C
  kinds : ∃ b0 b1 b2 b3 b4, PySem.W.kitOne K (.ref C) (.type "ValueError") = some b0 ∧ PySem.W.kitOne K (.ref C) (.type "KeyError") = some b1 ∧ PySem.W.kitOne K (.ref C) (.type "IndexError") = some b2 ∧ PySem.W.kitOne K (.ref C) (.type "OverflowError") = some b3 ∧
    PySem.W.kitOne K (.ref C) (.type "RuntimeError") = some b4 ∧ ticks [b0, b1, b2, b3, b4] 5 = [V.int k]
  own : ∃ bs, OwnB K C Cs bs ∧ (hits bs).length = 1
def limits : List Int := [12, 8, 150, 8, 10 ^ 30, 10 ^ 300]
structure BltL (mg : Str → Option Value) : Prop where
  range : mg "range" = none
  min : mg "min" = none
  len : mg "len" = none
  repr : mg "repr" = none
  int : mg "int" = none
structure LimL (mg : Str → Option Value) : Prop where
  a : ∃ t, mg "MAX_FUNCTIONS" = some (.int 12 t)
  b : ∃ t, mg "MAX_NAMES" = some (.int 8 t)
  c : ∃ t, mg "MAX_STATEMENTS" = some (.int 150 t)
  d : ∃ t, mg "MAX_DEPTH" = some (.int 8 t)
  e : ∃ t, mg "MAX_SIZE" = some (.int (10 ^ 30) t)
  f : ∃ t, mg "MOST_STEPS" = some (.int (10 ^ 300) t)
/-- the functions that law calls -/
structure Fns (P : Program) (w : World) (K : PySem.W.Frag) (mg : Str → Option Value) (base : Heap) (cs : List (Addr × Int)) (Cs : List Addr) (CT : Addr) : Prop where
  pen : ∃ f fd, FnOk P w K mg base CX0 1 f fd ["_law_script"] (spPen K) ∧ mg "_law_pen" = some (.ref f) ∧ PySem.W.keepIn K (.ref f) = true ∧ Binds K fd ["_law_script"] []
  any : ∃ f fd, FnOk P w K mg base CX0 6 f fd ["_law_pen_here", "_law_deep"] (spAny w 4) ∧ mg "_law_any" = some (.ref f) ∧ PySem.W.keepIn K (.ref f) = true ∧ Binds K fd ["_law_pen_here", "_law_deep"] []
  made : ∃ f fd, FnOk P w K mg base CX0 5 f fd ["_law_thing"] (spMade w cs) ∧ mg "_law_made" = some (.ref f) ∧ PySem.W.keepIn K (.ref f) = true ∧ Binds K fd ["_law_thing"] []
  spoil : ∃ f fd, FnOk P w K mg base CX0 5 f fd ["_law_thing"] (spSp w 5) ∧ mg "_law_spoil" = some (.ref f) ∧ PySem.W.keepIn K (.ref f) = true ∧ Binds K fd ["_law_thing"] []
  kinds : ∃ f fd, FnOk P w K mg base CX0 1 f fd ["_law_error"] (spKinds K) ∧ mg "_law_kinds" = some (.ref f) ∧ PySem.W.keepIn K (.ref f) = true ∧ Binds K fd ["_law_error"] []
  own : ∃ f fd, FnOk P w K mg base CX0 1 f fd ["_law_error"] (spOwn K Cs) ∧ mg "_law_own" = some (.ref f) ∧ PySem.W.keepIn K (.ref f) = true ∧ Binds K fd ["_law_error"] []
  trial : ∃ (fI : Addr) (fdI : FuncData), OX K CT "RuntimeError.__new__" "RuntimeError.__init__" rTail ∧ PySem.W.findIn K (.ref CT) "__init__" = some (some (.ref fI)) ∧ PySem.W.typeIn K (.ref fI) = some (.type "function") ∧ mg "InTrial" = some (.ref CT) ∧ Binds K fdI ["self"] [] ∧
    FnOk P w K mg base CX0 1 fI fdI ["self"] (spTrial CT)
  errs : ∀ q ∈ cs, ErrFacts K Cs q.1 q.2
  terr : ErrFacts K Cs CT 4
theorem paired_left {α β : Type} {R : α → β → Prop} : ∀ {xs : List α} {ys : List β} {i : Nat} {y : β}, Paired R xs ys → ys[i]? = some y → ∃ x, x ∈ xs ∧ R x y
  | _, _, 0, _, .cons a _, h => ⟨_, List.mem_cons_self, by rw [← Option.some.inj h]; exact a⟩
  | _, _, i + 1, _, .cons _ t, h => by
    obtain ⟨x, h1, h2⟩ := paired_left (i := i) t h
    exact ⟨x, List.mem_cons_of_mem _ h1, h2⟩
  | _, _, _, _, .nil, h => by simp at h
section
variable {P : Program} {w : World} {K : PySem.W.Frag} {mg : Str → Option Value} {base : Heap}
def spLaw (K : PySem.W.Frag) : Sp := fun vs H Q _ => ∃ (a : Addr) (ns : List Int), vs = [.ref a] ∧ SqL K H a (List.map V.int ns) ∧ ns.length ≤ 63 ∧ ∀ H', Q (.bl true) H'
theorem law_body {cs : List (Addr × Int)} {Cs : List Addr} {CT f : Addr} {cdv : Value} {A : Around} {outer : List Env} {s : Shared} {H : Hp} {vs : List V} {Q : VK} {E : XK} (N : Fns P w K mg base cs Cs CT) (B : BltL mg) (Lm : LimL mg)
    (hr : Room 6 (A.deeper (envOfC "law" (defScope sLaw) s.heap.objs.size f cdv))) (hg : (A.deeper (envOfC "law" (defScope sLaw) s.heap.objs.size f cdv)).guards = some []) (h : spLaw K vs H Q E) :
    ∃ t, PSs (cxOf CX0 P w K mg base laN "law" (defScope sLaw) f cdv A outer s H E).nox (defBody sLaw) t ∧ t { nx := fun _ H' => Q .non H', rt := Q } (start laN vs) H := by
  obtain ⟨a, ns, rfl, hS, hl, q⟩ := h
  obtain ⟨fp, fdp, Gp, gp, kp, bp⟩ := N.pen
  obtain ⟨fa, fda, Ga, ga, ka, ba⟩ := N.any
  obtain ⟨fm, fdm, Gm, gm, km, bm⟩ := N.made
  obtain ⟨fs, fds, Gs, gs, ks, bs⟩ := N.spoil
  obtain ⟨fk, fdk, Gk, gk, kk, bk⟩ := N.kinds
  obtain ⟨fo, fdo, Go, go, ko, bo⟩ := N.own
  obtain ⟨fI, fdI, oxT, iT, tT, gT, bT, GT⟩ := N.trial
  obtain ⟨t1, l1⟩ := Lm.a
  obtain ⟨t2, l2⟩ := Lm.b
  obtain ⟨t3, l3⟩ := Lm.c
  obtain ⟨t4, l4⟩ := Lm.d
  obtain ⟨t5, l5⟩ := Lm.e
  obtain ⟨t6, l6⟩ := Lm.f
  have r1 := hr.mono (show 1 ≤ 6 by decide)
  have r2 := hr.mono (show 2 ≤ 6 by decide)
  have r5 := hr.mono (show 5 ≤ 6 by decide)
  have hc : (cxOf CX0 P w K mg base laN "law" (defScope sLaw) f cdv A outer s H E).nox.calm = true := rfl
  have hu40 : (cxOf CX0 P w K mg base laN "law" (defScope sLaw) f cdv A outer s H E).nox.A.units + 40 < cLine := by
    have := hr.un
    show (A.deeper _).units + 40 < cLine
    omega
  have hu64 : (cxOf CX0 P w K mg base laN "law" (defScope sLaw) f cdv A outer s H E).nox.A.units + 64 < cLine := by
    have := hr.un
    show (A.deeper _).units + 64 < cLine
    omega
  have hgX : (cxOf CX0 P w K mg base laN "law" (defScope sLaw) f cdv A outer s H E).nox.A.guards = some [] := hg
  refine ⟨_, pss_cons (ps_set (i := 1) scLaw.nd rfl (.inl rfl) (pe_call Gp r1 (by rfl) gp kp bp .nil pass0 (pa_cons (pv 0) pa_nil)))
    (pss_cons (ps_for PassesOwn.never rfl (pi_range1 (by rfl) B.range (pa_cons (pe_op op_add pe_int (pe_callB (call_min2 hc) (by rfl) B.min (by decide +kernel) (pa_cons pe_int (pa_cons (pe_callB call_len_seq (by rfl) B.len PySem.boot_len (pa_cons (pv 0) pa_nil)) pa_nil)))) pa_nil)) (pg_name (i := 2) scLaw.nd rfl (.inl rfl))
        (pss_cons (ps_set (i := 3) scLaw.nd rfl (.inl rfl) (pe_call Ga hr (by rfl) ga ka ba .nil pass0 (pa_cons (pv 1) (pa_cons pe_int pa_nil))))
        (pss_cons (ps_par (i := 4) (j := 5) hc scLaw.nd rfl rfl (by decide) rfl rfl (pa_cons (pe_callB (callReprD hgX hu40) (by rfl) B.repr boot_repr (pa_cons (pv 3) pa_nil)) (pa_cons (pe_call Gm r5 (by rfl) gm km bm .nil pass0 (pa_cons (pv 3) pa_nil)) pa_nil)) (by rfl))
        (pss_cons (ps_expr (pe_call Gs r5 (by rfl) gs ks bs .nil pass0 (pa_cons (pv 3) pa_nil)))
        (pss_one (ps_for PassesOwn.never rfl (pi_list (pv 5)) (pg_tup rfl (pgs_cons (pg_name (i := 6) scLaw.nd rfl (.inl rfl)) (pgs_cons (pg_name (i := 7) scLaw.nd rfl (.inl rfl)) (pgs_cons (pg_name (i := 8) scLaw.nd rfl (.inl rfl)) (pgs_cons (pg_name (i := 9) scLaw.nd rfl (.inl rfl)) pgs_nil)))))
            (pss_cons (ps_if (PW.pt (pw_or (pt_cmpR op_ne (pe_callB (callReprD hgX hu40) (by rfl) B.repr boot_repr (pa_cons (pe_lst (pa_cons (pv 7) (pa_cons (pv 8) pa_nil))) pa_nil)) (pe_op op_add_str (pe_op op_add_str (pe_op op_add_str (pe_op op_add_str pe_str (pv 4)) pe_str) (pv 4)) pe_str) (nomark _))
                (pw_or1 (pt_cmpR (op_neD hu64) (pe_call Gk r1 (by rfl) gk kk bk .nil pass0 (pa_cons (pv 6) pa_nil)) (pe_lst (pa_cons (pv 9) pa_nil)) (nomark _))))) (pss_one (ps_ret pe_bl)) pss_nil)
            (pss_one (ps_if (pt_cmpR op_ne (pe_call Go r1 (by rfl) go ko bo .nil pass0 (pa_cons (pv 6) pa_nil)) pe_int (nomark _)) (pss_one (ps_ret pe_bl)) pss_nil)))))))))
    (pss_cons (ps_if (PW.pt (pw_or (pt_cmpR (op_neD hu64) (pe_call Gk r1 (by rfl) gk kk bk .nil pass0 (pa_cons (peMakeX0 oxT iT tT GT r2 bT pass0 (by rfl) gT) pa_nil)) (pe_lst (pa_cons pe_int pa_nil)) (nomark _))
        (pw_or1 (pt_cmpR op_ne (pe_call Go r1 (by rfl) go ko bo .nil pass0 (pa_cons (peMakeX0 oxT iT tT GT r2 bT pass0 (by rfl) gT) pa_nil)) pe_int (nomark _))))) (pss_one (ps_ret pe_bl)) pss_nil)
    (pss_cons (ps_set (i := 10) scLaw.nd rfl (.inl rfl) (pe_lst (pa_cons (pe_glob (v := .int 12) (by rfl) l1 ⟨_, rfl⟩) (pa_cons (pe_glob (v := .int 8) (by rfl) l2 ⟨_, rfl⟩) (pa_cons (pe_glob (v := .int 150) (by rfl) l3 ⟨_, rfl⟩) (pa_cons (pe_glob (v := .int 8) (by rfl) l4 ⟨_, rfl⟩) (pa_cons (pe_glob (v := .int (10 ^ 30)) (by rfl) l5 ⟨_, rfl⟩) (pa_cons (pe_glob (v := .int (10 ^ 300)) (by rfl) l6 ⟨_, rfl⟩) pa_nil))))))))
    (pss_one (ps_ret (pe_cmpR (op_eqD hu64) (pv 10) (pe_lst (pa_cons pe_int (pa_cons pe_int (pa_cons pe_int (pa_cons pe_int (pa_cons (pe_op op_pow pe_int pe_int) (pa_cons (pe_callTy call_int_str (by rfl) B.int boot_int (pa_cons (pe_op op_add_str pe_str (pe_op op_zeros pe_str pe_int)) pa_nil)) pa_nil))))))) (nomark _))))))), ?_⟩
  have c3 : cost 3 = 146 := rfl
  -- the pen
  refine ⟨.ref a, rfl, a, ns, rfl, hS, hl, fun H1 p c ns' s1 np nc hns' pen1 => ?_⟩
  -- for turn in range(..)
  refine ⟨.ref a, rfl, a, _, rfl, .inl (s1.seq hS), _, _, rfl, 4, _, rfl, rfl, _, rfl, ?_, ?_, ?_⟩
  · split <;> omega
  · split <;> omega
  refine for_range (lo := 0) (fun i σ Hi => ∃ y2 y3 y4 y5 y6 y7 y8 y9, σ = [some (.ref a), some (.ref p), y2, y3, y4, y5, y6, y7, y8, y9, none] ∧ ∃ a' l', PenAt Hi p c ns' a' l' ∧ 0 ≤ a' ∧ a' ≤ i * 146 ∧ 0 ≤ l')
    ⟨none, none, none, none, none, none, none, none, rfl, 0, 0, pen1, Int.le_refl _, by omega, Int.le_refl _⟩ (fun i σ Hi hi hp => ?_) (fun σ Hi hp => ?_)
  · obtain ⟨y2, y3, y4, y5, y6, y7, y8, y9, rfl, a', l', pn, g1, g2, g3⟩ := hp
    have hi8 : i < 9 := by
      have z : i < (4 + (if ((ns.map V.int).length : Int) < 4 then ((ns.map V.int).length : Int) else 4)).toNat := hi
      revert z
      split <;> omega
    -- thing = any(pen, 3)
    refine ⟨.ref p, rfl, p, c, ns', a', l', 3, rfl, rfl, pn, hns', g1, by omega, g3, fun H4 v d fp a4 l4 sb4 pn4 h1 h2 h3 t r nf fr => ?_⟩
    have tz : sz d ≤ 40 := t.sz
    have tl : d.shown.length ≤ 11829 := t.len
    have td : d.depth ≤ 4 := t.depth
    -- kept, made_here
    refine ⟨v, rfl, v, d, fp, rfl, r, t.show_, Nat.le_trans tl (by decide), by omega, v, rfl, v, d, fp, rfl, r, by omega, fun H5 pf rows s5 npf epf pr => ⟨_, _, rfl, ?_⟩⟩
    -- spoil(thing)
    refine ⟨v, rfl, v, d, fp, rfl, r.same s5, nf, by omega, by omega, fun H6 off => ?_⟩
    have pff : pf ∉ fp := fun z => r.dom pf z npf
    have e6 : H6 pf = some (.lst rows) := off _ _ pff epf
    have ppf : p ∉ fp := fun z => by
      have y := fr p z
      rw [pn.row] at y
      cases y
    have cpf : c ∉ fp := fun z => by
      have y := fr c z
      rw [pn.cells] at y
      cases y
    have pn6 : PenAt H6 p c ns' a4 l4 := ⟨off _ _ ppf (s5 _ _ pn4.row), off _ _ cpf (s5 _ _ pn4.cells)⟩
    have rows6 : ∀ {q : Addr × Int} {val : V}, RowF w H5 d (fun a => H4 a = none ∧ a ≠ pf) q val → RowF w H6 d (fun _ => True) q val := fun {q val} rf => by
      have rf2 : RowF w H5 d (fun a => (H4 a = none ∧ a ≠ pf) ∧ H5 a ≠ none) q val := rf.weak fun a na nz => ⟨na, nz⟩
      refine (rf2.keep (fun a na => ?_) fun a xs e => off a _ (fun z => (r.same s5).noTup a z xs e) e).weak fun _ _ _ => trivial
      cases e : H5 a with
      | none => exact absurd e na.2
      | some o => exact off a o (fun z => r.dom a z na.1.1) e
    -- for error, named, placed, kind in made_here
    refine ⟨.ref pf, rfl, pf, rfl, ⟨rows, .inl (.inl e6)⟩, ?_⟩
    refine for_list (xs := rows) (fun j σ Hj => ∃ y6 y7 y8 y9, σ = [some (.ref a), some (.ref p), some (.int (0 + (i : Nat))), some v, some (.str d.shown), some (.ref pf), y6, y7, y8, y9, none] ∧ Same H6 Hj) ⟨y6, y7, y8, y9, rfl, Same.refl _⟩
      (fun j σ Hj _ hp => ?_) (fun j x σ Hj hx hp => ?_) (fun σ Hj hp => ?_)
    · obtain ⟨_, _, _, _, _, sj⟩ := hp
      exact .inl (.inl (sj _ _ e6))
    · obtain ⟨z6, z7, z8, z9, rfl, sj⟩ := hp
      obtain ⟨q', hq', rf⟩ := paired_left pr hx
      obtain ⟨T, x0, dx, fs0, v1, v2, f1, f2, rfl, eT, ex, ed, r1', r2', _⟩ := rows6 rf
      have eF := N.errs q' hq'
      obtain ⟨b0, b1, b2, b3, b4, k0, k1, k2, k3, k4, tk⟩ := eF.kinds
      obtain ⟨bo', ow, oh⟩ := eF.own
      have ea : ErrAt Hj x0 q'.1 := ⟨some dx, sj _ _ ex, fun dy e => by cases e; exact ⟨fs0, sj _ _ ed⟩⟩
      refine ⟨T, _, rfl, .inl (.inl (sj _ _ eT)), rfl, .ref x0, _, rfl, v1, _, rfl, v2, _, rfl, .int q'.2, [], rfl, rfl, ?_⟩
      -- repr([named, placed]) != ..
      refine ⟨v1, rfl, v2, rfl, by show 2 ≤ sizeLine; decide, fun L nL => ?_⟩
      have sL := same_upd (o := HO.lst [v1, v2]) nL
      have sjL := sj.trans sL
      have two : (PyData.list [d, d]).shown = Str.ofString "[" ++ d.shown ++ Str.ofString ", " ++ d.shown ++ Str.ofString "]" := by
        simp only [PyData.shown, PyData.shownAll]
        show ((((Str.ofString "[" ++ Str.ofString "") ++ d.shown) ++ Str.ofString ", ") ++ d.shown) ++ Str.ofString "]" = _
        rw [show Str.ofString "[" ++ Str.ofString "" = Str.ofString "[" from by decide +kernel]
      have l1' : (Str.ofString "[").length = 1 := by decide
      have l2' : (Str.ofString ", ").length = 2 := by decide
      have l3' : (Str.ofString "]").length = 1 := by decide
      have big : (30000 : Nat) ≤ sizeLine := by decide
      refine ⟨.ref L, .list [d, d], _, rfl, .lst upd_same (.cons (r1'.same sjL) (.cons (r2'.same sjL) .nil)), by simp only [PyData.showable, PyData.showableAll, t.show_, Bool.and_self], ?_, ?_, ?_⟩
      · rw [two, strLen_append, strLen_append, strLen_append, strLen_append]
        omega
      · simp only [PyData.depth, PyData.depthAll]
        omega
      refine ⟨_, rfl, _, _, rfl, rfl, by omega, _, _, rfl, rfl, by rw [strLen_append]; omega, _, rfl, _, _, rfl, rfl, by rw [strLen_append, strLen_append]; omega, _, _, rfl, rfl, by rw [strLen_append, strLen_append, strLen_append]; omega, rfl, false, ?_, iteF ?_⟩
      · rw [two, decide_eq_true rfl]
        rfl
      -- kinds(error) != [kind]
      refine ⟨.ref x0, rfl, x0, q'.1, b0, b1, b2, b3, b4, rfl, ea.same sL, eF.xc, k0, k1, k2, k3, k4, fun H7 pk s7 ek => ?_⟩
      refine ⟨.int q'.2, rfl, by show 1 ≤ sizeLine; decide, fun M nM => ?_⟩
      have sM := same_upd (o := HO.lst [.int q'.2]) nM
      rw [tk] at ek
      refine ⟨.list ([q'.2].map PyData.int), .list ([q'.2].map PyData.int), .lst (.inl (.inl (sM _ _ ek))) (ints_dp [q'.2]), .lst (.inl (.inl upd_same)) (ints_dp [q'.2]), ints_shaped _, ints_shaped _, false, ?_, iteF ?_⟩
      · rw [eqv_list_ints]
        rfl
      -- own(error) != 1
      have s9 := (sL.trans s7).trans sM
      refine ⟨.ref x0, rfl, x0, q'.1, bo', rfl, ea.same s9, eF.xc, ow, fun H8 s8 => ?_⟩
      rw [oh]
      refine ⟨rfl, false, rfl, iteF ?_⟩
      exact ⟨some (.ref x0), some v1, some v2, some (.int q'.2), rfl, (sj.trans s9).trans s8⟩
    · obtain ⟨z6, z7, z8, z9, rfl, sj⟩ := hp
      refine ⟨_, _, _, _, _, _, _, _, rfl, a4, l4, pn6.same sj, by omega, ?_, h3⟩
      have : ((i + 1 : Nat) : Int) * 146 = (i : Int) * 146 + 146 := by omega
      omega
  · obtain ⟨y2, y3, y4, y5, y6, y7, y8, y9, rfl, a', l', pn, g1, g2, g3⟩ := hp
    have eF := N.terr
    obtain ⟨b0, b1, b2, b3, b4, k0, k1, k2, k3, k4, tk⟩ := eF.kinds
    obtain ⟨bo', ow, oh⟩ := eF.own
    -- kinds(InTrial()) != [4]
    refine ⟨by show 0 ≤ 1000; decide, fun x nx => ⟨x, rfl, upd_same, rfl, ?_⟩⟩
    refine ⟨x, CT, b0, b1, b2, b3, b4, rfl, ⟨none, upd_same, fun dx e => nomatch e⟩, eF.xc, k0, k1, k2, k3, k4, fun H2 pk s2 ek => ?_⟩
    refine ⟨by show 1 ≤ sizeLine; decide, fun M nM => ?_⟩
    have sM := same_upd (o := HO.lst [.int 4]) nM
    rw [tk] at ek
    refine ⟨.list ([(4 : Int)].map PyData.int), .list ([(4 : Int)].map PyData.int), .lst (.inl (.inl (sM _ _ ek))) (ints_dp [4]), .lst (.inl (.inl upd_same)) (ints_dp [4]), ints_shaped _, ints_shaped _, false, ?_, iteF ?_⟩
    · rw [eqv_list_ints]
      rfl
    -- own(InTrial()) != 1
    refine ⟨by show 0 ≤ 1000; decide, fun x2 nx2 => ⟨x2, rfl, upd_same, rfl, ?_⟩⟩
    refine ⟨x2, CT, bo', rfl, ⟨none, upd_same, fun dx e => nomatch e⟩, eF.xc, ow, fun H3 s3 => ?_⟩
    rw [oh]
    refine ⟨rfl, false, rfl, iteF ?_⟩
    -- the limits
    refine ⟨by show 6 ≤ sizeLine; decide, fun L nL => ?_⟩
    refine ⟨.ref L, rfl, 10, 30, rfl, rfl, ⟨by decide, by decide, by decide⟩, rfl, rfl, _, _, rfl, rfl, by decide +kernel, _, _, rfl, zeros_int, zeros_len, by show 6 ≤ sizeLine; decide, fun M2 nM2 => ?_⟩
    have sM2 := same_upd (o := HO.lst [.int 12, .int 8, .int 150, .int 8, .int (10 ^ (30 : Int).toNat), .int (10 ^ 300)]) nM2
    refine ⟨.list (limits.map PyData.int), .list (limits.map PyData.int), .lst (.inl (.inl (sM2 _ _ upd_same))) (ints_dp limits), .lst (.inl (.inl upd_same)) (ints_dp limits), ints_shaped _, ints_shaped _, ?_⟩
    rw [eqv_list_ints]
    exact q _
end
end KF
end L2
/-! ### KW -/
namespace L2
namespace KF
open PySem PySem.Spec PyProof.Rows PySem.KD KE KC PySem.KA
/-! ## the law's call, from a caller that shows nothing (repr asks that) -/
section
variable {P : Program} {w : World} {K : PySem.W.Frag} {mg mb : Str → Option Value} {base : Heap}
theorem law_ran {cs : List (Addr × Int)} {Cs : List Addr} {CT f : Addr} {fd : FuncData} {A : Around} {outer : List Env} {s : Shared} {H : Hp} {args : Args} {us : List Value} {vs : List V} {Q : VK} (F : Fun K "law" "law" sLaw f fd) (N : Fns P w K mg base cs Cs CT) (B : BltL mg) (Lm : LimL mg)
    (quiet : A.guards = some []) (room : Room 7 A) (env0 : Env0 P w K mg base A outer s H) (binds : BindsTo s fd args ([("_law_script" : Str)].zip us)) (rel : Vals vs us) (asks : spLaw K vs H Q E0) :
    codeAny (model P w) A (.call (.ref f) args) (CR CX0 outer P w H s Q E0) s := by
  obtain ⟨oc, od, kV, doc, pm, an, cdv, ct, osl, rfl, lk, code⟩ := F.ex
  have stay : ∀ b o, base.get? b = some o → s.heap.get? b = some o := fun b o e => (env0.bs b o e).1
  have live : K.In s.heap := env0.mod.kin.keeps stay
  have free : s.heap.NoLimit := env0.mod.nolimit.keeps stay
  have one : vs.length = 1 := by
    obtain ⟨a, ns, rfl, _⟩ := asks
    rfl
  have kinds : ∀ y ∈ [("_law_script" : Str)].zip us, (defScope sLaw).names.lookup y.1 = some .local ∨ ((defScope sLaw).names.lookup y.1 = some .cell ∧ ((cellsFrom (s.heap.objs.size + 1) (defScope sLaw).names []).lookup y.1).isSome = true) := by
    rintro ⟨n, v⟩ hy
    obtain rfl := List.mem_singleton.mp (List.of_mem_zip hy).1
    exact .inl rfl
  refine codeAny_call_function room.depth (live _ _ lk) rfl scLaw.co scLaw.gen rfl (PySem.W.codeRec_of live code) (binds _ _ _ _ ?_)
  refine wpAny_newFunctionEnv_cells scLaw.kind kinds fun env he s1 x => ?_
  subst he
  refine ⟨free.keeps x.toInCall.keep, codeAny_func ?_⟩
  obtain ⟨t, ht, hq⟩ := law_body (Q := Q) (E := E0) (f := f) (cdv := cdv) (A := A) (outer := outer) (s := s) N B Lm (room.deeper _) quiet asks
  have begin_ : Inv (cxOf CX0 P w K mg base laN "law" (defScope sLaw) f cdv A outer s H E0) [] (start laN vs) H s1 := inv_start scLaw room.hd env0 one rel x
  refine wpAny_mono (ht.nox.run [] s1 (start laN vs) H _ begin_ hq) (fun fl s' told => ?_) fun _ _ e => e
  cases fl with
  | ret u =>
    obtain ⟨v, σ', H', J, rv, q⟩ := told
    exact ⟨v, H', J.os, J.bare, J.base, J.hok, rv, q⟩
  | next =>
    obtain ⟨σ', H', J, q⟩ := told
    exact ⟨V.non, H', J.os, J.bare, J.base, J.hok, rfl, q⟩
  | brk => exact (told.elim fun _ z => z.elim fun _ y => y.2).elim
  | cont => exact (told.elim fun _ z => z.elim fun _ y => y.2).elim
/-- the same from the caller itself: N, the functions' promises over each part of the heap that holds K -/
theorem law_told {cs : List (Addr × Int)} {Cs : List Addr} {CT f a : Addr} {fd : FuncData} {s₁ : Shared} {vs : List Value} {ns : List Int} (F : Fun K "law" "law" sLaw f fd) (binds : ∀ (s : Shared) (u : Value), BindsTo s fd ⟨[u], []⟩ [("_law_script", u)])
    (N : ∀ base : Heap, K.In base → base.Ns mainGlobals mg → Fns P w K mg base cs Cs CT) (B : BltL mg) (Lm : LimL mg) (live : K.In s₁.heap) (glob : s₁.heap.Ns mainGlobals mg) (blt : s₁.heap.Ns builtinsNs mb) (boot : ∀ x : Str, x ≠ "__name__" → mb x = bootBuiltins x)
    (free : s₁.heap.NoLimit) (nogen : s₁.gens = #[]) (script : s₁.heap.get? a = some { cls := .type "list", data := .seq vs.toArray }) (intsA : IntsAre vs ns) (short : ns.length ≤ 63) :
    codeAny (model P w) callerA (.call (.ref f) ⟨[.ref a], []⟩) (fun r s' => r = .ok (.ret (.bool true)) ∧ OldK s₁.heap s'.heap ∧ s'.os = s₁.os ∧ AllBare s'.gens) s₁ := by
  have rv := vals_ints intsA
  have lenV := intsA.length
  have fits : ns.length ≤ sizeLine := Nat.le_trans short (by decide)
  have go : ∀ H : Hp, SqL K H a (ns.map V.int) → HOk P w H s₁.heap → (∀ b, H b ≠ none → b = a ∧ K.lookup a = none) → (∀ b o, H b = some o → ∃ ob xs, o = .frz ob (.lst xs)) →
      codeAny (model P w) callerA (.call (.ref f) ⟨[.ref a], []⟩) (fun r s' => r = .ok (.ret (.bool true)) ∧ OldK s₁.heap s'.heap ∧ s'.os = s₁.os ∧ AllBare s'.gens) s₁ := by
    intro H seq ok only frz
    have hidden : ∀ {b : Addr} {m : Str → Option Value}, s₁.heap.Ns b m → (hidT s₁.heap H).Ns b m := by
      rintro b m ⟨o, es, ep, e, d, more⟩
      refine ⟨o, es, ep, hidT_get e ?_, d, more⟩
      cases q : H b with
      | none => rfl
      | some u =>
        obtain ⟨rfl, _⟩ := only b (by rw [q]; exact fun z => nomatch z)
        rw [script] at e
        cases e
        cases d
    have kept : K.In (hidT s₁.heap H) := fun b o e => hidT_get (live b o e) (by
      cases q : H b with
      | none => rfl
      | some u =>
        obtain ⟨rfl, z⟩ := only b (by rw [q]; exact fun z => nomatch z)
        rw [z] at e
        cases e)
    have mod : Mod K mg (hidT s₁.heap H) := ⟨kept, hidden glob, ⟨mb, hidden blt, boot⟩, by
      obtain ⟨mc, h1, h2⟩ := free
      exact ⟨mc, hidden h1, h2⟩⟩
    have env0 : Env0 P w K mg (hidT s₁.heap H) callerA [] s₁ H :=
      { frames := rfl, mod := mod, bs := fun b o e => of_hidT e, bsz := Nat.le_of_eq (hidT_size _ _), funs := trivial, frf := (fun b hb => nomatch hb), hok := ok, bare := .of_eq nogen }
    refine codeAny_mono (law_ran (Q := fun v _ => v = .bl true) (us := [.ref a]) F (N _ kept (hidden glob)) B Lm rfl ⟨rfl, by decide, by decide⟩ env0 (binds s₁ (.ref a)) (show Vals [V.ref a] [Value.ref a] from .cons rfl .nil) ⟨a, ns, rfl, seq, short, fun _ => rfl⟩) fun r s' told => ?_
    cases r with
    | error e => exact False.elim told
    | ok fl =>
      cases fl with
      | next => exact False.elim told
      | brk => exact False.elim told
      | cont => exact False.elim told
      | ret u =>
        obtain ⟨v, H', os, bare, un, ok', rel, rfl⟩ := told
        obtain rfl : u = Value.bool true := rel
        refine ⟨rfl, OldK.of_keep fun b o e => ?_, os, bare⟩
        cases q : H b with
        | none => exact un.keep b o e q (fun z => nomatch z) (by simp)
        | some u =>
          obtain ⟨ob, xs, rfl⟩ := frz b u q
          have later := un.frzs b ob _ q
          have e1 := (ok b _ q).1
          have e2 := (ok' b _ later).1
          rw [e] at e1
          cases e1
          exact e2
  cases inK : K.lookup a with
  | some o =>
    have e := live a o inK
    rw [script] at e
    cases e
    exact go (fun _ => none) (.inr ⟨_, vs.toArray, _, inK, rfl, rfl, rfl, by rw [List.size_toArray, lenV]; exact fits, by simpa using rv⟩) (fun b u z => nomatch z) (fun b z => absurd rfl z) fun b o z => nomatch z
  | none =>
    refine go (fun b => if b = a then some (.frz { cls := .type "list", data := .seq vs.toArray } (.lst (ns.map V.int))) else none) (.inl (.inr ⟨_, if_pos rfl⟩)) (fun b u z => ?_) (fun b z => ?_) fun b o z => ?_
    · dsimp only at z
      split at z
      · rename_i hb
        cases z
        subst hb
        exact ⟨script, by rw [List.length_map]; exact fits, vs, _, rv, script⟩
      · cases z
    · refine ⟨?_, inK⟩
      split at z
      · assumption
      · exact absurd rfl z
    · split at z
      · cases z
        exact ⟨_, _, rfl⟩
      · cases z
end
end KF
end L2
/-! ### KX -/
namespace L2
namespace KF
open PySem PySem.Spec PyProof.Rows PySem.KD KE KC PySem.KA PySem.Calls PySem.W
/-! ## what the top has written of the errors -/
/-- an error's class at C: its bases behind it -/
def ClsAt (K : PySem.W.Frag) (C : Addr) (tail : List Value) (newId : String) : Prop := ∃ nm q N bs sn sub ab col dd k0 k1 k2 k3 k5, K.lookup C = some (excClassObj nm q C N bs tail true sn sub ab col dd k0 k1 k2 k3 k5 newId)
section
variable {K : PySem.W.Frag} {C D : Addr} {tail : List Value} {newId : String}
theorem ClsAt.cd (h : ClsAt K C tail newId) : ∃ cd, PySem.W.clsIn K C = some cd ∧ cd.mro = .ref C :: tail ∧ cd.hasDict = true := by
  obtain ⟨nm, q, N, bs, sn, sub, ab, col, dd, k0, k1, k2, k3, k5, e⟩ := h
  unfold PySem.W.clsIn
  rw [e]
  exact ⟨_, rfl, rfl, rfl⟩
theorem ClsAt.ty (h : ClsAt K C tail newId) : PySem.W.typeIn K (.ref C) = some (.type "type") := by
  obtain ⟨nm, q, N, bs, sn, sub, ab, col, dd, k0, k1, k2, k3, k5, e⟩ := h
  show (K.lookup C).map (·.cls) = some (.type "type")
  rw [e]
  rfl
theorem ClsAt.ins (h : ClsAt K C tail newId) (t : PySem.W.excTail tail tail = true) : PySem.W.excInitIn K C tail newId = true := by
  obtain ⟨nm, q, N, bs, sn, sub, ab, col, dd, k0, k1, k2, k3, k5, e⟩ := h
  unfold PySem.W.excInitIn
  rw [e]
  simp [excClassObj, t]
theorem ClsAt.over (h : ClsAt K C tail newId) (t : PySem.W.excTail tail tail = true) : PySem.W.excOver K C tail = true := by
  obtain ⟨cd, e, em, _⟩ := h.cd
  unfold PySem.W.excOver
  rw [e]
  simp [em, t]
theorem ClsAt.mro (h : ClsAt K C tail newId) (v : Value) : PySem.W.mroIn K C v = some ((Value.ref C :: tail).contains v) := by
  obtain ⟨cd, e, em, _⟩ := h.cd
  unfold PySem.W.mroIn
  rw [e]
  simp [em]
theorem ClsAt.dict (h : ClsAt K C tail newId) : PySem.W.hasDictIn K C = true := by
  obtain ⟨cd, e, _, ed⟩ := h.cd
  unfold PySem.W.hasDictIn
  rw [e]
  simp [ed]
/-- isinstance with a built-in type -/
theorem ClsAt.kitT (h : ClsAt K C tail newId) {T : String} {b : Bool} (m : PySem.W.kitMeta T = true) (e : tail.contains (.type T) = b) : PySem.W.kitOne K (.ref C) (.type T) = some b := by
  unfold PySem.W.kitOne
  rw [if_neg (by simp)]
  show (if PySem.W.kitMeta T = true then PySem.W.mroIn K C (.type T) else none) = some b
  rw [if_pos m, h.mro, ← e]
  simp [List.contains_cons]
/-- isinstance with an own class -/
theorem ClsAt.kitC {tail2 : List Value} {newId2 : String} (h : ClsAt K C tail newId) (h2 : ClsAt K D tail2 newId2) (nr : ∀ a : Addr, tail.contains (.ref a) = false) : PySem.W.kitOne K (.ref C) (.ref D) = some (decide (C = D)) := by
  unfold PySem.W.kitOne
  obtain ⟨cd, e, _⟩ := h2.cd
  by_cases z : C = D
  · subst z
    rw [if_pos (by simp)]
    simp
  · rw [if_neg (by simpa using z)]
    show (if ((PySem.W.clsIn K D).isSome && PySem.W.typeIn K (.ref D) == some (.type "type")) = true then PySem.W.mroIn K C (.ref D) else none) = some (decide (C = D))
    rw [e, h2.ty, if_pos (by rfl), h.mro, List.contains_cons, nr D]
    simp [z, Ne.symm z]
end
end KF
end L2
/-! ### KY -/
namespace L2
namespace KF
open PySem PySem.Spec PyProof.Rows PySem.KD KE KC PySem.KA PySem.Calls
/-! ## the facts, class by class -/
/-- an error's class whole -/
structure ErrAll (K : PySem.W.Frag) (mg : Str → Option Value) (nm qual f : Str) (st : Stmt) (newId initId : String) (tail : List Value) (C : Addr) : Prop where
  er : ∃ fI fdI, ErrC K mg nm qual f st newId initId tail C fI fdI
  xc : ExcC K C
  cl : ClsAt K C tail newId
  name : (PySem.W.clsIn K C).map (·.name) = some nm
/-- what stands once for all classes -/
structure ClsOnce (K : PySem.W.Frag) : Prop where
  hn : PySem.W.specialIn K (.builtin "object.__class__") "__get__" = some (some (.builtin "getset_descriptor.__get__"))
  ht : PySem.W.takesIn K (.builtin "object.__class__") = some true
theorem exc_mk {K : PySem.W.Frag} {C : Addr} {tail : List Value} {newId : String} (O : ClsOnce K) (cl : ClsAt K C tail newId) (tb : tail.contains (.type "BaseException") = true) (to : tail.contains (.type "object") = true)
    (hg : PySem.W.findIn K (.ref C) "__getattribute__" = some (some (.builtin "BaseException.__getattribute__"))) (hk : PySem.W.findIn K (.ref C) "__getattr__" = some none) (ha : PySem.W.findIn K (.ref C) "__class__" = some (some (.builtin "object.__class__"))) : ExcC K C where
  hg := hg
  hk := hk
  hs := by
    show PySem.W.mroIn K C (.type "BaseException") = some true
    rw [cl.mro, List.contains_cons, tb, Bool.or_true]
  hd := cl.dict
  ha := ha
  hn := O.hn
  ht := O.ht
  hm := by rw [cl.mro, List.contains_cons, to, Bool.or_true]
/-- a base: what is known of it -/
structure TailOk (tail : List Value) (newId initId : String) : Prop where
  eb : ∃ nB iB, EB nB newId iB initId tail
  st : ∃ Bx, StoreFacts Bx tail "object.__setattr__" "object"
  tt : PySem.W.excTail tail tail = true
  tb : tail.contains (.type "BaseException") = true
  to : tail.contains (.type "object") = true
theorem err_mk {K : PySem.W.Frag} {h : Heap} {mg : Str → Option Value} {nm qual f : Str} {st : Stmt} {newId initId : String} {tail : List Value} (X : K.In h) (G : h.Ns mainGlobals mg) (O : ClsOnce K) (t : TailOk tail newId initId)
    (hb1 : ∀ (kV doc pm : Value) (an : Option Addr) (cdv ct : Value) (us : List Value), us.length = 2 → bindArgs (PySem.W.fnOf "__init__" qual (defArgs st) (defBody st) (defScope st) .none kV doc pm an cdv ct) ⟨us, []⟩ = pure ([("self" : Str), f].zip us))
    (hbk : ∀ (kV doc pm : Value) (an : Option Addr) (cdv ct : Value) (us ws : List Value), us.length = 1 → ws.length = 1 → bindArgs (PySem.W.fnOf "__init__" qual (defArgs st) (defBody st) (defScope st) .none kV doc pm an cdv ct) ⟨us, [f].zip ws⟩ = pure ([("self" : Str), f].zip (us ++ ws)))
    {C fI N : Addr} {q : Str} {bs : List Value} {sn : List Str} {sub : List Value} {ab : Bool} {col : Option Bool} {dd od an : Option Addr} {k0 k1 k2 k3 k5 : Option Value} {oc kV dc pm cd ct : Value} {sl : Array (Option Value)}
    (aC : PySem.W.nsIn K mainGlobals nm = some (some (.ref C))) (lC : K.lookup C = some (excClassObj nm q C N bs tail true sn sub ab col dd k0 k1 k2 k3 k5 newId)) (kC : PySem.W.keepIn K (.ref C) = true)
    (sa : PySem.W.findIn K (.ref C) "__setattr__" = some (some (.builtin "object.__setattr__"))) (hg : PySem.W.findIn K (.ref C) "__getattribute__" = some (some (.builtin "BaseException.__getattribute__"))) (hk : PySem.W.findIn K (.ref C) "__getattr__" = some none)
    (ha : PySem.W.findIn K (.ref C) "__class__" = some (some (.builtin "object.__class__"))) (no : PySem.W.findIn K (.ref C) f = some none) (iC : PySem.W.findIn K (.ref C) "__init__" = some (some (.ref fI))) (tI : PySem.W.typeIn K (.ref fI) = some (.type "function"))
    (lI : K.lookup fI = some ⟨oc, od, .func (PySem.W.fnOf "__init__" qual (defArgs st) (defBody st) (defScope st) .none kV dc pm an cd ct), sl⟩) (cI : PySem.W.codeIn K cd qual = true) (kI : PySem.W.keepIn K (.ref fI) = true) : ErrAll K mg nm qual f st newId initId tail C := by
  have cl : ClsAt K C tail newId := ⟨_, _, _, _, _, _, _, _, _, _, _, _, _, _, lC⟩
  have xc := exc_mk O cl t.tb t.to hg hk ha
  have F := fun_mk (st := st) lI cI kI
  exact ⟨⟨fI, _, { ox := { toOX := { eb := t.eb, ins := cl.ins t.tt, ov := cl.over t.tt, sa := sa, xc := xc, kp := kC }, st := t.st, no := no }, iC := iC, tI := tI, fn := F, gC := PySem.W.mg_of X G aC, b1 := F.binds (hb1), bk := hbk _ _ _ _ _ _ }⟩, xc, cl, by
    unfold PySem.W.clsIn
    rw [lC]
    rfl⟩
theorem tailV : TailOk vTail "ValueError.__new__" "ValueError.__init__" := ⟨⟨_, _, ebV⟩, ⟨_, stV⟩, by decide +kernel, by decide +kernel, by decide +kernel⟩
theorem tailK : TailOk kTail "LookupError.__new__" "KeyError.__init__" := ⟨⟨_, _, ebK⟩, ⟨_, storeKey⟩, by decide +kernel, by decide +kernel, by decide +kernel⟩
theorem tailI : TailOk iTail "IndexError.__new__" "IndexError.__init__" := ⟨⟨_, _, ebI⟩, ⟨_, stI⟩, by decide +kernel, by decide +kernel, by decide +kernel⟩
theorem tailO : TailOk oTail "OverflowError.__new__" "OverflowError.__init__" := ⟨⟨_, _, ebO⟩, ⟨_, stO⟩, by decide +kernel, by decide +kernel, by decide +kernel⟩
/-- the class's own name -/
def clsName (K : PySem.W.Frag) (C : Addr) : Option Str := (PySem.W.clsIn K C).map (·.name)
theorem name_at {K : PySem.W.Frag} {C N : Addr} {nm q : Str} {bs tail : List Value} {sn : List Str} {sub : List Value} {ab : Bool} {col : Option Bool} {dd : Option Addr} {k0 k1 k2 k3 k5 : Option Value} {newId : String} (e : K.lookup C = some (excClassObj nm q C N bs tail true sn sub ab col dd k0 k1 k2 k3 k5 newId)) : clsName K C = some nm := by
  unfold clsName PySem.W.clsIn
  rw [e]
  rfl
theorem apart {K : PySem.W.Frag} {Cs : List Addr} {ns : List Str} (h : Cs.map (clsName K) = ns.map some) (nd : ns.Nodup) : Cs.Nodup := by
  have z : (Cs.map (clsName K)).Nodup := by
    rw [h]
    exact List.Pairwise.map _ (fun a b ne e => ne (Option.some.inj e)) nd
  exact List.Pairwise.of_map (clsName K) (fun a b ne e => ne (by rw [e])) z
theorem hits_one {C : Addr} : ∀ {Cs : List Addr}, Cs.Nodup → C ∈ Cs → (hits (Cs.map fun D => decide (C = D))).length = 1
  | D :: Cs, nd, h => by
    obtain ⟨n1, n2⟩ := List.nodup_cons.mp nd
    have ex : hits ((D :: Cs).map fun D => decide (C = D)) = if decide (C = D) = true then V.bl true :: hits (Cs.map fun D => decide (C = D)) else hits (Cs.map fun D => decide (C = D)) := by
      unfold hits
      rw [List.map_cons, List.filter_cons]
      by_cases z : C = D
      · simp [z]
      · simp [z]
    rw [ex]
    by_cases z : C = D
    · subst z
      rw [if_pos (by simp)]
      have none : hits (Cs.map fun D => decide (C = D)) = [] := by
        unfold hits
        rw [List.map_eq_nil_iff, List.filter_eq_nil_iff]
        intro b hb e
        obtain ⟨D, hD, rfl⟩ := List.mem_map.mp hb
        exact n1 (by rw [of_decide_eq_true (show decide (C = D) = true from e)]; exact hD)
      rw [none]
      rfl
    · rw [if_neg (by simpa using z)]
      exact hits_one n2 ((List.mem_cons.mp h).resolve_left z)
theorem facts_of {K : PySem.W.Frag} {Cs : List Addr} (all : ∀ D ∈ Cs, ∃ tail id, ClsAt K D tail id) (nd : Cs.Nodup) {C : Addr} {tail : List Value} {newId : String} (hi : C ∈ Cs) (xc : ExcC K C) (cl : ClsAt K C tail newId) (nr : ∀ a : Addr, tail.contains (.ref a) = false) {k : Int}
    (tk : ticks [tail.contains (.type "ValueError"), tail.contains (.type "KeyError"), tail.contains (.type "IndexError"), tail.contains (.type "OverflowError"), tail.contains (.type "RuntimeError")] 5 = [V.int k]) : ErrFacts K Cs C k where
  xc := xc
  kinds := ⟨_, _, _, _, _, cl.kitT (by decide +kernel) rfl, cl.kitT (by decide +kernel) rfl, cl.kitT (by decide +kernel) rfl, cl.kitT (by decide +kernel) rfl, cl.kitT (by decide +kernel) rfl, tk⟩
  own := ⟨Cs.map fun D => decide (C = D), ⟨by rw [List.length_map], fun j D b hD hb => by
    rw [List.getElem?_map, hD] at hb
    obtain rfl := Option.some.inj hb
    obtain ⟨t2, i2, c2⟩ := all D (List.mem_of_getElem? hD)
    exact cl.kitC c2 nr⟩, hits_one nd hi⟩
theorem nrV (a : Addr) : vTail.contains (.ref a) = false := by simp [vTail, List.contains_cons]
theorem nrK (a : Addr) : kTail.contains (.ref a) = false := by simp [kTail, List.contains_cons]
theorem nrI (a : Addr) : iTail.contains (.ref a) = false := by simp [iTail, List.contains_cons]
theorem nrO (a : Addr) : oTail.contains (.ref a) = false := by simp [oTail, List.contains_cons]
theorem nrR (a : Addr) : rTail.contains (.ref a) = false := by simp [rTail, List.contains_cons]
theorem tkV : ticks [vTail.contains (.type "ValueError"), vTail.contains (.type "KeyError"), vTail.contains (.type "IndexError"), vTail.contains (.type "OverflowError"), vTail.contains (.type "RuntimeError")] 5 = [V.int 0] := by rfl
theorem tkK : ticks [kTail.contains (.type "ValueError"), kTail.contains (.type "KeyError"), kTail.contains (.type "IndexError"), kTail.contains (.type "OverflowError"), kTail.contains (.type "RuntimeError")] 5 = [V.int 1] := by rfl
theorem tkI : ticks [iTail.contains (.type "ValueError"), iTail.contains (.type "KeyError"), iTail.contains (.type "IndexError"), iTail.contains (.type "OverflowError"), iTail.contains (.type "RuntimeError")] 5 = [V.int 2] := by rfl
theorem tkO : ticks [oTail.contains (.type "ValueError"), oTail.contains (.type "KeyError"), oTail.contains (.type "IndexError"), oTail.contains (.type "OverflowError"), oTail.contains (.type "RuntimeError")] 5 = [V.int 3] := by rfl
theorem tkR : ticks [rTail.contains (.type "ValueError"), rTail.contains (.type "KeyError"), rTail.contains (.type "IndexError"), rTail.contains (.type "OverflowError"), rTail.contains (.type "RuntimeError")] 5 = [V.int 4] := by rfl
end KF
end L2
/-! ### KZ -/
namespace L2
namespace KF
open PySem PySem.Spec PyProof.Rows PySem.KD KE KC PySem.KA PySem.Calls
/-! ## all that the top has written -/
/-- InTrial -/
structure TrAll (K : PySem.W.Frag) (mg : Str → Option Value) (C : Addr) : Prop where
  ex : ∃ (fI : Addr) (fdI : FuncData), PySem.W.findIn K (.ref C) "__init__" = some (some (.ref fI)) ∧ PySem.W.typeIn K (.ref fI) = some (.type "function") ∧ Binds K fdI ["self"] [] ∧ Fun K "__init__" "InTrial.__init__" (initOf 29) fI fdI
  ox : OX K C "RuntimeError.__new__" "RuntimeError.__init__" rTail
  gC : mg "InTrial" = some (.ref C)
  xc : ExcC K C
  cl : ClsAt K C rTail "RuntimeError.__new__"
  name : clsName K C = some (Str.ofString "InTrial")
theorem tr_mk {K : PySem.W.Frag} {h : Heap} {mg : Str → Option Value} (X : K.In h) (G : h.Ns mainGlobals mg) (O : ClsOnce K)
    {C fI N : Addr} {q : Str} {bs : List Value} {sn : List Str} {sub : List Value} {ab : Bool} {col : Option Bool} {dd od an : Option Addr} {k0 k1 k2 k3 k5 : Option Value} {oc kV dc pm cd ct : Value} {sl : Array (Option Value)}
    (aC : PySem.W.nsIn K mainGlobals "InTrial" = some (some (.ref C))) (lC : K.lookup C = some (excClassObj "InTrial" q C N bs rTail true sn sub ab col dd k0 k1 k2 k3 k5 "RuntimeError.__new__")) (kC : PySem.W.keepIn K (.ref C) = true)
    (sa : PySem.W.findIn K (.ref C) "__setattr__" = some (some (.builtin "object.__setattr__"))) (hg : PySem.W.findIn K (.ref C) "__getattribute__" = some (some (.builtin "BaseException.__getattribute__"))) (hk : PySem.W.findIn K (.ref C) "__getattr__" = some none)
    (ha : PySem.W.findIn K (.ref C) "__class__" = some (some (.builtin "object.__class__"))) (iC : PySem.W.findIn K (.ref C) "__init__" = some (some (.ref fI))) (tI : PySem.W.typeIn K (.ref fI) = some (.type "function"))
    (lI : K.lookup fI = some ⟨oc, od, .func (PySem.W.fnOf "__init__" "InTrial.__init__" (defArgs (initOf 29)) (defBody (initOf 29)) (defScope (initOf 29)) .none kV dc pm an cd ct), sl⟩) (cI : PySem.W.codeIn K cd "InTrial.__init__" = true) (kI : PySem.W.keepIn K (.ref fI) = true) : TrAll K mg C := by
  have cl : ClsAt K C rTail "RuntimeError.__new__" := ⟨_, _, _, _, _, _, _, _, _, _, _, _, _, _, lC⟩
  have xc := exc_mk O cl (by decide +kernel) (by decide +kernel) hg hk ha
  have F := fun_mk (st := initOf 29) lI cI kI
  exact ⟨⟨fI, _, iC, tI, F.binds fun _ _ _ _ _ _ us hl => match us, hl with | [_], _ => rfl, F⟩, { eb := ⟨_, _, ebR⟩, ins := cl.ins (by decide +kernel), ov := cl.over (by decide +kernel), sa := sa, xc := xc, kp := kC }, PySem.W.mg_of X G aC, xc, cl, name_at lC⟩
section
variable {P : Program} {w : World} {K : PySem.W.Frag} {mg : Str → Option Value}
/-- a def whole -/
structure FnAll (K : PySem.W.Frag) (mg : Str → Option Value) (x : Str) (st : Stmt) (ps : List Str) : Prop where
  ex : ∃ f fd, Fun K x x st f fd ∧ mg x = some (.ref f) ∧ Binds K fd ps []
theorem fn_mk {h : Heap} {x : Str} {st : Stmt} {ps : List Str} (X : K.In h) (G : h.Ns mainGlobals mg)
    (hb : ∀ (kV doc pm : Value) (an : Option Addr) (cdv ct : Value) (us : List Value), us.length = ps.length → bindArgs (PySem.W.fnOf x x (defArgs st) (defBody st) (defScope st) .none kV doc pm an cdv ct) ⟨us, []⟩ = pure (ps.zip us))
    {f : Addr} {oc kV dc pm cd ct : Value} {od an : Option Addr} {sl : Array (Option Value)} (a1 : PySem.W.nsIn K mainGlobals x = some (some (.ref f)))
    (l1 : K.lookup f = some ⟨oc, od, .func (PySem.W.fnOf x x (defArgs st) (defBody st) (defScope st) .none kV dc pm an cd ct), sl⟩) (c1 : PySem.W.codeIn K cd x = true) (k1 : PySem.W.keepIn K (.ref f) = true) : FnAll K mg x st ps :=
  ⟨f, _, fun_mk l1 c1 k1, PySem.W.mg_of X G a1, (fun_mk l1 c1 k1).binds hb⟩
structure FreeAll (mg : Str → Option Value) : Prop where
  xlen : mg "len" = none
  xlist : mg "list" = none
  xtuple : mg "tuple" = none
  xdict : mg "dict" = none
  xisinstance : mg "isinstance" = none
  xzip : mg "zip" = none
  xrange : mg "range" = none
  xreversed : mg "reversed" = none
  xint : mg "int" = none
  xstr : mg "str" = none
  xmin : mg "min" = none
  xrepr : mg "repr" = none
  xValueE : mg "ValueError" = none
  xKeyE : mg "KeyError" = none
  xIndexE : mg "IndexError" = none
  xOverflowE : mg "OverflowError" = none
  xRuntimeE : mg "RuntimeError" = none
structure BasesAll (K : PySem.W.Frag) : Prop where
  v : PySem.W.findCls K (.type "ValueError") (.type "type") "__init__" = some (.val (.builtin "ValueError.__init__"))
  k : PySem.W.findCls K (.type "KeyError") (.type "type") "__init__" = some (.val (.builtin "KeyError.__init__"))
  i : PySem.W.findCls K (.type "IndexError") (.type "type") "__init__" = some (.val (.builtin "IndexError.__init__"))
  o : PySem.W.findCls K (.type "OverflowError") (.type "type") "__init__" = some (.val (.builtin "OverflowError.__init__"))
  r : PySem.W.findCls K (.type "RuntimeError") (.type "type") "__init__" = some (.val (.builtin "RuntimeError.__init__"))
theorem fns_mk {C0 C1 C2 C3 C4 C5 C6 C7 C8 C9 C10 C11 C12 C13 C14 C15 C16 C17 CT : Addr} (Fr : FreeAll mg) (Ba : BasesAll K)
    (E0 : ErrAll K mg "InvalidFunctions" "InvalidFunctions.__init__" "value" (initOf 11) "ValueError.__new__" "ValueError.__init__" vTail C0)
    (E1 : ErrAll K mg "InvalidFunction" "InvalidFunction.__init__" "name" (initOf 12) "ValueError.__new__" "ValueError.__init__" vTail C1)
    (E2 : ErrAll K mg "InvalidNames" "InvalidNames.__init__" "name" (initOf 13) "ValueError.__new__" "ValueError.__init__" vTail C2)
    (E3 : ErrAll K mg "InvalidStatement" "InvalidStatement.__init__" "spot" (initOf 14) "ValueError.__new__" "ValueError.__init__" vTail C3)
    (E4 : ErrAll K mg "InvalidChoice" "InvalidChoice.__init__" "index" (initOf 15) "ValueError.__new__" "ValueError.__init__" vTail C4)
    (E5 : ErrAll K mg "InvalidPlaces" "InvalidPlaces.__init__" "value" (initOf 16) "ValueError.__new__" "ValueError.__init__" vTail C5)
    (E6 : ErrAll K mg "InvalidPaper" "InvalidPaper.__init__" "value" (initOf 17) "ValueError.__new__" "ValueError.__init__" vTail C6)
    (E7 : ErrAll K mg "InvalidPrices" "InvalidPrices.__init__" "value" (initOf 18) "ValueError.__new__" "ValueError.__init__" vTail C7)
    (E8 : ErrAll K mg "InvalidProfile" "InvalidProfile.__init__" "value" (initOf 19) "ValueError.__new__" "ValueError.__init__" vTail C8)
    (E9 : ErrAll K mg "InvalidText" "InvalidText.__init__" "line" (initOf 20) "ValueError.__new__" "ValueError.__init__" vTail C9)
    (E10 : ErrAll K mg "InvalidStates" "InvalidStates.__init__" "value" (initOf 21) "ValueError.__new__" "ValueError.__init__" vTail C10)
    (E11 : ErrAll K mg "NotClosed" "NotClosed.__init__" "spot" (initOf 22) "ValueError.__new__" "ValueError.__init__" vTail C11)
    (E12 : ErrAll K mg "Faulty" "Faulty.__init__" "spot" (initOf 23) "ValueError.__new__" "ValueError.__init__" vTail C12)
    (E13 : ErrAll K mg "UnknownFunction" "UnknownFunction.__init__" "value" (initOf 24) "LookupError.__new__" "KeyError.__init__" kTail C13)
    (E14 : ErrAll K mg "UnknownSpot" "UnknownSpot.__init__" "value" (initOf 25) "LookupError.__new__" "KeyError.__init__" kTail C14)
    (E15 : ErrAll K mg "UnknownName" "UnknownName.__init__" "value" (initOf 26) "LookupError.__new__" "KeyError.__init__" kTail C15)
    (E16 : ErrAll K mg "OutOfRange" "OutOfRange.__init__" "value" (initOf 27) "IndexError.__new__" "IndexError.__init__" iTail C16)
    (E17 : ErrAll K mg "TooMany" "TooMany.__init__" "limit" (initOf 28) "OverflowError.__new__" "OverflowError.__init__" oTail C17)
    (ET : TrAll K mg CT)
    (Fcopied : FnAll K mg "copied" sCopied ["value"])
    (Fitems_of : FnAll K mg "items_of" sItems ["value"])
    (Frebuilt : FnAll K mg "rebuilt" sRebuilt ["value", "items"])
    (F_law_pen : FnAll K mg "_law_pen" sPen ["_law_script"])
    (F_law_draw : FnAll K mg "_law_draw" sDraw ["_law_pen_here", "_law_many"])
    (F_law_pick : FnAll K mg "_law_pick" sPick ["_law_pen_here", "_law_items"])
    (F_law_any : FnAll K mg "_law_any" sAny ["_law_pen_here", "_law_deep"])
    (F_law_made : FnAll K mg "_law_made" sMade ["_law_thing"])
    (F_law_kinds : FnAll K mg "_law_kinds" sKinds ["_law_error"])
    (F_law_own : FnAll K mg "_law_own" sOwn ["_law_error"])
    (F_law_spoil : FnAll K mg "_law_spoil" sSpoil ["_law_thing"])
    (base : Heap) : Fns P w K mg base [(C0, 0), (C1, 0), (C2, 0), (C3, 0), (C4, 0), (C5, 0), (C6, 0), (C7, 0), (C8, 0), (C9, 0), (C10, 0), (C11, 0), (C12, 0), (C13, 1), (C14, 1), (C15, 1), (C16, 2), (C17, 3)] [C0, C1, C2, C3, C4, C5, C6, C7, C8, C9, C10, C11, C12, C13, C14, C15, C16, C17, CT] CT := by
  obtain ⟨fcopied, dcopied, Fcopied', gcopied, bcopied⟩ := Fcopied.ex
  obtain ⟨fitems_of, ditems_of, Fitems_of', gitems_of, bitems_of⟩ := Fitems_of.ex
  obtain ⟨frebuilt, drebuilt, Frebuilt', grebuilt, brebuilt⟩ := Frebuilt.ex
  obtain ⟨f_law_pen, d_law_pen, F_law_pen', g_law_pen, b_law_pen⟩ := F_law_pen.ex
  obtain ⟨f_law_draw, d_law_draw, F_law_draw', g_law_draw, b_law_draw⟩ := F_law_draw.ex
  obtain ⟨f_law_pick, d_law_pick, F_law_pick', g_law_pick, b_law_pick⟩ := F_law_pick.ex
  obtain ⟨f_law_any, d_law_any, F_law_any', g_law_any, b_law_any⟩ := F_law_any.ex
  obtain ⟨f_law_made, d_law_made, F_law_made', g_law_made, b_law_made⟩ := F_law_made.ex
  obtain ⟨f_law_kinds, d_law_kinds, F_law_kinds', g_law_kinds, b_law_kinds⟩ := F_law_kinds.ex
  obtain ⟨f_law_own, d_law_own, F_law_own', g_law_own, b_law_own⟩ := F_law_own.ex
  obtain ⟨f_law_spoil, d_law_spoil, F_law_spoil', g_law_spoil, b_law_spoil⟩ := F_law_spoil.ex
  have B : Blt mg := ⟨Fr.xlen, Fr.xlist, Fr.xtuple, Fr.xdict, Fr.xisinstance, Fr.xzip, Fr.xrange, Fr.xreversed⟩
  have BD : BltD mg := ⟨Fr.xint, Fr.xlen, Fr.xlist⟩
  have BA : BltA mg := ⟨Fr.xint, Fr.xstr, Fr.xlen, Fr.xrange, Fr.xtuple, Fr.xdict⟩
  have BS : BltS mg := ⟨Fr.xisinstance, Fr.xlist, Fr.xtuple, Fr.xdict⟩
  have BK : BltK mg := ⟨Fr.xisinstance, Fr.xrange, Fr.xlen, Fr.xValueE, Fr.xKeyE, Fr.xIndexE, Fr.xOverflowE, Fr.xRuntimeE⟩
  have GC : FnOk P w K mg base CX0 2 fcopied dcopied ["value"] (spCopied w) := ok_copied Fcopied' Fitems_of' Frebuilt' B gitems_of grebuilt bitems_of brebuilt
  have bV : BaseC K mg "ValueError" "ValueError" "ValueError.__init__" := ⟨Fr.xValueE, Ba.v⟩
  have bK : BaseC K mg "KeyError" "KeyError" "KeyError.__init__" := ⟨Fr.xKeyE, Ba.k⟩
  have bI : BaseC K mg "IndexError" "IndexError" "IndexError.__init__" := ⟨Fr.xIndexE, Ba.i⟩
  have bO : BaseC K mg "OverflowError" "OverflowError" "OverflowError.__init__" := ⟨Fr.xOverflowE, Ba.o⟩
  have bR : BaseC K mg "RuntimeError" "RuntimeError" "RuntimeError.__init__" := ⟨Fr.xRuntimeE, Ba.r⟩
  have O0 : ErrOk P w K mg base "InvalidFunctions" "value" C0 := by
    obtain ⟨fI, fdI, er⟩ := E0.er
    exact ⟨_, _, _, fI, fdI, er.ox, er.iC, er.tI, er.gC, er.b1, er.bk, ok_err11 GC Fcopied'.kp bcopied gcopied bV er⟩
  have O1 : ErrOk P w K mg base "InvalidFunction" "name" C1 := by
    obtain ⟨fI, fdI, er⟩ := E1.er
    exact ⟨_, _, _, fI, fdI, er.ox, er.iC, er.tI, er.gC, er.b1, er.bk, ok_err12 GC Fcopied'.kp bcopied gcopied bV er⟩
  have O2 : ErrOk P w K mg base "InvalidNames" "name" C2 := by
    obtain ⟨fI, fdI, er⟩ := E2.er
    exact ⟨_, _, _, fI, fdI, er.ox, er.iC, er.tI, er.gC, er.b1, er.bk, ok_err13 GC Fcopied'.kp bcopied gcopied bV er⟩
  have O3 : ErrOk P w K mg base "InvalidStatement" "spot" C3 := by
    obtain ⟨fI, fdI, er⟩ := E3.er
    exact ⟨_, _, _, fI, fdI, er.ox, er.iC, er.tI, er.gC, er.b1, er.bk, ok_err14 GC Fcopied'.kp bcopied gcopied bV er⟩
  have O4 : ErrOk P w K mg base "InvalidChoice" "index" C4 := by
    obtain ⟨fI, fdI, er⟩ := E4.er
    exact ⟨_, _, _, fI, fdI, er.ox, er.iC, er.tI, er.gC, er.b1, er.bk, ok_err15 GC Fcopied'.kp bcopied gcopied bV er⟩
  have O5 : ErrOk P w K mg base "InvalidPlaces" "value" C5 := by
    obtain ⟨fI, fdI, er⟩ := E5.er
    exact ⟨_, _, _, fI, fdI, er.ox, er.iC, er.tI, er.gC, er.b1, er.bk, ok_err16 GC Fcopied'.kp bcopied gcopied bV er⟩
  have O6 : ErrOk P w K mg base "InvalidPaper" "value" C6 := by
    obtain ⟨fI, fdI, er⟩ := E6.er
    exact ⟨_, _, _, fI, fdI, er.ox, er.iC, er.tI, er.gC, er.b1, er.bk, ok_err17 GC Fcopied'.kp bcopied gcopied bV er⟩
  have O7 : ErrOk P w K mg base "InvalidPrices" "value" C7 := by
    obtain ⟨fI, fdI, er⟩ := E7.er
    exact ⟨_, _, _, fI, fdI, er.ox, er.iC, er.tI, er.gC, er.b1, er.bk, ok_err18 GC Fcopied'.kp bcopied gcopied bV er⟩
  have O8 : ErrOk P w K mg base "InvalidProfile" "value" C8 := by
    obtain ⟨fI, fdI, er⟩ := E8.er
    exact ⟨_, _, _, fI, fdI, er.ox, er.iC, er.tI, er.gC, er.b1, er.bk, ok_err19 GC Fcopied'.kp bcopied gcopied bV er⟩
  have O9 : ErrOk P w K mg base "InvalidText" "line" C9 := by
    obtain ⟨fI, fdI, er⟩ := E9.er
    exact ⟨_, _, _, fI, fdI, er.ox, er.iC, er.tI, er.gC, er.b1, er.bk, ok_err20 GC Fcopied'.kp bcopied gcopied bV er⟩
  have O10 : ErrOk P w K mg base "InvalidStates" "value" C10 := by
    obtain ⟨fI, fdI, er⟩ := E10.er
    exact ⟨_, _, _, fI, fdI, er.ox, er.iC, er.tI, er.gC, er.b1, er.bk, ok_err21 GC Fcopied'.kp bcopied gcopied bV er⟩
  have O11 : ErrOk P w K mg base "NotClosed" "spot" C11 := by
    obtain ⟨fI, fdI, er⟩ := E11.er
    exact ⟨_, _, _, fI, fdI, er.ox, er.iC, er.tI, er.gC, er.b1, er.bk, ok_err22 GC Fcopied'.kp bcopied gcopied bV er⟩
  have O12 : ErrOk P w K mg base "Faulty" "spot" C12 := by
    obtain ⟨fI, fdI, er⟩ := E12.er
    exact ⟨_, _, _, fI, fdI, er.ox, er.iC, er.tI, er.gC, er.b1, er.bk, ok_err23 GC Fcopied'.kp bcopied gcopied bV er⟩
  have O13 : ErrOk P w K mg base "UnknownFunction" "value" C13 := by
    obtain ⟨fI, fdI, er⟩ := E13.er
    exact ⟨_, _, _, fI, fdI, er.ox, er.iC, er.tI, er.gC, er.b1, er.bk, ok_err24 GC Fcopied'.kp bcopied gcopied bK er⟩
  have O14 : ErrOk P w K mg base "UnknownSpot" "value" C14 := by
    obtain ⟨fI, fdI, er⟩ := E14.er
    exact ⟨_, _, _, fI, fdI, er.ox, er.iC, er.tI, er.gC, er.b1, er.bk, ok_err25 GC Fcopied'.kp bcopied gcopied bK er⟩
  have O15 : ErrOk P w K mg base "UnknownName" "value" C15 := by
    obtain ⟨fI, fdI, er⟩ := E15.er
    exact ⟨_, _, _, fI, fdI, er.ox, er.iC, er.tI, er.gC, er.b1, er.bk, ok_err26 GC Fcopied'.kp bcopied gcopied bK er⟩
  have O16 : ErrOk P w K mg base "OutOfRange" "value" C16 := by
    obtain ⟨fI, fdI, er⟩ := E16.er
    exact ⟨_, _, _, fI, fdI, er.ox, er.iC, er.tI, er.gC, er.b1, er.bk, ok_err27 GC Fcopied'.kp bcopied gcopied bI er⟩
  have O17 : ErrOk P w K mg base "TooMany" "limit" C17 := by
    obtain ⟨fI, fdI, er⟩ := E17.er
    exact ⟨_, _, _, fI, fdI, er.ox, er.iC, er.tI, er.gC, er.b1, er.bk, ok_err28 GC Fcopied'.kp bcopied gcopied bO er⟩
  have g0 : mg "InvalidFunctions" = some (.ref C0) := by
    obtain ⟨_, _, er⟩ := E0.er
    exact er.gC
  have g1 : mg "InvalidFunction" = some (.ref C1) := by
    obtain ⟨_, _, er⟩ := E1.er
    exact er.gC
  have g2 : mg "InvalidNames" = some (.ref C2) := by
    obtain ⟨_, _, er⟩ := E2.er
    exact er.gC
  have g3 : mg "InvalidStatement" = some (.ref C3) := by
    obtain ⟨_, _, er⟩ := E3.er
    exact er.gC
  have g4 : mg "InvalidChoice" = some (.ref C4) := by
    obtain ⟨_, _, er⟩ := E4.er
    exact er.gC
  have g5 : mg "InvalidPlaces" = some (.ref C5) := by
    obtain ⟨_, _, er⟩ := E5.er
    exact er.gC
  have g6 : mg "InvalidPaper" = some (.ref C6) := by
    obtain ⟨_, _, er⟩ := E6.er
    exact er.gC
  have g7 : mg "InvalidPrices" = some (.ref C7) := by
    obtain ⟨_, _, er⟩ := E7.er
    exact er.gC
  have g8 : mg "InvalidProfile" = some (.ref C8) := by
    obtain ⟨_, _, er⟩ := E8.er
    exact er.gC
  have g9 : mg "InvalidText" = some (.ref C9) := by
    obtain ⟨_, _, er⟩ := E9.er
    exact er.gC
  have g10 : mg "InvalidStates" = some (.ref C10) := by
    obtain ⟨_, _, er⟩ := E10.er
    exact er.gC
  have g11 : mg "NotClosed" = some (.ref C11) := by
    obtain ⟨_, _, er⟩ := E11.er
    exact er.gC
  have g12 : mg "Faulty" = some (.ref C12) := by
    obtain ⟨_, _, er⟩ := E12.er
    exact er.gC
  have g13 : mg "UnknownFunction" = some (.ref C13) := by
    obtain ⟨_, _, er⟩ := E13.er
    exact er.gC
  have g14 : mg "UnknownSpot" = some (.ref C14) := by
    obtain ⟨_, _, er⟩ := E14.er
    exact er.gC
  have g15 : mg "UnknownName" = some (.ref C15) := by
    obtain ⟨_, _, er⟩ := E15.er
    exact er.gC
  have g16 : mg "OutOfRange" = some (.ref C16) := by
    obtain ⟨_, _, er⟩ := E16.er
    exact er.gC
  have g17 : mg "TooMany" = some (.ref C17) := by
    obtain ⟨_, _, er⟩ := E17.er
    exact er.gC
  have all : ∀ D ∈ ([C0, C1, C2, C3, C4, C5, C6, C7, C8, C9, C10, C11, C12, C13, C14, C15, C16, C17, CT] : List Addr), ∃ tail id, ClsAt K D tail id := by
    intro D hD
    rcases List.mem_cons.mp hD with rfl | hD
    · exact ⟨_, _, E0.cl⟩
    rcases List.mem_cons.mp hD with rfl | hD
    · exact ⟨_, _, E1.cl⟩
    rcases List.mem_cons.mp hD with rfl | hD
    · exact ⟨_, _, E2.cl⟩
    rcases List.mem_cons.mp hD with rfl | hD
    · exact ⟨_, _, E3.cl⟩
    rcases List.mem_cons.mp hD with rfl | hD
    · exact ⟨_, _, E4.cl⟩
    rcases List.mem_cons.mp hD with rfl | hD
    · exact ⟨_, _, E5.cl⟩
    rcases List.mem_cons.mp hD with rfl | hD
    · exact ⟨_, _, E6.cl⟩
    rcases List.mem_cons.mp hD with rfl | hD
    · exact ⟨_, _, E7.cl⟩
    rcases List.mem_cons.mp hD with rfl | hD
    · exact ⟨_, _, E8.cl⟩
    rcases List.mem_cons.mp hD with rfl | hD
    · exact ⟨_, _, E9.cl⟩
    rcases List.mem_cons.mp hD with rfl | hD
    · exact ⟨_, _, E10.cl⟩
    rcases List.mem_cons.mp hD with rfl | hD
    · exact ⟨_, _, E11.cl⟩
    rcases List.mem_cons.mp hD with rfl | hD
    · exact ⟨_, _, E12.cl⟩
    rcases List.mem_cons.mp hD with rfl | hD
    · exact ⟨_, _, E13.cl⟩
    rcases List.mem_cons.mp hD with rfl | hD
    · exact ⟨_, _, E14.cl⟩
    rcases List.mem_cons.mp hD with rfl | hD
    · exact ⟨_, _, E15.cl⟩
    rcases List.mem_cons.mp hD with rfl | hD
    · exact ⟨_, _, E16.cl⟩
    rcases List.mem_cons.mp hD with rfl | hD
    · exact ⟨_, _, E17.cl⟩
    obtain rfl := List.mem_singleton.mp hD
    exact ⟨_, _, ET.cl⟩
  have nd : ([C0, C1, C2, C3, C4, C5, C6, C7, C8, C9, C10, C11, C12, C13, C14, C15, C16, C17, CT] : List Addr).Nodup := by
    refine apart (K := K) (ns := (["InvalidFunctions", "InvalidFunction", "InvalidNames", "InvalidStatement", "InvalidChoice", "InvalidPlaces", "InvalidPaper", "InvalidPrices", "InvalidProfile", "InvalidText", "InvalidStates", "NotClosed", "Faulty", "UnknownFunction", "UnknownSpot", "UnknownName", "OutOfRange", "TooMany", "InTrial"] : List Str)) ?_ (by decide +kernel)
    simp only [List.map_cons, List.map_nil]
    have z : ∀ {D : Addr} {nm : Str}, (PySem.W.clsIn K D).map (·.name) = some nm → clsName K D = some nm := fun e => e
    rw [z E0.name, z E1.name, z E2.name, z E3.name, z E4.name, z E5.name, z E6.name, z E7.name, z E8.name, z E9.name, z E10.name, z E11.name, z E12.name, z E13.name, z E14.name, z E15.name, z E16.name, z E17.name, ET.name]
  obtain ⟨fI, fdI, iT, tT, bT, FT⟩ := ET.ex
  refine { pen := ⟨f_law_pen, _, ok_pen F_law_pen' BD, g_law_pen, F_law_pen'.kp, b_law_pen⟩, any := ⟨f_law_any, _, ok_any F_law_any' F_law_draw' F_law_pick' g_law_any g_law_draw g_law_pick b_law_any b_law_draw b_law_pick BD BA 4, g_law_any, F_law_any'.kp, b_law_any⟩, made := ⟨f_law_made, _, ok_made F_law_made' O0 O1 O2 O3 O4 O5 O6 O7 O8 O9 O10 O11 O12 O13 O14 O15 O16 O17, g_law_made, F_law_made'.kp, b_law_made⟩, spoil := ⟨f_law_spoil, _, ok_spoil F_law_spoil' BS g_law_spoil b_law_spoil 5, g_law_spoil, F_law_spoil'.kp, b_law_spoil⟩, kinds := ⟨f_law_kinds, _, ok_kinds F_law_kinds' BK, g_law_kinds, F_law_kinds'.kp, b_law_kinds⟩, own := ⟨f_law_own, _, ok_own F_law_own' Fr.xisinstance Fr.xlen g0 g1 g2 g3 g4 g5 g6 g7 g8 g9 g10 g11 g12 g13 g14 g15 g16 g17 ET.gC, g_law_own, F_law_own'.kp, b_law_own⟩, trial := ⟨fI, fdI, ET.ox, iT, tT, ET.gC, bT, ok_trial bR ET.ox FT⟩, errs := ?_, terr := ?_ }
  · intro q hq
    rcases List.mem_cons.mp hq with rfl | hq
    · exact facts_of all nd (by simp) E0.xc E0.cl nrV tkV
    rcases List.mem_cons.mp hq with rfl | hq
    · exact facts_of all nd (by simp) E1.xc E1.cl nrV tkV
    rcases List.mem_cons.mp hq with rfl | hq
    · exact facts_of all nd (by simp) E2.xc E2.cl nrV tkV
    rcases List.mem_cons.mp hq with rfl | hq
    · exact facts_of all nd (by simp) E3.xc E3.cl nrV tkV
    rcases List.mem_cons.mp hq with rfl | hq
    · exact facts_of all nd (by simp) E4.xc E4.cl nrV tkV
    rcases List.mem_cons.mp hq with rfl | hq
    · exact facts_of all nd (by simp) E5.xc E5.cl nrV tkV
    rcases List.mem_cons.mp hq with rfl | hq
    · exact facts_of all nd (by simp) E6.xc E6.cl nrV tkV
    rcases List.mem_cons.mp hq with rfl | hq
    · exact facts_of all nd (by simp) E7.xc E7.cl nrV tkV
    rcases List.mem_cons.mp hq with rfl | hq
    · exact facts_of all nd (by simp) E8.xc E8.cl nrV tkV
    rcases List.mem_cons.mp hq with rfl | hq
    · exact facts_of all nd (by simp) E9.xc E9.cl nrV tkV
    rcases List.mem_cons.mp hq with rfl | hq
    · exact facts_of all nd (by simp) E10.xc E10.cl nrV tkV
    rcases List.mem_cons.mp hq with rfl | hq
    · exact facts_of all nd (by simp) E11.xc E11.cl nrV tkV
    rcases List.mem_cons.mp hq with rfl | hq
    · exact facts_of all nd (by simp) E12.xc E12.cl nrV tkV
    rcases List.mem_cons.mp hq with rfl | hq
    · exact facts_of all nd (by simp) E13.xc E13.cl nrK tkK
    rcases List.mem_cons.mp hq with rfl | hq
    · exact facts_of all nd (by simp) E14.xc E14.cl nrK tkK
    rcases List.mem_cons.mp hq with rfl | hq
    · exact facts_of all nd (by simp) E15.xc E15.cl nrK tkK
    rcases List.mem_cons.mp hq with rfl | hq
    · exact facts_of all nd (by simp) E16.xc E16.cl nrI tkI
    obtain rfl := List.mem_singleton.mp hq
    exact facts_of all nd (by simp) E17.xc E17.cl nrO tkO
  · exact facts_of all nd (by simp) ET.xc ET.cl nrR tkR
end
/-- the walk of the law from the head, the two great limits read of the view -/
theorem walk_G {l : PySem.W.OpenLaw} {q : Program} {lv : List (Str × PySem.W.WData)} {loose : List Str} {YP : World → Heap → Prop} {d : DefRec} {K : Params → PySem.W.Frag} (hn : l.most = some 63) (hdf : d.params.defaults = []) (hY : ∀ (w : World) (h : Heap), YP w h → (K w.params).In h)
    (F : ∀ (w : World) (mg : Str → Option Value) (fa : Addr) (h : Heap), (K w.params).In h → h.Ns mainGlobals mg → (∀ q ∈ lv, ∃ v, mg q.1 = some v ∧ PySem.W.ReadsLit h v q.2 []) → mg d.name = some (.ref fa) →
      ∃ (fd : FuncData) (cs : List (Addr × Int)) (Cs : List Addr) (CT : Addr), Fun (K w.params) "law" "law" sLaw fa fd ∧ (∀ (s : Shared) (u : Value), BindsTo s fd ⟨[u], []⟩ [("_law_script", u)]) ∧ (∀ base : Heap, (K w.params).In base → base.Ns mainGlobals mg → Fns l.prog w (K w.params) mg base cs Cs CT) ∧ BltL mg ∧ LimL mg) :
    PySem.W.WalkO q loose (PySem.W.XL q lv) YP l.row.toRowW d [] (fun f vs => PySem.call f vs) := by
  refine _root_.Att.attach_call hn hdf fun w s₀ s₁ mg mb fa o pm cd doc a vs ns G Y ho hd hcd hmg hobj hints hlen hg => ?_
  obtain ⟨fd, cs, Cs, CT, FL, bL, hN, hB, hL⟩ := F w mg fa _ (hY w _ Y) G.T.g (fun q hq => G.X.2.val q hq) hmg
  exact law_told FL bL hN hB hL (hY w _ Y) G.T.g G.T.b G.T.builtins G.T.nolimit hg hobj hints hlen
theorem lit_int {mg : Str → Option Value} {h : Heap} {x : Str} {i : Int} (e : ∃ v, mg x = some v ∧ PySem.W.ReadsLit h v (.int i) []) : ∃ t, mg x = some (.int i t) := by
  obtain ⟨v, e1, e2⟩ := e
  cases e2 with
  | int _ t => exact ⟨t, e1⟩
end KF
end L2
/-! ### KZ2 -/
namespace L2
namespace KF
open PySem PySem.Spec PyProof.Rows PySem.KD KE KC PySem.KA PySem.Calls
/-! ## the facts one by one, each handed on -/
section
variable {K : PySem.W.Frag} {h : Heap} {mg : Str → Option Value} {R : Prop}
theorem once_k (X : K.In h) (hn : PySem.W.specialIn K (.builtin "object.__class__") "__get__" = some (some (.builtin "getset_descriptor.__get__"))) (ht : PySem.W.takesIn K (.builtin "object.__class__") = some true) (k : ClsOnce K → R) : R := k ⟨hn, ht⟩
theorem err_0 (X : K.In h) (G : h.Ns mainGlobals mg) (O : ClsOnce K) {C fI N : Addr} {q : Str} {bs : List Value} {sn : List Str} {sub : List Value} {ab : Bool} {col : Option Bool} {dd od an : Option Addr} {k0 k1 k2 k3 k5 : Option Value} {oc kV dc pm cd ct : Value} {sl : Array (Option Value)}
    (aC : PySem.W.nsIn K mainGlobals "InvalidFunctions" = some (some (.ref C))) (lC : K.lookup C = some (excClassObj "InvalidFunctions" q C N bs vTail true sn sub ab col dd k0 k1 k2 k3 k5 "ValueError.__new__")) (kC : PySem.W.keepIn K (.ref C) = true)
    (sa : PySem.W.findIn K (.ref C) "__setattr__" = some (some (.builtin "object.__setattr__"))) (hg : PySem.W.findIn K (.ref C) "__getattribute__" = some (some (.builtin "BaseException.__getattribute__"))) (hk : PySem.W.findIn K (.ref C) "__getattr__" = some none)
    (ha : PySem.W.findIn K (.ref C) "__class__" = some (some (.builtin "object.__class__"))) (no : PySem.W.findIn K (.ref C) "value" = some none) (iC : PySem.W.findIn K (.ref C) "__init__" = some (some (.ref fI))) (tI : PySem.W.typeIn K (.ref fI) = some (.type "function"))
    (lI : K.lookup fI = some ⟨oc, od, .func (PySem.W.fnOf "__init__" "InvalidFunctions.__init__" (defArgs (initOf 11)) (defBody (initOf 11)) (defScope (initOf 11)) .none kV dc pm an cd ct), sl⟩) (cI : PySem.W.codeIn K cd "InvalidFunctions.__init__" = true) (kI : PySem.W.keepIn K (.ref fI) = true)
    (k : ∀ C, ErrAll K mg "InvalidFunctions" "InvalidFunctions.__init__" "value" (initOf 11) "ValueError.__new__" "ValueError.__init__" vTail C → R) : R :=
  k _ (err_mk X G O tailV (fun _ _ _ _ _ _ us hl => match us, hl with | [_, _], _ => rfl) (fun _ _ _ _ _ _ us ws hu hw => match us, ws, hu, hw with | [_], [_], _, _ => rfl) aC lC kC sa hg hk ha no iC tI lI cI kI)
theorem err_1 (X : K.In h) (G : h.Ns mainGlobals mg) (O : ClsOnce K) {C fI N : Addr} {q : Str} {bs : List Value} {sn : List Str} {sub : List Value} {ab : Bool} {col : Option Bool} {dd od an : Option Addr} {k0 k1 k2 k3 k5 : Option Value} {oc kV dc pm cd ct : Value} {sl : Array (Option Value)}
    (aC : PySem.W.nsIn K mainGlobals "InvalidFunction" = some (some (.ref C))) (lC : K.lookup C = some (excClassObj "InvalidFunction" q C N bs vTail true sn sub ab col dd k0 k1 k2 k3 k5 "ValueError.__new__")) (kC : PySem.W.keepIn K (.ref C) = true)
    (sa : PySem.W.findIn K (.ref C) "__setattr__" = some (some (.builtin "object.__setattr__"))) (hg : PySem.W.findIn K (.ref C) "__getattribute__" = some (some (.builtin "BaseException.__getattribute__"))) (hk : PySem.W.findIn K (.ref C) "__getattr__" = some none)
    (ha : PySem.W.findIn K (.ref C) "__class__" = some (some (.builtin "object.__class__"))) (no : PySem.W.findIn K (.ref C) "name" = some none) (iC : PySem.W.findIn K (.ref C) "__init__" = some (some (.ref fI))) (tI : PySem.W.typeIn K (.ref fI) = some (.type "function"))
    (lI : K.lookup fI = some ⟨oc, od, .func (PySem.W.fnOf "__init__" "InvalidFunction.__init__" (defArgs (initOf 12)) (defBody (initOf 12)) (defScope (initOf 12)) .none kV dc pm an cd ct), sl⟩) (cI : PySem.W.codeIn K cd "InvalidFunction.__init__" = true) (kI : PySem.W.keepIn K (.ref fI) = true)
    (k : ∀ C, ErrAll K mg "InvalidFunction" "InvalidFunction.__init__" "name" (initOf 12) "ValueError.__new__" "ValueError.__init__" vTail C → R) : R :=
  k _ (err_mk X G O tailV (fun _ _ _ _ _ _ us hl => match us, hl with | [_, _], _ => rfl) (fun _ _ _ _ _ _ us ws hu hw => match us, ws, hu, hw with | [_], [_], _, _ => rfl) aC lC kC sa hg hk ha no iC tI lI cI kI)
theorem err_2 (X : K.In h) (G : h.Ns mainGlobals mg) (O : ClsOnce K) {C fI N : Addr} {q : Str} {bs : List Value} {sn : List Str} {sub : List Value} {ab : Bool} {col : Option Bool} {dd od an : Option Addr} {k0 k1 k2 k3 k5 : Option Value} {oc kV dc pm cd ct : Value} {sl : Array (Option Value)}
    (aC : PySem.W.nsIn K mainGlobals "InvalidNames" = some (some (.ref C))) (lC : K.lookup C = some (excClassObj "InvalidNames" q C N bs vTail true sn sub ab col dd k0 k1 k2 k3 k5 "ValueError.__new__")) (kC : PySem.W.keepIn K (.ref C) = true)
    (sa : PySem.W.findIn K (.ref C) "__setattr__" = some (some (.builtin "object.__setattr__"))) (hg : PySem.W.findIn K (.ref C) "__getattribute__" = some (some (.builtin "BaseException.__getattribute__"))) (hk : PySem.W.findIn K (.ref C) "__getattr__" = some none)
    (ha : PySem.W.findIn K (.ref C) "__class__" = some (some (.builtin "object.__class__"))) (no : PySem.W.findIn K (.ref C) "name" = some none) (iC : PySem.W.findIn K (.ref C) "__init__" = some (some (.ref fI))) (tI : PySem.W.typeIn K (.ref fI) = some (.type "function"))
    (lI : K.lookup fI = some ⟨oc, od, .func (PySem.W.fnOf "__init__" "InvalidNames.__init__" (defArgs (initOf 13)) (defBody (initOf 13)) (defScope (initOf 13)) .none kV dc pm an cd ct), sl⟩) (cI : PySem.W.codeIn K cd "InvalidNames.__init__" = true) (kI : PySem.W.keepIn K (.ref fI) = true)
    (k : ∀ C, ErrAll K mg "InvalidNames" "InvalidNames.__init__" "name" (initOf 13) "ValueError.__new__" "ValueError.__init__" vTail C → R) : R :=
  k _ (err_mk X G O tailV (fun _ _ _ _ _ _ us hl => match us, hl with | [_, _], _ => rfl) (fun _ _ _ _ _ _ us ws hu hw => match us, ws, hu, hw with | [_], [_], _, _ => rfl) aC lC kC sa hg hk ha no iC tI lI cI kI)
theorem err_3 (X : K.In h) (G : h.Ns mainGlobals mg) (O : ClsOnce K) {C fI N : Addr} {q : Str} {bs : List Value} {sn : List Str} {sub : List Value} {ab : Bool} {col : Option Bool} {dd od an : Option Addr} {k0 k1 k2 k3 k5 : Option Value} {oc kV dc pm cd ct : Value} {sl : Array (Option Value)}
    (aC : PySem.W.nsIn K mainGlobals "InvalidStatement" = some (some (.ref C))) (lC : K.lookup C = some (excClassObj "InvalidStatement" q C N bs vTail true sn sub ab col dd k0 k1 k2 k3 k5 "ValueError.__new__")) (kC : PySem.W.keepIn K (.ref C) = true)
    (sa : PySem.W.findIn K (.ref C) "__setattr__" = some (some (.builtin "object.__setattr__"))) (hg : PySem.W.findIn K (.ref C) "__getattribute__" = some (some (.builtin "BaseException.__getattribute__"))) (hk : PySem.W.findIn K (.ref C) "__getattr__" = some none)
    (ha : PySem.W.findIn K (.ref C) "__class__" = some (some (.builtin "object.__class__"))) (no : PySem.W.findIn K (.ref C) "spot" = some none) (iC : PySem.W.findIn K (.ref C) "__init__" = some (some (.ref fI))) (tI : PySem.W.typeIn K (.ref fI) = some (.type "function"))
    (lI : K.lookup fI = some ⟨oc, od, .func (PySem.W.fnOf "__init__" "InvalidStatement.__init__" (defArgs (initOf 14)) (defBody (initOf 14)) (defScope (initOf 14)) .none kV dc pm an cd ct), sl⟩) (cI : PySem.W.codeIn K cd "InvalidStatement.__init__" = true) (kI : PySem.W.keepIn K (.ref fI) = true)
    (k : ∀ C, ErrAll K mg "InvalidStatement" "InvalidStatement.__init__" "spot" (initOf 14) "ValueError.__new__" "ValueError.__init__" vTail C → R) : R :=
  k _ (err_mk X G O tailV (fun _ _ _ _ _ _ us hl => match us, hl with | [_, _], _ => rfl) (fun _ _ _ _ _ _ us ws hu hw => match us, ws, hu, hw with | [_], [_], _, _ => rfl) aC lC kC sa hg hk ha no iC tI lI cI kI)
theorem err_4 (X : K.In h) (G : h.Ns mainGlobals mg) (O : ClsOnce K) {C fI N : Addr} {q : Str} {bs : List Value} {sn : List Str} {sub : List Value} {ab : Bool} {col : Option Bool} {dd od an : Option Addr} {k0 k1 k2 k3 k5 : Option Value} {oc kV dc pm cd ct : Value} {sl : Array (Option Value)}
    (aC : PySem.W.nsIn K mainGlobals "InvalidChoice" = some (some (.ref C))) (lC : K.lookup C = some (excClassObj "InvalidChoice" q C N bs vTail true sn sub ab col dd k0 k1 k2 k3 k5 "ValueError.__new__")) (kC : PySem.W.keepIn K (.ref C) = true)
    (sa : PySem.W.findIn K (.ref C) "__setattr__" = some (some (.builtin "object.__setattr__"))) (hg : PySem.W.findIn K (.ref C) "__getattribute__" = some (some (.builtin "BaseException.__getattribute__"))) (hk : PySem.W.findIn K (.ref C) "__getattr__" = some none)
    (ha : PySem.W.findIn K (.ref C) "__class__" = some (some (.builtin "object.__class__"))) (no : PySem.W.findIn K (.ref C) "index" = some none) (iC : PySem.W.findIn K (.ref C) "__init__" = some (some (.ref fI))) (tI : PySem.W.typeIn K (.ref fI) = some (.type "function"))
    (lI : K.lookup fI = some ⟨oc, od, .func (PySem.W.fnOf "__init__" "InvalidChoice.__init__" (defArgs (initOf 15)) (defBody (initOf 15)) (defScope (initOf 15)) .none kV dc pm an cd ct), sl⟩) (cI : PySem.W.codeIn K cd "InvalidChoice.__init__" = true) (kI : PySem.W.keepIn K (.ref fI) = true)
    (k : ∀ C, ErrAll K mg "InvalidChoice" "InvalidChoice.__init__" "index" (initOf 15) "ValueError.__new__" "ValueError.__init__" vTail C → R) : R :=
  k _ (err_mk X G O tailV (fun _ _ _ _ _ _ us hl => match us, hl with | [_, _], _ => rfl) (fun _ _ _ _ _ _ us ws hu hw => match us, ws, hu, hw with | [_], [_], _, _ => rfl) aC lC kC sa hg hk ha no iC tI lI cI kI)
theorem err_5 (X : K.In h) (G : h.Ns mainGlobals mg) (O : ClsOnce K) {C fI N : Addr} {q : Str} {bs : List Value} {sn : List Str} {sub : List Value} {ab : Bool} {col : Option Bool} {dd od an : Option Addr} {k0 k1 k2 k3 k5 : Option Value} {oc kV dc pm cd ct : Value} {sl : Array (Option Value)}
    (aC : PySem.W.nsIn K mainGlobals "InvalidPlaces" = some (some (.ref C))) (lC : K.lookup C = some (excClassObj "InvalidPlaces" q C N bs vTail true sn sub ab col dd k0 k1 k2 k3 k5 "ValueError.__new__")) (kC : PySem.W.keepIn K (.ref C) = true)
    (sa : PySem.W.findIn K (.ref C) "__setattr__" = some (some (.builtin "object.__setattr__"))) (hg : PySem.W.findIn K (.ref C) "__getattribute__" = some (some (.builtin "BaseException.__getattribute__"))) (hk : PySem.W.findIn K (.ref C) "__getattr__" = some none)
    (ha : PySem.W.findIn K (.ref C) "__class__" = some (some (.builtin "object.__class__"))) (no : PySem.W.findIn K (.ref C) "value" = some none) (iC : PySem.W.findIn K (.ref C) "__init__" = some (some (.ref fI))) (tI : PySem.W.typeIn K (.ref fI) = some (.type "function"))
    (lI : K.lookup fI = some ⟨oc, od, .func (PySem.W.fnOf "__init__" "InvalidPlaces.__init__" (defArgs (initOf 16)) (defBody (initOf 16)) (defScope (initOf 16)) .none kV dc pm an cd ct), sl⟩) (cI : PySem.W.codeIn K cd "InvalidPlaces.__init__" = true) (kI : PySem.W.keepIn K (.ref fI) = true)
    (k : ∀ C, ErrAll K mg "InvalidPlaces" "InvalidPlaces.__init__" "value" (initOf 16) "ValueError.__new__" "ValueError.__init__" vTail C → R) : R :=
  k _ (err_mk X G O tailV (fun _ _ _ _ _ _ us hl => match us, hl with | [_, _], _ => rfl) (fun _ _ _ _ _ _ us ws hu hw => match us, ws, hu, hw with | [_], [_], _, _ => rfl) aC lC kC sa hg hk ha no iC tI lI cI kI)
theorem err_6 (X : K.In h) (G : h.Ns mainGlobals mg) (O : ClsOnce K) {C fI N : Addr} {q : Str} {bs : List Value} {sn : List Str} {sub : List Value} {ab : Bool} {col : Option Bool} {dd od an : Option Addr} {k0 k1 k2 k3 k5 : Option Value} {oc kV dc pm cd ct : Value} {sl : Array (Option Value)}
    (aC : PySem.W.nsIn K mainGlobals "InvalidPaper" = some (some (.ref C))) (lC : K.lookup C = some (excClassObj "InvalidPaper" q C N bs vTail true sn sub ab col dd k0 k1 k2 k3 k5 "ValueError.__new__")) (kC : PySem.W.keepIn K (.ref C) = true)
    (sa : PySem.W.findIn K (.ref C) "__setattr__" = some (some (.builtin "object.__setattr__"))) (hg : PySem.W.findIn K (.ref C) "__getattribute__" = some (some (.builtin "BaseException.__getattribute__"))) (hk : PySem.W.findIn K (.ref C) "__getattr__" = some none)
    (ha : PySem.W.findIn K (.ref C) "__class__" = some (some (.builtin "object.__class__"))) (no : PySem.W.findIn K (.ref C) "value" = some none) (iC : PySem.W.findIn K (.ref C) "__init__" = some (some (.ref fI))) (tI : PySem.W.typeIn K (.ref fI) = some (.type "function"))
    (lI : K.lookup fI = some ⟨oc, od, .func (PySem.W.fnOf "__init__" "InvalidPaper.__init__" (defArgs (initOf 17)) (defBody (initOf 17)) (defScope (initOf 17)) .none kV dc pm an cd ct), sl⟩) (cI : PySem.W.codeIn K cd "InvalidPaper.__init__" = true) (kI : PySem.W.keepIn K (.ref fI) = true)
    (k : ∀ C, ErrAll K mg "InvalidPaper" "InvalidPaper.__init__" "value" (initOf 17) "ValueError.__new__" "ValueError.__init__" vTail C → R) : R :=
  k _ (err_mk X G O tailV (fun _ _ _ _ _ _ us hl => match us, hl with | [_, _], _ => rfl) (fun _ _ _ _ _ _ us ws hu hw => match us, ws, hu, hw with | [_], [_], _, _ => rfl) aC lC kC sa hg hk ha no iC tI lI cI kI)
theorem err_7 (X : K.In h) (G : h.Ns mainGlobals mg) (O : ClsOnce K) {C fI N : Addr} {q : Str} {bs : List Value} {sn : List Str} {sub : List Value} {ab : Bool} {col : Option Bool} {dd od an : Option Addr} {k0 k1 k2 k3 k5 : Option Value} {oc kV dc pm cd ct : Value} {sl : Array (Option Value)}
    (aC : PySem.W.nsIn K mainGlobals "InvalidPrices" = some (some (.ref C))) (lC : K.lookup C = some (excClassObj "InvalidPrices" q C N bs vTail true sn sub ab col dd k0 k1 k2 k3 k5 "ValueError.__new__")) (kC : PySem.W.keepIn K (.ref C) = true)
    (sa : PySem.W.findIn K (.ref C) "__setattr__" = some (some (.builtin "object.__setattr__"))) (hg : PySem.W.findIn K (.ref C) "__getattribute__" = some (some (.builtin "BaseException.__getattribute__"))) (hk : PySem.W.findIn K (.ref C) "__getattr__" = some none)
    (ha : PySem.W.findIn K (.ref C) "__class__" = some (some (.builtin "object.__class__"))) (no : PySem.W.findIn K (.ref C) "value" = some none) (iC : PySem.W.findIn K (.ref C) "__init__" = some (some (.ref fI))) (tI : PySem.W.typeIn K (.ref fI) = some (.type "function"))
    (lI : K.lookup fI = some ⟨oc, od, .func (PySem.W.fnOf "__init__" "InvalidPrices.__init__" (defArgs (initOf 18)) (defBody (initOf 18)) (defScope (initOf 18)) .none kV dc pm an cd ct), sl⟩) (cI : PySem.W.codeIn K cd "InvalidPrices.__init__" = true) (kI : PySem.W.keepIn K (.ref fI) = true)
    (k : ∀ C, ErrAll K mg "InvalidPrices" "InvalidPrices.__init__" "value" (initOf 18) "ValueError.__new__" "ValueError.__init__" vTail C → R) : R :=
  k _ (err_mk X G O tailV (fun _ _ _ _ _ _ us hl => match us, hl with | [_, _], _ => rfl) (fun _ _ _ _ _ _ us ws hu hw => match us, ws, hu, hw with | [_], [_], _, _ => rfl) aC lC kC sa hg hk ha no iC tI lI cI kI)
theorem err_8 (X : K.In h) (G : h.Ns mainGlobals mg) (O : ClsOnce K) {C fI N : Addr} {q : Str} {bs : List Value} {sn : List Str} {sub : List Value} {ab : Bool} {col : Option Bool} {dd od an : Option Addr} {k0 k1 k2 k3 k5 : Option Value} {oc kV dc pm cd ct : Value} {sl : Array (Option Value)}
    (aC : PySem.W.nsIn K mainGlobals "InvalidProfile" = some (some (.ref C))) (lC : K.lookup C = some (excClassObj "InvalidProfile" q C N bs vTail true sn sub ab col dd k0 k1 k2 k3 k5 "ValueError.__new__")) (kC : PySem.W.keepIn K (.ref C) = true)
    (sa : PySem.W.findIn K (.ref C) "__setattr__" = some (some (.builtin "object.__setattr__"))) (hg : PySem.W.findIn K (.ref C) "__getattribute__" = some (some (.builtin "BaseException.__getattribute__"))) (hk : PySem.W.findIn K (.ref C) "__getattr__" = some none)
    (ha : PySem.W.findIn K (.ref C) "__class__" = some (some (.builtin "object.__class__"))) (no : PySem.W.findIn K (.ref C) "value" = some none) (iC : PySem.W.findIn K (.ref C) "__init__" = some (some (.ref fI))) (tI : PySem.W.typeIn K (.ref fI) = some (.type "function"))
    (lI : K.lookup fI = some ⟨oc, od, .func (PySem.W.fnOf "__init__" "InvalidProfile.__init__" (defArgs (initOf 19)) (defBody (initOf 19)) (defScope (initOf 19)) .none kV dc pm an cd ct), sl⟩) (cI : PySem.W.codeIn K cd "InvalidProfile.__init__" = true) (kI : PySem.W.keepIn K (.ref fI) = true)
    (k : ∀ C, ErrAll K mg "InvalidProfile" "InvalidProfile.__init__" "value" (initOf 19) "ValueError.__new__" "ValueError.__init__" vTail C → R) : R :=
  k _ (err_mk X G O tailV (fun _ _ _ _ _ _ us hl => match us, hl with | [_, _], _ => rfl) (fun _ _ _ _ _ _ us ws hu hw => match us, ws, hu, hw with | [_], [_], _, _ => rfl) aC lC kC sa hg hk ha no iC tI lI cI kI)
theorem err_9 (X : K.In h) (G : h.Ns mainGlobals mg) (O : ClsOnce K) {C fI N : Addr} {q : Str} {bs : List Value} {sn : List Str} {sub : List Value} {ab : Bool} {col : Option Bool} {dd od an : Option Addr} {k0 k1 k2 k3 k5 : Option Value} {oc kV dc pm cd ct : Value} {sl : Array (Option Value)}
    (aC : PySem.W.nsIn K mainGlobals "InvalidText" = some (some (.ref C))) (lC : K.lookup C = some (excClassObj "InvalidText" q C N bs vTail true sn sub ab col dd k0 k1 k2 k3 k5 "ValueError.__new__")) (kC : PySem.W.keepIn K (.ref C) = true)
    (sa : PySem.W.findIn K (.ref C) "__setattr__" = some (some (.builtin "object.__setattr__"))) (hg : PySem.W.findIn K (.ref C) "__getattribute__" = some (some (.builtin "BaseException.__getattribute__"))) (hk : PySem.W.findIn K (.ref C) "__getattr__" = some none)
    (ha : PySem.W.findIn K (.ref C) "__class__" = some (some (.builtin "object.__class__"))) (no : PySem.W.findIn K (.ref C) "line" = some none) (iC : PySem.W.findIn K (.ref C) "__init__" = some (some (.ref fI))) (tI : PySem.W.typeIn K (.ref fI) = some (.type "function"))
    (lI : K.lookup fI = some ⟨oc, od, .func (PySem.W.fnOf "__init__" "InvalidText.__init__" (defArgs (initOf 20)) (defBody (initOf 20)) (defScope (initOf 20)) .none kV dc pm an cd ct), sl⟩) (cI : PySem.W.codeIn K cd "InvalidText.__init__" = true) (kI : PySem.W.keepIn K (.ref fI) = true)
    (k : ∀ C, ErrAll K mg "InvalidText" "InvalidText.__init__" "line" (initOf 20) "ValueError.__new__" "ValueError.__init__" vTail C → R) : R :=
  k _ (err_mk X G O tailV (fun _ _ _ _ _ _ us hl => match us, hl with | [_, _], _ => rfl) (fun _ _ _ _ _ _ us ws hu hw => match us, ws, hu, hw with | [_], [_], _, _ => rfl) aC lC kC sa hg hk ha no iC tI lI cI kI)
theorem err_10 (X : K.In h) (G : h.Ns mainGlobals mg) (O : ClsOnce K) {C fI N : Addr} {q : Str} {bs : List Value} {sn : List Str} {sub : List Value} {ab : Bool} {col : Option Bool} {dd od an : Option Addr} {k0 k1 k2 k3 k5 : Option Value} {oc kV dc pm cd ct : Value} {sl : Array (Option Value)}
    (aC : PySem.W.nsIn K mainGlobals "InvalidStates" = some (some (.ref C))) (lC : K.lookup C = some (excClassObj "InvalidStates" q C N bs vTail true sn sub ab col dd k0 k1 k2 k3 k5 "ValueError.__new__")) (kC : PySem.W.keepIn K (.ref C) = true)
    (sa : PySem.W.findIn K (.ref C) "__setattr__" = some (some (.builtin "object.__setattr__"))) (hg : PySem.W.findIn K (.ref C) "__getattribute__" = some (some (.builtin "BaseException.__getattribute__"))) (hk : PySem.W.findIn K (.ref C) "__getattr__" = some none)
    (ha : PySem.W.findIn K (.ref C) "__class__" = some (some (.builtin "object.__class__"))) (no : PySem.W.findIn K (.ref C) "value" = some none) (iC : PySem.W.findIn K (.ref C) "__init__" = some (some (.ref fI))) (tI : PySem.W.typeIn K (.ref fI) = some (.type "function"))
    (lI : K.lookup fI = some ⟨oc, od, .func (PySem.W.fnOf "__init__" "InvalidStates.__init__" (defArgs (initOf 21)) (defBody (initOf 21)) (defScope (initOf 21)) .none kV dc pm an cd ct), sl⟩) (cI : PySem.W.codeIn K cd "InvalidStates.__init__" = true) (kI : PySem.W.keepIn K (.ref fI) = true)
    (k : ∀ C, ErrAll K mg "InvalidStates" "InvalidStates.__init__" "value" (initOf 21) "ValueError.__new__" "ValueError.__init__" vTail C → R) : R :=
  k _ (err_mk X G O tailV (fun _ _ _ _ _ _ us hl => match us, hl with | [_, _], _ => rfl) (fun _ _ _ _ _ _ us ws hu hw => match us, ws, hu, hw with | [_], [_], _, _ => rfl) aC lC kC sa hg hk ha no iC tI lI cI kI)
theorem err_11 (X : K.In h) (G : h.Ns mainGlobals mg) (O : ClsOnce K) {C fI N : Addr} {q : Str} {bs : List Value} {sn : List Str} {sub : List Value} {ab : Bool} {col : Option Bool} {dd od an : Option Addr} {k0 k1 k2 k3 k5 : Option Value} {oc kV dc pm cd ct : Value} {sl : Array (Option Value)}
    (aC : PySem.W.nsIn K mainGlobals "NotClosed" = some (some (.ref C))) (lC : K.lookup C = some (excClassObj "NotClosed" q C N bs vTail true sn sub ab col dd k0 k1 k2 k3 k5 "ValueError.__new__")) (kC : PySem.W.keepIn K (.ref C) = true)
    (sa : PySem.W.findIn K (.ref C) "__setattr__" = some (some (.builtin "object.__setattr__"))) (hg : PySem.W.findIn K (.ref C) "__getattribute__" = some (some (.builtin "BaseException.__getattribute__"))) (hk : PySem.W.findIn K (.ref C) "__getattr__" = some none)
    (ha : PySem.W.findIn K (.ref C) "__class__" = some (some (.builtin "object.__class__"))) (no : PySem.W.findIn K (.ref C) "spot" = some none) (iC : PySem.W.findIn K (.ref C) "__init__" = some (some (.ref fI))) (tI : PySem.W.typeIn K (.ref fI) = some (.type "function"))
    (lI : K.lookup fI = some ⟨oc, od, .func (PySem.W.fnOf "__init__" "NotClosed.__init__" (defArgs (initOf 22)) (defBody (initOf 22)) (defScope (initOf 22)) .none kV dc pm an cd ct), sl⟩) (cI : PySem.W.codeIn K cd "NotClosed.__init__" = true) (kI : PySem.W.keepIn K (.ref fI) = true)
    (k : ∀ C, ErrAll K mg "NotClosed" "NotClosed.__init__" "spot" (initOf 22) "ValueError.__new__" "ValueError.__init__" vTail C → R) : R :=
  k _ (err_mk X G O tailV (fun _ _ _ _ _ _ us hl => match us, hl with | [_, _], _ => rfl) (fun _ _ _ _ _ _ us ws hu hw => match us, ws, hu, hw with | [_], [_], _, _ => rfl) aC lC kC sa hg hk ha no iC tI lI cI kI)
theorem err_12 (X : K.In h) (G : h.Ns mainGlobals mg) (O : ClsOnce K) {C fI N : Addr} {q : Str} {bs : List Value} {sn : List Str} {sub : List Value} {ab : Bool} {col : Option Bool} {dd od an : Option Addr} {k0 k1 k2 k3 k5 : Option Value} {oc kV dc pm cd ct : Value} {sl : Array (Option Value)}
    (aC : PySem.W.nsIn K mainGlobals "Faulty" = some (some (.ref C))) (lC : K.lookup C = some (excClassObj "Faulty" q C N bs vTail true sn sub ab col dd k0 k1 k2 k3 k5 "ValueError.__new__")) (kC : PySem.W.keepIn K (.ref C) = true)
    (sa : PySem.W.findIn K (.ref C) "__setattr__" = some (some (.builtin "object.__setattr__"))) (hg : PySem.W.findIn K (.ref C) "__getattribute__" = some (some (.builtin "BaseException.__getattribute__"))) (hk : PySem.W.findIn K (.ref C) "__getattr__" = some none)
    (ha : PySem.W.findIn K (.ref C) "__class__" = some (some (.builtin "object.__class__"))) (no : PySem.W.findIn K (.ref C) "spot" = some none) (iC : PySem.W.findIn K (.ref C) "__init__" = some (some (.ref fI))) (tI : PySem.W.typeIn K (.ref fI) = some (.type "function"))
    (lI : K.lookup fI = some ⟨oc, od, .func (PySem.W.fnOf "__init__" "Faulty.__init__" (defArgs (initOf 23)) (defBody (initOf 23)) (defScope (initOf 23)) .none kV dc pm an cd ct), sl⟩) (cI : PySem.W.codeIn K cd "Faulty.__init__" = true) (kI : PySem.W.keepIn K (.ref fI) = true)
    (k : ∀ C, ErrAll K mg "Faulty" "Faulty.__init__" "spot" (initOf 23) "ValueError.__new__" "ValueError.__init__" vTail C → R) : R :=
  k _ (err_mk X G O tailV (fun _ _ _ _ _ _ us hl => match us, hl with | [_, _], _ => rfl) (fun _ _ _ _ _ _ us ws hu hw => match us, ws, hu, hw with | [_], [_], _, _ => rfl) aC lC kC sa hg hk ha no iC tI lI cI kI)
theorem err_13 (X : K.In h) (G : h.Ns mainGlobals mg) (O : ClsOnce K) {C fI N : Addr} {q : Str} {bs : List Value} {sn : List Str} {sub : List Value} {ab : Bool} {col : Option Bool} {dd od an : Option Addr} {k0 k1 k2 k3 k5 : Option Value} {oc kV dc pm cd ct : Value} {sl : Array (Option Value)}
    (aC : PySem.W.nsIn K mainGlobals "UnknownFunction" = some (some (.ref C))) (lC : K.lookup C = some (excClassObj "UnknownFunction" q C N bs kTail true sn sub ab col dd k0 k1 k2 k3 k5 "LookupError.__new__")) (kC : PySem.W.keepIn K (.ref C) = true)
    (sa : PySem.W.findIn K (.ref C) "__setattr__" = some (some (.builtin "object.__setattr__"))) (hg : PySem.W.findIn K (.ref C) "__getattribute__" = some (some (.builtin "BaseException.__getattribute__"))) (hk : PySem.W.findIn K (.ref C) "__getattr__" = some none)
    (ha : PySem.W.findIn K (.ref C) "__class__" = some (some (.builtin "object.__class__"))) (no : PySem.W.findIn K (.ref C) "value" = some none) (iC : PySem.W.findIn K (.ref C) "__init__" = some (some (.ref fI))) (tI : PySem.W.typeIn K (.ref fI) = some (.type "function"))
    (lI : K.lookup fI = some ⟨oc, od, .func (PySem.W.fnOf "__init__" "UnknownFunction.__init__" (defArgs (initOf 24)) (defBody (initOf 24)) (defScope (initOf 24)) .none kV dc pm an cd ct), sl⟩) (cI : PySem.W.codeIn K cd "UnknownFunction.__init__" = true) (kI : PySem.W.keepIn K (.ref fI) = true)
    (k : ∀ C, ErrAll K mg "UnknownFunction" "UnknownFunction.__init__" "value" (initOf 24) "LookupError.__new__" "KeyError.__init__" kTail C → R) : R :=
  k _ (err_mk X G O tailK (fun _ _ _ _ _ _ us hl => match us, hl with | [_, _], _ => rfl) (fun _ _ _ _ _ _ us ws hu hw => match us, ws, hu, hw with | [_], [_], _, _ => rfl) aC lC kC sa hg hk ha no iC tI lI cI kI)
theorem err_14 (X : K.In h) (G : h.Ns mainGlobals mg) (O : ClsOnce K) {C fI N : Addr} {q : Str} {bs : List Value} {sn : List Str} {sub : List Value} {ab : Bool} {col : Option Bool} {dd od an : Option Addr} {k0 k1 k2 k3 k5 : Option Value} {oc kV dc pm cd ct : Value} {sl : Array (Option Value)}
    (aC : PySem.W.nsIn K mainGlobals "UnknownSpot" = some (some (.ref C))) (lC : K.lookup C = some (excClassObj "UnknownSpot" q C N bs kTail true sn sub ab col dd k0 k1 k2 k3 k5 "LookupError.__new__")) (kC : PySem.W.keepIn K (.ref C) = true)
    (sa : PySem.W.findIn K (.ref C) "__setattr__" = some (some (.builtin "object.__setattr__"))) (hg : PySem.W.findIn K (.ref C) "__getattribute__" = some (some (.builtin "BaseException.__getattribute__"))) (hk : PySem.W.findIn K (.ref C) "__getattr__" = some none)
    (ha : PySem.W.findIn K (.ref C) "__class__" = some (some (.builtin "object.__class__"))) (no : PySem.W.findIn K (.ref C) "value" = some none) (iC : PySem.W.findIn K (.ref C) "__init__" = some (some (.ref fI))) (tI : PySem.W.typeIn K (.ref fI) = some (.type "function"))
    (lI : K.lookup fI = some ⟨oc, od, .func (PySem.W.fnOf "__init__" "UnknownSpot.__init__" (defArgs (initOf 25)) (defBody (initOf 25)) (defScope (initOf 25)) .none kV dc pm an cd ct), sl⟩) (cI : PySem.W.codeIn K cd "UnknownSpot.__init__" = true) (kI : PySem.W.keepIn K (.ref fI) = true)
    (k : ∀ C, ErrAll K mg "UnknownSpot" "UnknownSpot.__init__" "value" (initOf 25) "LookupError.__new__" "KeyError.__init__" kTail C → R) : R :=
  k _ (err_mk X G O tailK (fun _ _ _ _ _ _ us hl => match us, hl with | [_, _], _ => rfl) (fun _ _ _ _ _ _ us ws hu hw => match us, ws, hu, hw with | [_], [_], _, _ => rfl) aC lC kC sa hg hk ha no iC tI lI cI kI)
theorem err_15 (X : K.In h) (G : h.Ns mainGlobals mg) (O : ClsOnce K) {C fI N : Addr} {q : Str} {bs : List Value} {sn : List Str} {sub : List Value} {ab : Bool} {col : Option Bool} {dd od an : Option Addr} {k0 k1 k2 k3 k5 : Option Value} {oc kV dc pm cd ct : Value} {sl : Array (Option Value)}
    (aC : PySem.W.nsIn K mainGlobals "UnknownName" = some (some (.ref C))) (lC : K.lookup C = some (excClassObj "UnknownName" q C N bs kTail true sn sub ab col dd k0 k1 k2 k3 k5 "LookupError.__new__")) (kC : PySem.W.keepIn K (.ref C) = true)
    (sa : PySem.W.findIn K (.ref C) "__setattr__" = some (some (.builtin "object.__setattr__"))) (hg : PySem.W.findIn K (.ref C) "__getattribute__" = some (some (.builtin "BaseException.__getattribute__"))) (hk : PySem.W.findIn K (.ref C) "__getattr__" = some none)
    (ha : PySem.W.findIn K (.ref C) "__class__" = some (some (.builtin "object.__class__"))) (no : PySem.W.findIn K (.ref C) "value" = some none) (iC : PySem.W.findIn K (.ref C) "__init__" = some (some (.ref fI))) (tI : PySem.W.typeIn K (.ref fI) = some (.type "function"))
    (lI : K.lookup fI = some ⟨oc, od, .func (PySem.W.fnOf "__init__" "UnknownName.__init__" (defArgs (initOf 26)) (defBody (initOf 26)) (defScope (initOf 26)) .none kV dc pm an cd ct), sl⟩) (cI : PySem.W.codeIn K cd "UnknownName.__init__" = true) (kI : PySem.W.keepIn K (.ref fI) = true)
    (k : ∀ C, ErrAll K mg "UnknownName" "UnknownName.__init__" "value" (initOf 26) "LookupError.__new__" "KeyError.__init__" kTail C → R) : R :=
  k _ (err_mk X G O tailK (fun _ _ _ _ _ _ us hl => match us, hl with | [_, _], _ => rfl) (fun _ _ _ _ _ _ us ws hu hw => match us, ws, hu, hw with | [_], [_], _, _ => rfl) aC lC kC sa hg hk ha no iC tI lI cI kI)
theorem err_16 (X : K.In h) (G : h.Ns mainGlobals mg) (O : ClsOnce K) {C fI N : Addr} {q : Str} {bs : List Value} {sn : List Str} {sub : List Value} {ab : Bool} {col : Option Bool} {dd od an : Option Addr} {k0 k1 k2 k3 k5 : Option Value} {oc kV dc pm cd ct : Value} {sl : Array (Option Value)}
    (aC : PySem.W.nsIn K mainGlobals "OutOfRange" = some (some (.ref C))) (lC : K.lookup C = some (excClassObj "OutOfRange" q C N bs iTail true sn sub ab col dd k0 k1 k2 k3 k5 "IndexError.__new__")) (kC : PySem.W.keepIn K (.ref C) = true)
    (sa : PySem.W.findIn K (.ref C) "__setattr__" = some (some (.builtin "object.__setattr__"))) (hg : PySem.W.findIn K (.ref C) "__getattribute__" = some (some (.builtin "BaseException.__getattribute__"))) (hk : PySem.W.findIn K (.ref C) "__getattr__" = some none)
    (ha : PySem.W.findIn K (.ref C) "__class__" = some (some (.builtin "object.__class__"))) (no : PySem.W.findIn K (.ref C) "value" = some none) (iC : PySem.W.findIn K (.ref C) "__init__" = some (some (.ref fI))) (tI : PySem.W.typeIn K (.ref fI) = some (.type "function"))
    (lI : K.lookup fI = some ⟨oc, od, .func (PySem.W.fnOf "__init__" "OutOfRange.__init__" (defArgs (initOf 27)) (defBody (initOf 27)) (defScope (initOf 27)) .none kV dc pm an cd ct), sl⟩) (cI : PySem.W.codeIn K cd "OutOfRange.__init__" = true) (kI : PySem.W.keepIn K (.ref fI) = true)
    (k : ∀ C, ErrAll K mg "OutOfRange" "OutOfRange.__init__" "value" (initOf 27) "IndexError.__new__" "IndexError.__init__" iTail C → R) : R :=
  k _ (err_mk X G O tailI (fun _ _ _ _ _ _ us hl => match us, hl with | [_, _], _ => rfl) (fun _ _ _ _ _ _ us ws hu hw => match us, ws, hu, hw with | [_], [_], _, _ => rfl) aC lC kC sa hg hk ha no iC tI lI cI kI)
theorem err_17 (X : K.In h) (G : h.Ns mainGlobals mg) (O : ClsOnce K) {C fI N : Addr} {q : Str} {bs : List Value} {sn : List Str} {sub : List Value} {ab : Bool} {col : Option Bool} {dd od an : Option Addr} {k0 k1 k2 k3 k5 : Option Value} {oc kV dc pm cd ct : Value} {sl : Array (Option Value)}
    (aC : PySem.W.nsIn K mainGlobals "TooMany" = some (some (.ref C))) (lC : K.lookup C = some (excClassObj "TooMany" q C N bs oTail true sn sub ab col dd k0 k1 k2 k3 k5 "OverflowError.__new__")) (kC : PySem.W.keepIn K (.ref C) = true)
    (sa : PySem.W.findIn K (.ref C) "__setattr__" = some (some (.builtin "object.__setattr__"))) (hg : PySem.W.findIn K (.ref C) "__getattribute__" = some (some (.builtin "BaseException.__getattribute__"))) (hk : PySem.W.findIn K (.ref C) "__getattr__" = some none)
    (ha : PySem.W.findIn K (.ref C) "__class__" = some (some (.builtin "object.__class__"))) (no : PySem.W.findIn K (.ref C) "limit" = some none) (iC : PySem.W.findIn K (.ref C) "__init__" = some (some (.ref fI))) (tI : PySem.W.typeIn K (.ref fI) = some (.type "function"))
    (lI : K.lookup fI = some ⟨oc, od, .func (PySem.W.fnOf "__init__" "TooMany.__init__" (defArgs (initOf 28)) (defBody (initOf 28)) (defScope (initOf 28)) .none kV dc pm an cd ct), sl⟩) (cI : PySem.W.codeIn K cd "TooMany.__init__" = true) (kI : PySem.W.keepIn K (.ref fI) = true)
    (k : ∀ C, ErrAll K mg "TooMany" "TooMany.__init__" "limit" (initOf 28) "OverflowError.__new__" "OverflowError.__init__" oTail C → R) : R :=
  k _ (err_mk X G O tailO (fun _ _ _ _ _ _ us hl => match us, hl with | [_, _], _ => rfl) (fun _ _ _ _ _ _ us ws hu hw => match us, ws, hu, hw with | [_], [_], _, _ => rfl) aC lC kC sa hg hk ha no iC tI lI cI kI)
theorem err_trial (X : K.In h) (G : h.Ns mainGlobals mg) (O : ClsOnce K) {C fI N : Addr} {q : Str} {bs : List Value} {sn : List Str} {sub : List Value} {ab : Bool} {col : Option Bool} {dd od an : Option Addr} {k0 k1 k2 k3 k5 : Option Value} {oc kV dc pm cd ct : Value} {sl : Array (Option Value)}
    (aC : PySem.W.nsIn K mainGlobals "InTrial" = some (some (.ref C))) (lC : K.lookup C = some (excClassObj "InTrial" q C N bs rTail true sn sub ab col dd k0 k1 k2 k3 k5 "RuntimeError.__new__")) (kC : PySem.W.keepIn K (.ref C) = true)
    (sa : PySem.W.findIn K (.ref C) "__setattr__" = some (some (.builtin "object.__setattr__"))) (hg : PySem.W.findIn K (.ref C) "__getattribute__" = some (some (.builtin "BaseException.__getattribute__"))) (hk : PySem.W.findIn K (.ref C) "__getattr__" = some none)
    (ha : PySem.W.findIn K (.ref C) "__class__" = some (some (.builtin "object.__class__"))) (iC : PySem.W.findIn K (.ref C) "__init__" = some (some (.ref fI))) (tI : PySem.W.typeIn K (.ref fI) = some (.type "function"))
    (lI : K.lookup fI = some ⟨oc, od, .func (PySem.W.fnOf "__init__" "InTrial.__init__" (defArgs (initOf 29)) (defBody (initOf 29)) (defScope (initOf 29)) .none kV dc pm an cd ct), sl⟩) (cI : PySem.W.codeIn K cd "InTrial.__init__" = true) (kI : PySem.W.keepIn K (.ref fI) = true)
    (k : ∀ C, TrAll K mg C → R) : R := k _ (tr_mk X G O aC lC kC sa hg hk ha iC tI lI cI kI)
theorem fn_copied (X : K.In h) (G : h.Ns mainGlobals mg) {f : Addr} {oc kV dc pm cd ct : Value} {od an : Option Addr} {sl : Array (Option Value)} (a1 : PySem.W.nsIn K mainGlobals "copied" = some (some (.ref f)))
    (l1 : K.lookup f = some ⟨oc, od, .func (PySem.W.fnOf "copied" "copied" (defArgs sCopied) (defBody sCopied) (defScope sCopied) .none kV dc pm an cd ct), sl⟩) (c1 : PySem.W.codeIn K cd "copied" = true) (k1 : PySem.W.keepIn K (.ref f) = true) (k : FnAll K mg "copied" sCopied ["value"] → R) : R :=
  k (fn_mk X G (fun _ _ _ _ _ _ us hl => match us, hl with | [_], _ => rfl) a1 l1 c1 k1)
theorem fn_items_of (X : K.In h) (G : h.Ns mainGlobals mg) {f : Addr} {oc kV dc pm cd ct : Value} {od an : Option Addr} {sl : Array (Option Value)} (a1 : PySem.W.nsIn K mainGlobals "items_of" = some (some (.ref f)))
    (l1 : K.lookup f = some ⟨oc, od, .func (PySem.W.fnOf "items_of" "items_of" (defArgs sItems) (defBody sItems) (defScope sItems) .none kV dc pm an cd ct), sl⟩) (c1 : PySem.W.codeIn K cd "items_of" = true) (k1 : PySem.W.keepIn K (.ref f) = true) (k : FnAll K mg "items_of" sItems ["value"] → R) : R :=
  k (fn_mk X G (fun _ _ _ _ _ _ us hl => match us, hl with | [_], _ => rfl) a1 l1 c1 k1)
theorem fn_rebuilt (X : K.In h) (G : h.Ns mainGlobals mg) {f : Addr} {oc kV dc pm cd ct : Value} {od an : Option Addr} {sl : Array (Option Value)} (a1 : PySem.W.nsIn K mainGlobals "rebuilt" = some (some (.ref f)))
    (l1 : K.lookup f = some ⟨oc, od, .func (PySem.W.fnOf "rebuilt" "rebuilt" (defArgs sRebuilt) (defBody sRebuilt) (defScope sRebuilt) .none kV dc pm an cd ct), sl⟩) (c1 : PySem.W.codeIn K cd "rebuilt" = true) (k1 : PySem.W.keepIn K (.ref f) = true) (k : FnAll K mg "rebuilt" sRebuilt ["value", "items"] → R) : R :=
  k (fn_mk X G (fun _ _ _ _ _ _ us hl => match us, hl with | [_, _], _ => rfl) a1 l1 c1 k1)
theorem fn_law_pen (X : K.In h) (G : h.Ns mainGlobals mg) {f : Addr} {oc kV dc pm cd ct : Value} {od an : Option Addr} {sl : Array (Option Value)} (a1 : PySem.W.nsIn K mainGlobals "_law_pen" = some (some (.ref f)))
    (l1 : K.lookup f = some ⟨oc, od, .func (PySem.W.fnOf "_law_pen" "_law_pen" (defArgs sPen) (defBody sPen) (defScope sPen) .none kV dc pm an cd ct), sl⟩) (c1 : PySem.W.codeIn K cd "_law_pen" = true) (k1 : PySem.W.keepIn K (.ref f) = true) (k : FnAll K mg "_law_pen" sPen ["_law_script"] → R) : R :=
  k (fn_mk X G (fun _ _ _ _ _ _ us hl => match us, hl with | [_], _ => rfl) a1 l1 c1 k1)
theorem fn_law_draw (X : K.In h) (G : h.Ns mainGlobals mg) {f : Addr} {oc kV dc pm cd ct : Value} {od an : Option Addr} {sl : Array (Option Value)} (a1 : PySem.W.nsIn K mainGlobals "_law_draw" = some (some (.ref f)))
    (l1 : K.lookup f = some ⟨oc, od, .func (PySem.W.fnOf "_law_draw" "_law_draw" (defArgs sDraw) (defBody sDraw) (defScope sDraw) .none kV dc pm an cd ct), sl⟩) (c1 : PySem.W.codeIn K cd "_law_draw" = true) (k1 : PySem.W.keepIn K (.ref f) = true) (k : FnAll K mg "_law_draw" sDraw ["_law_pen_here", "_law_many"] → R) : R :=
  k (fn_mk X G (fun _ _ _ _ _ _ us hl => match us, hl with | [_, _], _ => rfl) a1 l1 c1 k1)
theorem fn_law_pick (X : K.In h) (G : h.Ns mainGlobals mg) {f : Addr} {oc kV dc pm cd ct : Value} {od an : Option Addr} {sl : Array (Option Value)} (a1 : PySem.W.nsIn K mainGlobals "_law_pick" = some (some (.ref f)))
    (l1 : K.lookup f = some ⟨oc, od, .func (PySem.W.fnOf "_law_pick" "_law_pick" (defArgs sPick) (defBody sPick) (defScope sPick) .none kV dc pm an cd ct), sl⟩) (c1 : PySem.W.codeIn K cd "_law_pick" = true) (k1 : PySem.W.keepIn K (.ref f) = true) (k : FnAll K mg "_law_pick" sPick ["_law_pen_here", "_law_items"] → R) : R :=
  k (fn_mk X G (fun _ _ _ _ _ _ us hl => match us, hl with | [_, _], _ => rfl) a1 l1 c1 k1)
theorem fn_law_any (X : K.In h) (G : h.Ns mainGlobals mg) {f : Addr} {oc kV dc pm cd ct : Value} {od an : Option Addr} {sl : Array (Option Value)} (a1 : PySem.W.nsIn K mainGlobals "_law_any" = some (some (.ref f)))
    (l1 : K.lookup f = some ⟨oc, od, .func (PySem.W.fnOf "_law_any" "_law_any" (defArgs sAny) (defBody sAny) (defScope sAny) .none kV dc pm an cd ct), sl⟩) (c1 : PySem.W.codeIn K cd "_law_any" = true) (k1 : PySem.W.keepIn K (.ref f) = true) (k : FnAll K mg "_law_any" sAny ["_law_pen_here", "_law_deep"] → R) : R :=
  k (fn_mk X G (fun _ _ _ _ _ _ us hl => match us, hl with | [_, _], _ => rfl) a1 l1 c1 k1)
theorem fn_law_made (X : K.In h) (G : h.Ns mainGlobals mg) {f : Addr} {oc kV dc pm cd ct : Value} {od an : Option Addr} {sl : Array (Option Value)} (a1 : PySem.W.nsIn K mainGlobals "_law_made" = some (some (.ref f)))
    (l1 : K.lookup f = some ⟨oc, od, .func (PySem.W.fnOf "_law_made" "_law_made" (defArgs sMade) (defBody sMade) (defScope sMade) .none kV dc pm an cd ct), sl⟩) (c1 : PySem.W.codeIn K cd "_law_made" = true) (k1 : PySem.W.keepIn K (.ref f) = true) (k : FnAll K mg "_law_made" sMade ["_law_thing"] → R) : R :=
  k (fn_mk X G (fun _ _ _ _ _ _ us hl => match us, hl with | [_], _ => rfl) a1 l1 c1 k1)
theorem fn_law_kinds (X : K.In h) (G : h.Ns mainGlobals mg) {f : Addr} {oc kV dc pm cd ct : Value} {od an : Option Addr} {sl : Array (Option Value)} (a1 : PySem.W.nsIn K mainGlobals "_law_kinds" = some (some (.ref f)))
    (l1 : K.lookup f = some ⟨oc, od, .func (PySem.W.fnOf "_law_kinds" "_law_kinds" (defArgs sKinds) (defBody sKinds) (defScope sKinds) .none kV dc pm an cd ct), sl⟩) (c1 : PySem.W.codeIn K cd "_law_kinds" = true) (k1 : PySem.W.keepIn K (.ref f) = true) (k : FnAll K mg "_law_kinds" sKinds ["_law_error"] → R) : R :=
  k (fn_mk X G (fun _ _ _ _ _ _ us hl => match us, hl with | [_], _ => rfl) a1 l1 c1 k1)
theorem fn_law_own (X : K.In h) (G : h.Ns mainGlobals mg) {f : Addr} {oc kV dc pm cd ct : Value} {od an : Option Addr} {sl : Array (Option Value)} (a1 : PySem.W.nsIn K mainGlobals "_law_own" = some (some (.ref f)))
    (l1 : K.lookup f = some ⟨oc, od, .func (PySem.W.fnOf "_law_own" "_law_own" (defArgs sOwn) (defBody sOwn) (defScope sOwn) .none kV dc pm an cd ct), sl⟩) (c1 : PySem.W.codeIn K cd "_law_own" = true) (k1 : PySem.W.keepIn K (.ref f) = true) (k : FnAll K mg "_law_own" sOwn ["_law_error"] → R) : R :=
  k (fn_mk X G (fun _ _ _ _ _ _ us hl => match us, hl with | [_], _ => rfl) a1 l1 c1 k1)
theorem fn_law_spoil (X : K.In h) (G : h.Ns mainGlobals mg) {f : Addr} {oc kV dc pm cd ct : Value} {od an : Option Addr} {sl : Array (Option Value)} (a1 : PySem.W.nsIn K mainGlobals "_law_spoil" = some (some (.ref f)))
    (l1 : K.lookup f = some ⟨oc, od, .func (PySem.W.fnOf "_law_spoil" "_law_spoil" (defArgs sSpoil) (defBody sSpoil) (defScope sSpoil) .none kV dc pm an cd ct), sl⟩) (c1 : PySem.W.codeIn K cd "_law_spoil" = true) (k1 : PySem.W.keepIn K (.ref f) = true) (k : FnAll K mg "_law_spoil" sSpoil ["_law_thing"] → R) : R :=
  k (fn_mk X G (fun _ _ _ _ _ _ us hl => match us, hl with | [_], _ => rfl) a1 l1 c1 k1)
theorem fn_law (X : K.In h) (G : h.Ns mainGlobals mg) {f : Addr} {oc kV dc pm cd ct : Value} {od an : Option Addr} {sl : Array (Option Value)} (a1 : PySem.W.nsIn K mainGlobals "law" = some (some (.ref f)))
    (l1 : K.lookup f = some ⟨oc, od, .func (PySem.W.fnOf "law" "law" (defArgs sLaw) (defBody sLaw) (defScope sLaw) .none kV dc pm an cd ct), sl⟩) (c1 : PySem.W.codeIn K cd "law" = true) (k1 : PySem.W.keepIn K (.ref f) = true) (k : FnAll K mg "law" sLaw ["_law_script"] → R) : R :=
  k (fn_mk X G (fun _ _ _ _ _ _ us hl => match us, hl with | [_], _ => rfl) a1 l1 c1 k1)
theorem free_k (X : K.In h) (G : h.Ns mainGlobals mg) (z0 : PySem.W.nsIn K mainGlobals "len" = some none) (z1 : PySem.W.nsIn K mainGlobals "list" = some none) (z2 : PySem.W.nsIn K mainGlobals "tuple" = some none) (z3 : PySem.W.nsIn K mainGlobals "dict" = some none) (z4 : PySem.W.nsIn K mainGlobals "isinstance" = some none) (z5 : PySem.W.nsIn K mainGlobals "zip" = some none) (z6 : PySem.W.nsIn K mainGlobals "range" = some none) (z7 : PySem.W.nsIn K mainGlobals "reversed" = some none) (z8 : PySem.W.nsIn K mainGlobals "int" = some none) (z9 : PySem.W.nsIn K mainGlobals "str" = some none) (z10 : PySem.W.nsIn K mainGlobals "min" = some none) (z11 : PySem.W.nsIn K mainGlobals "repr" = some none) (z12 : PySem.W.nsIn K mainGlobals "ValueError" = some none) (z13 : PySem.W.nsIn K mainGlobals "KeyError" = some none) (z14 : PySem.W.nsIn K mainGlobals "IndexError" = some none) (z15 : PySem.W.nsIn K mainGlobals "OverflowError" = some none) (z16 : PySem.W.nsIn K mainGlobals "RuntimeError" = some none) (k : FreeAll mg → R) : R :=
  k ⟨PySem.W.mg_none_of X G z0, PySem.W.mg_none_of X G z1, PySem.W.mg_none_of X G z2, PySem.W.mg_none_of X G z3, PySem.W.mg_none_of X G z4, PySem.W.mg_none_of X G z5, PySem.W.mg_none_of X G z6, PySem.W.mg_none_of X G z7, PySem.W.mg_none_of X G z8, PySem.W.mg_none_of X G z9, PySem.W.mg_none_of X G z10, PySem.W.mg_none_of X G z11, PySem.W.mg_none_of X G z12, PySem.W.mg_none_of X G z13, PySem.W.mg_none_of X G z14, PySem.W.mg_none_of X G z15, PySem.W.mg_none_of X G z16⟩
theorem bases_k (X : K.In h) (z0 : PySem.W.findCls K (.type "ValueError") (.type "type") "__init__" = some (.val (.builtin "ValueError.__init__"))) (z1 : PySem.W.findCls K (.type "KeyError") (.type "type") "__init__" = some (.val (.builtin "KeyError.__init__"))) (z2 : PySem.W.findCls K (.type "IndexError") (.type "type") "__init__" = some (.val (.builtin "IndexError.__init__"))) (z3 : PySem.W.findCls K (.type "OverflowError") (.type "type") "__init__" = some (.val (.builtin "OverflowError.__init__"))) (z4 : PySem.W.findCls K (.type "RuntimeError") (.type "type") "__init__" = some (.val (.builtin "RuntimeError.__init__"))) (k : BasesAll K → R) : R := k ⟨z0, z1, z2, z3, z4⟩
theorem lim_k (X : K.In h) (G : h.Ns mainGlobals mg) (L5 : ∃ v, mg "MAX_SIZE" = some v ∧ PySem.W.ReadsLit h v (.int (10 ^ 30)) []) (L6 : ∃ v, mg "MOST_STEPS" = some v ∧ PySem.W.ReadsLit h v (.int (10 ^ 300)) [])
    {t1 t2 t3 t4 : Tok} (z0 : PySem.W.nsIn K mainGlobals "MAX_FUNCTIONS" = some (some (.int 12 t1))) (z1 : PySem.W.nsIn K mainGlobals "MAX_NAMES" = some (some (.int 8 t2))) (z2 : PySem.W.nsIn K mainGlobals "MAX_STATEMENTS" = some (some (.int 150 t3))) (z3 : PySem.W.nsIn K mainGlobals "MAX_DEPTH" = some (some (.int 8 t4))) (k : LimL mg → R) : R :=
  k ⟨⟨_, PySem.W.mg_of X G z0⟩, ⟨_, PySem.W.mg_of X G z1⟩, ⟨_, PySem.W.mg_of X G z2⟩, ⟨_, PySem.W.mg_of X G z3⟩, lit_int L5, lit_int L6⟩
theorem top_end {P : Program} {w : World} {fa : Addr} {C0 C1 C2 C3 C4 C5 C6 C7 C8 C9 C10 C11 C12 C13 C14 C15 C16 C17 CT : Addr} (hfa : mg "law" = some (.ref fa)) (FL : FnAll K mg "law" sLaw ["_law_script"]) (Fr : FreeAll mg) (Ba : BasesAll K) (Lm : LimL mg)
    (E0 : ErrAll K mg "InvalidFunctions" "InvalidFunctions.__init__" "value" (initOf 11) "ValueError.__new__" "ValueError.__init__" vTail C0)
    (E1 : ErrAll K mg "InvalidFunction" "InvalidFunction.__init__" "name" (initOf 12) "ValueError.__new__" "ValueError.__init__" vTail C1)
    (E2 : ErrAll K mg "InvalidNames" "InvalidNames.__init__" "name" (initOf 13) "ValueError.__new__" "ValueError.__init__" vTail C2)
    (E3 : ErrAll K mg "InvalidStatement" "InvalidStatement.__init__" "spot" (initOf 14) "ValueError.__new__" "ValueError.__init__" vTail C3)
    (E4 : ErrAll K mg "InvalidChoice" "InvalidChoice.__init__" "index" (initOf 15) "ValueError.__new__" "ValueError.__init__" vTail C4)
    (E5 : ErrAll K mg "InvalidPlaces" "InvalidPlaces.__init__" "value" (initOf 16) "ValueError.__new__" "ValueError.__init__" vTail C5)
    (E6 : ErrAll K mg "InvalidPaper" "InvalidPaper.__init__" "value" (initOf 17) "ValueError.__new__" "ValueError.__init__" vTail C6)
    (E7 : ErrAll K mg "InvalidPrices" "InvalidPrices.__init__" "value" (initOf 18) "ValueError.__new__" "ValueError.__init__" vTail C7)
    (E8 : ErrAll K mg "InvalidProfile" "InvalidProfile.__init__" "value" (initOf 19) "ValueError.__new__" "ValueError.__init__" vTail C8)
    (E9 : ErrAll K mg "InvalidText" "InvalidText.__init__" "line" (initOf 20) "ValueError.__new__" "ValueError.__init__" vTail C9)
    (E10 : ErrAll K mg "InvalidStates" "InvalidStates.__init__" "value" (initOf 21) "ValueError.__new__" "ValueError.__init__" vTail C10)
    (E11 : ErrAll K mg "NotClosed" "NotClosed.__init__" "spot" (initOf 22) "ValueError.__new__" "ValueError.__init__" vTail C11)
    (E12 : ErrAll K mg "Faulty" "Faulty.__init__" "spot" (initOf 23) "ValueError.__new__" "ValueError.__init__" vTail C12)
    (E13 : ErrAll K mg "UnknownFunction" "UnknownFunction.__init__" "value" (initOf 24) "LookupError.__new__" "KeyError.__init__" kTail C13)
    (E14 : ErrAll K mg "UnknownSpot" "UnknownSpot.__init__" "value" (initOf 25) "LookupError.__new__" "KeyError.__init__" kTail C14)
    (E15 : ErrAll K mg "UnknownName" "UnknownName.__init__" "value" (initOf 26) "LookupError.__new__" "KeyError.__init__" kTail C15)
    (E16 : ErrAll K mg "OutOfRange" "OutOfRange.__init__" "value" (initOf 27) "IndexError.__new__" "IndexError.__init__" iTail C16)
    (E17 : ErrAll K mg "TooMany" "TooMany.__init__" "limit" (initOf 28) "OverflowError.__new__" "OverflowError.__init__" oTail C17)
    (ET : TrAll K mg CT)
    (Fcopied : FnAll K mg "copied" sCopied ["value"])
    (Fitems_of : FnAll K mg "items_of" sItems ["value"])
    (Frebuilt : FnAll K mg "rebuilt" sRebuilt ["value", "items"])
    (F_law_pen : FnAll K mg "_law_pen" sPen ["_law_script"])
    (F_law_draw : FnAll K mg "_law_draw" sDraw ["_law_pen_here", "_law_many"])
    (F_law_pick : FnAll K mg "_law_pick" sPick ["_law_pen_here", "_law_items"])
    (F_law_any : FnAll K mg "_law_any" sAny ["_law_pen_here", "_law_deep"])
    (F_law_made : FnAll K mg "_law_made" sMade ["_law_thing"])
    (F_law_kinds : FnAll K mg "_law_kinds" sKinds ["_law_error"])
    (F_law_own : FnAll K mg "_law_own" sOwn ["_law_error"])
    (F_law_spoil : FnAll K mg "_law_spoil" sSpoil ["_law_thing"])
    : ∃ (fd : FuncData) (cs : List (Addr × Int)) (Cs : List Addr) (CT : Addr), Fun K "law" "law" sLaw fa fd ∧ (∀ (s : Shared) (u : Value), BindsTo s fd ⟨[u], []⟩ [("_law_script", u)]) ∧ (∀ base : Heap, K.In base → base.Ns mainGlobals mg → Fns P w K mg base cs Cs CT) ∧ BltL mg ∧ LimL mg := by
  obtain ⟨f, fd, F, g, b⟩ := FL.ex
  have e := hfa.symm.trans g
  cases e
  obtain ⟨oc, od, kV, doc, pm, an, cdv, ct, osl, rfl, lk, code⟩ := F.ex
  refine ⟨_, _, _, CT, F, fun s u => .of_eq rfl, fun base _ _ => fns_mk Fr Ba E0 E1 E2 E3 E4 E5 E6 E7 E8 E9 E10 E11 E12 E13 E14 E15 E16 E17 ET Fcopied Fitems_of Frebuilt F_law_pen F_law_draw F_law_pick F_law_any F_law_made F_law_kinds F_law_own F_law_spoil base, ⟨Fr.xrange, Fr.xmin, Fr.xlen, Fr.xrepr, Fr.xint⟩, Lm⟩
end
end KF
end L2
section
open PySem PySem.W PyProof.Rows
set_option maxHeartbeats 0 in
theorem PySem.Challenge.cw_surelyset_k12_errors_and_limits_holds : PySem.Challenge.rw_surelyset_k12_errors_and_limits.Holds := by
  w_on; o_law; k_head; (case hw => w_witness2)
  k_fill
  refine L2.KF.walk_G (l := PySem.Challenge.rw_surelyset_k12_errors_and_limits) rfl rfl (fun w h Y => PySem.W.kIn_of Y) ?F
  case F =>
    intro w mg fa h KX G hX hmg
    refine' L2.KF.once_k KX ?hn_1 ?ht_1 ?_; (case hn_1 => k_is); (case ht_1 => k_is); intro O
    refine' L2.KF.err_0 KX G O ?aC_2 ?lC_2 ?kC_2 ?sa_2 ?hg_2 ?hk_2 ?ha_2 ?no_2 ?iC_2 ?tI_2 ?lI_2 ?cI_2 ?kI_2 ?_; (case aC_2 => k_is); (case lC_2 => k_is); (case kC_2 => k_is); (case sa_2 => k_is); (case hg_2 => k_is); (case hk_2 => k_is); (case ha_2 => k_is); (case no_2 => k_is); (case iC_2 => k_is); (case tI_2 => k_is); (case lI_2 => k_is); (case cI_2 => k_is); (case kI_2 => k_is); intro C0 E0
    refine' L2.KF.err_1 KX G O ?aC_3 ?lC_3 ?kC_3 ?sa_3 ?hg_3 ?hk_3 ?ha_3 ?no_3 ?iC_3 ?tI_3 ?lI_3 ?cI_3 ?kI_3 ?_; (case aC_3 => k_is); (case lC_3 => k_is); (case kC_3 => k_is); (case sa_3 => k_is); (case hg_3 => k_is); (case hk_3 => k_is); (case ha_3 => k_is); (case no_3 => k_is); (case iC_3 => k_is); (case tI_3 => k_is); (case lI_3 => k_is); (case cI_3 => k_is); (case kI_3 => k_is); intro C1 E1
    refine' L2.KF.err_2 KX G O ?aC_4 ?lC_4 ?kC_4 ?sa_4 ?hg_4 ?hk_4 ?ha_4 ?no_4 ?iC_4 ?tI_4 ?lI_4 ?cI_4 ?kI_4 ?_; (case aC_4 => k_is); (case lC_4 => k_is); (case kC_4 => k_is); (case sa_4 => k_is); (case hg_4 => k_is); (case hk_4 => k_is); (case ha_4 => k_is); (case no_4 => k_is); (case iC_4 => k_is); (case tI_4 => k_is); (case lI_4 => k_is); (case cI_4 => k_is); (case kI_4 => k_is); intro C2 E2
    refine' L2.KF.err_3 KX G O ?aC_5 ?lC_5 ?kC_5 ?sa_5 ?hg_5 ?hk_5 ?ha_5 ?no_5 ?iC_5 ?tI_5 ?lI_5 ?cI_5 ?kI_5 ?_; (case aC_5 => k_is); (case lC_5 => k_is); (case kC_5 => k_is); (case sa_5 => k_is); (case hg_5 => k_is); (case hk_5 => k_is); (case ha_5 => k_is); (case no_5 => k_is); (case iC_5 => k_is); (case tI_5 => k_is); (case lI_5 => k_is); (case cI_5 => k_is); (case kI_5 => k_is); intro C3 E3
    refine' L2.KF.err_4 KX G O ?aC_6 ?lC_6 ?kC_6 ?sa_6 ?hg_6 ?hk_6 ?ha_6 ?no_6 ?iC_6 ?tI_6 ?lI_6 ?cI_6 ?kI_6 ?_; (case aC_6 => k_is); (case lC_6 => k_is); (case kC_6 => k_is); (case sa_6 => k_is); (case hg_6 => k_is); (case hk_6 => k_is); (case ha_6 => k_is); (case no_6 => k_is); (case iC_6 => k_is); (case tI_6 => k_is); (case lI_6 => k_is); (case cI_6 => k_is); (case kI_6 => k_is); intro C4 E4
    refine' L2.KF.err_5 KX G O ?aC_7 ?lC_7 ?kC_7 ?sa_7 ?hg_7 ?hk_7 ?ha_7 ?no_7 ?iC_7 ?tI_7 ?lI_7 ?cI_7 ?kI_7 ?_; (case aC_7 => k_is); (case lC_7 => k_is); (case kC_7 => k_is); (case sa_7 => k_is); (case hg_7 => k_is); (case hk_7 => k_is); (case ha_7 => k_is); (case no_7 => k_is); (case iC_7 => k_is); (case tI_7 => k_is); (case lI_7 => k_is); (case cI_7 => k_is); (case kI_7 => k_is); intro C5 E5
    refine' L2.KF.err_6 KX G O ?aC_8 ?lC_8 ?kC_8 ?sa_8 ?hg_8 ?hk_8 ?ha_8 ?no_8 ?iC_8 ?tI_8 ?lI_8 ?cI_8 ?kI_8 ?_; (case aC_8 => k_is); (case lC_8 => k_is); (case kC_8 => k_is); (case sa_8 => k_is); (case hg_8 => k_is); (case hk_8 => k_is); (case ha_8 => k_is); (case no_8 => k_is); (case iC_8 => k_is); (case tI_8 => k_is); (case lI_8 => k_is); (case cI_8 => k_is); (case kI_8 => k_is); intro C6 E6
    refine' L2.KF.err_7 KX G O ?aC_9 ?lC_9 ?kC_9 ?sa_9 ?hg_9 ?hk_9 ?ha_9 ?no_9 ?iC_9 ?tI_9 ?lI_9 ?cI_9 ?kI_9 ?_; (case aC_9 => k_is); (case lC_9 => k_is); (case kC_9 => k_is); (case sa_9 => k_is); (case hg_9 => k_is); (case hk_9 => k_is); (case ha_9 => k_is); (case no_9 => k_is); (case iC_9 => k_is); (case tI_9 => k_is); (case lI_9 => k_is); (case cI_9 => k_is); (case kI_9 => k_is); intro C7 E7
    refine' L2.KF.err_8 KX G O ?aC_10 ?lC_10 ?kC_10 ?sa_10 ?hg_10 ?hk_10 ?ha_10 ?no_10 ?iC_10 ?tI_10 ?lI_10 ?cI_10 ?kI_10 ?_; (case aC_10 => k_is); (case lC_10 => k_is); (case kC_10 => k_is); (case sa_10 => k_is); (case hg_10 => k_is); (case hk_10 => k_is); (case ha_10 => k_is); (case no_10 => k_is); (case iC_10 => k_is); (case tI_10 => k_is); (case lI_10 => k_is); (case cI_10 => k_is); (case kI_10 => k_is); intro C8 E8
    refine' L2.KF.err_9 KX G O ?aC_11 ?lC_11 ?kC_11 ?sa_11 ?hg_11 ?hk_11 ?ha_11 ?no_11 ?iC_11 ?tI_11 ?lI_11 ?cI_11 ?kI_11 ?_; (case aC_11 => k_is); (case lC_11 => k_is); (case kC_11 => k_is); (case sa_11 => k_is); (case hg_11 => k_is); (case hk_11 => k_is); (case ha_11 => k_is); (case no_11 => k_is); (case iC_11 => k_is); (case tI_11 => k_is); (case lI_11 => k_is); (case cI_11 => k_is); (case kI_11 => k_is); intro C9 E9
    refine' L2.KF.err_10 KX G O ?aC_12 ?lC_12 ?kC_12 ?sa_12 ?hg_12 ?hk_12 ?ha_12 ?no_12 ?iC_12 ?tI_12 ?lI_12 ?cI_12 ?kI_12 ?_; (case aC_12 => k_is); (case lC_12 => k_is); (case kC_12 => k_is); (case sa_12 => k_is); (case hg_12 => k_is); (case hk_12 => k_is); (case ha_12 => k_is); (case no_12 => k_is); (case iC_12 => k_is); (case tI_12 => k_is); (case lI_12 => k_is); (case cI_12 => k_is); (case kI_12 => k_is); intro C10 E10
    refine' L2.KF.err_11 KX G O ?aC_13 ?lC_13 ?kC_13 ?sa_13 ?hg_13 ?hk_13 ?ha_13 ?no_13 ?iC_13 ?tI_13 ?lI_13 ?cI_13 ?kI_13 ?_; (case aC_13 => k_is); (case lC_13 => k_is); (case kC_13 => k_is); (case sa_13 => k_is); (case hg_13 => k_is); (case hk_13 => k_is); (case ha_13 => k_is); (case no_13 => k_is); (case iC_13 => k_is); (case tI_13 => k_is); (case lI_13 => k_is); (case cI_13 => k_is); (case kI_13 => k_is); intro C11 E11
    refine' L2.KF.err_12 KX G O ?aC_14 ?lC_14 ?kC_14 ?sa_14 ?hg_14 ?hk_14 ?ha_14 ?no_14 ?iC_14 ?tI_14 ?lI_14 ?cI_14 ?kI_14 ?_; (case aC_14 => k_is); (case lC_14 => k_is); (case kC_14 => k_is); (case sa_14 => k_is); (case hg_14 => k_is); (case hk_14 => k_is); (case ha_14 => k_is); (case no_14 => k_is); (case iC_14 => k_is); (case tI_14 => k_is); (case lI_14 => k_is); (case cI_14 => k_is); (case kI_14 => k_is); intro C12 E12
    refine' L2.KF.err_13 KX G O ?aC_15 ?lC_15 ?kC_15 ?sa_15 ?hg_15 ?hk_15 ?ha_15 ?no_15 ?iC_15 ?tI_15 ?lI_15 ?cI_15 ?kI_15 ?_; (case aC_15 => k_is); (case lC_15 => k_is); (case kC_15 => k_is); (case sa_15 => k_is); (case hg_15 => k_is); (case hk_15 => k_is); (case ha_15 => k_is); (case no_15 => k_is); (case iC_15 => k_is); (case tI_15 => k_is); (case lI_15 => k_is); (case cI_15 => k_is); (case kI_15 => k_is); intro C13 E13
    refine' L2.KF.err_14 KX G O ?aC_16 ?lC_16 ?kC_16 ?sa_16 ?hg_16 ?hk_16 ?ha_16 ?no_16 ?iC_16 ?tI_16 ?lI_16 ?cI_16 ?kI_16 ?_; (case aC_16 => k_is); (case lC_16 => k_is); (case kC_16 => k_is); (case sa_16 => k_is); (case hg_16 => k_is); (case hk_16 => k_is); (case ha_16 => k_is); (case no_16 => k_is); (case iC_16 => k_is); (case tI_16 => k_is); (case lI_16 => k_is); (case cI_16 => k_is); (case kI_16 => k_is); intro C14 E14
    refine' L2.KF.err_15 KX G O ?aC_17 ?lC_17 ?kC_17 ?sa_17 ?hg_17 ?hk_17 ?ha_17 ?no_17 ?iC_17 ?tI_17 ?lI_17 ?cI_17 ?kI_17 ?_; (case aC_17 => k_is); (case lC_17 => k_is); (case kC_17 => k_is); (case sa_17 => k_is); (case hg_17 => k_is); (case hk_17 => k_is); (case ha_17 => k_is); (case no_17 => k_is); (case iC_17 => k_is); (case tI_17 => k_is); (case lI_17 => k_is); (case cI_17 => k_is); (case kI_17 => k_is); intro C15 E15
    refine' L2.KF.err_16 KX G O ?aC_18 ?lC_18 ?kC_18 ?sa_18 ?hg_18 ?hk_18 ?ha_18 ?no_18 ?iC_18 ?tI_18 ?lI_18 ?cI_18 ?kI_18 ?_; (case aC_18 => k_is); (case lC_18 => k_is); (case kC_18 => k_is); (case sa_18 => k_is); (case hg_18 => k_is); (case hk_18 => k_is); (case ha_18 => k_is); (case no_18 => k_is); (case iC_18 => k_is); (case tI_18 => k_is); (case lI_18 => k_is); (case cI_18 => k_is); (case kI_18 => k_is); intro C16 E16
    refine' L2.KF.err_17 KX G O ?aC_19 ?lC_19 ?kC_19 ?sa_19 ?hg_19 ?hk_19 ?ha_19 ?no_19 ?iC_19 ?tI_19 ?lI_19 ?cI_19 ?kI_19 ?_; (case aC_19 => k_is); (case lC_19 => k_is); (case kC_19 => k_is); (case sa_19 => k_is); (case hg_19 => k_is); (case hk_19 => k_is); (case ha_19 => k_is); (case no_19 => k_is); (case iC_19 => k_is); (case tI_19 => k_is); (case lI_19 => k_is); (case cI_19 => k_is); (case kI_19 => k_is); intro C17 E17
    refine' L2.KF.err_trial KX G O ?aC_20 ?lC_20 ?kC_20 ?sa_20 ?hg_20 ?hk_20 ?ha_20 ?iC_20 ?tI_20 ?lI_20 ?cI_20 ?kI_20 ?_; (case aC_20 => k_is); (case lC_20 => k_is); (case kC_20 => k_is); (case sa_20 => k_is); (case hg_20 => k_is); (case hk_20 => k_is); (case ha_20 => k_is); (case iC_20 => k_is); (case tI_20 => k_is); (case lI_20 => k_is); (case cI_20 => k_is); (case kI_20 => k_is); intro CT ET
    refine' L2.KF.fn_copied KX G ?a1_21 ?l1_21 ?c1_21 ?k1_21 ?_; (case a1_21 => k_is); (case l1_21 => k_is); (case c1_21 => k_is); (case k1_21 => k_is); intro Fcopied
    refine' L2.KF.fn_items_of KX G ?a1_22 ?l1_22 ?c1_22 ?k1_22 ?_; (case a1_22 => k_is); (case l1_22 => k_is); (case c1_22 => k_is); (case k1_22 => k_is); intro Fitems_of
    refine' L2.KF.fn_rebuilt KX G ?a1_23 ?l1_23 ?c1_23 ?k1_23 ?_; (case a1_23 => k_is); (case l1_23 => k_is); (case c1_23 => k_is); (case k1_23 => k_is); intro Frebuilt
    refine' L2.KF.fn_law_pen KX G ?a1_24 ?l1_24 ?c1_24 ?k1_24 ?_; (case a1_24 => k_is); (case l1_24 => k_is); (case c1_24 => k_is); (case k1_24 => k_is); intro F_law_pen
    refine' L2.KF.fn_law_draw KX G ?a1_25 ?l1_25 ?c1_25 ?k1_25 ?_; (case a1_25 => k_is); (case l1_25 => k_is); (case c1_25 => k_is); (case k1_25 => k_is); intro F_law_draw
    refine' L2.KF.fn_law_pick KX G ?a1_26 ?l1_26 ?c1_26 ?k1_26 ?_; (case a1_26 => k_is); (case l1_26 => k_is); (case c1_26 => k_is); (case k1_26 => k_is); intro F_law_pick
    refine' L2.KF.fn_law_any KX G ?a1_27 ?l1_27 ?c1_27 ?k1_27 ?_; (case a1_27 => k_is); (case l1_27 => k_is); (case c1_27 => k_is); (case k1_27 => k_is); intro F_law_any
    refine' L2.KF.fn_law_made KX G ?a1_28 ?l1_28 ?c1_28 ?k1_28 ?_; (case a1_28 => k_is); (case l1_28 => k_is); (case c1_28 => k_is); (case k1_28 => k_is); intro F_law_made
    refine' L2.KF.fn_law_kinds KX G ?a1_29 ?l1_29 ?c1_29 ?k1_29 ?_; (case a1_29 => k_is); (case l1_29 => k_is); (case c1_29 => k_is); (case k1_29 => k_is); intro F_law_kinds
    refine' L2.KF.fn_law_own KX G ?a1_30 ?l1_30 ?c1_30 ?k1_30 ?_; (case a1_30 => k_is); (case l1_30 => k_is); (case c1_30 => k_is); (case k1_30 => k_is); intro F_law_own
    refine' L2.KF.fn_law_spoil KX G ?a1_31 ?l1_31 ?c1_31 ?k1_31 ?_; (case a1_31 => k_is); (case l1_31 => k_is); (case c1_31 => k_is); (case k1_31 => k_is); intro F_law_spoil
    refine' L2.KF.fn_law KX G ?a1_32 ?l1_32 ?c1_32 ?k1_32 ?_; (case a1_32 => k_is); (case l1_32 => k_is); (case c1_32 => k_is); (case k1_32 => k_is); intro Flaw
    refine' L2.KF.free_k KX G ?z0_33 ?z1_33 ?z2_33 ?z3_33 ?z4_33 ?z5_33 ?z6_33 ?z7_33 ?z8_33 ?z9_33 ?z10_33 ?z11_33 ?z12_33 ?z13_33 ?z14_33 ?z15_33 ?z16_33 ?_; (case z0_33 => k_is); (case z1_33 => k_is); (case z2_33 => k_is); (case z3_33 => k_is); (case z4_33 => k_is); (case z5_33 => k_is); (case z6_33 => k_is); (case z7_33 => k_is); (case z8_33 => k_is); (case z9_33 => k_is); (case z10_33 => k_is); (case z11_33 => k_is); (case z12_33 => k_is); (case z13_33 => k_is); (case z14_33 => k_is); (case z15_33 => k_is); (case z16_33 => k_is); intro Fr
    refine' L2.KF.bases_k KX ?z0_34 ?z1_34 ?z2_34 ?z3_34 ?z4_34 ?_; (case z0_34 => k_is); (case z1_34 => k_is); (case z2_34 => k_is); (case z3_34 => k_is); (case z4_34 => k_is); intro Ba
    refine' L2.KF.lim_k KX G (hX _ (List.mem_cons_self ..)) (hX _ (List.mem_cons_of_mem _ (List.mem_cons_self ..))) ?z0_35 ?z1_35 ?z2_35 ?z3_35 ?_; (case z0_35 => k_is); (case z1_35 => k_is); (case z2_35 => k_is); (case z3_35 => k_is); intro Lm
    exact L2.KF.top_end hmg Flaw Fr Ba Lm E0 E1 E2 E3 E4 E5 E6 E7 E8 E9 E10 E11 E12 E13 E14 E15 E16 E17 ET Fcopied Fitems_of Frebuilt F_law_pen F_law_draw F_law_pick F_law_any F_law_made F_law_kinds F_law_own F_law_spoil
end
